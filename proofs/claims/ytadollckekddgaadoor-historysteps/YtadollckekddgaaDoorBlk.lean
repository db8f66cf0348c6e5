/- Blocks of memory: what is kept while others change, rows that a call owns, cells by their place. -/
import Derived.Test.YtadollckekddgaaDoorRows
import Derived.WalkKit
import Derived.ProofKit
import Derived.OpenShut
import Derived.ShutString
import Derived.WalkSpells
import Derived.WalkLawsBesides
import Derived.Deep.QuietTactic
import Derived.BigQuiet
import Derived.ChangeOld
import Derived.Below
import Derived.WalkSmall
import Derived.Laws.Rows
import Derived.Laws.Tables
import Derived.Deep.WholeRow
import Derived.Laws.AppendOwn
import Derived.Deep.RegionHeld3
import Derived.Deep.AppendLies
import Derived.Deep.DrawnRows
import Derived.Deep.RegionLaw
import Derived.Deep.Slices
namespace Go.Proofs.YtadollckekddgaaDoor
set_option linter.unusedVariables false
open Go.ChangeShapes Go.WideShapes Go.ChangeAt Go.RowKit

theorem map_set_range {f g : Nat → Value} {n i : Nat} {v : Value} (hi : i < n) (h1 : g i = v) (h2 : ∀ q, q ≠ i → g q = f q) : (((List.range n).map f).toArray.setIfInBounds i v) = ((List.range n).map g).toArray := by
  apply Array.ext_getElem?
  intro q
  rw [Array.getElem?_setIfInBounds]
  by_cases e : i = q
  · subst e; simp [hi, h1]
  · rw [if_neg e]
    by_cases hq : q < n
    · simp [hq, h2 q (fun e' => e e'.symm)]
    · simp [hq]
theorem map_same_range {f g : Nat → Value} {n : Nat} (h : ∀ q, q < n → g q = f q) : (((List.range n).map f).toArray) = ((List.range n).map g).toArray := by
  congr 1
  apply List.map_congr_left
  intro q hq
  exact (h q (List.mem_range.1 hq)).symm
/-- Blocks outside a list stay as they are. -/
structure Keep (F : List Nat) (w w' : World) : Prop where
  os : w'.os = w.os
  tape : w'.tape = w.tape
  output : w'.output = w.output
  size : w.heap.size ≤ w'.heap.size
  block : ∀ b, b < w.heap.size → b ∉ F → w'.heap[b]? = w.heap[b]?
theorem Keep.refl (F : List Nat) (w : World) : Keep F w w := ⟨rfl, rfl, rfl, Nat.le_refl _, fun _ _ _ => rfl⟩
theorem Keep.mono {F G : List Nat} {w w' : World} (h : Keep F w w') (hs : ∀ b ∈ F, b ∈ G) : Keep G w w' := ⟨h.os, h.tape, h.output, h.size, fun b hb hn => h.block b hb fun e => hn (hs b e)⟩
/-- One behind the other: the second may change what the first made. -/
theorem Keep.trans {F G : List Nat} {w w1 w2 : World} (h : Keep F w w1) (k : Keep G w1 w2) (hs : ∀ b ∈ G, b ∈ F ∨ w.heap.size ≤ b) : Keep F w w2 :=
  ⟨k.os.trans h.os, k.tape.trans h.tape, k.output.trans h.output, Nat.le_trans h.size k.size, fun b hb hn => by
    rw [k.block b (Nat.lt_of_lt_of_le hb h.size) (fun e => by rcases hs b e with h1 | h1; exact hn h1; omega), h.block b hb hn]⟩
theorem Keep.of_below {w w' : World} (h : Below w.heap.size w w') (F : List Nat) : Keep F w w' := ⟨h.os, h.tape, h.output, h.size, fun b hb _ => h.block b hb⟩
theorem Keep.below {F : List Nat} {w w' : World} {B : Nat} (h : Keep F w w') (hB : B ≤ w.heap.size) (hF : ∀ b ∈ F, B ≤ b) : Below B w w' := ⟨h.os, h.tape, h.output, h.size, fun b hb => h.block b (by omega) fun e => by have := hF b e; omega⟩
theorem Keep.alloc {F : List Nat} {w w' : World} (h : Keep F w w') (o : Obj) : Keep F w (w'.alloc o) :=
  ⟨h.os, h.tape, h.output, by have := h.size; simp; omega, fun b hb hn => by rw [Below.heap_alloc _ _ _ (by have := h.size; omega)]; exact h.block b hb hn⟩
theorem Keep.drewN {F : List Nat} {w w' : World} (h : Keep F w w') (n : Nat) : Keep F w (w'.drewN n) := ⟨h.os, h.tape, h.output, h.size, h.block⟩
theorem Keep.setCell {F : List Nat} {w w' : World} (h : Keep F w w') (a : Addr) (v : Value) (ha : a.block ∈ F ∨ w.heap.size ≤ a.block) : Keep F w (w'.setCell a v) :=
  ⟨h.os, h.tape, h.output, by simpa [World.setCell] using h.size, fun b hb hn => by
    rw [← h.block b hb hn]
    unfold World.setCell
    simp only
    rw [Array.getElem?_modify, if_neg (fun e => by rcases ha with h1 | h1; exact hn (e ▸ h1); omega)]⟩
theorem Keep.grown {F : List Nat} {w w1 w2 : World} (h : Keep F w w1) {row : Option Nat} (k : w1.grownBy w2 row) (hr : ∀ b, row = some b → b ∈ F ∨ w.heap.size ≤ b) : Keep F w w2 :=
  ⟨k.os.trans h.os, k.tape.trans h.tape, k.output.trans h.output, Nat.le_trans h.size k.size, fun b hb hn => by
    rw [k.block b (Nat.lt_of_lt_of_le hb h.size) (fun e => by rcases hr b e.symm with h1 | h1; exact hn h1; omega), h.block b hb hn]⟩
theorem cell_at {w : World} {b : Nat} {cs : Array Value} {t : TypeId} {fz : Nat × Nat} (h : w.heap[b]? = some (.cells cs t fz)) (i : Nat) : w.cell? ⟨b, i, none⟩ = cs[i]? := by
  unfold World.cell?; simp [h]
theorem frozen_at {w : World} {b : Nat} {cs : Array Value} {t : TypeId} (h : w.heap[b]? = some (.cells cs t (0, 0))) (i : Nat) : w.frozen? ⟨b, i, none⟩ = false := by
  unfold World.frozen?; simp [h]
theorem heap_set {w : World} {b : Nat} {cs : Array Value} {t : TypeId} {fz : Nat × Nat} (h : w.heap[b]? = some (.cells cs t fz)) (i : Nat) (v : Value) : (w.setCell ⟨b, i, none⟩ v).heap[b]? = some (.cells (cs.setIfInBounds i v) t fz) := by
  unfold World.setCell; simp [Array.getElem?_modify, h]
theorem heap_set_other {w : World} {b d : Nat} (i : Nat) (v : Value) (h : b ≠ d) : (w.setCell ⟨b, i, none⟩ v).heap[d]? = w.heap[d]? := by
  unfold World.setCell; simp [Array.getElem?_modify, h]
theorem ne_of_type {w : World} {b d : Nat} {cs ds : Array Value} {t u : TypeId} (h1 : w.heap[b]? = some (.cells cs t (0, 0))) (h2 : w.heap[d]? = some (.cells ds u (0, 0))) (h : t ≠ u) : b ≠ d := fun e => by
  subst e; rw [h1] at h2; simp at h2; exact h h2.2
theorem heap_lt {w : World} {b : Nat} {o : Obj} (h : w.heap[b]? = some o) : b < w.heap.size := (Array.getElem?_eq_some_iff.1 h).1
theorem own_keep {w w' : World} {F : List Nat} {base : Nat} {e : TypeId} {s n : Nat} {v : Value} {xs : List Value} (h : w.ownsRow base e s v n xs) (k : Keep F w w') (hv : ∀ b, v.ownBlock = some b → b ∉ F) : w'.ownsRow base e s v n xs := by
  refine ⟨h.1, ?_⟩
  rcases h.2 with ⟨h1, h2⟩ | ⟨g, cap, cur, hv', hb, hg, rest⟩
  · exact Or.inl ⟨h1, h2⟩
  · exact Or.inr ⟨g, cap, cur, hv', hb, by rw [k.block g (heap_lt hg) (hv g (by rw [hv']; rfl))]; exact hg, rest⟩
theorem own_ne {w : World} {base : Nat} {e : TypeId} {s n : Nat} {v : Value} {xs : List Value} (h : w.ownsRow base e s v n xs) {b : Nat} {cs : Array Value} {t : TypeId} (hb : w.heap[b]? = some (.cells cs t (0, 0))) (ht : t ≠ e) : v.ownBlock ≠ some b := fun hv => by
  rcases h.2 with ⟨h1, _⟩ | ⟨g, cap, cur, hv', _, hg, _⟩
  · rw [h1] at hv; simp [Value.ownBlock] at hv
  · rw [hv'] at hv
    simp [Value.ownBlock] at hv
    subst hv
    rw [hb] at hg
    simp at hg
    exact ht hg.2
theorem own_slice {w : World} {base : Nat} {e : TypeId} {s n : Nat} {v : Value} {xs : List Value} (h : w.ownsRow base e s v n xs) : ∃ a cap, v = .slice a n cap := by
  rcases h.2 with ⟨e, h0⟩ | ⟨g, cp, cur, e, _⟩
  · exact ⟨none, 0, by rw [e, h0]⟩
  · exact ⟨_, _, e⟩
theorem own_block {w : World} {base : Nat} {e : TypeId} {s n : Nat} {v : Value} {xs : List Value} (h : w.ownsRow base e s v n xs) (b : Nat) (hv : v.ownBlock = some b) : base ≤ b ∧ b < w.heap.size := by
  rcases h.2 with ⟨h1, _⟩ | ⟨g, cap, cur, hv', hb, hg, _⟩
  · rw [h1] at hv; simp [Value.ownBlock] at hv
  · rw [hv'] at hv
    simp [Value.ownBlock] at hv
    subst hv
    exact ⟨hb, heap_lt hg⟩
theorem below_alloc {w w' : World} (h : Below w.heap.size w w') (o : Obj) : Below w.heap.size w (w'.alloc o) := h.alloc h.size o
theorem below_drawn {w w' : World} (h : Below w.heap.size w w') (n : Nat) : Below w.heap.size w (w'.drewN n) := ⟨h.os, h.tape, h.output, h.size, h.block⟩
theorem below_a1 (w : World) (o1 : Obj) : Below w.heap.size w (w.alloc o1) := below_alloc (Below.refl _ _) _
theorem below_then {w w1 w2 : World} (h : Below w.heap.size w w1) (k : Below w1.heap.size w1 w2) : Below w.heap.size w w2 := h.trans (k.mono h.size)
theorem info_parts {t : TypeId} {z : Value} {s b : Nat} (h : (Tryd.prog.info? t).map (fun i => (i.zero, i.size, i.bytes)) = some (some z, s, b)) : ∃ i, Tryd.prog.info? t = some i ∧ i.zero = some z ∧ i.size = s ∧ i.bytes = b := by
  cases hi : Tryd.prog.info? t with
  | none => rw [hi] at h; cases h
  | some i => rw [hi] at h; simp at h; exact ⟨i, rfl, h.1, h.2.1, h.2.2⟩
/-- Only these blocks change, and become these, or new ones. -/
def Next (F F' : List Nat) (w w' : World) : Prop := Keep F w w' ∧ ∀ b ∈ F', b ∈ F ∨ w.heap.size ≤ b
theorem Next.refl (F : List Nat) (w : World) : Next F F w w := ⟨Keep.refl _ _, fun _ h => Or.inl h⟩
theorem Next.trans {F F' F'' : List Nat} {w w1 w2 : World} (h : Next F F' w w1) (k : Next F' F'' w1 w2) : Next F F'' w w2 :=
  ⟨h.1.trans k.1 (fun b hb => h.2 b hb), fun b hb => by
    rcases k.2 b hb with h1 | h1
    · exact h.2 b h1
    · exact Or.inr (Nat.le_trans h.1.size h1)⟩
theorem Next.of_below {w w' : World} (h : Below w.heap.size w w') (F : List Nat) : Next F F w w' := ⟨Keep.of_below h F, fun _ h => Or.inl h⟩
theorem own_cells {w : World} {base g cap n s : Nat} {e : TypeId} {xs : List Value} (h : w.ownsRow base e s (.slice (some ⟨g, 0, none⟩) n cap) n xs) : ∀ (j : Nat) u, xs[j]? = some u → w.cell? ⟨g, j, none⟩ = some u := by
  intro j u hu
  rcases h.2 with ⟨e, _⟩ | ⟨g', cap', cur, e, _, hg, _, _, _, ht⟩
  · cases e
  · simp at e
    obtain ⟨rfl, rfl⟩ := e
    rw [cell_at hg]
    rw [← ht, List.getElem?_take] at hu
    split at hu
    · simpa using hu
    · cases hu
/-- What was below a memory's blocks stays. -/
theorem Next.below {F F' : List Nat} {w w' : World} {B : Nat} (h : Next F F' w w') (hB : B ≤ w.heap.size) (hF : ∀ b ∈ F, B ≤ b) : Below B w w' := h.1.below hB hF
theorem add_zero' (y : Addr) : y.add 0 = y := by unfold Addr.add; simp
theorem add_pos' (y : Addr) (j : Nat) (h : 0 < j) : y.add j = ⟨y.block, y.off + j, none⟩ := by
  unfold Addr.add
  split
  · next e => omega
  · rfl
theorem add_block (y : Addr) (j : Nat) : (y.add j).block = y.block := by unfold Addr.add; split <;> rfl
theorem cell_later {w w' : World} {B : Nat} (hb : Below B w w') {a : Addr} (ha : a.block < B) {u : Value} (h : w.cell? a = some u) : w'.cell? a = some u := by
  rw [hb.cell (p := a) ha]; exact h
theorem list_choose {α : Type} (d : α) (Q : Nat → α → Prop) : ∀ n, (∀ i, i < n → ∃ s, Q i s) → ∃ S : List α, S.length = n ∧ ∀ i, i < n → Q i (S.getD i d)
  | 0, _ => ⟨[], rfl, fun i hi => absurd hi (by omega)⟩
  | n + 1, h => by
    obtain ⟨S, hl, hS⟩ := list_choose d Q n (fun i hi => h i (by omega))
    obtain ⟨s, hs⟩ := h n (by omega)
    refine ⟨S ++ [s], by simp [hl], fun i hi => ?_⟩
    simp only [List.getD_eq_getElem?_getD]
    by_cases e : i < n
    · rw [List.getElem?_append_left (by omega)]
      simpa [List.getD_eq_getElem?_getD] using hS i e
    · obtain rfl : i = n := by omega
      rw [List.getElem?_append_right (by omega), hl, Nat.sub_self]
      exact hs
theorem own_base {w : World} {base base' e s n : Nat} {v : Value} {xs : List Value} (h : w.ownsRow base e s v n xs) (hb : base' ≤ base) : w.ownsRow base' e s v n xs := by
  refine ⟨h.1, ?_⟩
  rcases h.2 with h | ⟨g, cap, cur, h1, h2, h3⟩
  · exact Or.inl h
  · exact Or.inr ⟨g, cap, cur, h1, by omega, h3⟩
theorem Next.left {F F' G : List Nat} {w w' : World} (h : Next F F' w w') : Next (F ++ G) (F' ++ G) w w' :=
  ⟨h.1.mono (fun b hb => by simp [hb]), fun b hb => by
    rcases List.mem_append.1 hb with h1 | h1
    · rcases h.2 b h1 with h2 | h2
      · exact Or.inl (by simp [h2])
      · exact Or.inr h2
    · exact Or.inl (by simp [h1])⟩
theorem Next.right {F G G' : List Nat} {w w' : World} (h : Next G G' w w') : Next (F ++ G) (F ++ G') w w' :=
  ⟨h.1.mono (fun b hb => by simp [hb]), fun b hb => by
    rcases List.mem_append.1 hb with h1 | h1
    · exact Or.inl (by simp [h1])
    · rcases h.2 b h1 with h2 | h2
      · exact Or.inl (by simp [h2])
      · exact Or.inr h2⟩
theorem own_setCell {w : World} {base g n cap s : Nat} {e : TypeId} {xs : List Value} (h : w.ownsRow base e s (.slice (some ⟨g, 0, none⟩) n cap) n xs) (o : Nat) (v : Value) : ∃ xs', (w.setCell ⟨g, o, none⟩ v).ownsRow base e s (.slice (some ⟨g, 0, none⟩) n cap) n xs' := by
  rcases h.2 with ⟨e, _⟩ | ⟨g', cap', cur, e, hb, hg, h1, h2, h3, h4⟩
  · cases e
  · simp at e
    obtain ⟨rfl, rfl⟩ := e
    refine ⟨(cur.setIfInBounds o v).toList.take (n * s), ?_, Or.inr ⟨g, cap, cur.setIfInBounds o v, rfl, hb, heap_set hg o v, h1, h2, by simpa using h3, rfl⟩⟩
    have h5 : n * s ≤ cap * s := Nat.mul_le_mul_right _ h1
    have h6 : (cur.setIfInBounds o v).toList.length = cap * s := by simp [h3]
    rw [List.length_take, h6]
    omega
theorem own_some {w : World} {base g n cap s : Nat} {e : TypeId} {xs : List Value} (h : w.ownsRow base e s (.slice (some ⟨g, 0, none⟩) n cap) n xs) (i : Nat) (hi : i < n * s) : (∃ u, w.cell? ⟨g, i, none⟩ = some u) ∧ w.frozen? ⟨g, i, none⟩ = false := by
  have hl := h.1
  refine ⟨⟨xs[i]'(by omega), own_cells h i _ (by simp [hl, hi])⟩, ?_⟩
  rcases h.2 with ⟨e, _⟩ | ⟨g', cap', cur, e, hb, hg, _⟩
  · cases e
  · simp at e
    obtain ⟨rfl, rfl⟩ := e
    exact frozen_at hg i
theorem below_row {w w' : World} (h : Below w.heap.size w w') (b : Nat) (hb : w.heap.size ≤ b) (cs : Array Value) : Below w.heap.size w (w'.setRow b cs) :=
  ⟨h.os, h.tape, h.output, by rw [setRow_size]; exact h.size, fun k hk => by rw [setRow_other _ _ _ _ (by omega)]; exact h.block k hk⟩
end Go.Proofs.YtadollckekddgaaDoor
