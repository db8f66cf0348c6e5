/- Answers of machines: how they are laid and handed back. -/
import Derived.Test.YtbmmicfdnfpcaaaMemH
namespace Go.Proofs.Ytbmmicfdnfpcaaa
open Go.ChangeShapes Go.WideShapes Go.ChangeAt Go.RowKit

theorem keep1 {w0 w : World} {X : Nat} (k : Keep [X] w0 w) (i : Nat) (v : Value) : Keep [X] w0 (w.setCell ⟨X, i, none⟩ v) := k.setCell _ _ (Or.inl (by simp))
def ansC (k : Int) (y : Bool) : Value := .agg #[.int .i64 k, .int .i64 0, .int .i64 0, .bool y]

theorem ret_ans {fn : Func} {p : Tmp} {R : Ending → World → Prop} {a : Act} {w : World} {g : Nat} {cs : Array Value} (h : fn.results = #[.cell p 52]) (hp : a.tmps.getD p undef = .pointer (some ⟨g, 0, none⟩))
    (hg : w.heap[g]? = some (.cells cs 52 (0, 0))) (hz : cs.size = 4) (hd : a.defers = []) (hR : R (.returned (.agg cs)) w) : bodyPost Try.prog fn R .ret a w :=
  bodyPost_ret (results_cell_row h _ _ g 52 cs (0, 0) _ hp hg Try.underlying52 rfl (by rw [hz]; kernel_rfl)) hd hR
theorem ans_cells {w : World} {B : Nat} {k : Int} {y : Bool} (h : w.heap[B]? = some (.cells #[.int .i64 k, .int .i64 0, .int .i64 0, .bool y] 52 (0, 0))) :
    (w.cell? ⟨B, 0, none⟩ = some (.int .i64 k) ∧ w.cell? ⟨B, 1, none⟩ = some (.int .i64 0) ∧ w.cell? ⟨B, 2, none⟩ = some (.int .i64 0) ∧ w.cell? ⟨B, 3, none⟩ = some (.bool y)) ∧
    (w.frozen? ⟨B, 0, none⟩ = false ∧ w.frozen? ⟨B, 1, none⟩ = false ∧ w.frozen? ⟨B, 2, none⟩ = false ∧ w.frozen? ⟨B, 3, none⟩ = false) :=
  ⟨⟨by rw [cell_at h]; rfl, by rw [cell_at h]; rfl, by rw [cell_at h]; rfl, by rw [cell_at h]; rfl⟩, frozen_at h 0, frozen_at h 1, frozen_at h 2, frozen_at h 3⟩

theorem row_on {w w' : World} {b : Nat} {o : Obj} (h : w.heap[b]? = some o) (hb : Below w.heap.size w w') : w'.heap[b]? = some o := by
  rw [hb.block _ (heap_lt h)]; exact h
/-- An answer is laid. -/
def laid4 (w : World) (B : Nat) (k : Int) (y : Bool) : World := (((w.setCell ⟨B, 0, none⟩ (.int .i64 k)).setCell ⟨B, 1, none⟩ (.int .i64 0)).setCell ⟨B, 2, none⟩ (.int .i64 0)).setCell ⟨B, 3, none⟩ (.bool y)
theorem ans_set {w : World} {B : Nat} {cs : Array Value} (hz : cs.size = 4) (h : w.heap[B]? = some (.cells cs 52 (0, 0))) (k : Int) (y : Bool) :
    (laid4 w B k y).heap[B]? = some (.cells #[.int .i64 k, .int .i64 0, .int .i64 0, .bool y] 52 (0, 0)) := by
  have h1 := heap_set (i := 0) (v := .int .i64 k) h
  have h2 := heap_set (i := 1) (v := .int .i64 0) h1
  have h3 := heap_set (i := 2) (v := .int .i64 0) h2
  have h4 := heap_set (i := 3) (v := .bool y) h3
  unfold laid4
  rw [h4]
  obtain ⟨l⟩ := cs
  match l, hz with
  | [_, _, _, _], _ => rfl
theorem keep4 {w0 w : World} {F : List Nat} {B : Nat} (hk : Keep F w0 w) (hB : w0.heap.size ≤ B) (k : Int) (y : Bool) : Keep F w0 (laid4 w B k y) :=
  (((hk.setCell _ _ (Or.inr hB)).setCell _ _ (Or.inr hB)).setCell _ _ (Or.inr hB)).setCell _ _ (Or.inr hB)
theorem keepB {w : World} {B : Nat} (k : Int) (y : Bool) : Keep [B] w (laid4 w B k y) :=
  ((((Keep.refl [B] w).setCell _ _ (Or.inl (by simp))).setCell _ _ (Or.inl (by simp))).setCell _ _ (Or.inl (by simp))).setCell _ _ (Or.inl (by simp))
theorem below4 {w0 w : World} {A B : Nat} (hk : Below A w0 w) (hB : A ≤ B) (k : Int) (y : Bool) : Below A w0 (laid4 w B k y) :=
  (((hk.setCell hB _).setCell hB _).setCell hB _).setCell hB _
/-- Rows that lie apart from what changes. -/
def Kept (w : World) (F : List Nat) (R : List (Nat × Obj)) : Prop := ∀ z ∈ R, w.heap[z.1]? = some z.2 ∧ z.1 ∉ F
theorem Kept.next {w w' : World} {F F' : List Nat} {R : List (Nat × Obj)} (h : Kept w F R) (hn : Next F F' w w') : Kept w' F' R := fun z hz => by
  obtain ⟨h1, h2⟩ := h z hz
  refine ⟨by rw [hn.1.block _ (heap_lt h1) h2]; exact h1, fun e => ?_⟩
  rcases hn.2 _ e with h3 | h3
  · exact h2 h3
  · have := heap_lt h1; omega
theorem Kept.later {w w' : World} {F : List Nat} {R : List (Nat × Obj)} (h : Kept w F R) (hb : Below w.heap.size w w') : Kept w' F R := h.next (Next.of_below hb F)
theorem Kept.more {w : World} {F : List Nat} {R : List (Nat × Obj)} (h : Kept w F R) (hF : ∀ q ∈ F, q < w.heap.size) (o : Obj) : Kept (w.alloc o) F ((w.heap.size, o) :: R) := fun z hz => by
  rcases List.mem_cons.1 hz with rfl | hz
  · exact ⟨heap_alloc_new _ _, fun e => by have := hF _ e; simp at this⟩
  · exact (h.later (below_a1 _ _)) z hz
theorem nextX {F F' : List Nat} {X : Nat} {w w' : World} (h : Next F F' w w') : Next (X :: F) (X :: F') w w' :=
  ⟨h.1.mono (fun q hq => by simp [hq]), fun q hq => by
    rcases List.mem_cons.1 hq with rfl | hq
    · exact Or.inl (by simp)
    · rcases h.2 q hq with h1 | h1
      · exact Or.inl (by simp [h1])
      · exact Or.inr h1⟩
theorem wordOf_load (c r : Nat) (L : List Ac) (t : Int) (a : Ad) : wordOf (loadL c r L t a) = wordOf L := by
  unfold loadL
  split
  · exact wordOf_miss rfl
  · rfl
def ansO (k : Int) (y : Bool) : Obj := .cells #[.int .i64 k, .int .i64 0, .int .i64 0, .bool y] 52 (0, 0)
end Go.Proofs.Ytbmmicfdnfpcaaa
