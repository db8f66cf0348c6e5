/- Acts, lists of acts that are handed in, and what a log that was made by acts tells. -/
import Derived.Test.YtgjahjnomfijfaaGreatJMemCAns
import Derived.Test.YtgjahjnomfijfaaGreatMemF
import Derived.Deep.Slices
namespace Go.Proofs.YtgjahjnomfijfaaGreat
open Go.ChangeShapes Go.WideShapes Go.ChangeAt Go.RowKit
structure Tk where
 k : Int
 t : Int
 a : Ad
 o : Int
 v : Int
 n : Int
instance : Inhabited Ad := ⟨⟨0, 0, 0⟩⟩
instance : Inhabited Ac := ⟨⟨0, 0, ⟨0, 0, 0⟩, 0, 0, false⟩⟩
def tkC (x : Tk) : Array Value := #[.int .i64 x.k, .int .i64 x.t, .int .i64 x.a.k, .int .i64 x.a.i, .int .i64 x.a.j, .int .i64 x.o, .int .i64 x.v, .int .i64 x.n]
def noTk : Tk := ⟨0, 0, ⟨0, 0, 0⟩, 0, 0, 0⟩
def Row8 (w : World) (y : Addr) (cs : Array Value) : Prop := ∀ j, j < 8 → w.cell? (y.add j) = cs[j]?
theorem add_zero' (y : Addr) : y.add 0 = y := by unfold Addr.add; simp
theorem add_pos' (y : Addr) (j : Nat) (h : 0 < j) : y.add j = ⟨y.block, y.off + j, none⟩ := by
 unfold Addr.add
 split
 ·next e => omega
 ·rfl
theorem cell_later {w w' : World} {B : Nat} (hb : Below B w w') {a : Addr} (ha : a.block < B) {u : Value} (h : w.cell? a = some u) : w'.cell? a = some u := by
 rw [hb.cell (p := a) ha]; exact h
theorem add_block (y : Addr) (j : Nat) : (y.add j).block = y.block := by unfold Addr.add; split <;> rfl
def ALst (w : World) (v : Value) (S : List Tk) : Prop := ∃ a cap, v = .slice a S.length cap ∧ S.length ≤ 2199023255488 ∧ (S = [] ∨ ∃ x, a = some x ∧ x.block < w.heap.size ∧ ∀ i, i < S.length → Row8 w (x.add (i * 8)) (tkC (S.getD i noTk)))
theorem list_choose {α : Type} (d : α) (Q : Nat → α → Prop) : ∀ n, (∀ i, i < n → ∃ s, Q i s) → ∃ S : List α, S.length = n ∧ ∀ i, i < n → Q i (S.getD i d)
 | 0, _ => ⟨[], rfl, fun i hi => absurd hi (by omega)⟩
 | n + 1, h => by
  obtain ⟨S, hl, hS⟩ := list_choose d Q n (fun i hi => h i (by omega))
  obtain ⟨s, hs⟩ := h n (by omega)
  refine ⟨S ++ [s], by simp [hl], fun i hi => ?_⟩
  simp only [List.getD_eq_getElem?_getD]
  by_cases e : i < n
  ·rw [List.getElem?_append_left (by omega)]
   simpa [List.getD_eq_getElem?_getD] using hS i e
  ·obtain rfl : i = n := by omega
   rw [List.getElem?_append_right (by omega), hl, Nat.sub_self]
   exact hs
theorem cells_int : Tryz.prog.cellsOf 3 = 1 := by kernel_rfl
theorem cells_i64 : Tryz.prog.cellsOf 2 = 1 := by kernel_rfl
theorem cells_addr : Tryz.prog.cellsOf 34 = 3 := by kernel_rfl
theorem len3 {α : Type} {l : List α} (h : l.length = 3) : ∃ a b c, l = [a, b, c] := by
 match l, h with
 | [a, b, c], _ => exact ⟨a, b, c, rfl⟩
theorem addr_of_cells {H : Type} {enc : TypeId × Value → H} {W : World} {fuel : Nat} {cs : List Value} {x : DataW H × List MemPlace}
  (hf : DataW.trod enc Tryz.prog W 0 (fun _ => true) true fuel 34 cs = some x) : ∃ a : Ad, cs = (adC a).toList := by
 obtain ⟨xs, m, _, hx, hl, hlen, hfd⟩ := DataW.trod_struct Tryz.underlying34 hf
 have hl3 : cs.length = 3 := by rw [hl, cells_addr]
 obtain ⟨c0, c1, c2, rfl⟩ := len3 hl3
 obtain ⟨y0, y1, y2, rfl⟩ := len3 hlen
 have g0 := hfd 0 _ rfl
 have g1 := hfd 1 _ rfl
 have g2 := hfd 2 _ rfl
 simp [cells_int] at g0 g1 g2
 obtain ⟨a0, z0, _, _⟩ := DataW.trod_int Tryz.underlying3 g0
 obtain ⟨a1, z1, _, _⟩ := DataW.trod_int Tryz.underlying3 g1
 obtain ⟨a2, z2, _, _⟩ := DataW.trod_int Tryz.underlying3 g2
 simp only [List.cons.injEq, and_true] at z0 z1 z2
 subst z0 z1 z2
 exact ⟨⟨a0, a1, a2⟩, rfl⟩
def stepL (c r : Nat) (L : List Ac) (x : Tk) : List Ac := if x.k = 1 then loadL c r L x.t x.a else if x.k = 2 then storeL c r L x.t x.a x.v else if x.k = 3 then swapL c r L x.t x.a x.o x.v else L
def logOf (c r : Nat) (S : List Tk) (i : Nat) : List Ac := (S.take i).foldl (stepL c r) []
def One (c r : Nat) (L : List Ac) (x : Ac) : Prop := isAd c r x.a = true ∧ (x.k = 1 → x.v = wordOf L x.a) ∧ (x.k = 3 → x.y = (wordOf L x.a == x.o)) ∧ (x.k = 1 ∨ x.k = 2 ∨ x.k = 3)
def Good (c r : Nat) (L : List Ac) : Prop := ∀ i, (h : i < L.length) → One c r (L.take i) L[i]
def wd (c r : Nat) (L : List Ac) (a : Ad) (i : Nat) : Int := if isAd c r a then wordOf (L.take i) a else 0
end Go.Proofs.YtgjahjnomfijfaaGreat
/- The document's memory as it lies: New, when two addresses are one, which are addresses. -/
namespace Go.Proofs.YtgjahjnomfijfaaGreat
set_option linter.unusedVariables false
open Go.ChangeShapes Go.WideShapes Go.ChangeAt Go.RowKit
end Go.Proofs.YtgjahjnomfijfaaGreat
/- The document's Word and Peek. -/
namespace Go.Proofs.YtgjahjnomfijfaaGreat
open Go.ChangeShapes Go.WideShapes Go.ChangeAt Go.RowKit
end Go.Proofs.YtgjahjnomfijfaaGreat
/- The document's Load, Store, Swap and Peek. -/
namespace Go.Proofs.YtgjahjnomfijfaaGreat
open Go.ChangeShapes Go.WideShapes Go.ChangeAt Go.RowKit
attribute [local go_sem ↓] Go.wp_at_zero Go.wp_at_succ
end Go.Proofs.YtgjahjnomfijfaaGreat
/- The program's memory and the document's, beside one another and above what was there (what a layer above wants of both). -/
namespace Go.Proofs.YtgjahjnomfijfaaGreat
open Go.ChangeShapes Go.WideShapes Go.ChangeAt Go.RowKit
theorem own_base {w : World} {base base' e s n : Nat} {v : Value} {xs : List Value} (h : w.ownsRow base e s v n xs) (hb : base' ≤ base) : w.ownsRow base' e s v n xs := by
 refine ⟨h.1, ?_⟩
 rcases h.2 with h | ⟨g, cap, cur, h1, h2, h3⟩
 ·exact Or.inl h
 ·exact Or.inr ⟨g, cap, cur, h1, by omega, h3⟩
theorem Next.left {F F' G : List Nat} {w w' : World} (h : Next F F' w w') : Next (F ++ G) (F' ++ G) w w' :=
 ⟨h.1.mono (fun b hb => by simp [hb]), fun b hb => by
    rcases List.mem_append.1 hb with h1 | h1
    · rcases h.2 b h1 with h2 | h2
      · exact Or.inl (by simp [h2])
      · exact Or.inr h2
    · exact Or.inl (by simp [h1])⟩
end Go.Proofs.YtgjahjnomfijfaaGreat
