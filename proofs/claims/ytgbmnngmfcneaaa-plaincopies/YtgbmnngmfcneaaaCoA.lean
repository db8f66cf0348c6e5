/- Calls with their arguments, and lists of calls, that are handed in. -/
import Derived.Test.YtgbmnngmfcneaaaCoM
namespace Go.Proofs.Ytgbmnngmfcneaaa
open Go.ChangeShapes Go.WideShapes Go.ChangeAt Go.RowKit

/-- A call that is asked for: base, capacity, which, its arguments, the words that it is handed. -/
structure Ask where
  b : Int
  m : Int
  c : Int
  A : List Int
  W : List Int
/-- It lies as a value. -/
def AskV (w : World) (v : Value) (x : Ask) : Prop := ∃ va vw, v = .agg #[.int .i64 x.b, .int .i64 x.m, .int .i64 x.c, va, vw] ∧ Nl w va x.A ∧ Nl w vw x.W ∧ Sx x.b ∧ Sx x.m ∧ Sx x.c
theorem acells_int : Try.prog.cellsOf 3 = 1 := by kernel_rfl
theorem acells_nums : Try.prog.cellsOf 36 = 1 := by kernel_rfl
theorem alen5 {α : Type} {l : List α} (h : l.length = 5) : ∃ a b c d e, l = [a, b, c, d, e] := by
  match l, h with
  | [a, b, c, d, e], _ => exact ⟨a, b, c, d, e, rfl⟩
theorem alen2 {α : Type} {l : List α} (h : l.length = 2) : ∃ a b, l = [a, b] := by
  match l, h with
  | [a, b], _ => exact ⟨a, b, rfl⟩
/-- A list of calls behind a slice. -/
def Cl (w : World) (v : Value) (S : List (Int × List Int)) : Prop := ∃ a cap, v = .slice a S.length cap ∧ S.length ≤ 17592186044416 ∧ (S.length = 0 ∨ ∃ x, a = some x ∧ x.block < w.heap.size ∧ ∀ i, i < S.length → ∃ u, w.cell? (x.add (i * 2)) = some (.int .i64 (S.getD i (0, [])).1) ∧ w.cell? ⟨(x.add (i * 2)).block, (x.add (i * 2)).off + 1, none⟩ = some u ∧ Nl w u (S.getD i (0, [])).2)
theorem Cl.later {w w' : World} {v : Value} {S : List (Int × List Int)} {B : Nat} (h : Cl w v S) (hb : Below B w w') (hB : w.heap.size ≤ B) : Cl w' v S := by
  obtain ⟨a, cap, hv, hm, hl⟩ := h
  refine ⟨a, cap, hv, hm, ?_⟩
  rcases hl with h0 | ⟨x, hx, hxb, hc⟩
  · exact Or.inl h0
  · refine Or.inr ⟨x, hx, Nat.lt_of_lt_of_le hxb hb.size, fun i hi => ?_⟩
    obtain ⟨u, h1, h2, h3⟩ := hc i hi
    exact ⟨u, cell_later hb (by rw [add_block]; omega) h1, cell_later (a := ⟨(x.add (i * 2)).block, (x.add (i * 2)).off + 1, none⟩) hb (show (x.add (i * 2)).block < B by rw [add_block]; omega) h2, h3.later hb hB⟩
theorem weights_mem {H : Type} {P : Program} {t : TypeId} {q : Nat → Bool} : ∀ (l : List (DataW H)) (d : DataW H), d ∈ l → (DataW.weightsAll P t l).all q = true → (d.weights P t).all q = true
  | [], d, hd, _ => by cases hd
  | x :: l, d, hd, h => by
    simp only [DataW.weightsAll, List.all_append, Bool.and_eq_true] at h
    rcases List.mem_cons.1 hd with rfl | hd
    · exact h.1
    · exact weights_mem l d hd h.2