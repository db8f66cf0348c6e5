/- ChainPlays, walked. -/
import Derived.Test.YtbbcfimgnbdpeaaChP
namespace Go.Proofs.Ytbbcfimgnbdpeaa.Ch
open Go.ChangeShapes Go.WideShapes Go.ChangeAt Go.RowKit
attribute [local go_sem ↓] Go.wp_at_zero Go.wp_at_succ

set_option maxRecDepth 100000 in
theorem plays_walk {w : World} {v : Value} {q : Ask} (ha : AskV w v q) : Calls Try.prog 3 #[v] w fun e w' => e = .returned (.bool true) ∧ Below w.heap.size w w' := by
  have HA : Hid (AskV w v q) := ha
  obtain ⟨va, vw, rfl, hA, hW, _⟩ := ha
  have HR : Hid (∀ w' : World, Below w.heap.size w w' → Calls Try.prog 10 #[.int .i64 q.b, .int .i64 q.m, .int .i64 q.c, va] w' fun e w'' => e = .returned (.bool (rightV q.b q.m q.c q.A.length)) ∧ Below w'.heap.size w' w'') := fun w' hb => right_any w' _ _ _ va q.A (hA.later hb (Nat.le_refl _))
  cases hr : rightV q.b q.m q.c q.A.length with
  | false =>
    rw [hr] at HR
    have HN : Hid (∀ w' : World, Below w.heap.size w w' → Calls Try.prog 9 #[.int .i64 q.b, .int .i64 q.m, .int .i64 q.c, va] w' fun e w'' => e = .returned (.tuple #[.pointer none, .int .i64 1]) ∧ Below w'.heap.size w' w'') := fun w' hb => new_no w' _ _ _ va q.A (hA.later hb (Nat.le_refl _)) hr
    clear hA hW HA hr
    go_enter Try.func3, Try.ntmps3
    go_wp2_with fail
    refine (HN.out _ (below_a1 _ _)).mono ?_
    rintro e w1 ⟨rfl, hb1⟩
    have HB1 : Hid (Below w.heap.size w w1) := below_next hb1
    have hr1 := row_next hb1
    have c0 : w1.cell? ⟨w.heap.size, 0, none⟩ = some (.int .i64 q.b) := by rw [cell_at hr1]; rfl
    have c1 : w1.cell? ⟨w.heap.size, 1, none⟩ = some (.int .i64 q.m) := by rw [cell_at hr1]; rfl
    have c2 : w1.cell? ⟨w.heap.size, 2, none⟩ = some (.int .i64 q.c) := by rw [cell_at hr1]; rfl
    have c3 : w1.cell? ⟨w.heap.size, 3, none⟩ = some va := by rw [cell_at hr1]; rfl
    clear hb1 hr1
    go_wp2_with fail
    refine (HR.out _ HB1.out).mono ?_
    rintro e w2 ⟨rfl, hb2⟩
    have HB2 : Hid (Below w.heap.size w w2) := below_then HB1.out hb2
    clear hb2 c0 c1 c2 c3
    go_wp2_with fail
    go_ret
    exact ⟨rfl, HB2.out⟩
  | true =>
    rw [hr] at HR
    have HN : Hid (∀ w' : World, Below w.heap.size w w' → Calls Try.prog 9 #[.int .i64 q.b, .int .i64 q.m, .int .i64 q.c, va] w' fun e w'' => ∃ X F, e = .returned (.tuple #[.pointer (some ⟨X, 0, none⟩), .int .i64 0]) ∧ McAt w'' X F (mkM q.b q.m q.c q.A) ∧ (∀ q ∈ F, w'.heap.size ≤ q) ∧ Below w'.heap.size w' w'') := fun w' hb => new_yes w' _ _ _ va q.A (hA.later hb (Nat.le_refl _)) hr
    have HP : Hid (∀ (w' : World) X F, Below w.heap.size w w' → McAt w' X F (mkM q.b q.m q.c q.A) → (∀ b ∈ F, w.heap.size ≤ b) → Calls Try.prog 11 #[.pointer (some ⟨X, 0, none⟩), .agg #[.int .i64 q.b, .int .i64 q.m, .int .i64 q.c, va, vw]] w' fun e w'' => e = .returned (.bool true) ∧ Below w.heap.size w w'') := fun w' X F hb hm hF => play_any hb HA.out hr hm hF
    clear hA hW HA hr
    go_enter Try.func3, Try.ntmps3
    go_wp2_with fail
    refine (HN.out _ (below_a1 _ _)).mono ?_
    rintro e w1 ⟨X, F, rfl, hm, hF, hb1⟩
    have HB1 : Hid (Below w.heap.size w w1) := below_next hb1
    have HM : Hid (McAt w1 X F (mkM q.b q.m q.c q.A) ∧ ∀ b ∈ F, w.heap.size ≤ b) := ⟨hm, fun b hb => by have := hF b hb; simp at this; omega⟩
    have hr1 := row_next hb1
    have HR1 : Hid (w1.heap[w.heap.size]? = some (.cells #[.int .i64 q.b, .int .i64 q.m, .int .i64 q.c, va, vw] 24 (0, 0))) := hr1
    have c0 : w1.cell? ⟨w.heap.size, 0, none⟩ = some (.int .i64 q.b) := by rw [cell_at hr1]; rfl
    have c1 : w1.cell? ⟨w.heap.size, 1, none⟩ = some (.int .i64 q.m) := by rw [cell_at hr1]; rfl
    have c2 : w1.cell? ⟨w.heap.size, 2, none⟩ = some (.int .i64 q.c) := by rw [cell_at hr1]; rfl
    have c3 : w1.cell? ⟨w.heap.size, 3, none⟩ = some va := by rw [cell_at hr1]; rfl
    clear hb1 hr1 hm hF
    go_wp2_with fail
    refine (HR.out _ HB1.out).mono ?_
    rintro e w2 ⟨rfl, hb2⟩
    have HB2 : Hid (Below w.heap.size w w2) := below_then HB1.out hb2
    have HM2 : Hid (McAt w2 X F (mkM q.b q.m q.c q.A)) := HM.out.1.later hb2
    have hr2 : w2.heap[w.heap.size]? = some (.cells #[.int .i64 q.b, .int .i64 q.m, .int .i64 q.c, va, vw] 24 (0, 0)) := by rw [hb2.block _ (heap_lt HR1.out)]; exact HR1.out
    have d0 : w2.cell? ⟨w.heap.size, 0, none⟩ = some (.int .i64 q.b) := by rw [cell_at hr2]; rfl
    have d1 : w2.cell? ⟨w.heap.size, 1, none⟩ = some (.int .i64 q.m) := by rw [cell_at hr2]; rfl
    have d2 : w2.cell? ⟨w.heap.size, 2, none⟩ = some (.int .i64 q.c) := by rw [cell_at hr2]; rfl
    have d3 : w2.cell? ⟨w.heap.size, 3, none⟩ = some va := by rw [cell_at hr2]; rfl
    have d4 : w2.cell? ⟨w.heap.size, 4, none⟩ = some vw := by rw [cell_at hr2]; rfl
    clear hb2 hr2 c0 c1 c2 c3
    go_wp2_with fail
    refine (HP.out _ X F HB2.out HM2.out HM.out.2).mono ?_
    rintro e w3 ⟨rfl, hb3⟩
    go_wp2_with fail
    go_ret
    exact ⟨rfl, hb3⟩
end Go.Proofs.Ytbbcfimgnbdpeaa.Ch
