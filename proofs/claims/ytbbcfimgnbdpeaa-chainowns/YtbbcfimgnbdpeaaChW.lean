/- The law's own: whether a call may be, what is wanted next. -/
import Derived.Test.YtbbcfimgnbdpeaaChN
import Derived.Test.YtbbcfimgnbdpeaaChB
namespace Go.Proofs.Ytbbcfimgnbdpeaa.Ch
open Go.ChangeShapes Go.WideShapes Go.ChangeAt Go.RowKit
attribute [local go_sem ↓] Go.wp_at_zero Go.wp_at_succ

theorem right_any (w : World) (b m c : Int) (va : Value) (A : List Int) (hv : Nl w va A) : Calls Try.prog 10 #[.int .i64 b, .int .i64 m, .int .i64 c, va] w fun e w' => e = .returned (.bool (rightV b m c A.length)) ∧ Below w.heap.size w w' := by
  obtain ⟨a, cap, rfl⟩ := nl_slice hv
  have HA : Hid (∀ w : World, Calls Try.prog 26 #[.int .i64 c] w fun e w' => e = .returned (.int .i64 (arV c)) ∧ w' = w) := fun w => rarity_any w c
  have HT : Hid (∀ (w : World) n, Calls Try.prog 25 #[.int .i64 b, .int .i64 m, .int .i64 (arV c), .int .i64 n] w fun e w' => e = .returned (.bool (takesV b m (arV c) n)) ∧ w' = w) := fun w n => rtakes_any w b m (arV c) n
  unfold rightV
  generalize arV c = y at *
  clear hv
  go_enter Try.func10, Try.ntmps10
  go_wp2_with fail
  refine (HA.out _).mono ?_
  rintro e w1 ⟨rfl, rfl⟩
  go_wp2_with fail
  refine (HT.out _ _).mono ?_
  rintro e w1 ⟨rfl, rfl⟩
  go_wp2_with fail
  go_ret
  exact ⟨rfl, Below.refl _ _⟩
theorem wants_any (w : World) (b m c k : Int) (va vr : Value) (A R : List Int) (x : Wn) (ha : Nl w va A) (hr : Nl w vr R) (h : rightV b m c A.length = true) :
    Calls Try.prog 16 #[.int .i64 b, .int .i64 m, .int .i64 c, va, vr, .int .i64 k, .agg (wnC x)] w fun e w' => e = .returned (.agg (wnC (wantV b m c A R k x))) ∧ Below w.heap.size w w' := by
  have HN : Hid (∀ w' : World, Below w.heap.size w w' → Calls Try.prog 28 #[.int .i64 b, .int .i64 m, .int .i64 c, va, vr, .int .i64 k] w' fun e w'' => e = .returned (.agg (wnC (docV b m c A R k))) ∧ Below w'.heap.size w' w'') := fun w' hb => rnext_any w' b m c k va vr A R (ha.later hb (Nat.le_refl _)) (hr.later hb (Nat.le_refl _)) h
  clear ha hr h
  unfold wantV
  generalize docV b m c A R k = y at *
  unfold wnC
  by_cases e : x.kind = 6
  · rw [if_pos e]
    go_enter Try.func16, Try.ntmps16
    have HX : Hid (x.kind = 6) := e
    go_wp2_with fail
    exact ret_wn rfl rfl (heap_alloc2_new _ _ _) rfl rfl ⟨by rw [HX.out], below_then (below_a1 _ _) (below_a1 _ _)⟩
  · rw [if_neg e]
    have e' : (x.kind == 6) = false := by simpa using e
    clear e
    go_enter Try.func16, Try.ntmps16
    go_wp2_with fail
    refine (HN.out _ (below_then (below_a1 _ _) (below_a1 _ _))).mono ?_
    rintro e w1 ⟨rfl, hb⟩
    have hst := store_wn (P := Try.prog) (row_next2 hb) rfl (wnC_size y) (wnC_one y)
    have HB : Hid (Below w.heap.size w w1) := below_next2 hb
    have HG : Hid (w1.heap[w.heap.size + 1]? = some (.cells #[.int .i64 0, .int .i64 0, .int .i64 0, .int .i64 0] 34 (0, 0))) := row_next2 hb
    have HCS : Hid (wnC y = #[.int .i64 y.kind, .int .i64 y.cell, .int .i64 y.val, .int .i64 y.code]) := rfl
    have hz : (wnC y).size = 4 := rfl
    generalize wnC y = cs at *
    clear hb
    go_wp2_with fail
    exact ret_wn rfl rfl (setRow_heap _ _ _ _ _ _ HG.out) hz rfl ⟨by rw [HCS.out], below_row HB.out _ (by omega) _⟩
end Go.Proofs.Ytbbcfimgnbdpeaa.Ch
