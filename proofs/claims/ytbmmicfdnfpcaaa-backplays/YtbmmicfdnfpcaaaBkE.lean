/- The program's machine of layer 11: layHead, complete. -/
import Derived.Test.YtbmmicfdnfpcaaaBkC
namespace Go.Proofs.Ytbmmicfdnfpcaaa
open Go.ChangeShapes Go.WideShapes Go.ChangeAt Go.RowKit
attribute [local go_sem ↓] Go.wp_at_zero Go.wp_at_succ

set_option maxRecDepth 10000 in
set_option maxHeartbeats 6400000 in
theorem blayh_any {w : World} {base : Nat} {p : Value} {c : Nat} {L : List Ac} {F : List Nat} {Z : Nat} {P : Bp} {b : Bk} {lv : Value} (h : BS w base p c P.s L F Z P b lv) (hb : base ≤ w.heap.size) (hL : L.length < 3298534883328) (hk : BkOk P b) (t : Int) :
    Does 47 w base p c P.s F Z P lv t 2 (storeL c P.s L t ⟨2, slotV P.st P.s, 0⟩ (2 * P.st)) (if b.kn then goB P b else lookAtB P b (P.st - 1)) := by
  have hbd := slotB_bd hk.p P.st
  have HS : Hid (∀ w', AS w w' base p c P.s L F F Z P b lv → Calls Try.prog 13 #[p, .int .i64 t, .agg #[.int .i64 2, .int .i64 (slotV P.st P.s), .int .i64 0], .int .i64 (headV P.st false)] w' fun e w'' => e = .returned (.int .i64 0) ∧ ∃ F'', AS w w'' base p c P.s (storeL c P.s L t ⟨2, slotV P.st P.s, 0⟩ (2 * P.st)) F F'' Z P b lv) := fun w' h => by
    rw [headV_is hk.p, if_neg (by simp)]
    exact as_store h hL t ⟨2, slotV P.st P.s, 0⟩ _ (by simp [isAd, hbd])
  have HW : Hid (∀ w', AS w w' base p c P.s L F F Z P b lv → Calls Try.prog 62 #[.pointer (some ⟨Z, 0, none⟩), .int .i64 P.st] w' fun e w'' => e = .returned (.agg #[.int .i64 2, .int .i64 (slotV P.st P.s), .int .i64 0]) ∧ AS w w'' base p c P.s L F F Z P b lv) := fun w' h => as_headOf h P.st
  have HH : Hid (∀ w, Calls Try.prog 63 #[.int .i64 P.st, .bool false] w fun e w' => e = .returned (.int .i64 (headV P.st false)) ∧ w' = w) := fun w => head_any P.st false w
  have HM : Hid (∀ w' L' F' b', AS w w' base p c P.s L' F F' Z P b' lv → Calls Try.prog 48 #[] w' fun e w'' => e = .returned (ansM 2) ∧ AS w w'' base p c P.s L' F F' Z P b' lv) := fun w' L' F' b' h => as_moved h
  have HG : Hid (∀ w' L' F', AS w w' base p c P.s L' F F' Z P b lv → Calls Try.prog 64 #[.pointer (some ⟨Z, 0, none⟩)] w' fun e w'' => e = .returned (.tuple #[]) ∧ AS w w'' base p c P.s L' F F' Z P (goB P b) lv) := fun w' L' F' h => as_goOn h hk.p hk.wr
  have HA : Hid (∀ w' L' F', AS w w' base p c P.s L' F F' Z P b lv → Calls Try.prog 65 #[.pointer (some ⟨Z, 0, none⟩), .int .i64 (P.st - 1)] w' fun e w'' => e = .returned (.tuple #[]) ∧ AS w w'' base p c P.s L' F F' Z P (lookAtB P b (P.st - 1)) lv) := fun w' L' F' h => as_lookAt h hk.p hk.wr _
  have QL : Hid (AS w (w.alloc (.cells #[.int .i64 0, .int .i64 0, .int .i64 0, .bool false] 52)) base p c P.s L F F Z P b lv) := AS.start h hb
  obtain ⟨x0, x1, x2, x11, x12, x13, x14, x15⟩ := BRaw.cells h.row
  have hx : Z < w.heap.size := heap_lt h.row
  obtain ⟨M, rfl⟩ := h.mem.ptr
  unfold Does ansM at *
  have hw : wrap64 (P.st - 1) = P.st - 1 := by
    have := hk.p.st1
    have := hk.p.st2
    unfold wrap64; omega
  have hw' : IntKind.i64.wrap (P.st - 1) = P.st - 1 := by
    have := hk.p.st1
    have := hk.p.st2
    rw [IntKind.wrap_i64]; omega
  have SC : Hid (∀ w' L' F', AS w w' base (.pointer (some ⟨M, 0, none⟩)) c P.s L' F F' Z P b lv → w'.cell? ⟨Z, 1, none⟩ = some (.int .i64 P.st) ∧ w'.cell? ⟨Z, 14, none⟩ = some (.bool b.kn)) := fun w' _ _ h => ⟨h.cells.2.1, h.cells.2.2.2.2.2.2.1⟩
  generalize headV P.st false = hv at *
  generalize storeL c P.s L t ⟨2, slotV P.st P.s, 0⟩ (2 * P.st) = L' at *
  generalize slotV P.st P.s = sl at *
  obtain ⟨B', HB'⟩ : ∃ B' : Bk, Hid (B' = if b.kn then goB P b else lookAtB P b (P.st - 1)) := ⟨_, rfl⟩
  rw [← HB'.out]
  clear h hk
  go_enter Try.func47, Try.ntmps47
  go_wp2_with fail
  go_region_with ((first
      | (go_at_call 62; have q0 := QL.out.drew; refine (HW.out _ q0).mono ?_; clear q0; rintro e w1 ⟨rfl, q1⟩; have QL : Hid (AS w w1 base (.pointer (some ⟨M, 0, none⟩)) c P.s L F F Z P b lv) := q1; clear q1; obtain ⟨c1, c14⟩ := SC.out _ _ _ QL.out)
      | (go_at_call 63; refine (HH.out _).mono ?_; rintro e w' ⟨rfl, rfl⟩)
      | (go_at_call 13; refine (HS.out _ QL.out).mono ?_; rintro e w2 ⟨rfl, F2, q2⟩)))
  all_goals
    have Q2 : Hid (AS w w2 base (.pointer (some ⟨M, 0, none⟩)) c P.s L' F F2 Z P b lv) := q2
    clear q2 QL c1 c14 x0 x1 x2 x11 x12 x13 x14 x15
    obtain ⟨y0, y1, y2, y11, y12, y13, y14, y15⟩ := Q2.out.cells
    have hx2 : Z < w2.heap.size := Q2.out.z
    cases hkn : b.kn
    · rw [hkn] at y14
      go_wp2_with fail
      refine (HA.out _ _ _ Q2.out).mono ?_
      rintro e w3 ⟨rfl, q3⟩
      have Q3 : Hid (AS w w3 base (.pointer (some ⟨M, 0, none⟩)) c P.s L' F F2 Z P B' lv) := by rw [HB'.out, if_neg (by simp [hkn])]; exact q3
      clear q3 Q2 y0 y1 y2 y11 y12 y13 y14 y15
      go_wp2_with fail
      refine (HM.out _ _ _ _ Q3.out).mono ?_
      rintro e w4 ⟨rfl, q4⟩
      have Q4 : Hid (AS w w4 base (.pointer (some ⟨M, 0, none⟩)) c P.s L' F F2 Z P B' lv) := q4
      clear q4 Q3
      obtain ⟨⟨a0, a1, a2, a3⟩, g0, g1, g2, g3⟩ := ans_cells Q4.out.an
      have hB := heap_lt Q4.out.an
      go_wp2
      exact ret_ans rfl rfl (ans_set rfl Q4.out.an 2 true) rfl rfl ⟨rfl, F2, Q4.out.fin 2 true⟩
    · rw [hkn] at y14
      go_wp2_with fail
      refine (HG.out _ _ _ Q2.out).mono ?_
      rintro e w3 ⟨rfl, q3⟩
      have Q3 : Hid (AS w w3 base (.pointer (some ⟨M, 0, none⟩)) c P.s L' F F2 Z P B' lv) := by rw [HB'.out, if_pos hkn]; exact q3
      clear q3 Q2 y0 y1 y2 y11 y12 y13 y14 y15
      go_wp2_with fail
      refine (HM.out _ _ _ _ Q3.out).mono ?_
      rintro e w4 ⟨rfl, q4⟩
      have Q4 : Hid (AS w w4 base (.pointer (some ⟨M, 0, none⟩)) c P.s L' F F2 Z P B' lv) := q4
      clear q4 Q3
      obtain ⟨⟨a0, a1, a2, a3⟩, g0, g1, g2, g3⟩ := ans_cells Q4.out.an
      have hB := heap_lt Q4.out.an
      go_wp2
      exact ret_ans rfl rfl (ans_set rfl Q4.out.an 2 true) rfl rfl ⟨rfl, F2, Q4.out.fin 2 true⟩
end Go.Proofs.Ytbmmicfdnfpcaaa
