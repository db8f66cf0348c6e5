/- The program's machine of layer 11: awaitOlder, awaitAll. -/
import Derived.Test.YtbmmicfdnfpcaaaBkF
namespace Go.Proofs.Ytbmmicfdnfpcaaa
open Go.ChangeShapes Go.WideShapes Go.ChangeAt Go.RowKit
attribute [local go_sem ↓] Go.wp_at_zero Go.wp_at_succ

set_option maxRecDepth 10000 in
set_option maxHeartbeats 6400000 in
theorem bold_any {w : World} {base : Nat} {p : Value} {c : Nat} {L : List Ac} {F : List Nat} {Z : Nat} {P : Bp} {b : Bk} {lv : Value} (h : BS w base p c P.s L F Z P b lv) (hb : base ≤ w.heap.size) (hL : L.length < 3298534883328) (hk : BkOk P b) (t : Int) :
    Does 86 w base p c P.s F Z P lv t (if overV (wordOf L (hdB P b.old)) b.old = false then 1 else 2) (loadL c P.s L t (hdB P b.old)) (if overV (wordOf L (hdB P b.old)) b.old then overB P b else b) := by
  have HH : Hid (∀ w', AS w w' base p c P.s L F F Z P b lv → Calls Try.prog 77 #[.pointer (some ⟨Z, 0, none⟩), p, .int .i64 t, .int .i64 b.old] w' fun e w'' => e = .returned (.int .i64 (wordOf L (hdB P b.old))) ∧ ∃ F'', AS w w'' base p c P.s (loadL c P.s L t (hdB P b.old)) F F'' Z P b lv) := fun w' h => as_head h hL hk.p t b.old
  have HO : Hid (∀ w, Calls Try.prog 76 #[.int .i64 (wordOf L (hdB P b.old)), .int .i64 b.old] w fun e w' => e = .returned (.bool (overV (wordOf L (hdB P b.old)) b.old)) ∧ w' = w) := over_any _ _
  have HX : Hid (∀ w' L' F' b', AS w w' base p c P.s L' F F' Z P b' lv → Calls Try.prog 78 #[] w' fun e w'' => e = .returned (ansM 1) ∧ AS w w'' base p c P.s L' F F' Z P b' lv) := fun w' L' F' b' h => as_waits h
  have HV : Hid (∀ w' L' F', AS w w' base p c P.s L' F F' Z P b lv → Calls Try.prog 79 #[.pointer (some ⟨Z, 0, none⟩)] w' fun e w'' => e = .returned (ansM 2) ∧ AS w w'' base p c P.s L' F F' Z P (overB P b) lv) := fun w' L' F' h => as_over h hk.p hk.wr
  have QL : Hid (AS w (w.alloc (.cells #[.int .i64 0, .int .i64 0, .int .i64 0, .bool false] 52)) base p c P.s L F F Z P b lv) := AS.start h hb
  obtain ⟨x0, x1, x2, x11, x12, x13, x14, x15⟩ := BRaw.cells h.row
  have hx : Z < w.heap.size := heap_lt h.row
  obtain ⟨M, rfl⟩ := h.mem.ptr
  have SC : Hid (∀ w' L' F', AS w w' base (.pointer (some ⟨M, 0, none⟩)) c P.s L' F F' Z P b lv → w'.cell? ⟨Z, 13, none⟩ = some (.int .i64 b.old)) := fun w' _ _ h => h.cells.2.2.2.2.2.1
  unfold Does ansM at *
  generalize overV (wordOf L (hdB P b.old)) b.old = ov at *
  generalize wordOf L (hdB P b.old) = v at *
  generalize loadL c P.s L t (hdB P b.old) = L' at *
  clear h hk
  cases ov
  · rw [if_pos rfl, if_neg (by simp)]
    go_enter Try.func86, Try.ntmps86
    go_wp2_with fail
    go_region_with ((first
      | (go_at_call 77; have q0 := QL.out.drew; refine (HH.out _ q0).mono ?_; clear q0; rintro e w1 ⟨rfl, F1, q1⟩; have Q1 : Hid (AS w w1 base (.pointer (some ⟨M, 0, none⟩)) c P.s L' F F1 Z P b lv) := q1; clear q1; have c13 := SC.out _ _ _ Q1.out)
      | (go_at_call 76; refine (HO.out _).mono ?_; rintro e w' ⟨rfl, rfl⟩)))
    all_goals
      clear QL c13 x0 x1 x2 x11 x12 x13 x14 x15
      go_wp2_with fail
      refine (HX.out _ _ _ _ Q1.out).mono ?_
      rintro e w4 ⟨rfl, q4⟩
      have Q4 : Hid (AS w w4 base (.pointer (some ⟨M, 0, none⟩)) c P.s L' F F1 Z P b lv) := q4
      clear q4 Q1
      obtain ⟨⟨a0, a1, a2, a3⟩, g0, g1, g2, g3⟩ := ans_cells Q4.out.an
      have hB := heap_lt Q4.out.an
      go_wp2
      exact ret_ans rfl rfl (ans_set rfl Q4.out.an 1 true) rfl rfl ⟨rfl, F1, Q4.out.fin 1 true⟩
  · rw [if_neg (by simp), if_pos rfl]
    go_enter Try.func86, Try.ntmps86
    go_wp2_with fail
    go_region_with ((first
      | (go_at_call 77; have q0 := QL.out.drew; refine (HH.out _ q0).mono ?_; clear q0; rintro e w1 ⟨rfl, F1, q1⟩; have Q1 : Hid (AS w w1 base (.pointer (some ⟨M, 0, none⟩)) c P.s L' F F1 Z P b lv) := q1; clear q1; have c13 := SC.out _ _ _ Q1.out)
      | (go_at_call 76; refine (HO.out _).mono ?_; rintro e w' ⟨rfl, rfl⟩)))
    all_goals
      clear QL c13 x0 x1 x2 x11 x12 x13 x14 x15
      go_wp2_with fail
      refine (HV.out _ _ _ Q1.out).mono ?_
      rintro e w4 ⟨rfl, q4⟩
      have Q4 : Hid (AS w w4 base (.pointer (some ⟨M, 0, none⟩)) c P.s L' F F1 Z P (overB P b) lv) := q4
      clear q4 Q1
      obtain ⟨⟨a0, a1, a2, a3⟩, g0, g1, g2, g3⟩ := ans_cells Q4.out.an
      have hB := heap_lt Q4.out.an
      go_wp2
      exact ret_ans rfl rfl (ans_set rfl Q4.out.an 2 true) rfl rfl ⟨rfl, F1, Q4.out.fin 2 true⟩
set_option maxRecDepth 10000 in
set_option maxHeartbeats 6400000 in
theorem ball_any {w : World} {base : Nat} {p : Value} {c : Nat} {L : List Ac} {F : List Nat} {Z : Nat} {P : Bp} {b : Bk} {lv : Value} (h : BS w base p c P.s L F Z P b lv) (hb : base ≤ w.heap.size) (hL : L.length < 3298534883328) (hk : BkOk P b) (t : Int) :
    Does 72 w base p c P.s F Z P lv t (if overV (wordOf L (hdB P (P.st - 1))) (P.st - 1) = false then 1 else 2) (loadL c P.s L t (hdB P (P.st - 1))) (if overV (wordOf L (hdB P (P.st - 1))) (P.st - 1) then goB P ⟨b.nx, b.wd, b.old, true, b.wr⟩ else b) := by
  have HH : Hid (∀ w', AS w w' base p c P.s L F F Z P b lv → Calls Try.prog 77 #[.pointer (some ⟨Z, 0, none⟩), p, .int .i64 t, .int .i64 (P.st - 1)] w' fun e w'' => e = .returned (.int .i64 (wordOf L (hdB P (P.st - 1)))) ∧ ∃ F'', AS w w'' base p c P.s (loadL c P.s L t (hdB P (P.st - 1))) F F'' Z P b lv) := fun w' h => as_head h hL hk.p t (P.st - 1)
  have HO : Hid (∀ w, Calls Try.prog 76 #[.int .i64 (wordOf L (hdB P (P.st - 1))), .int .i64 (P.st - 1)] w fun e w' => e = .returned (.bool (overV (wordOf L (hdB P (P.st - 1))) (P.st - 1))) ∧ w' = w) := over_any _ _
  have HX : Hid (∀ w' L' F' b', AS w w' base p c P.s L' F F' Z P b' lv → Calls Try.prog 78 #[] w' fun e w'' => e = .returned (ansM 1) ∧ AS w w'' base p c P.s L' F F' Z P b' lv) := fun w' L' F' b' h => as_waits h
  have HM : Hid (∀ w' L' F' b', AS w w' base p c P.s L' F F' Z P b' lv → Calls Try.prog 48 #[] w' fun e w'' => e = .returned (ansM 2) ∧ AS w w'' base p c P.s L' F F' Z P b' lv) := fun w' L' F' b' h => as_moved h
  have HG : Hid (∀ w' L' F', AS w w' base p c P.s L' F F' Z P ⟨b.nx, b.wd, b.old, true, b.wr⟩ lv → Calls Try.prog 64 #[.pointer (some ⟨Z, 0, none⟩)] w' fun e w'' => e = .returned (.tuple #[]) ∧ AS w w'' base p c P.s L' F F' Z P (goB P ⟨b.nx, b.wd, b.old, true, b.wr⟩) lv) := fun w' L' F' h => as_goOn h hk.p hk.wr
  have QL : Hid (AS w (w.alloc (.cells #[.int .i64 0, .int .i64 0, .int .i64 0, .bool false] 52)) base p c P.s L F F Z P b lv) := AS.start h hb
  obtain ⟨x0, x1, x2, x11, x12, x13, x14, x15⟩ := BRaw.cells h.row
  have hx : Z < w.heap.size := heap_lt h.row
  obtain ⟨M, rfl⟩ := h.mem.ptr
  have SC : Hid (∀ w' L' F', AS w w' base (.pointer (some ⟨M, 0, none⟩)) c P.s L' F F' Z P b lv → w'.cell? ⟨Z, 1, none⟩ = some (.int .i64 P.st)) := fun w' _ _ h => h.cells.2.1
  have hw : wrap64 (P.st - 1) = P.st - 1 := by
    have := hk.p.st1
    have := hk.p.st2
    unfold wrap64; omega
  have hw' : IntKind.i64.wrap (P.st - 1) = P.st - 1 := by
    have := hk.p.st1
    have := hk.p.st2
    rw [IntKind.wrap_i64]; omega
  unfold Does ansM at *
  generalize overV (wordOf L (hdB P (P.st - 1))) (P.st - 1) = ov at *
  generalize wordOf L (hdB P (P.st - 1)) = v at *
  generalize loadL c P.s L t (hdB P (P.st - 1)) = L' at *
  clear h hk
  cases ov
  · rw [if_pos rfl, if_neg (by simp)]
    go_enter Try.func72, Try.ntmps72
    go_wp2_with fail
    go_region_with ((first
      | (go_at_call 77; have q0 := QL.out.drew; refine (HH.out _ q0).mono ?_; clear q0; rintro e w1 ⟨rfl, F1, q1⟩; have Q1 : Hid (AS w w1 base (.pointer (some ⟨M, 0, none⟩)) c P.s L' F F1 Z P b lv) := q1; clear q1; have c1 := SC.out _ _ _ Q1.out)
      | (go_at_call 76; refine (HO.out _).mono ?_; rintro e w' ⟨rfl, rfl⟩)))
    all_goals
      clear QL c1 x0 x1 x2 x11 x12 x13 x14 x15
      go_wp2_with fail
      refine (HX.out _ _ _ _ Q1.out).mono ?_
      rintro e w4 ⟨rfl, q4⟩
      have Q4 : Hid (AS w w4 base (.pointer (some ⟨M, 0, none⟩)) c P.s L' F F1 Z P b lv) := q4
      clear q4 Q1
      obtain ⟨⟨a0, a1, a2, a3⟩, g0, g1, g2, g3⟩ := ans_cells Q4.out.an
      have hB := heap_lt Q4.out.an
      go_wp2
      exact ret_ans rfl rfl (ans_set rfl Q4.out.an 1 true) rfl rfl ⟨rfl, F1, Q4.out.fin 1 true⟩
  · rw [if_neg (by simp), if_pos rfl]
    go_enter Try.func72, Try.ntmps72
    go_wp2_with fail
    go_region_with ((first
      | (go_at_call 77; have q0 := QL.out.drew; refine (HH.out _ q0).mono ?_; clear q0; rintro e w1 ⟨rfl, F1, q1⟩; have Q1 : Hid (AS w w1 base (.pointer (some ⟨M, 0, none⟩)) c P.s L' F F1 Z P b lv) := q1; clear q1; have c1 := SC.out _ _ _ Q1.out)
      | (go_at_call 76; refine (HO.out _).mono ?_; rintro e w' ⟨rfl, rfl⟩)))
    all_goals
      clear QL c1 x0 x1 x2 x11 x12 x13 x14 x15
      obtain ⟨f11, f12, f13, f14, f15⟩ := Q1.out.fz
      obtain ⟨y0, y1, y2, y11, y12, y13, y14, y15⟩ := Q1.out.cells
      have hx2 : Z < w'.heap.size := Q1.out.z
      have Q2 : Hid (AS w (w'.setCell ⟨Z, 14, none⟩ (.bool true)) base (.pointer (some ⟨M, 0, none⟩)) c P.s L' F F1 Z P ⟨b.nx, b.wd, b.old, true, b.wr⟩ lv) := Q1.out.onRow (BRaw.set14 Q1.out.bs.row true) (keepZ (Keep.refl _ _) _ _)
      go_wp2_with fail
      refine (HG.out _ _ _ Q2.out).mono ?_
      rintro e w3 ⟨rfl, q3⟩
      have Q3 : Hid (AS w w3 base (.pointer (some ⟨M, 0, none⟩)) c P.s L' F F1 Z P (goB P ⟨b.nx, b.wd, b.old, true, b.wr⟩) lv) := q3
      clear q3 Q1 Q2 f11 f12 f13 f14 f15 y0 y1 y2 y11 y12 y13 y14 y15
      go_wp2_with fail
      refine (HM.out _ _ _ _ Q3.out).mono ?_
      rintro e w4 ⟨rfl, q4⟩
      have Q4 : Hid (AS w w4 base (.pointer (some ⟨M, 0, none⟩)) c P.s L' F F1 Z P (goB P ⟨b.nx, b.wd, b.old, true, b.wr⟩) lv) := q4
      clear q4 Q3
      obtain ⟨⟨a0, a1, a2, a3⟩, g0, g1, g2, g3⟩ := ans_cells Q4.out.an
      have hB := heap_lt Q4.out.an
      go_wp2
      exact ret_ans rfl rfl (ans_set rfl Q4.out.an 2 true) rfl rfl ⟨rfl, F1, Q4.out.fin 2 true⟩
end Go.Proofs.Ytbmmicfdnfpcaaa
