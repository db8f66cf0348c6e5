/- The program's machine of layer 11: head, look. -/
import Derived.Test.YtbmmicfdnfpcaaaBkC
namespace Go.Proofs.Ytbmmicfdnfpcaaa
open Go.ChangeShapes Go.WideShapes Go.ChangeAt Go.RowKit
attribute [local go_sem ↓] Go.wp_at_zero Go.wp_at_succ

def hdB (P : Bp) (st : Int) : Ad := ⟨2, slotV st P.s, 0⟩
theorem hdB_is {c : Nat} {P : Bp} (h : BpOk P) (st : Int) : isAd c P.s (hdB P st) = true := by
  have := slotB_bd h st
  unfold hdB; simp [isAd, this]
set_option maxRecDepth 10000 in
theorem as_head {w0 w : World} {base : Nat} {p : Value} {c : Nat} {L : List Ac} {F F' : List Nat} {Z : Nat} {P : Bp} {b : Bk} {lv : Value} (h : AS w0 w base p c P.s L F F' Z P b lv) (hL : L.length < 3298534883328) (hp : BpOk P) (t st : Int) :
    Calls Try.prog 77 #[.pointer (some ⟨Z, 0, none⟩), p, .int .i64 t, .int .i64 st] w fun e w' => e = .returned (.int .i64 (wordOf L (hdB P st))) ∧ ∃ F'', AS w0 w' base p c P.s (loadL c P.s L t (hdB P st)) F F'' Z P b lv := by
  have HL : Hid (∀ w', AS w0 w' base p c P.s L F F' Z P b lv → Calls Try.prog 84 #[p, .int .i64 t, .agg #[.int .i64 2, .int .i64 (slotV st P.s), .int .i64 0]] w' fun e w'' => e = .returned (.tuple #[.int .i64 (wordOf L (hdB P st)), .int .i64 0]) ∧ ∃ F'', AS w0 w'' base p c P.s (loadL c P.s L t (hdB P st)) F F'' Z P b lv) := fun w' h => as_load h hL t (hdB P st) (hdB_is hp st)
  have HW : Hid (∀ w', AS w0 w' base p c P.s L F F' Z P b lv → Calls Try.prog 62 #[.pointer (some ⟨Z, 0, none⟩), .int .i64 st] w' fun e w'' => e = .returned (.agg #[.int .i64 2, .int .i64 (slotV st P.s), .int .i64 0]) ∧ AS w0 w'' base p c P.s L F F' Z P b lv) := fun w' h => as_headOf h st
  have Q : Hid (AS w0 w base p c P.s L F F' Z P b lv) := h
  obtain ⟨M, rfl⟩ := h.bs.mem.ptr
  generalize wordOf L (hdB P st) = v at *
  generalize loadL c P.s L t (hdB P st) = L' at *
  generalize slotV st P.s = sl at *
  clear h hp
  go_enter Try.func77, Try.ntmps77
  go_wp2_with fail
  refine (HW.out _ Q.out).mono ?_
  rintro e w1 ⟨rfl, q1⟩
  have Q1 : Hid (AS w0 w1 base (.pointer (some ⟨M, 0, none⟩)) c P.s L F F' Z P b lv) := q1
  clear q1
  go_wp2_with fail
  refine (HL.out _ Q1.out).mono ?_
  rintro e w2 ⟨rfl, F2, q2⟩
  have Q2 : Hid (AS w0 w2 base (.pointer (some ⟨M, 0, none⟩)) c P.s L' F F2 Z P b lv) := q2
  clear q2
  go_wp2
  go_ret
  exact ⟨rfl, F2, Q2.out⟩
set_option maxRecDepth 10000 in
set_option maxHeartbeats 6400000 in
theorem blook_any {w : World} {base : Nat} {p : Value} {c : Nat} {L : List Ac} {F : List Nat} {Z : Nat} {P : Bp} {b : Bk} {lv : Value} (h : BS w base p c P.s L F Z P b lv) (hb : base ≤ w.heap.size) (hL : L.length < 3298534883328) (hk : BkOk P b) (h1 : b.nx = 3) (t : Int) :
    Does 74 w base p c P.s F Z P lv t (if overV (wordOf L (hdB P b.old)) b.old = false ∧ laidV (wordOf L (hdB P b.old)) b.old = false then 1 else 2) (loadL c P.s L t (hdB P b.old)) (if overV (wordOf L (hdB P b.old)) b.old then overB P b else if laidV (wordOf L (hdB P b.old)) b.old then toWordB P ⟨b.nx, 0, b.old, b.kn, b.wr⟩ else b) := by
  have ho := (hk.old (by simp [h1])).1
  have HH : Hid (∀ w', AS w w' base p c P.s L F F Z P b lv → Calls Try.prog 77 #[.pointer (some ⟨Z, 0, none⟩), p, .int .i64 t, .int .i64 b.old] w' fun e w'' => e = .returned (.int .i64 (wordOf L (hdB P b.old))) ∧ ∃ F'', AS w w'' base p c P.s (loadL c P.s L t (hdB P b.old)) F F'' Z P b lv) := fun w' h => as_head h hL hk.p t b.old
  have HO : Hid (∀ w, Calls Try.prog 76 #[.int .i64 (wordOf L (hdB P b.old)), .int .i64 b.old] w fun e w' => e = .returned (.bool (overV (wordOf L (hdB P b.old)) b.old)) ∧ w' = w) := over_any _ _
  have HD : Hid (∀ w, Calls Try.prog 80 #[.int .i64 (wordOf L (hdB P b.old)), .int .i64 b.old] w fun e w' => e = .returned (.bool (laidV (wordOf L (hdB P b.old)) b.old)) ∧ w' = w) := laid_any _ _
  have HM : Hid (∀ w' L' F' b', AS w w' base p c P.s L' F F' Z P b' lv → Calls Try.prog 48 #[] w' fun e w'' => e = .returned (ansM 2) ∧ AS w w'' base p c P.s L' F F' Z P b' lv) := fun w' L' F' b' h => as_moved h
  have HX : Hid (∀ w' L' F' b', AS w w' base p c P.s L' F F' Z P b' lv → Calls Try.prog 78 #[] w' fun e w'' => e = .returned (ansM 1) ∧ AS w w'' base p c P.s L' F F' Z P b' lv) := fun w' L' F' b' h => as_waits h
  have HV : Hid (∀ w' L' F', AS w w' base p c P.s L' F F' Z P b lv → Calls Try.prog 79 #[.pointer (some ⟨Z, 0, none⟩)] w' fun e w'' => e = .returned (ansM 2) ∧ AS w w'' base p c P.s L' F F' Z P (overB P b) lv) := fun w' L' F' h => as_over h hk.p hk.wr
  have HT : Hid (∀ w' L' F', AS w w' base p c P.s L' F F' Z P ⟨b.nx, 0, b.old, b.kn, b.wr⟩ lv → Calls Try.prog 81 #[.pointer (some ⟨Z, 0, none⟩)] w' fun e w'' => e = .returned (.tuple #[]) ∧ AS w w'' base p c P.s L' F F' Z P (toWordB P ⟨b.nx, 0, b.old, b.kn, b.wr⟩) lv) := fun w' L' F' h => as_toWord h hk.p hk.wr (by simp) ho
  have QL : Hid (AS w (w.alloc (.cells #[.int .i64 0, .int .i64 0, .int .i64 0, .bool false] 52)) base p c P.s L F F Z P b lv) := AS.start h hb
  obtain ⟨x0, x1, x2, x11, x12, x13, x14, x15⟩ := BRaw.cells h.row
  have hx : Z < w.heap.size := heap_lt h.row
  obtain ⟨M, rfl⟩ := h.mem.ptr
  unfold Does ansM at *
  generalize overV (wordOf L (hdB P b.old)) b.old = ov at *
  generalize laidV (wordOf L (hdB P b.old)) b.old = la at *
  generalize wordOf L (hdB P b.old) = v at *
  generalize loadL c P.s L t (hdB P b.old) = L' at *
  clear h hk h1 ho
  cases ov
  · cases la
    · rw [if_pos ⟨rfl, rfl⟩, if_neg (by simp), if_neg (by simp)]
      go_enter Try.func74, Try.ntmps74
      go_wp2_with fail
      refine (HH.out _ QL.out).mono ?_
      rintro e w1 ⟨rfl, F1, q1⟩
      have Q1 : Hid (AS w w1 base (.pointer (some ⟨M, 0, none⟩)) c P.s L' F F1 Z P b lv) := q1
      clear q1 x0 x1 x2 x11 x12 x13 x14 x15
      obtain ⟨y0, y1, y2, y11, y12, y13, y14, y15⟩ := Q1.out.cells
      have hx2 : Z < w1.heap.size := Q1.out.z
      go_wp2_with fail
      refine (HO.out _).mono ?_
      rintro e w2 ⟨rfl, rfl⟩
      go_wp2_with fail
      refine (HD.out _).mono ?_
      rintro e w2 ⟨rfl, rfl⟩
      go_wp2_with fail
      refine (HX.out _ _ _ _ Q1.out).mono ?_
      rintro e w4 ⟨rfl, q4⟩
      have Q4 : Hid (AS w w4 base (.pointer (some ⟨M, 0, none⟩)) c P.s L' F F1 Z P b lv) := q4
      clear q4 Q1 y0 y1 y2 y11 y12 y13 y14 y15
      obtain ⟨⟨a0, a1, a2, a3⟩, g0, g1, g2, g3⟩ := ans_cells Q4.out.an
      have hB := heap_lt Q4.out.an
      go_wp2
      exact ret_ans rfl rfl (ans_set rfl Q4.out.an 1 true) rfl rfl ⟨rfl, F1, Q4.out.fin 1 true⟩
    · rw [if_neg (by simp), if_neg (by simp), if_pos rfl]
      go_enter Try.func74, Try.ntmps74
      go_wp2_with fail
      refine (HH.out _ QL.out).mono ?_
      rintro e w1 ⟨rfl, F1, q1⟩
      have Q1 : Hid (AS w w1 base (.pointer (some ⟨M, 0, none⟩)) c P.s L' F F1 Z P b lv) := q1
      clear q1 x0 x1 x2 x11 x12 x13 x14 x15
      obtain ⟨y0, y1, y2, y11, y12, y13, y14, y15⟩ := Q1.out.cells
      obtain ⟨f11, f12, f13, f14, f15⟩ := Q1.out.fz
      have hx2 : Z < w1.heap.size := Q1.out.z
      go_wp2_with fail
      refine (HO.out _).mono ?_
      rintro e w2 ⟨rfl, rfl⟩
      go_wp2_with fail
      refine (HD.out _).mono ?_
      rintro e w2 ⟨rfl, rfl⟩
      have Q2 : Hid (AS w (w2.setCell ⟨Z, 12, none⟩ (.int .i64 0)) base (.pointer (some ⟨M, 0, none⟩)) c P.s L' F F1 Z P ⟨b.nx, 0, b.old, b.kn, b.wr⟩ lv) := Q1.out.onRow (BRaw.set12 Q1.out.bs.row 0) (keepZ (Keep.refl _ _) _ _)
      go_wp2_with fail
      refine (HT.out _ _ _ Q2.out).mono ?_
      rintro e w3 ⟨rfl, q3⟩
      have Q3 : Hid (AS w w3 base (.pointer (some ⟨M, 0, none⟩)) c P.s L' F F1 Z P (toWordB P ⟨b.nx, 0, b.old, b.kn, b.wr⟩) lv) := q3
      clear q3 Q1 Q2 y0 y1 y2 y11 y12 y13 y14 y15 f11 f12 f13 f14 f15
      go_wp2_with fail
      refine (HM.out _ _ _ _ Q3.out).mono ?_
      rintro e w4 ⟨rfl, q4⟩
      have Q4 : Hid (AS w w4 base (.pointer (some ⟨M, 0, none⟩)) c P.s L' F F1 Z P (toWordB P ⟨b.nx, 0, b.old, b.kn, b.wr⟩) lv) := q4
      clear q4 Q3
      obtain ⟨⟨a0, a1, a2, a3⟩, g0, g1, g2, g3⟩ := ans_cells Q4.out.an
      have hB := heap_lt Q4.out.an
      go_wp2
      exact ret_ans rfl rfl (ans_set rfl Q4.out.an 2 true) rfl rfl ⟨rfl, F1, Q4.out.fin 2 true⟩
  · rw [if_neg (by simp), if_pos rfl]
    go_enter Try.func74, Try.ntmps74
    go_wp2_with fail
    refine (HH.out _ QL.out).mono ?_
    rintro e w1 ⟨rfl, F1, q1⟩
    have Q1 : Hid (AS w w1 base (.pointer (some ⟨M, 0, none⟩)) c P.s L' F F1 Z P b lv) := q1
    clear q1 x0 x1 x2 x11 x12 x13 x14 x15
    obtain ⟨y0, y1, y2, y11, y12, y13, y14, y15⟩ := Q1.out.cells
    have hx2 : Z < w1.heap.size := Q1.out.z
    go_wp2_with fail
    refine (HO.out _).mono ?_
    rintro e w2 ⟨rfl, rfl⟩
    go_wp2_with fail
    refine (HV.out _ _ _ Q1.out).mono ?_
    rintro e w4 ⟨rfl, q4⟩
    have Q4 : Hid (AS w w4 base (.pointer (some ⟨M, 0, none⟩)) c P.s L' F F1 Z P (overB P b) lv) := q4
    clear q4 Q1 y0 y1 y2 y11 y12 y13 y14 y15
    obtain ⟨⟨a0, a1, a2, a3⟩, g0, g1, g2, g3⟩ := ans_cells Q4.out.an
    have hB := heap_lt Q4.out.an
    go_wp2
    exact ret_ans rfl rfl (ans_set rfl Q4.out.an 2 true) rfl rfl ⟨rfl, F1, Q4.out.fin 2 true⟩
end Go.Proofs.Ytbmmicfdnfpcaaa
