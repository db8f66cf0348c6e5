/- The program's machine of layer 11: layWord. -/
import Derived.Test.YtbmmicfdnfpcaaaBkC
namespace Go.Proofs.Ytbmmicfdnfpcaaa
open Go.ChangeShapes Go.WideShapes Go.ChangeAt Go.RowKit
attribute [local go_sem ↓] Go.wp_at_zero Go.wp_at_succ

set_option maxRecDepth 10000 in
set_option maxHeartbeats 6400000 in
theorem blayw_any {w : World} {base : Nat} {p : Value} {c : Nat} {L : List Ac} {F : List Nat} {Z : Nat} {P : Bp} {b : Bk} {lv : Value} (h : BS w base p c P.s L F Z P b lv) (hb : base ≤ w.heap.size) (hL : L.length < 3298534883328) (hk : BkOk P b) (h1 : b.nx = 1) (t : Int) :
    Does 27 w base p c P.s F Z P lv t 2 (storeL c P.s L t ⟨3, slotV P.st P.s, (b.wd : Int)⟩ (wrap64 ((P.sg.getD b.wd 0 : Nat) : Int))) ⟨if b.wd + 1 = 8 then 2 else 1, b.wd + 1, b.old, b.kn, b.wr⟩ := by
  have hwd := hk.w1 h1
  have E1 : Hid (b.nx = 1) := h1
  have hbd := slotB_bd hk.p P.st
  have HS : Hid (∀ w', AS w w' base p c P.s L F F Z P b lv → Calls Try.prog 13 #[p, .int .i64 t, .agg #[.int .i64 3, .int .i64 (slotV P.st P.s), .int .i64 (b.wd : Int)], .int .i64 (wrap64 ((P.sg.getD b.wd 0 : Nat) : Int))] w' fun e w'' => e = .returned (.int .i64 0) ∧ ∃ F'', AS w w'' base p c P.s (storeL c P.s L t ⟨3, slotV P.st P.s, (b.wd : Int)⟩ (wrap64 ((P.sg.getD b.wd 0 : Nat) : Int))) F F'' Z P b lv) := fun w' h => as_store h hL t ⟨3, slotV P.st P.s, (b.wd : Int)⟩ _ (by simp [isAd, hbd]; omega)
  have HW : Hid (∀ w', AS w w' base p c P.s L F F Z P b lv → Calls Try.prog 46 #[.pointer (some ⟨Z, 0, none⟩), .int .i64 P.st] w' fun e w'' => e = .returned (.agg #[.int .i64 3, .int .i64 (slotV P.st P.s), .int .i64 (b.wd : Int)]) ∧ AS w w'' base p c P.s L F F Z P b lv) := fun w' h => as_wordAt h P.st
  have QL : Hid (AS w (w.alloc (.cells #[.int .i64 0, .int .i64 0, .int .i64 0, .bool false] 52)) base p c P.s L F F Z P b lv) := AS.start h hb
  obtain ⟨x0, x1, x2, x11, x12, x13, x14, x15⟩ := BRaw.cells h.row
  have hrd := BRaw.sigAt h.row b.wd hwd
  unfold bsV at hrd
  have hx : Z < w.heap.size := heap_lt h.row
  obtain ⟨M, rfl⟩ := h.mem.ptr
  have HM : Hid (∀ w' L' F' b', AS w w' base (.pointer (some ⟨M, 0, none⟩)) c P.s L' F F' Z P b' lv → Calls Try.prog 48 #[] w' fun e w'' => e = .returned (ansM 2) ∧ AS w w'' base (.pointer (some ⟨M, 0, none⟩)) c P.s L' F F' Z P b' lv) := fun w' L' F' b' h => as_moved h
  unfold Does ansM at *
  have hr8 : (b.wd : Int) < 8 := by omega
  have SC : Hid (∀ w' L' F', AS w w' base (.pointer (some ⟨M, 0, none⟩)) c P.s L' F F' Z P b lv → w'.cell? ⟨Z, 1, none⟩ = some (.int .i64 P.st) ∧ w'.cell? ⟨Z, 12, none⟩ = some (.int .i64 (b.wd : Int)) ∧ w'.cell? ⟨Z, 3 + b.wd, none⟩ = some (.int .u64 ((P.sg.getD b.wd 0 : Nat) : Int))) := fun w' _ _ h => ⟨h.cells.2.1, h.cells.2.2.2.2.1, BRaw.sigAt h.bs.row b.wd hwd⟩
  have hwz : IntKind.i64.wrap ((P.sg.getD b.wd 0 : Nat) : Int) = wrap64 ((P.sg.getD b.wd 0 : Nat) : Int) := by rw [IntKind.wrap_i64]; unfold wrap64; omega
  generalize P.sg.getD b.wd 0 = z at *
  generalize wrap64 (z : Int) = vz at *
  generalize storeL c P.s L t ⟨3, slotV P.st P.s, (b.wd : Int)⟩ vz = L' at *
  generalize slotV P.st P.s = sl at *
  obtain ⟨B', HB'⟩ : ∃ B' : Bk, Hid (B' = ⟨if b.wd + 1 = 8 then 2 else 1, b.wd + 1, b.old, b.kn, b.wr⟩) := ⟨_, rfl⟩
  rw [← HB'.out]
  clear h hk h1
  go_enter Try.func27, Try.ntmps27
  go_wp2_with fail
  go_region_with ((first
      | (go_at_call 46; have q0 := QL.out.drew; refine (HW.out _ q0).mono ?_; clear q0; rintro e w1 ⟨rfl, q1⟩; have QL : Hid (AS w w1 base (.pointer (some ⟨M, 0, none⟩)) c P.s L F F Z P b lv) := q1; clear q1; obtain ⟨c1, c12, c3⟩ := SC.out _ _ _ QL.out)
      | (go_at_call 13; refine (HS.out _ QL.out).mono ?_; rintro e w2 ⟨rfl, F2, q2⟩)))
  all_goals
    have Q2 : Hid (AS w w2 base (.pointer (some ⟨M, 0, none⟩)) c P.s L' F F2 Z P b lv) := q2
    clear q2 QL c1 c12 c3 x0 x1 x2 x11 x12 x13 x14 x15 hrd
    obtain ⟨y0, y1, y2, y11, y12, y13, y14, y15⟩ := Q2.out.cells
    obtain ⟨f11, f12, f13, f14, f15⟩ := Q2.out.fz
    have hx2 : Z < w2.heap.size := Q2.out.z
    by_cases e8 : b.wd + 1 = 8
    · have d8 : decide ((b.wd : Int) + 1 = 8) = true := decide_eq_true (by omega)
      have d8' : (b.wd : Int) + 1 = 8 := by omega
      have q3 := BRaw.set11 (BRaw.set12 Q2.out.bs.row ((b.wd : Int) + 1)) (fnB 2)
      have Q3 : Hid (AS w ((w2.setCell ⟨Z, 12, none⟩ (.int .i64 ((b.wd : Int) + 1))).setCell ⟨Z, 11, none⟩ (.func (.func 47) #[] #[])) base (.pointer (some ⟨M, 0, none⟩)) c P.s L' F F2 Z P B' lv) := by
        rw [HB'.out, if_pos e8]
        exact Q2.out.onRow (by unfold BRow; rw [show ((b.wd + 1 : Nat) : Int) = (b.wd : Int) + 1 by omega]; exact q3) (keepZ (keepZ (Keep.refl _ _) _ _) _ _)
      rw [d8'] at Q3
      clear q3
      go_wp2_with fail
      refine (HM.out _ _ _ _ Q3.out).mono ?_
      rintro e w3 ⟨rfl, q3⟩
      have Q4 : Hid (AS w w3 base (.pointer (some ⟨M, 0, none⟩)) c P.s L' F F2 Z P B' lv) := q3
      clear q3 Q3 y0 y1 y2 y11 y12 y13 y14 y15 f11 f12 f13 f14 f15
      obtain ⟨⟨a0, a1, a2, a3⟩, g0, g1, g2, g3⟩ := ans_cells Q4.out.an
      have hB := heap_lt Q4.out.an
      go_wp2
      exact ret_ans rfl rfl (ans_set rfl Q4.out.an 2 true) rfl rfl ⟨rfl, F2, Q4.out.fin 2 true⟩
    · have d8 : decide ((b.wd : Int) + 1 = 8) = false := decide_eq_false (by omega)
      have d8' : ¬ (b.wd : Int) + 1 = 8 := by omega
      have q3 := BRaw.set12 Q2.out.bs.row ((b.wd : Int) + 1)
      have Q3 : Hid (AS w (w2.setCell ⟨Z, 12, none⟩ (.int .i64 ((b.wd : Int) + 1))) base (.pointer (some ⟨M, 0, none⟩)) c P.s L' F F2 Z P B' lv) := by
        rw [HB'.out, if_neg e8]
        exact Q2.out.onRow (by unfold BRow; rw [show ((b.wd + 1 : Nat) : Int) = (b.wd : Int) + 1 by omega, show (1 : Nat) = b.nx from E1.out.symm]; exact q3) (keepZ (Keep.refl _ _) _ _)
      clear q3
      go_wp2_with fail
      refine (HM.out _ _ _ _ Q3.out).mono ?_
      rintro e w3 ⟨rfl, q3⟩
      have Q4 : Hid (AS w w3 base (.pointer (some ⟨M, 0, none⟩)) c P.s L' F F2 Z P B' lv) := q3
      clear q3 Q3 y0 y1 y2 y11 y12 y13 y14 y15 f11 f12 f13 f14 f15
      obtain ⟨⟨a0, a1, a2, a3⟩, g0, g1, g2, g3⟩ := ans_cells Q4.out.an
      have hB := heap_lt Q4.out.an
      go_wp2
      exact ret_ans rfl rfl (ans_set rfl Q4.out.an 2 true) rfl rfl ⟨rfl, F2, Q4.out.fin 2 true⟩
end Go.Proofs.Ytbmmicfdnfpcaaa
