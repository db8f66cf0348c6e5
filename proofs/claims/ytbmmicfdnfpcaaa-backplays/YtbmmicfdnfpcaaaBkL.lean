/- The program's machine of layer 11: complete. -/
import Derived.Test.YtbmmicfdnfpcaaaBkC
namespace Go.Proofs.Ytbmmicfdnfpcaaa
open Go.ChangeShapes Go.WideShapes Go.ChangeAt Go.RowKit
attribute [local go_sem ↓] Go.wp_at_zero Go.wp_at_succ

set_option maxRecDepth 10000 in
set_option maxHeartbeats 6400000 in
theorem bcomp_any {w : World} {base : Nat} {p : Value} {c : Nat} {L : List Ac} {F : List Nat} {Z : Nat} {P : Bp} {b : Bk} {lv : Value} (h : BS w base p c P.s L F Z P b lv) (hb : base ≤ w.heap.size) (hL : L.length < 3298534883328) (hk : BkOk P b) (t : Int) :
    Does 73 w base p c P.s F Z P lv t 3 (storeL c P.s L t ⟨2, slotV P.st P.s, 0⟩ (2 * P.st + 1)) ⟨0, b.wd, b.old, b.kn, b.wr⟩ := by
  have hbd := slotB_bd hk.p P.st
  have HS : Hid (∀ w', AS w w' base p c P.s L F F Z P b lv → Calls Try.prog 13 #[p, .int .i64 t, .agg #[.int .i64 2, .int .i64 (slotV P.st P.s), .int .i64 0], .int .i64 (headV P.st true)] w' fun e w'' => e = .returned (.int .i64 0) ∧ ∃ F'', AS w w'' base p c P.s (storeL c P.s L t ⟨2, slotV P.st P.s, 0⟩ (2 * P.st + 1)) F F'' Z P b lv) := fun w' h => by
    rw [headV_is hk.p, if_pos rfl]
    exact as_store h hL t ⟨2, slotV P.st P.s, 0⟩ _ (by simp [isAd, hbd])
  have HW : Hid (∀ w', AS w w' base p c P.s L F F Z P b lv → Calls Try.prog 62 #[.pointer (some ⟨Z, 0, none⟩), .int .i64 P.st] w' fun e w'' => e = .returned (.agg #[.int .i64 2, .int .i64 (slotV P.st P.s), .int .i64 0]) ∧ AS w w'' base p c P.s L F F Z P b lv) := fun w' h => as_headOf h P.st
  have HH : Hid (∀ w, Calls Try.prog 63 #[.int .i64 P.st, .bool true] w fun e w' => e = .returned (.int .i64 (headV P.st true)) ∧ w' = w) := fun w => head_any P.st true w
  have QL : Hid (AS w (w.alloc (.cells #[.int .i64 0, .int .i64 0, .int .i64 0, .bool false] 52)) base p c P.s L F F Z P b lv) := AS.start h hb
  obtain ⟨x0, x1, x2, x11, x12, x13, x14, x15⟩ := BRaw.cells h.row
  have hx : Z < w.heap.size := heap_lt h.row
  obtain ⟨M, rfl⟩ := h.mem.ptr
  unfold Does ansM at *
  have SC : Hid (∀ w' L' F', AS w w' base (.pointer (some ⟨M, 0, none⟩)) c P.s L' F F' Z P b lv → w'.cell? ⟨Z, 1, none⟩ = some (.int .i64 P.st)) := fun w' _ _ h => h.cells.2.1
  generalize headV P.st true = hv at *
  generalize storeL c P.s L t ⟨2, slotV P.st P.s, 0⟩ (2 * P.st + 1) = L' at *
  generalize slotV P.st P.s = sl at *
  clear h hk
  go_enter Try.func73, Try.ntmps73
  go_wp2_with fail
  go_region_with ((first
      | (go_at_call 62; have q0 := QL.out.drew; refine (HW.out _ q0).mono ?_; clear q0; rintro e w1 ⟨rfl, q1⟩; have QL : Hid (AS w w1 base (.pointer (some ⟨M, 0, none⟩)) c P.s L F F Z P b lv) := q1; clear q1; have c1 := SC.out _ _ _ QL.out)
      | (go_at_call 63; refine (HH.out _).mono ?_; rintro e w' ⟨rfl, rfl⟩)
      | (go_at_call 13; refine (HS.out _ QL.out).mono ?_; rintro e w2 ⟨rfl, F2, q2⟩)))
  all_goals
    have Q2 : Hid (AS w w2 base (.pointer (some ⟨M, 0, none⟩)) c P.s L' F F2 Z P b lv) := q2
    clear q2 QL c1 x0 x1 x2 x11 x12 x13 x14 x15
    obtain ⟨y0, y1, y2, y11, y12, y13, y14, y15⟩ := Q2.out.cells
    obtain ⟨f11, f12, f13, f14, f15⟩ := Q2.out.fz
    have hx2 : Z < w2.heap.size := Q2.out.z
    have Q4 : Hid (AS w (w2.setCell ⟨Z, 11, none⟩ .nilFunc) base (.pointer (some ⟨M, 0, none⟩)) c P.s L' F F2 Z P ⟨0, b.wd, b.old, b.kn, b.wr⟩ lv) := Q2.out.onRow (BRaw.set11 Q2.out.bs.row (fnB 0)) (keepZ (Keep.refl _ _) _ _)
    obtain ⟨⟨a0, a1, a2, a3⟩, g0, g1, g2, g3⟩ := ans_cells Q2.out.an
    have hB := heap_lt Q2.out.an
    have hne : w.heap.size ≠ Z := fun e => Q2.out.no (by simp [e])
    go_wp2
    exact ret_ans rfl rfl (ans_set rfl Q4.out.an 3 true) rfl rfl ⟨rfl, F2, Q4.out.fin 3 true⟩
end Go.Proofs.Ytbmmicfdnfpcaaa
