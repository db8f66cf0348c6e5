/- The program's machine of layer 11: lookAt, toWord, olderIsOver. -/
import Derived.Test.YtbmmicfdnfpcaaaBkA
namespace Go.Proofs.Ytbmmicfdnfpcaaa
open Go.ChangeShapes Go.WideShapes Go.ChangeAt Go.RowKit
attribute [local go_sem ↓] Go.wp_at_zero Go.wp_at_succ

/-- The answer's block, fresh, beside the machine. -/
def An (w0 w : World) : Prop := w.heap[w0.heap.size]? = some (.cells #[.int .i64 0, .int .i64 0, .int .i64 0, .bool false] 52 (0, 0))
theorem An.keep {w0 w w' : World} {F : List Nat} (h : An w0 w) (k : Keep F w w') (hF : w0.heap.size ∉ F) : An w0 w' := by
  unfold An; rw [k.block _ (heap_lt h) hF]; exact h
theorem An.below {w0 w w' : World} (h : An w0 w) (k : Below w.heap.size w w') : An w0 w' := h.keep (Keep.of_below k []) (by simp)
/-- A machine's row and an answer's, under way. -/
def AB (w0 w : World) (Z : Nat) (P : Bp) (b : Bk) (lv : Value) : Prop := An w0 w ∧ BRow w Z P b lv ∧ Keep [Z] w0 w ∧ Z < w0.heap.size
theorem AB.below {w0 w w' : World} {Z : Nat} {P : Bp} {b : Bk} {lv : Value} (h : AB w0 w Z P b lv) (k : Below w.heap.size w w') : AB w0 w' Z P b lv :=
  ⟨h.1.below k, h.2.1.below k (heap_lt h.2.1), h.2.2.1.trans (Keep.of_below k [Z]) (fun _ hq => Or.inl hq), h.2.2.2⟩
theorem AB.keep {w0 w w' : World} {Z : Nat} {P : Bp} {b b' : Bk} {lv : Value} (h : AB w0 w Z P b lv) (hb : BRow w' Z P b' lv) (k : Keep [Z] w w') : AB w0 w' Z P b' lv :=
  ⟨h.1.keep k (by have := h.2.2.2; simp; omega), hb, h.2.2.1.trans k (fun _ hq => Or.inl hq), h.2.2.2⟩
theorem AB.new {w : World} {Z : Nat} {P : Bp} {b : Bk} {lv : Value} (h : BRow w Z P b lv) : AB w (w.alloc (.cells #[.int .i64 0, .int .i64 0, .int .i64 0, .bool false] 52)) Z P b lv :=
  ⟨heap_alloc_new _ _, h.below (below_a1 _ _) (heap_lt h), Keep.of_below (below_a1 _ _) _, heap_lt h⟩
theorem AB.fin {w0 w : World} {Z : Nat} {P : Bp} {b : Bk} {lv : Value} (h : AB w0 w Z P b lv) (k : Int) (y : Bool) : BRow (laid4 w w0.heap.size k y) Z P b lv ∧ Keep [Z] w0 (laid4 w w0.heap.size k y) :=
  ⟨h.2.1.keep (keepB k y) (by have := h.2.2.2; simp; omega), keep4 h.2.2.1 (Nat.le_refl _) k y⟩

set_option maxRecDepth 10000 in
theorem blookAt_any {w : World} {Z : Nat} {P : Bp} {b : Bk} {lv : Value} {cap : Nat} {a : Option Addr} (h : BRow w Z P b lv) (hl : lv = .slice a P.W.length cap) (hp : BpOk P) (hb : b.wr ≤ P.W.length) (st : Int) :
    Calls Try.prog 65 #[.pointer (some ⟨Z, 0, none⟩), .int .i64 st] w fun e w' => e = .returned (.tuple #[]) ∧ BRow w' Z P (lookAtB P b st) lv ∧ Keep [Z] w w' := by
  have HG : Hid (∀ w', Below w.heap.size w w' → Calls Try.prog 64 #[.pointer (some ⟨Z, 0, none⟩)] w' fun e w'' => e = .returned (.tuple #[]) ∧ BRow w'' Z P (goB P b) lv ∧ Keep [Z] w w'') := fun w' k => (bgoOn_any (h.below k (heap_lt h)) hl hp.len hb).mono fun e w'' h => ⟨h.1, h.2.1, (Keep.of_below k _).trans h.2.2 (fun q hq => Or.inl hq)⟩
  obtain ⟨x0, x1, x2, x11, x12, x13, x14, x15⟩ := BRaw.cells h
  obtain ⟨f11, f12, f13, f14, f15⟩ := BRaw.fz h
  have hx : Z < w.heap.size := heap_lt h
  have HR : Hid (BRow w Z P b lv) := h
  have hw : wrap64 (P.st - (P.s : Int)) = P.st - (P.s : Int) := by
    have h1 := hp.s1
    have h2 := hp.s16
    have h3 := hp.st1
    have h4 := hp.st2
    unfold wrap64; omega
  clear h hl hp hb
  unfold lookAtB
  by_cases e1 : st < 1 ∨ st ≤ P.st - (P.s : Int)
  · rw [if_pos e1]
    by_cases e2 : st < 1
    · have d1 : decide (st < 1) = true := decide_eq_true e2
      clear e1
      go_enter Try.func65, Try.ntmps65
      go_wp2
      go_quiet (fail)
      go_wp2_with fail
      refine (HG.out _ (below_drawn (Below.refl _ _) _)).mono ?_
      rintro e w1 ⟨rfl, h1, k1⟩
      have HE : Hid (BRow w1 Z P (goB P b) lv ∧ Keep [Z] w w1) := ⟨h1, k1⟩
      clear h1 k1
      go_wp2
      refine bodyPost_ret (results_none rfl _ _ _) rfl ?_
      exact ⟨rfl, HE.out⟩
    · have d1 : decide (st < 1) = false := decide_eq_false e2
      have e3 : st ≤ P.st - (P.s : Int) := by omega
      have d2 : decide (st ≤ P.st - (P.s : Int)) = true := decide_eq_true e3
      clear e1
      go_enter Try.func65, Try.ntmps65
      go_wp2
      go_quiet (fail)
      go_wp2_with fail
      refine (HG.out _ (below_drawn (Below.refl _ _) _)).mono ?_
      rintro e w1 ⟨rfl, h1, k1⟩
      have HE : Hid (BRow w1 Z P (goB P b) lv ∧ Keep [Z] w w1) := ⟨h1, k1⟩
      clear h1 k1
      go_wp2
      refine bodyPost_ret (results_none rfl _ _ _) rfl ?_
      exact ⟨rfl, HE.out⟩
  · rw [if_neg e1]
    have d1 : decide (st < 1) = false := decide_eq_false (by omega)
    have d2 : decide (st ≤ P.st - (P.s : Int)) = false := decide_eq_false (by omega)
    clear e1
    go_enter Try.func65, Try.ntmps65
    go_wp2
    go_quiet (fail)
    go_wp2
    refine bodyPost_end (results_none rfl _ _ _) rfl ?_
    exact ⟨rfl, BRaw.set11 (BRaw.set13 (HR.out.below (below_drawn (Below.refl _ _) _) hx) st) (fnB 3), keepZ (keepZ ((Keep.refl _ _).drewN _) _ _) _ _⟩
set_option maxRecDepth 10000 in
theorem bover_any {w : World} {Z : Nat} {P : Bp} {b : Bk} {lv : Value} {cap : Nat} {a : Option Addr} (h : BRow w Z P b lv) (hl : lv = .slice a P.W.length cap) (hp : BpOk P) (hb : b.wr ≤ P.W.length) :
    Calls Try.prog 79 #[.pointer (some ⟨Z, 0, none⟩)] w fun e w' => e = .returned (ansM 2) ∧ BRow w' Z P (overB P b) lv ∧ Keep [Z] w w' := by
  have HM : Hid (∀ w, Calls Try.prog 48 #[] w fun e w' => e = .returned (ansM 2) ∧ Below w.heap.size w w') := bmoved_any
  have HG : Hid (∀ w' (b : Bk), b.wr ≤ P.W.length → BRow w' Z P b lv → Calls Try.prog 64 #[.pointer (some ⟨Z, 0, none⟩)] w' fun e w'' => e = .returned (.tuple #[]) ∧ BRow w'' Z P (goB P b) lv ∧ Keep [Z] w' w'') := fun w' b hb h => bgoOn_any h hl hp.len hb
  obtain ⟨x0, x1, x2, x11, x12, x13, x14, x15⟩ := BRaw.cells h
  obtain ⟨f11, f12, f13, f14, f15⟩ := BRaw.fz h
  have hx : Z < w.heap.size := heap_lt h
  have HR : Hid (BRow w Z P b lv) := h
  have hw : wrap64 (P.st - 1) = P.st - 1 := by
    have h3 := hp.st1
    have h4 := hp.st2
    unfold wrap64; omega
  clear h hl hp
  unfold ansM overB at *
  go_enter Try.func79, Try.ntmps79
  go_wp2
  go_region
  all_goals
    go_wp2_with fail
    have q : AB w ((w.setCell ⟨Z, 14, none⟩ (.bool (b.old == P.st - 1))).alloc (.cells #[.int .i64 0, .int .i64 0, .int .i64 0, .bool false] 52)) Z P ⟨b.nx, b.wd, b.old, b.old == P.st - 1, b.wr⟩ lv :=
      ⟨by unfold An; rw [show w.heap.size = (w.setCell ⟨Z, 14, none⟩ (.bool (b.old == P.st - 1))).heap.size by simp]; exact heap_alloc_new _ _, (BRaw.set14 HR.out _).below (below_a1 _ _) (by simpa using hx), (keepZ (Keep.refl _ _) _ _).alloc _, hx⟩
    have Q : Hid (AB w (World.drew ((w.setCell ⟨Z, 14, none⟩ (.bool (b.old == P.st - 1))).alloc (.cells #[.int .i64 0, .int .i64 0, .int .i64 0, .bool false] 52))) Z P ⟨b.nx, b.wd, b.old, b.old == P.st - 1, b.wr⟩ lv) := q.below (below_drawn (Below.refl _ _) 1)
    refine (HG.out _ ⟨b.nx, b.wd, b.old, b.old == P.st - 1, b.wr⟩ hb Q.out.2.1).mono ?_
    rintro e w1 ⟨rfl, h1, k1⟩
    have Q1 : Hid (AB w w1 Z P (goB P ⟨b.nx, b.wd, b.old, b.old == P.st - 1, b.wr⟩) lv) := Q.out.keep h1 k1
    clear h1 k1 q Q
    go_wp2_with fail
    refine (HM.out _).mono ?_
    rintro e w2 ⟨rfl, b2⟩
    have Q2 : Hid (AB w w2 Z P (goB P ⟨b.nx, b.wd, b.old, b.old == P.st - 1, b.wr⟩) lv) := Q1.out.below b2
    clear b2 Q1
    obtain ⟨⟨a0, a1, a2, a3⟩, g0, g1, g2, g3⟩ := ans_cells Q2.out.1
    have hB := heap_lt Q2.out.1
    go_wp2
    exact ret_ans rfl rfl (ans_set rfl Q2.out.1 2 true) rfl rfl ⟨rfl, Q2.out.fin 2 true⟩
set_option maxRecDepth 10000 in
theorem btoWord_any {w : World} {Z : Nat} {P : Bp} {b : Bk} {lv : Value} {cap : Nat} {a : Option Addr} (h : BRow w Z P b lv) (hl : lv = .slice a P.W.length cap) (hp : BpOk P) (hb : b.wr ≤ P.W.length) (hd : b.wd ≤ 8) (ho : olderOk P b.old) :
    Calls Try.prog 81 #[.pointer (some ⟨Z, 0, none⟩)] w fun e w' => e = .returned (.tuple #[]) ∧ BRow w' Z P (toWordB P b) lv ∧ Keep [Z] w w' := by
  have HG : Hid (∀ w' (b : Bk) st, b.wr ≤ P.W.length → BRow w' Z P b lv → Calls Try.prog 65 #[.pointer (some ⟨Z, 0, none⟩), .int .i64 st] w' fun e w'' => e = .returned (.tuple #[]) ∧ BRow w'' Z P (lookAtB P b st) lv ∧ Keep [Z] w' w'') := fun w' b st hb h => blookAt_any h hl hp hb st
  have hw : wrap64 (b.old - 1) = b.old - 1 := by
    have h1 := ho.1
    have h2 := ho.2.1
    have h4 := hp.st2
    unfold wrap64; omega
  have HR : Hid (BRow w Z P b lv) := h
  clear h hl hp ho
  generalize hT : toWordB P b = T
  have HT : Hid (toWordB P b = T) := hT
  clear hT
  go_enter Try.func81, Try.ntmps81
  go_wp2
  go_loopw [2] (fun _ wr => ∃ q : Nat, q ≤ 8 ∧ fsW P.sg q = fsW P.sg b.wd ∧ BRow wr Z P ⟨b.nx, q, b.old, b.kn, b.wr⟩ lv ∧ Keep [Z] w wr) (fun _ wr => 8 - (intOf ((wr.cell? ⟨Z, 12, none⟩).getD (.bool false))).toNat)
  case atStart => exact ⟨b.wd, hd, rfl, HR.out, Keep.refl _ _⟩
  case round =>
    obtain ⟨q, hq, hn, ha, hkp⟩ := hrel
    obtain ⟨x0, x1, x2, x11, x12, x13, x14, x15⟩ := BRaw.cells ha
    obtain ⟨f11, f12, f13, f14, f15⟩ := BRaw.fz ha
    simp only at x12 x13
    have HA : Hid (BRow wr Z P ⟨b.nx, q, b.old, b.kn, b.wr⟩ lv) := ha
    have HK : Hid (Keep [Z] w wr) := hkp
    have hxr : Z < wr.heap.size := heap_lt ha
    clear hkp
    by_cases hlt : q < 8
    · have d1 : decide ((q : Int) < 8) = true := by simp; omega
      have hrd := BRaw.sigAt ha q hlt
      clear ha
      unfold bsV at hrd
      have hr8 : (q : Int) < 8 := by omega
      by_cases hr : P.sg.getD q 0 = 0
      · rw [hr] at hrd
        have hn2 : fsW P.sg (q + 1) = fsW P.sg b.wd := by rw [← hn, fsW_no hlt hr]
        clear hr
        go_wp2
        go_quiet (fail)
        go_wp2
        go_roundw
        case rel => exact ⟨q + 1, by omega, hn2, by unfold BRow; rw [show ((q + 1 : Nat) : Int) = (q : Int) + 1 by omega]; exact BRaw.set12 (w := wr.drewN _) HA.out _, keepZ (HK.out.drewN _) _ _⟩
        case measure =>
          have hm := (BRaw.cells (BRaw.set12 (w := wr.drewN nq) HA.out ((q : Int) + 1))).2.2.2.2.1
          rw [x12, hm]; simp [intOf]; omega
      · have HE : Hid (fsW P.sg b.wd = q) := by rw [← hn, fsW_yes hlt hr]; exact rfl
        clear hn
        generalize P.sg.getD q 0 = z at *
        have d2 : decide ((z : Int) = 0) = false := decide_eq_false (by omega)
        go_wp2
        go_quiet (fail)
        go_wp2
        refine bodyPost_ret (results_none rfl _ _ _) rfl ?_
        refine ⟨rfl, ?_, keepZ (HK.out.drewN _) _ _⟩
        rw [← HT.out]
        unfold toWordB
        rw [HE.out, if_pos hlt]
        exact BRaw.set11 (w := wr.drewN _) HA.out (fnB 4)
    · obtain rfl : q = 8 := by omega
      have d1 : decide (((8 : Nat) : Int) < 8) = false := by simp
      have HE : Hid (fsW P.sg b.wd = 8) := by rw [← hn, fsW_end]; exact rfl
      clear ha hn
      go_wp2_with fail
      refine (HG.out _ ⟨b.nx, 8, b.old, b.kn, b.wr⟩ _ hb HA.out).mono ?_
      rintro e w1 ⟨rfl, h1, k1⟩
      have HF : Hid (BRow w1 Z P T lv ∧ Keep [Z] w w1) := by
        refine ⟨?_, HK.out.trans k1 (fun q hq => Or.inl hq)⟩
        rw [← HT.out]
        unfold toWordB
        rw [HE.out, if_neg (by omega)]
        exact h1
      clear h1 k1
      go_wp2
      refine bodyPost_end (results_none rfl _ _ _) rfl ?_
      exact ⟨rfl, HF.out⟩
end Go.Proofs.Ytbmmicfdnfpcaaa
