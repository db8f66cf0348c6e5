/- The program's machine of layer 11: hold, write. -/
import Derived.Test.YtbmmicfdnfpcaaaBkC
namespace Go.Proofs.Ytbmmicfdnfpcaaa
open Go.ChangeShapes Go.WideShapes Go.ChangeAt Go.RowKit
attribute [local go_sem ↓] Go.wp_at_zero Go.wp_at_succ

def wdB (P : Bp) (st : Int) (j : Nat) : Ad := ⟨3, slotV st P.s, (j : Int)⟩
theorem wdB_is {c : Nat} {P : Bp} (h : BpOk P) (st : Int) {j : Nat} (hj : j < 8) : isAd c P.s (wdB P st j) = true := by
  have := slotB_bd h st
  unfold wdB; simp [isAd, this]; omega
theorem u64_bd (x : Int) : 0 ≤ IntKind.u64.wrap x ∧ (IntKind.u64.wrap x).toNat < 18446744073709551616 := by rw [IntKind.wrap_u64]; omega
set_option maxRecDepth 10000 in
set_option maxHeartbeats 6400000 in
theorem bhold_any {w : World} {base : Nat} {p : Value} {c : Nat} {L : List Ac} {F : List Nat} {Z : Nat} {P : Bp} {b : Bk} {lv : Value} (h : BS w base p c P.s L F Z P b lv) (hb : base ≤ w.heap.size) (hL : L.length < 3298534883328) (hk : BkOk P b) (h1 : b.nx = 4) (t : Int) :
    Does 85 w base p c P.s F Z P lv t 2 (loadL c P.s L t (wdB P b.old b.wd)) (if hitS P.sg b.wd (wordOf L (wdB P b.old b.wd)) then ⟨5, b.wd, b.old, b.kn, b.wr⟩ else toWordB P ⟨b.nx, b.wd + 1, b.old, b.kn, b.wr⟩) := by
  have hwd := (hk.w4 h1).1
  have ho := (hk.old (by simp [h1])).1
  have HL : Hid (∀ w', AS w w' base p c P.s L F F Z P b lv → Calls Try.prog 84 #[p, .int .i64 t, .agg #[.int .i64 3, .int .i64 (slotV b.old P.s), .int .i64 (b.wd : Int)]] w' fun e w'' => e = .returned (.tuple #[.int .i64 (wordOf L (wdB P b.old b.wd)), .int .i64 0]) ∧ ∃ F'', AS w w'' base p c P.s (loadL c P.s L t (wdB P b.old b.wd)) F F'' Z P b lv) := fun w' h => as_load h hL t (wdB P b.old b.wd) (wdB_is hk.p _ hwd)
  have HW : Hid (∀ w', AS w w' base p c P.s L F F Z P b lv → Calls Try.prog 46 #[.pointer (some ⟨Z, 0, none⟩), .int .i64 b.old] w' fun e w'' => e = .returned (.agg #[.int .i64 3, .int .i64 (slotV b.old P.s), .int .i64 (b.wd : Int)]) ∧ AS w w'' base p c P.s L F F Z P b lv) := fun w' h => as_wordAt h b.old
  have HM : Hid (∀ w' L' F' b', AS w w' base p c P.s L' F F' Z P b' lv → Calls Try.prog 48 #[] w' fun e w'' => e = .returned (ansM 2) ∧ AS w w'' base p c P.s L' F F' Z P b' lv) := fun w' L' F' b' h => as_moved h
  have HT : Hid (∀ w' L' F', AS w w' base p c P.s L' F F' Z P ⟨b.nx, b.wd + 1, b.old, b.kn, b.wr⟩ lv → Calls Try.prog 81 #[.pointer (some ⟨Z, 0, none⟩)] w' fun e w'' => e = .returned (.tuple #[]) ∧ AS w w'' base p c P.s L' F F' Z P (toWordB P ⟨b.nx, b.wd + 1, b.old, b.kn, b.wr⟩) lv) := fun w' L' F' h => as_toWord h hk.p hk.wr (by simp only; omega) ho
  have QL : Hid (AS w (w.alloc (.cells #[.int .i64 0, .int .i64 0, .int .i64 0, .bool false] 52)) base p c P.s L F F Z P b lv) := AS.start h hb
  obtain ⟨x0, x1, x2, x11, x12, x13, x14, x15⟩ := BRaw.cells h.row
  have hx : Z < w.heap.size := heap_lt h.row
  obtain ⟨M, rfl⟩ := h.mem.ptr
  have hr8 : (b.wd : Int) < 8 := by omega
  have SC : Hid (∀ w' L' F', AS w w' base (.pointer (some ⟨M, 0, none⟩)) c P.s L' F F' Z P b lv → w'.cell? ⟨Z, 3 + b.wd, none⟩ = some (.int .u64 ((P.sg.getD b.wd 0 : Nat) : Int))) := fun w' _ _ h => BRaw.sigAt h.bs.row b.wd hwd
  have hsl : P.sg.getD b.wd 0 < 18446744073709551616 := by rw [hk.p.sg]; exact (sgOf_ok _).2 _
  unfold Does ansM at *
  have HHIT : Hid (hitS P.sg b.wd (wordOf L (wdB P b.old b.wd)) = (((IntKind.u64.wrap (wordOf L (wdB P b.old b.wd))).toNat &&& P.sg.getD b.wd 0) != 0)) := rfl
  generalize hitS P.sg b.wd (wordOf L (wdB P b.old b.wd)) = hit at *
  generalize wordOf L (wdB P b.old b.wd) = v at *
  generalize loadL c P.s L t (wdB P b.old b.wd) = L' at *
  generalize P.sg.getD b.wd 0 = z at *
  generalize slotV b.old P.s = sl at *
  obtain ⟨u, hu⟩ : ∃ u : Nat, IntKind.u64.wrap v = (u : Int) := ⟨(IntKind.u64.wrap v).toNat, by have := (u64_bd v).1; omega⟩
  have hul : u < 18446744073709551616 := by have := (u64_bd v).2; rw [hu] at this; simpa using this
  have hand : bits .and .u64 (u : Int) (z : Int) = ((u &&& z : Nat) : Int) := bits_and_u64_nat _ _ hul hsl
  have HH2 : Hid (hit = ((u &&& z) != 0)) := by rw [Hid, HHIT.out, hu]; rfl
  generalize u &&& z = a at *
  clear h hk h1 ho HHIT
  cases hit
  · rw [if_neg (by simp)]
    have ha : a = 0 := by have := HH2.out; simpa using this.symm
    subst ha
    go_enter Try.func85, Try.ntmps85
    go_wp2_with fail
    refine (HW.out _ QL.out).mono ?_
    rintro e w1 ⟨rfl, q1⟩
    have Q1 : Hid (AS w w1 base (.pointer (some ⟨M, 0, none⟩)) c P.s L F F Z P b lv) := q1
    clear q1 x0 x1 x2 x11 x12 x13 x14 x15
    go_wp2_with fail
    refine (HL.out _ Q1.out).mono ?_
    rintro e w2 ⟨rfl, F2, q2⟩
    have Q2 : Hid (AS w w2 base (.pointer (some ⟨M, 0, none⟩)) c P.s L' F F2 Z P b lv) := q2
    clear q2 Q1
    obtain ⟨y0, y1, y2, y11, y12, y13, y14, y15⟩ := Q2.out.cells
    obtain ⟨f11, f12, f13, f14, f15⟩ := Q2.out.fz
    have yrd := SC.out _ _ _ Q2.out
    have hx2 : Z < w2.heap.size := Q2.out.z
    go_wp2_with fail
    go_quiet (fail)
    obtain ⟨w3, hw3⟩ : ∃ w3, w3 = w2.drewN nq := ⟨_, rfl⟩
    rw [← hw3]
    have Q3 : Hid (AS w w3 base (.pointer (some ⟨M, 0, none⟩)) c P.s L' F F2 Z P b lv) := by rw [hw3]; exact Q2.out.below (below_drawn (Below.refl _ _) _)
    clear hw3 Q2 y0 y1 y2 y11 y12 y13 y14 y15 f11 f12 f13 f14 f15 yrd hx2
    obtain ⟨y0, y1, y2, y11, y12, y13, y14, y15⟩ := Q3.out.cells
    obtain ⟨f11, f12, f13, f14, f15⟩ := Q3.out.fz
    have hx2 : Z < w3.heap.size := Q3.out.z
    have Q4 : Hid (AS w (w3.setCell ⟨Z, 12, none⟩ (.int .i64 ((b.wd : Int) + 1))) base (.pointer (some ⟨M, 0, none⟩)) c P.s L' F F2 Z P ⟨b.nx, b.wd + 1, b.old, b.kn, b.wr⟩ lv) := Q3.out.onRow (by unfold BRow; rw [show ((b.wd + 1 : Nat) : Int) = (b.wd : Int) + 1 by omega]; exact BRaw.set12 Q3.out.bs.row _) (keepZ (Keep.refl _ _) _ _)
    go_wp2_with fail
    refine (HT.out _ _ _ Q4.out).mono ?_
    rintro e w5 ⟨rfl, q5⟩
    have Q5 : Hid (AS w w5 base (.pointer (some ⟨M, 0, none⟩)) c P.s L' F F2 Z P (toWordB P ⟨b.nx, b.wd + 1, b.old, b.kn, b.wr⟩) lv) := q5
    clear q5 Q3 Q4 y0 y1 y2 y11 y12 y13 y14 y15 f11 f12 f13 f14 f15
    go_wp2_with fail
    refine (HM.out _ _ _ _ Q5.out).mono ?_
    rintro e w6 ⟨rfl, q6⟩
    have Q6 : Hid (AS w w6 base (.pointer (some ⟨M, 0, none⟩)) c P.s L' F F2 Z P (toWordB P ⟨b.nx, b.wd + 1, b.old, b.kn, b.wr⟩) lv) := q6
    clear q6 Q5
    obtain ⟨⟨a0, a1, a2, a3⟩, g0, g1, g2, g3⟩ := ans_cells Q6.out.an
    have hB := heap_lt Q6.out.an
    go_wp2
    exact ret_ans rfl rfl (ans_set rfl Q6.out.an 2 true) rfl rfl ⟨rfl, F2, Q6.out.fin 2 true⟩
  · rw [if_pos rfl]
    have ha : ¬ a = 0 := by have := HH2.out; simpa using this.symm
    have ha' : ¬ (a : Int) = 0 := by omega
    have ha2 : decide ((a : Int) = 0) = false := decide_eq_false ha'
    go_enter Try.func85, Try.ntmps85
    go_wp2_with fail
    refine (HW.out _ QL.out).mono ?_
    rintro e w1 ⟨rfl, q1⟩
    have Q1 : Hid (AS w w1 base (.pointer (some ⟨M, 0, none⟩)) c P.s L F F Z P b lv) := q1
    clear q1 x0 x1 x2 x11 x12 x13 x14 x15
    go_wp2_with fail
    refine (HL.out _ Q1.out).mono ?_
    rintro e w2 ⟨rfl, F2, q2⟩
    have Q2 : Hid (AS w w2 base (.pointer (some ⟨M, 0, none⟩)) c P.s L' F F2 Z P b lv) := q2
    clear q2 Q1
    obtain ⟨y0, y1, y2, y11, y12, y13, y14, y15⟩ := Q2.out.cells
    obtain ⟨f11, f12, f13, f14, f15⟩ := Q2.out.fz
    have yrd := SC.out _ _ _ Q2.out
    have hx2 : Z < w2.heap.size := Q2.out.z
    go_wp2_with fail
    go_quiet (fail)
    obtain ⟨w3, hw3⟩ : ∃ w3, w3 = w2.drewN nq := ⟨_, rfl⟩
    rw [← hw3]
    have Q3 : Hid (AS w w3 base (.pointer (some ⟨M, 0, none⟩)) c P.s L' F F2 Z P b lv) := by rw [hw3]; exact Q2.out.below (below_drawn (Below.refl _ _) _)
    clear hw3 Q2 y0 y1 y2 y11 y12 y13 y14 y15 f11 f12 f13 f14 f15 yrd hx2
    obtain ⟨y0, y1, y2, y11, y12, y13, y14, y15⟩ := Q3.out.cells
    obtain ⟨f11, f12, f13, f14, f15⟩ := Q3.out.fz
    have hx2 : Z < w3.heap.size := Q3.out.z
    have Q4 : Hid (AS w (w3.setCell ⟨Z, 11, none⟩ (.func (.func 86) #[] #[])) base (.pointer (some ⟨M, 0, none⟩)) c P.s L' F F2 Z P ⟨5, b.wd, b.old, b.kn, b.wr⟩ lv) := Q3.out.onRow (BRaw.set11 Q3.out.bs.row (fnB 5)) (keepZ (Keep.refl _ _) _ _)
    go_wp2_with fail
    refine (HM.out _ _ _ _ Q4.out).mono ?_
    rintro e w6 ⟨rfl, q6⟩
    have Q6 : Hid (AS w w6 base (.pointer (some ⟨M, 0, none⟩)) c P.s L' F F2 Z P ⟨5, b.wd, b.old, b.kn, b.wr⟩ lv) := q6
    clear q6 Q3 Q4 y0 y1 y2 y11 y12 y13 y14 y15 f11 f12 f13 f14 f15
    obtain ⟨⟨a0, a1, a2, a3⟩, g0, g1, g2, g3⟩ := ans_cells Q6.out.an
    have hB := heap_lt Q6.out.an
    go_wp2
    exact ret_ans rfl rfl (ans_set rfl Q6.out.an 2 true) rfl rfl ⟨rfl, F2, Q6.out.fin 2 true⟩
theorem own_wr {w : World} {base g cap : Nat} {W : List Wt} (h : w.ownsRow base 36 2 (.slice (some ⟨g, 0, none⟩) W.length cap) W.length (wtC W)) (i : Nat) (hi : i < W.length) : w.cell? ⟨g, i * 2, none⟩ = some (.int .i64 (W.getD i noWt).c) ∧ w.cell? ⟨g, i * 2 + 1, none⟩ = some (.int .i64 (W.getD i noWt).v) := by
  have hg := wtC_get W i hi
  rcases h.2 with ⟨e, _⟩ | ⟨g', cap', cur, e, _, hh, _, _, _, ht⟩
  · cases e
  · simp at e
    obtain ⟨rfl, rfl⟩ := e
    have key : ∀ j u, (wtC W)[j]? = some u → w.cell? ⟨g, j, none⟩ = some u := fun j u hu => by
      rw [cell_at hh]
      rw [← ht, List.getElem?_take] at hu
      split at hu
      · simpa using hu
      · cases hu
    exact ⟨key _ _ hg.1, key _ _ hg.2⟩
set_option maxRecDepth 10000 in
set_option maxHeartbeats 6400000 in
theorem bwrite_any {w : World} {base : Nat} {p : Value} {c : Nat} {L : List Ac} {F : List Nat} {Z : Nat} {P : Bp} {b : Bk} {lv : Value} (h : BS w base p c P.s L F Z P b lv) (hb : base ≤ w.heap.size) (hL : L.length < 3298534883328) (hk : BkOk P b) (hc : ∀ x ∈ P.W, x.c < (c : Int)) (h1 : b.nx = 6) (t : Int) :
    Does 71 w base p c P.s F Z P lv t 2 (storeL c P.s L t ⟨4, (P.W.getD b.wr noWt).c, 0⟩ (P.W.getD b.wr noWt).v) (goB P ⟨b.nx, b.wd, b.old, b.kn, b.wr + 1⟩) := by
  have hwr := hk.wr6 h1
  have hm : P.W.getD b.wr noWt ∈ P.W := by rw [List.getD_eq_getElem?_getD, List.getElem?_eq_getElem hwr]; simp
  have hc0 := (hk.p.cell _ hm).1
  have hc1 := hc _ hm
  have HS : Hid (∀ w', AS w w' base p c P.s L F F Z P b lv → Calls Try.prog 13 #[p, .int .i64 t, .agg #[.int .i64 4, .int .i64 (P.W.getD b.wr noWt).c, .int .i64 0], .int .i64 (P.W.getD b.wr noWt).v] w' fun e w'' => e = .returned (.int .i64 0) ∧ ∃ F'', AS w w'' base p c P.s (storeL c P.s L t ⟨4, (P.W.getD b.wr noWt).c, 0⟩ (P.W.getD b.wr noWt).v) F F'' Z P b lv) := fun w' h => as_store h hL t ⟨4, (P.W.getD b.wr noWt).c, 0⟩ _ (by generalize P.W.getD b.wr noWt = x at *; simp [isAd, hc0, hc1])
  have HM : Hid (∀ w' L' F' b', AS w w' base p c P.s L' F F' Z P b' lv → Calls Try.prog 48 #[] w' fun e w'' => e = .returned (ansM 2) ∧ AS w w'' base p c P.s L' F F' Z P b' lv) := fun w' L' F' b' h => as_moved h
  have HG : Hid (∀ w' L' F', AS w w' base p c P.s L' F F' Z P ⟨b.nx, b.wd, b.old, b.kn, b.wr + 1⟩ lv → Calls Try.prog 64 #[.pointer (some ⟨Z, 0, none⟩)] w' fun e w'' => e = .returned (.tuple #[]) ∧ AS w w'' base p c P.s L' F F' Z P (goB P ⟨b.nx, b.wd, b.old, b.kn, b.wr + 1⟩) lv) := fun w' L' F' h => as_goOn h hk.p (by simp only; omega)
  have QL : Hid (AS w (w.alloc (.cells #[.int .i64 0, .int .i64 0, .int .i64 0, .bool false] 52)) base p c P.s L F F Z P b lv) := AS.start h hb
  obtain ⟨x0, x1, x2, x11, x12, x13, x14, x15⟩ := BRaw.cells h.row
  have hx : Z < w.heap.size := heap_lt h.row
  have h24 := hk.p.len
  obtain ⟨M, rfl⟩ := h.mem.ptr
  obtain ⟨g, cap, rfl, _, hgl⟩ := h.own.form (by omega)
  have hcl := own_wr h.own b.wr hwr
  have hgz : g ≠ Z := fun e => h.gout g rfl (by simp [e])
  unfold Does ansM at *
  generalize storeL c P.s L t ⟨4, (P.W.getD b.wr noWt).c, 0⟩ (P.W.getD b.wr noWt).v = L' at *
  generalize P.W.getD b.wr noWt = x at *
  obtain ⟨xc, xv⟩ := x
  simp only at hcl HS
  obtain ⟨cl0, cl1⟩ := hcl
  generalize P.W.length = n at *
  have hlt : (b.wr : Int) < (n : Int) := by omega
  clear h hk h1 hm hc
  go_enter Try.func71, Try.ntmps71
  go_wp2_with fail
  go_region
  all_goals
    go_wp2_with fail
    have q1 := QL.out.below (below_drawn (below_a1 _ (.cells #[.int .i64 xc, .int .i64 xv] 36)) 1)
    refine (HS.out _ q1).mono ?_
    clear q1
    rintro e w2 ⟨rfl, F2, q2⟩
    have Q2 : Hid (AS w w2 base (.pointer (some ⟨M, 0, none⟩)) c P.s L' F F2 Z P b (.slice (some ⟨g, 0, none⟩) n cap)) := q2
    clear q2 QL x0 x1 x2 x11 x12 x13 x14 x15 cl0 cl1
    obtain ⟨y0, y1, y2, y11, y12, y13, y14, y15⟩ := Q2.out.cells
    obtain ⟨f11, f12, f13, f14, f15⟩ := Q2.out.fz
    have hx2 : Z < w2.heap.size := Q2.out.z
    have Q4 : Hid (AS w (w2.setCell ⟨Z, 15, none⟩ (.int .i64 ((b.wr : Int) + 1))) base (.pointer (some ⟨M, 0, none⟩)) c P.s L' F F2 Z P ⟨b.nx, b.wd, b.old, b.kn, b.wr + 1⟩ (.slice (some ⟨g, 0, none⟩) n cap)) := Q2.out.onRow (by unfold BRow; rw [show ((b.wr + 1 : Nat) : Int) = (b.wr : Int) + 1 by omega]; exact BRaw.set15 Q2.out.bs.row _) (keepZ (Keep.refl _ _) _ _)
    go_wp2_with fail
    refine (HG.out _ _ _ Q4.out).mono ?_
    rintro e w5 ⟨rfl, q5⟩
    have Q5 : Hid (AS w w5 base (.pointer (some ⟨M, 0, none⟩)) c P.s L' F F2 Z P (goB P ⟨b.nx, b.wd, b.old, b.kn, b.wr + 1⟩) (.slice (some ⟨g, 0, none⟩) n cap)) := q5
    clear q5 Q2 Q4 y0 y1 y2 y11 y12 y13 y14 y15 f11 f12 f13 f14 f15
    go_wp2_with fail
    refine (HM.out _ _ _ _ Q5.out).mono ?_
    rintro e w6 ⟨rfl, q6⟩
    have Q6 : Hid (AS w w6 base (.pointer (some ⟨M, 0, none⟩)) c P.s L' F F2 Z P (goB P ⟨b.nx, b.wd, b.old, b.kn, b.wr + 1⟩) (.slice (some ⟨g, 0, none⟩) n cap)) := q6
    clear q6 Q5
    obtain ⟨⟨a0, a1, a2, a3⟩, g0, g1, g2, g3⟩ := ans_cells Q6.out.an
    have hB := heap_lt Q6.out.an
    go_wp2
    exact ret_ans rfl rfl (ans_set rfl Q6.out.an 2 true) rfl rfl ⟨rfl, F2, Q6.out.fin 2 true⟩
end Go.Proofs.Ytbmmicfdnfpcaaa
