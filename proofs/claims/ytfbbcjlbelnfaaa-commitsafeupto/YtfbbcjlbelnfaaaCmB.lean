/- The program's machine of layer 10: New, held, head, noneUnderWay, slotIsFree. -/
import Derived.Test.YtfbbcjlbelnfaaaCmA
namespace Go.Proofs.Ytfbbcjlbelnfaaa
open Go.ChangeShapes Go.WideShapes Go.ChangeAt Go.RowKit
attribute [local go_sem ↓] Go.wp_at_zero Go.wp_at_succ

set_option maxRecDepth 10000 in
theorem mbegin_no {w : World} {Z : Nat} {s n : Int} {mu : Bool} {z : Int} {rd : List Nat} {st : Int} {x : Value} {seen stamp : Int} (h : CRow w Z s n mu z rd st x seen stamp) (hr : Sg.Ok rd) (hno : ¬ (1 ≤ s ∧ s ≤ 16 ∧ 0 ≤ z)) :
    Calls Try.prog 26 #[.pointer (some ⟨Z, 0, none⟩)] w fun e w' => e = .returned (.int .i64 1) ∧ Keep [Z] w w' := by
  have HC : Hid (∀ w, Calls Try.prog 46 #[.int .i64 s, .int .i64 z, .agg #[rdV rd 0, rdV rd 1, rdV rd 2, rdV rd 3, rdV rd 4, rdV rd 5, rdV rd 6, rdV rd 7], .bool false] w fun e w' => e = .returned (.tuple #[.pointer none, .int .i64 1]) ∧ Below w.heap.size w w') := fun w => by
    rw [rd_cells hr.1]
    exact cnew_no w s z rd false hno
  have hx : Z < w.heap.size := heap_lt h
  have HX : Hid (CRow w Z s n mu z rd st x seen stamp) := h
  obtain ⟨x0, x1, x2, x3, x4, x5, x6, x7⟩ := CRow.cells h
  obtain ⟨y0, y1, y2, y3, y4, y5, y6, y7⟩ := CRow.reads h
  clear h hr hno
  unfold rdV at *
  generalize rd.getD 0 0 = n0 at *
  generalize rd.getD 1 0 = n1 at *
  generalize rd.getD 2 0 = n2 at *
  generalize rd.getD 3 0 = n3 at *
  generalize rd.getD 4 0 = n4 at *
  generalize rd.getD 5 0 = n5 at *
  generalize rd.getD 6 0 = n6 at *
  generalize rd.getD 7 0 = n7 at *
  go_enter Try.func26, Try.ntmps26
  go_wp2
  go_region_with ((go_at_call 46; refine (HC.out _).mono ?_; rintro e w1 ⟨rfl, hb1⟩))
  all_goals
    have hb : Below w.heap.size w w1 := by first | exact below_then (below_drawn (Below.refl _ _) 1) hb1 | exact hb1
    have HK1 : Hid (Keep [Z] w w1) := Keep.of_below hb _
    clear x0 x1 x2 x3 x4 x5 x6 x7 y0 y1 y2 y3 y4 y5 y6 y7
    obtain ⟨x0, x1, x2, x3, x4, x5, x6, x7⟩ := CRow.cells (HX.out.below hb hx)
    obtain ⟨f0, f1, f2, f3⟩ := CRow.fz (HX.out.below hb hx)
    have hx1 : Z < w1.heap.size := Nat.lt_of_lt_of_le hx hb.size
    clear hb1 hb
    go_wp2
    go_ret
    exact ⟨rfl, kkeep (kkeep HK1.out _ _) _ _⟩
def confC (raw s wr n : Int) (mu : Bool) (tr : Int) (v : Value) : Value := .agg #[.int .i64 raw, .int .i64 s, .int .i64 wr, .int .i64 n, .bool mu, .int .i64 tr, v]
theorem kbelow {w0 w w' : World} {Z : Nat} (hb : Below w0.heap.size w0 w) (hz : w0.heap.size ≤ Z) (k : Keep [Z] w w') : Below w0.heap.size w0 w' :=
  hb.trans (k.below hb.size (fun q hq => by simp at hq; omega))
theorem heap_alloc3_new (w : World) (a b o : Obj) : (((w.alloc a).alloc b).alloc o).heap[w.heap.size + 1 + 1]? = some o := by
  have := heap_alloc_new ((w.alloc a).alloc b) o
  simpa using this
set_option maxRecDepth 10000 in
set_option maxHeartbeats 1600000 in
theorem mnew_yes (w : World) {P : Cp} (hp : POk P) (hl : P.last = false) (h1 : 1 ≤ P.ex.n) (h2 : P.ex.n ≤ 1099511627776) (raw wr tr : Int) (v : Value) :
    Calls Try.prog 7 #[confC raw (P.s : Int) wr P.ex.n P.ex.mu tr v, .int .i64 P.z, .agg #[rdV P.rd 0, rdV P.rd 1, rdV P.rd 2, rdV P.rd 3, rdV P.rd 4, rdV P.rd 5, rdV P.rd 6, rdV P.rd 7]] w fun e w' => ∃ Z X, e = .returned (.tuple #[.pointer (some ⟨Z, 0, none⟩), .int .i64 0]) ∧ w.heap.size ≤ Z ∧ w.heap.size ≤ X ∧ Z ≠ X ∧ CAt w' Z P cuNew (ptr X) ∧ KAt w' X P (ckNew P) ∧ Below w.heap.size w w' := by
  have HB : Hid (∀ w Z, CAt w Z P cuNew (.pointer none) → Calls Try.prog 26 #[.pointer (some ⟨Z, 0, none⟩)] w fun e w' => e = .returned (.int .i64 0) ∧ ∃ X, CAt w' Z P cuNew (ptr X) ∧ KAt w' X P (ckNew P) ∧ w.heap.size ≤ X ∧ Keep [Z] w w') := fun w Z h => mbegin_yes h hp hl
  have HKA : Hid (∀ w Z, w.heap[Z]? = some (.cells #[.int .i64 (P.s : Int), .int .i64 P.ex.n, .bool P.ex.mu, .int .i64 P.z, rdV P.rd 0, rdV P.rd 1, rdV P.rd 2, rdV P.rd 3, rdV P.rd 4, rdV P.rd 5, rdV P.rd 6, rdV P.rd 7, .int .i64 0, .pointer none, .int .i64 0, .int .i64 0] 88 (0, 0)) → CAt w Z P cuNew (.pointer none)) := fun w Z h => h
  have d1 : decide (P.ex.n < 1) = false := decide_eq_false (by omega)
  have d2 : decide (1099511627776 < P.ex.n) = false := decide_eq_false (by omega)
  unfold confC
  unfold rdV at *
  generalize P.rd.getD 0 0 = n0 at *
  generalize P.rd.getD 1 0 = n1 at *
  generalize P.rd.getD 2 0 = n2 at *
  generalize P.rd.getD 3 0 = n3 at *
  generalize P.rd.getD 4 0 = n4 at *
  generalize P.rd.getD 5 0 = n5 at *
  generalize P.rd.getD 6 0 = n6 at *
  generalize P.rd.getD 7 0 = n7 at *
  clear hp hl h1 h2
  go_enter Try.func7, Try.ntmps7
  go_wp2_with fail
  refine (HB.out _ _ (HKA.out _ _ (heap_alloc3_new _ _ _ _))).mono ?_
  rintro e w1 ⟨rfl, X, hc, hk, hX, hkp⟩
  have HE : Hid (w.heap.size ≤ X ∧ w.heap.size + 1 + 1 ≠ X ∧ CAt w1 (w.heap.size + 1 + 1) P cuNew (ptr X) ∧ KAt w1 X P (ckNew P) ∧ Below w.heap.size w w1) := ⟨by simp at hX; omega, by simp at hX; omega, hc, hk, kbelow (below_alloc (below_alloc (below_a1 _ _) _) _) (by omega) hkp⟩
  clear hc hk hX hkp
  go_wp2
  go_ret2
  exact ⟨_, X, rfl, by omega, HE.out⟩
theorem mnew_no (w : World) (raw s wr n : Int) (mu : Bool) (tr : Int) (v : Value) (z : Int) (rd : List Nat) (hr : Sg.Ok rd) (h : ¬ (1 ≤ s ∧ s ≤ 16 ∧ 0 ≤ z ∧ 1 ≤ n ∧ n ≤ 1099511627776)) :
    Calls Try.prog 7 #[confC raw s wr n mu tr v, .int .i64 z, .agg #[rdV rd 0, rdV rd 1, rdV rd 2, rdV rd 3, rdV rd 4, rdV rd 5, rdV rd 6, rdV rd 7]] w fun e w' => e = .returned (.tuple #[.pointer none, .int .i64 1]) ∧ Below w.heap.size w w' := by
  have HB : Hid (¬ (1 ≤ s ∧ s ≤ 16 ∧ 0 ≤ z) → ∀ w Z, CRow w Z s n mu z rd 0 (.pointer none) 0 0 → Calls Try.prog 26 #[.pointer (some ⟨Z, 0, none⟩)] w fun e w' => e = .returned (.int .i64 1) ∧ Keep [Z] w w') := fun hno w Z h => mbegin_no h hr hno
  have HKA : Hid (∀ w Z, w.heap[Z]? = some (.cells #[.int .i64 s, .int .i64 n, .bool mu, .int .i64 z, rdV rd 0, rdV rd 1, rdV rd 2, rdV rd 3, rdV rd 4, rdV rd 5, rdV rd 6, rdV rd 7, .int .i64 0, .pointer none, .int .i64 0, .int .i64 0] 88 (0, 0)) → CRow w Z s n mu z rd 0 (.pointer none) 0 0) := fun w Z h => h
  unfold confC
  unfold rdV at *
  generalize rd.getD 0 0 = n0 at *
  generalize rd.getD 1 0 = n1 at *
  generalize rd.getD 2 0 = n2 at *
  generalize rd.getD 3 0 = n3 at *
  generalize rd.getD 4 0 = n4 at *
  generalize rd.getD 5 0 = n5 at *
  generalize rd.getD 6 0 = n6 at *
  generalize rd.getD 7 0 = n7 at *
  by_cases c0 : n < 1
  · have d0 : decide (n < 1) = true := decide_eq_true c0
    clear h c0 hr HB HKA
    go_enter Try.func7, Try.ntmps7
    go_wp2
    go_ret2
    exact ⟨rfl, below_alloc (below_a1 _ _) _⟩
  · have d0 : decide (n < 1) = false := decide_eq_false c0
    by_cases c1 : 1099511627776 < n
    · have d1 : decide (1099511627776 < n) = true := decide_eq_true c1
      clear h c0 c1 hr HB HKA
      go_enter Try.func7, Try.ntmps7
      go_wp2
      go_ret2
      exact ⟨rfl, below_alloc (below_a1 _ _) _⟩
    · have d1 : decide (1099511627776 < n) = false := decide_eq_false c1
      have HB2 : Hid (∀ w Z, CRow w Z s n mu z rd 0 (.pointer none) 0 0 → Calls Try.prog 26 #[.pointer (some ⟨Z, 0, none⟩)] w fun e w' => e = .returned (.int .i64 1) ∧ Keep [Z] w w') := HB.out (fun hc => h ⟨hc.1, hc.2.1, hc.2.2, by omega, by omega⟩)
      clear h c0 c1 hr HB
      go_enter Try.func7, Try.ntmps7
      go_wp2_with fail
      refine (HB2.out _ _ (HKA.out _ _ (heap_alloc3_new _ _ _ _))).mono ?_
      rintro e w1 ⟨rfl, hkp⟩
      have HE : Hid (Below w.heap.size w w1) := kbelow (below_alloc (below_alloc (below_a1 _ _) _) _) (by omega) hkp
      clear hkp
      go_wp2
      go_ret2
      exact ⟨rfl, HE.out⟩
theorem row_set {w : World} {Z B : Nat} {o : Obj} (hr : w.heap[B]? = some o) (hne : B ≠ Z) (i : Nat) (v : Value) : (w.setCell ⟨Z, i, none⟩ v).heap[B]? = some o := by
  rw [(kkeep (Keep.refl [Z] w) i v).block B (heap_lt hr) (by simpa using hne)]; exact hr
theorem mfin {w w3 : World} {Z : Nat} {P : Cp} {u : Cu} {x : Value} (hc : CAt w3 Z P u x) (hx : Z < w.heap.size) (hk : Keep [Z] w w3) (k e v : Int) (y : Bool) : CAt (laidW w3 w.heap.size k e v y) Z P u x ∧ Keep [Z] w (laidW w3 w.heap.size k e v y) :=
  ⟨hc.keep (keepWB k e v y) (by simp; omega), hk.trans (keepWB k e v y) (fun q hq => by simp at hq; subst hq; exact Or.inr (Nat.le_refl _))⟩
def ans0 : Obj := .cells #[.int .i64 0, .int .i64 0, .int .i64 0, .bool false] 52
/-- What held does. -/
theorem mheld_any {w : World} {Z : Nat} {P : Cp} {u : Cu} {x : Value} (h : CAt w Z P u x) :
    Calls Try.prog 50 #[.pointer (some ⟨Z, 0, none⟩)] w fun e w' => e = .returned (ansW (heldK P u.seen) (heldE P u.seen) 0 true) ∧ CAt w' Z P (heldU P u u.seen) x ∧ Keep [Z] w w' := by
  have HM : Hid (∀ w, Calls Try.prog 53 #[] w fun e w' => e = .returned (ansW 2 0 0 true) ∧ Below w.heap.size w w') := moved_any
  have HX : Hid (CAt w Z P u x) := h
  obtain ⟨x0, x1, x2, x3, x4, x5, x6, x7⟩ := CRow.cells h
  obtain ⟨f0, f1, f2, f3⟩ := CRow.fz h
  have hx : Z < w.heap.size := heap_lt h
  clear h
  unfold heldK heldE heldU spent
  obtain ⟨st, seen, stamp⟩ := u
  simp only at *
  generalize hmu : P.ex.mu = mu at *
  generalize hn : P.ex.n = n at *
  have HN : Hid (P.ex.mu = mu ∧ P.ex.n = n) := ⟨hmu, hn⟩
  clear hmu hn
  unfold ansW at *
  by_cases c0 : seen < 0
  · have d0 : decide (seen < 0) = true := decide_eq_true c0
    rw [d0]
    simp only [Bool.true_or, if_true]
    go_enter Try.func50, Try.ntmps50
    go_wp2
    go_quiet (fail)
    go_wp2
    have hr0 : ((w.alloc ans0).drewN nq).heap[w.heap.size]? = some (.cells #[.int .i64 0, .int .i64 0, .int .i64 0, .bool false] 52 (0, 0)) := heap_alloc_new _ _
    have hc0 : CAt ((w.alloc ans0).drewN nq) Z P ⟨st, seen, stamp⟩ x := HX.out.below (below_drawn (below_a1 w ans0) nq) hx
    have hc3 : CAt (((w.alloc ans0).drewN nq).setCell ⟨Z, 12, none⟩ (.int .i64 3)) Z P ⟨3, seen, stamp⟩ x := (cset hc0 3 x).1
    exact ret_ans rfl rfl (ansW_set rfl (row_set hr0 (by omega) _ _) 4 6 0 true) rfl rfl ⟨rfl, mfin hc3 hx (kkeep (Keep.of_below (below_drawn (below_a1 w ans0) nq) _) _ _) 4 6 0 true⟩
  · have d0 : decide (seen < 0) = false := decide_eq_false c0
    rw [d0]
    simp only [Bool.false_or]
    by_cases c1 : n ≤ seen
    · have d1 : decide (n ≤ seen) = true := decide_eq_true c1
      rw [d1]
      simp only [if_true]
      go_enter Try.func50, Try.ntmps50
      go_wp2
      go_quiet (fail)
      go_wp2
      have hr0 : ((w.alloc ans0).drewN nq).heap[w.heap.size]? = some (.cells #[.int .i64 0, .int .i64 0, .int .i64 0, .bool false] 52 (0, 0)) := heap_alloc_new _ _
      have hc0 : CAt ((w.alloc ans0).drewN nq) Z P ⟨st, seen, stamp⟩ x := HX.out.below (below_drawn (below_a1 w ans0) nq) hx
      have hc3 : CAt (((w.alloc ans0).drewN nq).setCell ⟨Z, 12, none⟩ (.int .i64 3)) Z P ⟨3, seen, stamp⟩ x := (cset hc0 3 x).1
      exact ret_ans rfl rfl (ansW_set rfl (row_set hr0 (by omega) _ _) 4 6 0 true) rfl rfl ⟨rfl, mfin hc3 hx (kkeep (Keep.of_below (below_drawn (below_a1 w ans0) nq) _) _ _) 4 6 0 true⟩
    · have d1 : decide (n ≤ seen) = false := decide_eq_false c1
      rw [d1]
      simp only [Bool.false_eq_true, if_false]
      by_cases c2 : seen = 0
      · subst c2
        cases mu
        · simp only [and_self, if_true]
          go_enter Try.func50, Try.ntmps50
          go_wp2
          go_quiet (fail)
          go_wp2_with fail
          refine (HM.out _).mono ?_
          rintro e w1 ⟨rfl, hb1⟩
          have hr0 : ((w.alloc ans0).drewN nq).heap[w.heap.size]? = some (.cells #[.int .i64 0, .int .i64 0, .int .i64 0, .bool false] 52 (0, 0)) := heap_alloc_new _ _
          have hc0 : CAt ((w.alloc ans0).drewN nq) Z P ⟨st, 0, stamp⟩ x := HX.out.below (below_drawn (below_a1 w ans0) nq) hx
          have hc3 := show CAt ((((w.alloc ans0).drewN nq).setCell ⟨Z, 12, none⟩ (.int .i64 1)).setCell ⟨Z, 12, none⟩ (.int .i64 2)) Z P ⟨2, 0, stamp⟩ x from (cset (show CAt (((w.alloc ans0).drewN nq).setCell ⟨Z, 12, none⟩ (.int .i64 1)) Z P ⟨1, 0, stamp⟩ x from (cset hc0 1 x).1) 2 x).1
          have hr3 := row_set (row_set hr0 (show w.heap.size ≠ Z by omega) 12 (.int .i64 1)) (show w.heap.size ≠ Z by omega) 12 (.int .i64 2)
          have hk3 : Keep [Z] w _ := kkeep (kkeep (Keep.of_below (below_drawn (below_a1 w ans0) nq) _) 12 (.int .i64 1)) 12 (.int .i64 2)
          have HE : Hid (w1.heap[w.heap.size]? = some (.cells #[.int .i64 0, .int .i64 0, .int .i64 0, .bool false] 52 (0, 0)) ∧ CAt w1 Z P ⟨2, 0, stamp⟩ x ∧ Keep [Z] w w1) := ⟨row_on hr3 hb1, hc3.below hb1 (heap_lt hc3), hk3.trans (Keep.of_below hb1 []) (fun q hq => by simp at hq)⟩
          obtain ⟨⟨a0, a1, a2, a3⟩, g0, g1, g2, g3⟩ := ans_cells HE.out.1
          have hB1 := heap_lt HE.out.1
          clear hr0 hc0 hc3 hr3 hk3 hb1
          go_wp2
          exact ret_ans rfl rfl (ansW_set rfl HE.out.1 2 0 0 true) rfl rfl ⟨rfl, mfin HE.out.2.1 hx HE.out.2.2 2 0 0 true⟩
        · rw [if_neg (by simp)]
          go_enter Try.func50, Try.ntmps50
          go_wp2
          go_quiet (fail)
          go_wp2_with fail
          refine (HM.out _).mono ?_
          rintro e w1 ⟨rfl, hb1⟩
          have hr0 : ((w.alloc ans0).drewN nq).heap[w.heap.size]? = some (.cells #[.int .i64 0, .int .i64 0, .int .i64 0, .bool false] 52 (0, 0)) := heap_alloc_new _ _
          have hc0 : CAt ((w.alloc ans0).drewN nq) Z P ⟨st, 0, stamp⟩ x := HX.out.below (below_drawn (below_a1 w ans0) nq) hx
          have hc3 := show CAt (((w.alloc ans0).drewN nq).setCell ⟨Z, 12, none⟩ (.int .i64 1)) Z P ⟨1, 0, stamp⟩ x from (cset hc0 1 x).1
          have hr3 := row_set hr0 (show w.heap.size ≠ Z by omega) 12 (.int .i64 1)
          have hk3 : Keep [Z] w _ := kkeep (Keep.of_below (below_drawn (below_a1 w ans0) nq) _) 12 (.int .i64 1)
          have HE : Hid (w1.heap[w.heap.size]? = some (.cells #[.int .i64 0, .int .i64 0, .int .i64 0, .bool false] 52 (0, 0)) ∧ CAt w1 Z P ⟨1, 0, stamp⟩ x ∧ Keep [Z] w w1) := ⟨row_on hr3 hb1, hc3.below hb1 (heap_lt hc3), hk3.trans (Keep.of_below hb1 []) (fun q hq => by simp at hq)⟩
          obtain ⟨⟨a0, a1, a2, a3⟩, g0, g1, g2, g3⟩ := ans_cells HE.out.1
          have hB1 := heap_lt HE.out.1
          clear hr0 hc0 hc3 hr3 hk3 hb1
          go_wp2
          exact ret_ans rfl rfl (ansW_set rfl HE.out.1 2 0 0 true) rfl rfl ⟨rfl, mfin HE.out.2.1 hx HE.out.2.2 2 0 0 true⟩
      · have d2 : (seen == 0) = false := by simpa using c2
        rw [if_neg (fun hc => c2 hc.1)]
        go_enter Try.func50, Try.ntmps50
        go_wp2
        go_quiet (fail)
        go_wp2_with fail
        refine (HM.out _).mono ?_
        rintro e w1 ⟨rfl, hb1⟩
        have hr0 : ((w.alloc ans0).drewN nq).heap[w.heap.size]? = some (.cells #[.int .i64 0, .int .i64 0, .int .i64 0, .bool false] 52 (0, 0)) := heap_alloc_new _ _
        have hc0 : CAt ((w.alloc ans0).drewN nq) Z P ⟨st, seen, stamp⟩ x := HX.out.below (below_drawn (below_a1 w ans0) nq) hx
        have hc3 := show CAt (((w.alloc ans0).drewN nq).setCell ⟨Z, 12, none⟩ (.int .i64 1)) Z P ⟨1, seen, stamp⟩ x from (cset hc0 1 x).1
        have hr3 := row_set hr0 (show w.heap.size ≠ Z by omega) 12 (.int .i64 1)
        have hk3 : Keep [Z] w _ := kkeep (Keep.of_below (below_drawn (below_a1 w ans0) nq) _) 12 (.int .i64 1)
        have HE : Hid (w1.heap[w.heap.size]? = some (.cells #[.int .i64 0, .int .i64 0, .int .i64 0, .bool false] 52 (0, 0)) ∧ CAt w1 Z P ⟨1, seen, stamp⟩ x ∧ Keep [Z] w w1) := ⟨row_on hr3 hb1, hc3.below hb1 (heap_lt hc3), hk3.trans (Keep.of_below hb1 []) (fun q hq => by simp at hq)⟩
        obtain ⟨⟨a0, a1, a2, a3⟩, g0, g1, g2, g3⟩ := ans_cells HE.out.1
        have hB1 := heap_lt HE.out.1
        clear hr0 hc0 hc3 hr3 hk3 hb1
        go_wp2
        exact ret_ans rfl rfl (ansW_set rfl HE.out.1 2 0 0 true) rfl rfl ⟨rfl, mfin HE.out.2.1 hx HE.out.2.2 2 0 0 true⟩
end Go.Proofs.Ytfbbcjlbelnfaaa
