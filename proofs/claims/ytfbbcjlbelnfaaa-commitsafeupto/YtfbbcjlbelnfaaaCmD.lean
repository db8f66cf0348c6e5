/- The program's machine of layer 10: hold, swap, Step. -/
import Derived.Test.YtfbbcjlbelnfaaaCmC
namespace Go.Proofs.Ytfbbcjlbelnfaaa
open Go.ChangeShapes Go.WideShapes Go.ChangeAt Go.RowKit
attribute [local go_sem ↓] Go.wp_at_zero Go.wp_at_succ

theorem kstep_w {w : World} {base : Nat} {p : Value} {c r : Nat} {L : List Ac} {F : List Nat} {X : Nat} {P : Cp} {b : Ck} {n : Nat} (h : KS w base p c r L F X P b) (hb : base ≤ w.heap.size) (hL : L.length < 3298534883328) (hk : KOk P b n) (hg : goesK r P b = true) (hv : W64 (wordOf L (adK P b))) (t : Int) :
    Calls Try.prog 48 #[.pointer (some ⟨X, 0, none⟩), p, .int .i64 t] w fun e w' => e = .returned (ansW (ansKK r P b L) (errKK r P b L) 0 true) ∧ ∃ F', KS w' base p c r (nextKL c r P b L t) F' X P (nextK r P b L) ∧ Next (X :: F) (X :: F') w w' := by
  unfold ansKK errKK nextKL nextK
  rw [if_pos hg, if_pos hg, if_pos hg, if_pos hg]
  obtain ⟨h2, rfl⟩ := goesK_iff.mp hg
  refine (cstep_some ⟨h.mem, h.at_, h.out, h.lo⟩ hb hL hk h2 hv t).mono ?_
  rintro e w' ⟨rfl, F', h3, h4⟩
  exact ⟨rfl, F', ⟨h3.mem, h3.at_, h3.out, h3.lo⟩, h4⟩
set_option maxRecDepth 10000 in
set_option maxHeartbeats 800000 in
theorem mhold_any {w : World} {base : Nat} {p : Value} {c r : Nat} {L : List Ac} {F : List Nat} {X Z : Nat} {P : Cp} {b : Ck} {u : Cu} {n : Nat} (h : CS w base p c r L F X Z P b u) (hb : base ≤ w.heap.size) (hL : L.length < 3298534883328) (hk : KOk P b n) (hg : goesK r P b = true) (hv : W64 (wordOf L (adK P b))) (t : Int) :
    Calls Try.prog 32 #[.pointer (some ⟨Z, 0, none⟩), p, .int .i64 t] w fun e w' => e = .returned (ansW (holdA r P b L) (holdE r P b L) 0 true) ∧ ∃ F', CS w' base p c r (nextKL c r P b L t) F' X Z P (nextK r P b L) (holdU r P b u L) ∧ Next (Z :: X :: F) (Z :: X :: F') w w' := by
  have HK : Hid (∀ w', Below w.heap.size w w' → Calls Try.prog 48 #[.pointer (some ⟨X, 0, none⟩), p, .int .i64 t] w' fun e w'' => e = .returned (.agg #[.int .i64 (ansKK r P b L), .int .i64 (errKK r P b L), .int .i64 0, .bool true]) ∧ ∃ F', CS w'' base p c r (nextKL c r P b L t) F' X Z P (nextK r P b L) u ∧ Next (Z :: X :: F) (Z :: X :: F') w' w'') := fun w' hb' => by
    refine (kstep_w (h.below hb').ks (Nat.le_trans hb hb'.size) hL hk hg hv t).mono ?_
    rintro e w'' ⟨rfl, F', h1, h2⟩
    exact ⟨rfl, F', (h.below hb').onKS h1 h2, nextX h2⟩
  have HA : Hid (ansKK r P b L = 3 → (nextK r P b L).st = 4) := (ansKK_go (L := L) hg).2.1
  have HS : Hid (ansKK r P b L = 3 → ∀ w F' L', CS w base p c r L' F' X Z P (nextK r P b L) u → Calls Try.prog 49 #[.pointer (some ⟨X, 0, none⟩)] w fun e w' => e = .returned (.tuple #[.int .i64 (nextK r P b L).comp, .int .i64 (nextK r P b L).seen, .bool true]) ∧ Below w.heap.size w w') := fun h3 w F' L' hc => by
    have := cstart_any hc.ks.at_
    rw [HA.out h3] at this
    exact this
  have HD : Hid (∀ w v, CAt w Z P ⟨u.st, v, u.stamp⟩ (ptr X) → Calls Try.prog 50 #[.pointer (some ⟨Z, 0, none⟩)] w fun e w' => e = .returned (.agg #[.int .i64 (heldK P v), .int .i64 (heldE P v), .int .i64 0, .bool true]) ∧ CAt w' Z P (heldU P u v) (ptr X) ∧ Keep [Z] w w') := fun w v hc => mheld_any hc
  obtain ⟨x0, x1, x2, x3, x4, x5, x6, x7⟩ := CRow.cells h.cm
  unfold ptr at x5
  have HLT : Hid (∀ q ∈ Z :: X :: F, q < w.heap.size) := fun q hq => (h.lt q hq).2
  have hx : Z < w.heap.size := heap_lt h.cm
  have hX : X < w.heap.size := heap_lt h.ks.at_
  obtain ⟨M, rfl⟩ := h.ks.mem.ptr
  unfold holdA holdE holdU ansW
  clear HA h hk hg hv
  generalize ansKK r P b L = kk at *
  generalize errKK r P b L = ee at *
  generalize nextKL c r P b L t = L' at *
  generalize nextK r P b L = b' at *
  by_cases k3 : kk = 3
  · subst k3
    have HS2 := HS.out rfl
    clear HS
    rw [if_pos rfl, if_pos rfl, if_neg (by omega), if_pos rfl]
    go_enter Try.func32, Try.ntmps32
    go_wp2_with fail
    refine (HK.out _ (below_a1 _ _)).mono ?_
    rintro e w1 ⟨rfl, F', h1, n1⟩
    obtain ⟨r1, o1, nn1⟩ := nx_row HLT.out (below_a1 _ _) (heap_alloc_new _ _) n1
    have HE : Hid (w1.heap[w.heap.size]? = some (.cells #[.int .i64 0, .int .i64 0, .int .i64 0, .bool false] 52 (0, 0)) ∧ CS w1 base (.pointer (some ⟨M, 0, none⟩)) c r L' F' X Z P b' u ∧ w.heap.size ∉ Z :: X :: F' ∧ Next (Z :: X :: F) (Z :: X :: F') w w1) := ⟨r1, h1, o1, nn1⟩
    clear x0 x1 x2 x3 x4 x5 x6 x7
    obtain ⟨x0, x1, x2, x3, x4, x5, x6, x7⟩ := CRow.cells h1.cm
    unfold ptr at x5
    obtain ⟨f0, f1, f2, f3⟩ := CRow.fz h1.cm
    have hx1 : Z < w1.heap.size := heap_lt h1.cm
    have hX1 : X < w1.heap.size := heap_lt h1.ks.at_
    have hB1 := heap_lt r1
    clear h1 n1 r1 o1 nn1
    go_wp2_with fail
    refine (HS2 _ F' L' (HE.out.2.1.below (below_a1 _ _))).mono ?_
    rintro e w2 ⟨rfl, hb2'⟩
    have hb2 : Below w1.heap.size w1 w2 := below_then (below_a1 _ _) hb2'
    have HE2 : Hid (w2.heap[w.heap.size]? = some (.cells #[.int .i64 0, .int .i64 0, .int .i64 0, .bool false] 52 (0, 0)) ∧ CS w2 base (.pointer (some ⟨M, 0, none⟩)) c r L' F' X Z P b' u ∧ w.heap.size ∉ Z :: X :: F' ∧ Next (Z :: X :: F) (Z :: X :: F') w w2) := ⟨row_on HE.out.1 hb2, HE.out.2.1.below hb2, HE.out.2.2.1, HE.out.2.2.2.trans (Next.of_below hb2 _)⟩
    clear x0 x1 x2 x3 x4 x5 x6 x7 f0 f1 f2 f3 hx1 hX1 hB1 hb2 hb2' HE HK
    obtain ⟨x0, x1, x2, x3, x4, x5, x6, x7⟩ := CRow.cells HE2.out.2.1.cm
    obtain ⟨f0, f1, f2, f3⟩ := CRow.fz HE2.out.2.1.cm
    have hx1 : Z < w2.heap.size := heap_lt HE2.out.2.1.cm
    go_wp2_with fail
    refine (HD.out _ b'.seen (show CAt (w2.setCell ⟨Z, 14, none⟩ (.int .i64 b'.seen)) Z P ⟨u.st, b'.seen, u.stamp⟩ (ptr X) from (cset HE2.out.2.1.cm b'.seen (ptr X)).2.2.1)).mono ?_
    rintro e w3 ⟨rfl, hc3, hk3⟩
    have hk23 : Keep [Z] w2 w3 := (kkeep (Keep.refl [Z] w2) 14 (.int .i64 b'.seen)).trans hk3 (fun q hq => Or.inl hq)
    have hne : w.heap.size ≠ Z := fun e => HE2.out.2.2.1 (by simp [e])
    have hz3 := HE2.out.2.1.onZ hc3 hk23
    have HE3 : Hid (w3.heap[w.heap.size]? = some (.cells #[.int .i64 0, .int .i64 0, .int .i64 0, .bool false] 52 (0, 0)) ∧ CS w3 base (.pointer (some ⟨M, 0, none⟩)) c r L' F' X Z P b' (heldU P u b'.seen) ∧ w.heap.size ∉ Z :: X :: F' ∧ Next (Z :: X :: F) (Z :: X :: F') w w3) := ⟨by rw [hk23.block _ (heap_lt HE2.out.1) (by simpa using hne)]; exact HE2.out.1, hz3.1, HE2.out.2.2.1, HE2.out.2.2.2.trans hz3.2⟩
    clear x0 x1 x2 x3 x4 x5 x6 x7 f0 f1 f2 f3 hx1 hc3 hk3 hk23 hz3 HE2
    obtain ⟨⟨a0, a1, a2, a3⟩, g0, g1, g2, g3⟩ := ans_cells HE3.out.1
    have hB3 := heap_lt HE3.out.1
    go_wp2
    exact ret_ans rfl rfl (ansW_set rfl HE3.out.1 (heldK P b'.seen) (heldE P b'.seen) 0 true) rfl rfl ⟨rfl, F', cs_other HE3.out.2.1 HE3.out.2.2.1 (Nat.le_refl _) HE3.out.2.2.2 (keepWB _ _ 0 true)⟩
  · rw [if_neg k3, if_neg k3]
    by_cases k4 : kk = 4
    · subst k4
      rw [if_pos rfl]
      go_enter Try.func32, Try.ntmps32
      go_wp2_with fail
      refine (HK.out _ (below_a1 _ _)).mono ?_
      rintro e w1 ⟨rfl, F', h1, n1⟩
      obtain ⟨r1, o1, nn1⟩ := nx_row HLT.out (below_a1 _ _) (heap_alloc_new _ _) n1
      have HE : Hid (w1.heap[w.heap.size]? = some (.cells #[.int .i64 0, .int .i64 0, .int .i64 0, .bool false] 52 (0, 0)) ∧ CS w1 base (.pointer (some ⟨M, 0, none⟩)) c r L' F' X Z P b' u ∧ w.heap.size ∉ Z :: X :: F' ∧ Next (Z :: X :: F) (Z :: X :: F') w w1) := ⟨r1, h1, o1, nn1⟩
      clear x0 x1 x2 x3 x4 x5 x6 x7
      obtain ⟨x0, x1, x2, x3, x4, x5, x6, x7⟩ := CRow.cells h1.cm
      obtain ⟨f0, f1, f2, f3⟩ := CRow.fz h1.cm
      have hx1 : Z < w1.heap.size := heap_lt h1.cm
      obtain ⟨⟨a0, a1, a2, a3⟩, g0, g1, g2, g3⟩ := ans_cells r1
      have hB1 := heap_lt r1
      clear h1 n1 r1 o1 nn1
      go_wp2
      have hne : w.heap.size ≠ Z := fun e => HE.out.2.2.1 (by simp [e])
      have hz := HE.out.2.1.onZ (show CAt (w1.setCell ⟨Z, 12, none⟩ (.int .i64 3)) Z P ⟨3, u.seen, u.stamp⟩ (ptr X) from (cset HE.out.2.1.cm 3 (ptr X)).1) (kkeep (Keep.refl _ _) _ _)
      have q := cs_other hz.1 HE.out.2.2.1 (Nat.le_refl _) (HE.out.2.2.2.trans hz.2) (keepWB 4 ee 0 true)
      exact ret_ans rfl rfl (row_on (ansW_set rfl (row_set HE.out.1 hne 12 (.int .i64 3)) 4 ee 0 true) (below_a1 _ _)) rfl rfl ⟨rfl, F', q.1.below (below_a1 _ _), q.2.trans (Next.of_below (below_a1 _ _) _)⟩
    · rw [if_neg k4, if_neg k3]
      have d3 : (kk == 3) = false := by simpa using k3
      have d4 : (kk == 4) = false := by simpa using k4
      go_enter Try.func32, Try.ntmps32
      go_wp2_with fail
      refine (HK.out _ (below_a1 _ _)).mono ?_
      rintro e w1 ⟨rfl, F', h1, n1⟩
      obtain ⟨r1, o1, nn1⟩ := nx_row HLT.out (below_a1 _ _) (heap_alloc_new _ _) n1
      have HE : Hid (w1.heap[w.heap.size]? = some (.cells #[.int .i64 0, .int .i64 0, .int .i64 0, .bool false] 52 (0, 0)) ∧ CS w1 base (.pointer (some ⟨M, 0, none⟩)) c r L' F' X Z P b' u ∧ w.heap.size ∉ Z :: X :: F' ∧ Next (Z :: X :: F) (Z :: X :: F') w w1) := ⟨r1, h1, o1, nn1⟩
      obtain ⟨⟨a0, a1, a2, a3⟩, g0, g1, g2, g3⟩ := ans_cells r1
      have hB1 := heap_lt r1
      clear h1 n1 r1 o1 nn1 x0 x1 x2 x3 x4 x5 x6 x7
      go_wp2
      have q := cs_other HE.out.2.1 HE.out.2.2.1 (Nat.le_refl _) HE.out.2.2.2 (keepWB kk ee 0 true)
      exact ret_ans rfl rfl (row_on (ansW_set rfl HE.out.1 kk ee 0 true) (below_a1 _ _)) rfl rfl ⟨rfl, F', q.1.below (below_a1 _ _), q.2.trans (Next.of_below (below_a1 _ _) _)⟩
theorem CS.anew {w w' : World} {base : Nat} {p : Value} {c r : Nat} {L : List Ac} {F : List Nat} {X X' Z : Nat} {P : Cp} {b b' : Ck} {u u' : Cu} (h : CS w base p c r L F X Z P b u) (hb : base ≤ w.heap.size) (hc : CAt w' Z P u' (ptr X')) (hk : KAt w' X' P b') (hX : w.heap.size ≤ X') (kp : Keep [Z] w w') : CS w' base p c r L F X' Z P b' u' ∧ Next (Z :: X :: F) (Z :: X' :: F) w w' := by
  have hZ := heap_lt h.cm
  have hZF : Z ∉ F := fun e => h.out (List.mem_cons_of_mem _ e)
  refine ⟨⟨⟨h.ks.mem.keep kp (fun q hq e => by simp at e; exact hZF (e ▸ hq)), hk, fun e => by have := (h.ks.mem.lt _ e).2; omega, by omega⟩, hc, fun e => ?_, h.lo⟩, kp.mono (fun q hq => by simp at hq; subst hq; simp), fun q hq => ?_⟩
  · rcases List.mem_cons.1 e with e | e
    · omega
    · exact hZF e
  · rcases List.mem_cons.1 hq with rfl | hq
    · exact Or.inl (by simp)
    · rcases List.mem_cons.1 hq with rfl | hq
      · exact Or.inr hX
      · exact Or.inl (by simp [hq])
set_option maxRecDepth 10000 in
set_option maxHeartbeats 800000 in
theorem mswap_any {w : World} {base : Nat} {p : Value} {c r : Nat} {L : List Ac} {F : List Nat} {X Z : Nat} {P : Cp} {b : Ck} {u : Cu} (h : CS w base p c r L F X Z P b u) (hb : base ≤ w.heap.size) (hL : L.length < 3298534883328) (hp : POk P) (hl : P.last = false) (h0 : 0 ≤ u.seen) (h1 : u.seen < 1099511627776) (t : Int) :
    Calls Try.prog 34 #[.pointer (some ⟨Z, 0, none⟩), p, .int .i64 t] w fun e w' => e = .returned (ansW (if swapsY u L then 3 else 2) 0 (if swapsY u L then u.seen + 1 else 0) true) ∧ ∃ F' X', CS w' base p c r (swapL c r L t nwA u.seen (u.seen + 1)) F' X' Z P (swapB P b u L) (swapU u L) ∧ Next (Z :: X :: F) (Z :: X' :: F') w w' := by
  have HW : Hid (∀ w', Below w.heap.size w w' → Calls Try.prog 54 #[p, .int .i64 t, .agg #[.int .i64 1, .int .i64 0, .int .i64 0], .int .i64 u.seen, .int .i64 (u.seen + 1)] w' fun e w'' => e = .returned (.tuple #[.bool (swapsY u L), .int .i64 0]) ∧ ∃ F', CS w'' base p c r (swapL c r L t nwA u.seen (u.seen + 1)) F' X Z P b u ∧ Next (Z :: X :: F) (Z :: X :: F') w' w'') := fun w' hb' => by
    have := swap_any (h.below hb').ks.mem (Nat.le_trans hb hb'.size) hL t nwA u.seen (u.seen + 1)
    rw [show isAd c r nwA = true from rfl, Bool.true_and, if_pos rfl] at this
    refine this.mono ?_
    rintro e w'' ⟨rfl, F', h1, h2⟩
    exact ⟨rfl, F', (h.below hb').onMem h1 h2, nextX (nextX h2)⟩
  have HM : Hid (∀ w, Calls Try.prog 53 #[] w fun e w' => e = .returned (.agg #[.int .i64 2, .int .i64 0, .int .i64 0, .bool true]) ∧ Below w.heap.size w w') := moved_any
  have HB : Hid (∀ w, CAt w Z P u (ptr X) → Calls Try.prog 26 #[.pointer (some ⟨Z, 0, none⟩)] w fun e w' => e = .returned (.int .i64 0) ∧ ∃ X', CAt w' Z P ⟨0, u.seen, u.stamp⟩ (ptr X') ∧ KAt w' X' P (ckNew P) ∧ w.heap.size ≤ X' ∧ Keep [Z] w w') := fun w hc => mbegin_yes hc hp hl
  have hw : wrap64 (u.seen + 1) = u.seen + 1 := by unfold wrap64; omega
  obtain ⟨x0, x1, x2, x3, x4, x5, x6, x7⟩ := CRow.cells h.cm
  have HLT : Hid (∀ q ∈ Z :: X :: F, q < w.heap.size) := fun q hq => (h.lt q hq).2
  have hx : Z < w.heap.size := heap_lt h.cm
  obtain ⟨M, rfl⟩ := h.ks.mem.ptr
  unfold swapB swapU ansW
  clear h hp hl h0 h1
  generalize swapsY u L = yy at *
  generalize swapL c r L t nwA u.seen (u.seen + 1) = L' at *
  cases yy
  · rw [if_neg (by simp), if_neg (by simp), if_neg (by simp), if_neg (by simp)]
    go_enter Try.func34, Try.ntmps34
    go_wp2_with fail
    refine (HW.out _ (below_a1 _ _)).mono ?_
    rintro e w1 ⟨rfl, F', h1, n1⟩
    obtain ⟨r1, o1, nn1⟩ := nx_row HLT.out (below_a1 _ _) (heap_alloc_new _ _) n1
    have HE : Hid (w1.heap[w.heap.size]? = some (.cells #[.int .i64 0, .int .i64 0, .int .i64 0, .bool false] 52 (0, 0)) ∧ CS w1 base (.pointer (some ⟨M, 0, none⟩)) c r L' F' X Z P b u ∧ w.heap.size ∉ Z :: X :: F' ∧ Next (Z :: X :: F) (Z :: X :: F') w w1) := ⟨r1, h1, o1, nn1⟩
    clear x0 x1 x2 x3 x4 x5 x6 x7 h1 n1 r1 o1 nn1
    go_wp2_with fail
    refine (HB.out _ HE.out.2.1.cm).mono ?_
    rintro e w2 ⟨rfl, X', hc2, hk2, hX2, kp2⟩
    have hne : w.heap.size ≠ Z := fun e => HE.out.2.2.1 (by simp [e])
    have hs1 := HE.out.2.2.2.1.size
    have hr1 := heap_lt HE.out.1
    have hz2 := HE.out.2.1.anew (Nat.le_trans hb hs1) hc2 hk2 hX2 kp2
    have HE2 : Hid (w2.heap[w.heap.size]? = some (.cells #[.int .i64 0, .int .i64 0, .int .i64 0, .bool false] 52 (0, 0)) ∧ CS w2 base (.pointer (some ⟨M, 0, none⟩)) c r L' F' X' Z P (ckNew P) ⟨0, u.seen, u.stamp⟩ ∧ w.heap.size ∉ Z :: X' :: F' ∧ Next (Z :: X :: F) (Z :: X' :: F') w w2) := ⟨by rw [kp2.block _ hr1 (by simpa using hne)]; exact HE.out.1, hz2.1, fun e => by
        rcases List.mem_cons.1 e with e | e
        · exact hne e
        · rcases List.mem_cons.1 e with e | e
          · omega
          · exact HE.out.2.2.1 (by simp [e]), HE.out.2.2.2.trans hz2.2⟩
    clear hc2 hk2 hX2 kp2 hz2 hs1 hr1 HE
    go_wp2_with fail
    refine (HM.out _).mono ?_
    rintro e w3 ⟨rfl, hb3⟩
    have HE3 : Hid (w3.heap[w.heap.size]? = some (.cells #[.int .i64 0, .int .i64 0, .int .i64 0, .bool false] 52 (0, 0)) ∧ CS w3 base (.pointer (some ⟨M, 0, none⟩)) c r L' F' X' Z P (ckNew P) ⟨0, u.seen, u.stamp⟩ ∧ w.heap.size ∉ Z :: X' :: F' ∧ Next (Z :: X :: F) (Z :: X' :: F') w w3) := ⟨row_on HE2.out.1 hb3, HE2.out.2.1.below hb3, HE2.out.2.2.1, HE2.out.2.2.2.trans (Next.of_below hb3 _)⟩
    obtain ⟨⟨a0, a1, a2, a3⟩, g0, g1, g2, g3⟩ := ans_cells HE3.out.1
    have hB3 := heap_lt HE3.out.1
    clear hb3 HE2
    go_wp2
    exact ret_ans rfl rfl (ansW_set rfl HE3.out.1 2 0 0 true) rfl rfl ⟨rfl, F', X', cs_other HE3.out.2.1 HE3.out.2.2.1 (Nat.le_refl _) HE3.out.2.2.2 (keepWB 2 0 0 true)⟩
  · rw [if_pos rfl, if_pos rfl, if_pos rfl, if_pos rfl]
    go_enter Try.func34, Try.ntmps34
    go_wp2_with fail
    refine (HW.out _ (below_a1 _ _)).mono ?_
    rintro e w1 ⟨rfl, F', h1, n1⟩
    obtain ⟨r1, o1, nn1⟩ := nx_row HLT.out (below_a1 _ _) (heap_alloc_new _ _) n1
    have HE : Hid (w1.heap[w.heap.size]? = some (.cells #[.int .i64 0, .int .i64 0, .int .i64 0, .bool false] 52 (0, 0)) ∧ CS w1 base (.pointer (some ⟨M, 0, none⟩)) c r L' F' X Z P b u ∧ w.heap.size ∉ Z :: X :: F' ∧ Next (Z :: X :: F) (Z :: X :: F') w w1) := ⟨r1, h1, o1, nn1⟩
    clear x0 x1 x2 x3 x4 x5 x6 x7
    obtain ⟨x0, x1, x2, x3, x4, x5, x6, x7⟩ := CRow.cells h1.cm
    obtain ⟨f0, f1, f2, f3⟩ := CRow.fz h1.cm
    have hx1 : Z < w1.heap.size := heap_lt h1.cm
    obtain ⟨⟨a0, a1, a2, a3⟩, g0, g1, g2, g3⟩ := ans_cells r1
    have hB1 := heap_lt r1
    clear h1 n1 r1 o1 nn1
    go_wp2
    have hne : w.heap.size ≠ Z := fun e => HE.out.2.2.1 (by simp [e])
    have hz := HE.out.2.1.onZ (show CAt ((w1.setCell ⟨Z, 12, none⟩ (.int .i64 3)).setCell ⟨Z, 15, none⟩ (.int .i64 (u.seen + 1))) Z P ⟨3, u.seen, u.seen + 1⟩ (ptr X) from (cset (cset HE.out.2.1.cm 3 (ptr X)).1 (u.seen + 1) (ptr X)).2.2.2) (kkeep (kkeep (Keep.refl _ _) _ _) _ _)
    have q := cs_other hz.1 HE.out.2.2.1 (Nat.le_refl _) (HE.out.2.2.2.trans hz.2) (keepWB 3 0 (u.seen + 1) true)
    exact ret_ans rfl rfl (ansW_set rfl (row_set (row_set HE.out.1 hne 12 (.int .i64 3)) hne 15 (.int .i64 (u.seen + 1))) 3 0 (u.seen + 1) true) rfl rfl ⟨rfl, F', X, q⟩
theorem mstep_none {w : World} {base : Nat} {p : Value} {c r : Nat} {L : List Ac} {F : List Nat} {Z : Nat} {P : Cp} {u : Cu} {x : Value} (hm : MemAt w base p c r L F) (h : CAt w Z P u x) (hn : goesC r P u = false) (t : Int) :
    Calls Try.prog 15 #[.pointer (some ⟨Z, 0, none⟩), p, .int .i64 t] w fun e w' => e = .returned (ansW 0 0 0 false) ∧ Below w.heap.size w w' := by
  have HG : Hid (∀ o, Calls Try.prog 31 #[.pointer (some ⟨Z, 0, none⟩), p] (w.alloc o) fun e w' => e = .returned (.bool false) ∧ Below (w.alloc o).heap.size (w.alloc o) w') := fun o => by
    rw [← hn]; exact mgoes_any (hm.below (below_a1 _ _)) (h.below (below_a1 _ _) (heap_lt h))
  obtain ⟨M, rfl⟩ := hm.ptr
  clear hm h hn
  unfold ansW
  go_enter Try.func15, Try.ntmps15
  go_wp2_with fail
  refine (HG.out _).mono ?_
  rintro e w1 ⟨rfl, hb⟩
  have HR : Hid (w1.heap[w.heap.size]? = some (.cells #[.int .i64 0, .int .i64 0, .int .i64 0, .bool false] 52 (0, 0))) := row_on (heap_alloc_new _ _) hb
  obtain ⟨⟨a0, a1, a2, a3⟩, g0, g1, g2, g3⟩ := ans_cells HR.out
  have hB := heap_lt HR.out
  have HB : Hid (Below w.heap.size w w1) := below_then (below_a1 _ _) hb
  clear hb
  go_wp2
  exact ret_ans rfl rfl (ansW_set rfl HR.out 0 0 0 false) rfl rfl ⟨rfl, belowW HB.out (Nat.le_refl _) 0 0 0 false⟩
set_option maxRecDepth 10000 in
/-- Step, where it goes on by one of the three. -/
theorem mstep_by {w : World} {base : Nat} {p : Value} {c r : Nat} {L L' : List Ac} {F : List Nat} {X Z : Nat} {P : Cp} {b b' : Ck} {u u' : Cu} (h : CS w base p c r L F X Z P b u) (hg : goesC r P u = true) (t kk ee vv : Int)
    (hA : u.st = 0 ∧ (∀ w', Below w.heap.size w w' → Calls Try.prog 32 #[.pointer (some ⟨Z, 0, none⟩), p, .int .i64 t] w' fun e w'' => e = .returned (ansW kk ee vv true) ∧ ∃ F' X', CS w'' base p c r L' F' X' Z P b' u' ∧ Next (Z :: X :: F) (Z :: X' :: F') w' w'') ∨
      u.st = 1 ∧ (∀ w', Below w.heap.size w w' → Calls Try.prog 33 #[.pointer (some ⟨Z, 0, none⟩), p, .int .i64 t] w' fun e w'' => e = .returned (ansW kk ee vv true) ∧ ∃ F' X', CS w'' base p c r L' F' X' Z P b' u' ∧ Next (Z :: X :: F) (Z :: X' :: F') w' w'') ∨
      u.st = 2 ∧ (∀ w', Below w.heap.size w w' → Calls Try.prog 34 #[.pointer (some ⟨Z, 0, none⟩), p, .int .i64 t] w' fun e w'' => e = .returned (ansW kk ee vv true) ∧ ∃ F' X', CS w'' base p c r L' F' X' Z P b' u' ∧ Next (Z :: X :: F) (Z :: X' :: F') w' w'')) :
    Calls Try.prog 15 #[.pointer (some ⟨Z, 0, none⟩), p, .int .i64 t] w fun e w' => e = .returned (ansW kk ee vv true) ∧ ∃ F' X', CS w' base p c r L' F' X' Z P b' u' ∧ Next (Z :: X :: F) (Z :: X' :: F') w w' := by
  have HG : Hid (∀ o, Calls Try.prog 31 #[.pointer (some ⟨Z, 0, none⟩), p] (w.alloc o) fun e w' => e = .returned (.bool true) ∧ Below (w.alloc o).heap.size (w.alloc o) w') := fun o => by
    rw [← hg]; exact mgoes_any (h.ks.mem.below (below_a1 _ _)) (h.cm.below (below_a1 _ _) (heap_lt h.cm))
  have HT : Hid (∀ w', Below w.heap.size w w' → w'.cell? ⟨Z, 12, none⟩ = some (.int .i64 u.st)) := fun w' hb' => (CRow.cells (h.below hb').cm).2.2.2.2.1
  have HLT : Hid (∀ q ∈ Z :: X :: F, q < w.heap.size) := fun q hq => (h.lt q hq).2
  have hx : Z < w.heap.size := heap_lt h.cm
  obtain ⟨M, rfl⟩ := h.ks.mem.ptr
  unfold ansW at *
  rcases hA with ⟨es, HC⟩ | ⟨es, HC⟩ | ⟨es, HC⟩
  all_goals
    have HC2 := HC
    rw [es] at HT
    clear h hg es HC
    go_enter Try.func15, Try.ntmps15
    go_wp2_with fail
    refine (HG.out _).mono ?_
    rintro e w1 ⟨rfl, hb1⟩
    have HR : Hid (w1.heap[w.heap.size]? = some (.cells #[.int .i64 0, .int .i64 0, .int .i64 0, .bool false] 52 (0, 0))) := row_on (heap_alloc_new _ _) hb1
    have HB : Hid (Below w.heap.size w w1) := below_then (below_a1 _ _) hb1
    have t2 := HT.out _ HB.out
    have hx1 : Z < w1.heap.size := Nat.lt_of_lt_of_le hx HB.out.size
    clear hb1
    go_wp2_with fail
    refine (HC2 _ HB.out).mono ?_
    rintro e w2 ⟨rfl, F', X', k2, n2⟩
    obtain ⟨r2, o2, nn2⟩ := nx_row HLT.out HB.out HR.out n2
    have HK2 : Hid (w2.heap[w.heap.size]? = some (.cells #[.int .i64 0, .int .i64 0, .int .i64 0, .bool false] 52 (0, 0)) ∧ CS w2 base (.pointer (some ⟨M, 0, none⟩)) c r L' F' X' Z P b' u' ∧ w.heap.size ∉ Z :: X' :: F' ∧ Next (Z :: X :: F) (Z :: X' :: F') w w2) := ⟨r2, k2, o2, nn2⟩
    obtain ⟨⟨a0, a1, a2, a3⟩, g0, g1, g2, g3⟩ := ans_cells HK2.out.1
    have hB := heap_lt HK2.out.1
    clear k2 n2 r2 o2 nn2 t2
    go_wp2
    exact ret_ans rfl rfl (ansW_set rfl HK2.out.1 kk ee vv true) rfl rfl ⟨rfl, F', X', cs_other HK2.out.2.1 HK2.out.2.2.1 (Nat.le_refl _) HK2.out.2.2.2 (keepWB kk ee vv true)⟩
theorem mstep {w : World} {base : Nat} {p : Value} {c r : Nat} {L : List Ac} {F : List Nat} {X Z : Nat} {P : Cp} {b : Ck} {u : Cu} (h : CS w base p c r L F X Z P b u) (hb : base ≤ w.heap.size) (hL : L.length < 3298534883328) (hk : COk P b u) (hv : goesC r P u = true → u.st = 0 → W64 (wordOf L (adK P b))) (t : Int) :
    Calls Try.prog 15 #[.pointer (some ⟨Z, 0, none⟩), p, .int .i64 t] w fun e w' => e = .returned (ansW (ansZ r P b u L) (errZ r P b u L) (valZ r P u L) (goesC r P u)) ∧ ∃ F' X', CS w' base p c r (nextCL c r P b u L t) F' X' Z P (nextCB r P b u L) (nextU r P b u L) ∧ Next (Z :: X :: F) (Z :: X' :: F') w w' := by
  unfold ansZ errZ valZ nextCL nextCB nextU
  by_cases hg : goesC r P u = true
  · simp only [if_pos hg]
    rw [hg]
    obtain ⟨e3, er⟩ := goesC_iff.mp hg
    subst er
    obtain ⟨n, kk⟩ := hk.k
    have hn2 := hk.n2
    refine mstep_by h hg t _ _ _ ?_
    by_cases e0 : u.st = 0
    · simp only [if_pos e0]
      have ht : ¬ thr b := by
        rcases hk.c with c | c | c
        · exact c.2
        · omega
        · omega
      refine Or.inl ⟨e0, fun w' hb' => ?_⟩
      refine (mhold_any (h.below hb') (Nat.le_trans hb hb'.size) hL kk (goesK_iff.mpr ⟨ht, rfl⟩) (hv hg e0) t).mono ?_
      rintro e w'' ⟨rfl, F', h1, h2⟩
      exact ⟨rfl, F', X, h1, h2⟩
    · simp only [if_neg e0]
      have hc : (u.st = 1 ∨ u.st = 2) ∧ 0 ≤ u.seen ∧ u.seen < P.ex.n := by
        rcases hk.c with c | c | c
        · omega
        · exact c
        · omega
      by_cases e1 : u.st = 1
      · simp only [if_pos e1]
        refine Or.inr (Or.inl ⟨e1, fun w' hb' => ?_⟩)
        refine (mlook_any (h.below hb') kk.p (Nat.le_trans hb hb'.size) hL hc.2.1 (by omega) t).mono ?_
        rintro e w'' ⟨rfl, F', h1, h2⟩
        exact ⟨rfl, F', X, h1, h2⟩
      · simp only [if_neg e1]
        refine Or.inr (Or.inr ⟨by omega, fun w' hb' => ?_⟩)
        exact mswap_any (h.below hb') (Nat.le_trans hb hb'.size) hL kk.p hk.last hc.2.1 (by omega) t
  · simp only [if_neg hg]
    refine (mstep_none h.ks.mem h.cm (by simpa using hg) t).mono ?_
    rintro e w' ⟨rfl, hb'⟩
    rw [show goesC r P u = false by simpa using hg]
    exact ⟨rfl, F, X, h.below hb', Next.of_below hb' _⟩
end Go.Proofs.Ytfbbcjlbelnfaaa
