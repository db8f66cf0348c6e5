/- The program's queue (layer 16): New, Next, Size. -/
import Derived.Test.YtkikogalaejnlabQuB
import Derived.Deep.CutBlock
import Derived.Deep.DeepCutAuto
namespace Go.Proofs.Ytkikogalaejnlab.Qu
open Go.ChangeShapes Go.WideShapes Go.ChangeAt Go.RowKit
attribute [local go_sem ↓] Go.wp_at_zero Go.wp_at_succ

theorem follow_any {w : World} {X : Nat} {F : List Nat} {m : Mc} (h : McAt w X F m) (v : Int) : Calls Try.prog 13 #[.pointer (some ⟨X, 0, none⟩), .int .i64 v] w (TellsM w X F (noteM m v) (wantT (noteM m v))) := by
  have HR : Hid (∀ (w : World) (m : Mc) (c : Int), McAt w X F m → 0 ≤ c ∧ c ≤ 100 → Calls Try.prog 22 #[.pointer (some ⟨X, 0, none⟩), .int .i64 c] w (Tells w (readW (m.base + c)))) := fun w m c h hc => (read_any h c hc).mono tells_of
  have HD : Hid (∀ (w : World) (z : Int), Calls Try.prog 25 #[.int .i64 z] w (Tells w (endW z 0))) := fun w z => (done_any w _).mono tells_of
  have HP : Hid (∀ (w : World) (m : Mc), McAt w X F m → Calls Try.prog 23 #[.pointer (some ⟨X, 0, none⟩)] w (Tells w (putT m))) := fun w m h => fput_any h
  have HG : Hid (∀ (w : World) (m : Mc), McAt w X F m → Calls Try.prog 24 #[.pointer (some ⟨X, 0, none⟩), .int .i64 v] w (TellsM w X F (noteG m v) (getT (noteG m v)))) := fun w m h => fget_any h v
  have HM : Hid (Mi w (w.alloc (.cells z4 24)) X F m) := Mi.first h
  obtain ⟨⟨c0, c1, c2, c3⟩, _, c8, c9, c10⟩ := h.cells
  have hx : X < w.heap.size := heap_lt h.2.1
  have f8 : w.frozen? ⟨X, 8, none⟩ = false := frozen_at h.2.1 8
  have f9 : w.frozen? ⟨X, 9, none⟩ = false := frozen_at h.2.1 9
  by_cases h0 : m.told = 0
  · have e1 : noteM m v = m := by unfold noteM; rw [if_pos h0]
    have HY : Hid (wantT m = readW (m.base + 0)) := by unfold wantT; rw [if_pos h0, Int.add_zero]; exact rfl
    rw [e1]
    rw [h0] at c3
    clear h e1 h0
    go_enter Try.func13, Try.ntmps13
    go_wp2_with fail
    refine (HR.out _ m _ HM.out.mac (by decide)).mono ?_
    rintro e w4 ⟨cs, hcs, hz, rfl, hb4⟩
    obtain ⟨w5, hs5, hm5, hr5⟩ := (HM.out.on hb4).put hcs
    clear hb4 hm5
    go_wp2_with fail
    exact ret_wn rfl rfl hr5.out.1 hz rfl ⟨cs, by rw [Hid, HY.out]; exact hcs, hz, rfl, hr5.out.2⟩
  · have g0 : (m.told == 0) = false := by simpa using h0
    by_cases h1 : m.told = 1
    · have e1 : noteM m v = { m with first := v } := by unfold noteM; rw [if_neg h0, if_pos h1]
      have HY : Hid (wantT { m with first := v } = readW (m.base + 1)) := by unfold wantT; rw [if_neg h0, if_pos h1]; exact rfl
      have HM2 : Hid (Mi w ((w.setCell ⟨X, 8, none⟩ (.int .i64 v)).alloc (.cells z4 24)) X F { m with first := v }) := Mi.fresh h 8 v rfl h.2.2
      rw [e1]
      rw [h1] at c3
      clear h e1 h0 h1 g0
      go_enter Try.func13, Try.ntmps13
      go_wp2_with fail
      refine (HR.out _ _ _ HM2.out.mac (by decide)).mono ?_
      rintro e w4 ⟨cs, hcs, hz, rfl, hb4⟩
      obtain ⟨w5, hs5, hm5, hr5⟩ := (HM2.out.on hb4).put hcs
      clear hb4 hm5
      go_wp2_with fail
      exact ret_wn rfl rfl hr5.out.1 hz rfl ⟨cs, by rw [Hid, HY.out]; exact hcs, hz, rfl, hr5.out.2⟩
    · have g1 : (m.told == 1) = false := by simpa using h1
      obtain ⟨m1, hm1⟩ : ∃ m1, m1 = if m.told = 2 then { m with len := v } else m := ⟨_, rfl⟩
      have ec : m1.call = m.call := by rw [hm1]; split <;> rfl
      have et : m1.told = m.told := by rw [hm1]; split <;> rfl
      have en : noteM m v = if m.call = 3 then m1 else if m.call = 2 then noteG m1 v else m1 := by
        unfold noteM noteG
        rw [if_neg h0, if_neg h1, ← hm1]
        simp only [ec]
      have HM1 : Hid (m.told = 2 → Mi w ((w.setCell ⟨X, 9, none⟩ (.int .i64 v)).alloc (.cells z4 24)) X F m1) := fun h2 => by
        rw [hm1, if_pos h2]
        exact Mi.fresh h 9 v rfl h.2.2
      have HM3 : Hid (m.told ≠ 2 → Mi w (w.alloc (.cells z4 24)) X F m1) := fun h2 => by
        rw [hm1, if_neg h2]
        exact HM.out
      have HW : Hid (wantT m1 = if m.call = 3 then putT m1 else if m.call = 2 then getT m1 else endW m1.len 0) := by
        unfold wantT
        rw [et, if_neg h0, if_neg h1, ec]
        exact rfl
      have HWG : Hid (m.call = 2 → wantT (noteG m1 v) = getT (noteG m1 v)) := fun hc => by
        obtain ⟨n1, n2⟩ : (noteG m1 v).told = m.told ∧ (noteG m1 v).call = m.call := by
          unfold noteG
          split
          · exact ⟨et, ec⟩
          · split
            · exact ⟨et, ec⟩
            · split <;> exact ⟨et, ec⟩
        unfold wantT
        rw [n1, n2, if_neg h0, if_neg h1, if_neg (by rw [hc]; decide), if_pos hc]
      by_cases h2 : m.told = 2
      · have HX : Hid (Mi w ((w.setCell ⟨X, 9, none⟩ (.int .i64 v)).alloc (.cells z4 24)) X F m1) := HM1.out h2
        clear g0 g1
        obtain ⟨⟨q0, q1, q2, q3⟩, _, q8, q9, q10⟩ := HX.out.mac.cells
        rw [ec] at q2
        rw [et, h2] at q3
        rw [h2] at c3
        by_cases h3 : m.call = 3
        · have en' : noteM m v = m1 := by rw [en, if_pos h3]
          have HY : Hid (putT m1 = wantT m1) := by rw [Hid, HW.out, if_pos h3]
          rw [en']
          rw [h3] at c2 q2
          clear h h0 h1 h2 h3 hm1 ec et en en' HM1 HM3 HW HWG
          go_enter Try.func13, Try.ntmps13
          go_wp2_with fail
          refine (HP.out _ _ HX.out.mac).mono ?_
          rintro e w4 ⟨cs, hcs, hz, rfl, hb4⟩
          obtain ⟨w5, hs5, hm5, hr5⟩ := (HX.out.on hb4).put hcs
          clear hb4 hm5
          go_wp2_with fail
          exact ret_wn rfl rfl hr5.out.1 hz rfl ⟨cs, by rw [Hid, ← HY.out]; exact hcs, hz, rfl, hr5.out.2⟩
        · have k3 : (m.call == 3) = false := by simpa using h3
          by_cases h4 : m.call = 2
          · have en' : noteM m v = noteG m1 v := by rw [en, if_neg h3, if_pos h4]
            have HY : Hid (getT (noteG m1 v) = wantT (noteG m1 v)) := (HWG.out h4).symm
            rw [en']
            rw [h4] at c2 q2
            clear h h0 h1 h2 h3 h4 hm1 ec et en en' HM1 HM3 HW HWG k3
            go_enter Try.func13, Try.ntmps13
            go_wp2_with fail
            refine (HG.out _ _ HX.out.mac).mono ?_
            rintro e w4 ⟨cs, hcs, hz, rfl, hm4, hn4⟩
            obtain ⟨w5, hs5, hm5, hr5⟩ := (HX.out.go hm4 hn4).put hcs
            clear hm4 hn4 hm5
            go_wp2_with fail
            exact ret_wn rfl rfl hr5.out.1 hz rfl ⟨cs, by rw [Hid, ← HY.out]; exact hcs, hz, rfl, hr5.out.2⟩
          · have k4 : (m.call == 2) = false := by simpa using h4
            have en' : noteM m v = m1 := by rw [en, if_neg h3, if_neg h4]
            have HY : Hid (endW m1.len 0 = wantT m1) := by rw [Hid, HW.out, if_neg h3, if_neg h4]
            rw [en']
            clear h h0 h1 h2 h3 h4 hm1 ec et en en' HM1 HM3 HW HWG
            go_enter Try.func13, Try.ntmps13
            go_wp2_with fail
            refine (HD.out _ _).mono ?_
            rintro e w4 ⟨cs, hcs, hz, rfl, hb4⟩
            obtain ⟨w5, hs5, hm5, hr5⟩ := (HX.out.on hb4).put hcs
            clear hb4 hm5
            go_wp2_with fail
            exact ret_wn rfl rfl hr5.out.1 hz rfl ⟨cs, by rw [Hid, ← HY.out]; exact hcs, hz, rfl, hr5.out.2⟩
      · have HX : Hid (Mi w (w.alloc (.cells z4 24)) X F m1) := HM3.out h2
        have g2 : (m.told == 2) = false := by simpa using h2
        obtain ⟨⟨q0, q1, q2, q3⟩, _, q8, q9, q10⟩ := HX.out.mac.cells
        rw [ec] at q2
        rw [et] at q3
        by_cases h3 : m.call = 3
        · have en' : noteM m v = m1 := by rw [en, if_pos h3]
          have HY : Hid (putT m1 = wantT m1) := by rw [Hid, HW.out, if_pos h3]
          rw [en']
          rw [h3] at c2 q2
          clear h h0 h1 h2 h3 hm1 ec et en en' HM1 HM3 HW HWG
          go_enter Try.func13, Try.ntmps13
          go_wp2_with fail
          refine (HP.out _ _ HX.out.mac).mono ?_
          rintro e w4 ⟨cs, hcs, hz, rfl, hb4⟩
          obtain ⟨w5, hs5, hm5, hr5⟩ := (HX.out.on hb4).put hcs
          clear hb4 hm5
          go_wp2_with fail
          exact ret_wn rfl rfl hr5.out.1 hz rfl ⟨cs, by rw [Hid, ← HY.out]; exact hcs, hz, rfl, hr5.out.2⟩
        · have k3 : (m.call == 3) = false := by simpa using h3
          by_cases h4 : m.call = 2
          · have en' : noteM m v = noteG m1 v := by rw [en, if_neg h3, if_pos h4]
            have HY : Hid (getT (noteG m1 v) = wantT (noteG m1 v)) := (HWG.out h4).symm
            rw [en']
            rw [h4] at c2 q2
            clear h h0 h1 h2 h3 h4 hm1 ec et en en' HM1 HM3 HW HWG k3
            go_enter Try.func13, Try.ntmps13
            go_wp2_with fail
            refine (HG.out _ _ HX.out.mac).mono ?_
            rintro e w4 ⟨cs, hcs, hz, rfl, hm4, hn4⟩
            obtain ⟨w5, hs5, hm5, hr5⟩ := (HX.out.go hm4 hn4).put hcs
            clear hm4 hn4 hm5
            go_wp2_with fail
            exact ret_wn rfl rfl hr5.out.1 hz rfl ⟨cs, by rw [Hid, ← HY.out]; exact hcs, hz, rfl, hr5.out.2⟩
          · have k4 : (m.call == 2) = false := by simpa using h4
            have en' : noteM m v = m1 := by rw [en, if_neg h3, if_neg h4]
            have HY : Hid (endW m1.len 0 = wantT m1) := by rw [Hid, HW.out, if_neg h3, if_neg h4]
            rw [en']
            clear h h0 h1 h2 h3 h4 hm1 ec et en en' HM1 HM3 HW HWG
            go_enter Try.func13, Try.ntmps13
            go_wp2_with fail
            refine (HD.out _ _).mono ?_
            rintro e w4 ⟨cs, hcs, hz, rfl, hb4⟩
            obtain ⟨w5, hs5, hm5, hr5⟩ := (HX.out.on hb4).put hcs
            clear hb4 hm5
            go_wp2_with fail
            exact ret_wn rfl rfl hr5.out.1 hz rfl ⟨cs, by rw [Hid, ← HY.out]; exact hcs, hz, rfl, hr5.out.2⟩
/-- What is told is laid into the machine, the wants told are one more, and the answer is laid into its variable. -/
theorem tell_facts {w w1 : World} {X : Nat} {F : List Nat} {n : Mc} {x : Wn} {cs : Array Value} (h : Mi w w1 X F n) (hcs : Hid (wnC x = cs)) (ho : OkM { n with last := x, told := n.told + 1 }) :
    ∃ w2 w4, (storeCells ⟨X, 4, none⟩ cs.toList 0).run Try.prog w1 = .ok () w2 ∧ (w2.cell? ⟨X, 3, none⟩ = some (.int .i64 n.told) ∧ w2.cell? ⟨X, 4, none⟩ = some (.int .i64 x.kind) ∧ w2.cell? ⟨X, 5, none⟩ = some (.int .i64 x.cell) ∧ w2.cell? ⟨X, 6, none⟩ = some (.int .i64 x.val) ∧ w2.cell? ⟨X, 7, none⟩ = some (.int .i64 x.code)) ∧ w2.frozen? ⟨X, 3, none⟩ = false ∧
      #[.int .i64 x.kind, .int .i64 x.cell, .int .i64 x.val, .int .i64 x.code] = cs ∧ (storeCells ⟨w.heap.size, 0, none⟩ cs.toList 0).run Try.prog (w2.setCell ⟨X, 3, none⟩ (.int .i64 (n.told + 1))) = .ok () w4 ∧ Hid (w4.heap[w.heap.size]? = some (.cells cs 24 (0, 0)) ∧ McAt w4 X F { n with last := x, told := n.told + 1 } ∧ Next F F w w4) := by
  have hX := h.lt
  rw [← hcs.out]
  have hs := run_storeCells_at Try.prog X 4 46 (wnC x).toList 0 (mcC n) w1 h.mac.2.1 (by simp [mcC, wnC]) (fun v hv => (Array.all_eq_true_iff_forall_mem.1 (wnC_one x)) v (by simpa using hv))
  obtain ⟨w2, hw2⟩ : ∃ w2, w2 = w1.setRow X (mcC { n with last := x }) := ⟨_, rfl⟩
  have h2 : w2.heap[X]? = some (.cells (mcC { n with last := x }) 46 (0, 0)) := by rw [hw2]; exact setRow_heap _ _ _ _ _ _ h.mac.2.1
  have r2 : w2.heap[w.heap.size]? = some (.cells z4 24 (0, 0)) := by rw [hw2, setRow_other _ _ _ _ (by omega)]; exact h.row
  have h3 : (w2.setCell ⟨X, 3, none⟩ (.int .i64 (n.told + 1))).heap[X]? = some (.cells (mcC { n with last := x, told := n.told + 1 }) 46 (0, 0)) := by rw [heap_set h2]; rfl
  have r3 : (w2.setCell ⟨X, 3, none⟩ (.int .i64 (n.told + 1))).heap[w.heap.size]? = some (.cells z4 24 (0, 0)) := by rw [heap_set_other _ _ (by omega)]; exact r2
  refine ⟨w2, (w2.setCell ⟨X, 3, none⟩ (.int .i64 (n.told + 1))).setRow w.heap.size (wnC x), by rw [hs, hw2]; rfl, ⟨by rw [cell_at h2]; rfl, by rw [cell_at h2]; rfl, by rw [cell_at h2]; rfl, by rw [cell_at h2]; rfl, by rw [cell_at h2]; rfl⟩, frozen_at h2 3, rfl, store_wn r3 rfl rfl (wnC_one x), setRow_heap _ _ _ _ _ _ r3, ⟨h.mac.1, by rw [setRow_other _ _ _ _ (by omega)]; exact h3, ho⟩, ?_, fun b hb => Or.inl hb⟩
  have hk := h.nx.1
  refine ⟨by rw [hw2]; exact hk.os, by rw [hw2]; exact hk.tape, by rw [hw2]; exact hk.output, ?_, fun b hb hn => ?_⟩
  · rw [setRow_size]
    have : (w2.setCell ⟨X, 3, none⟩ (.int .i64 (n.told + 1))).heap.size = w2.heap.size := by simp
    rw [this, hw2, setRow_size]
    exact hk.size
  · have hne : b ≠ X := fun e => hn (by rw [h.mac.1, e]; simp)
    rw [setRow_other _ _ _ _ (by omega), heap_set_other _ _ (Ne.symm hne), hw2, setRow_other _ _ _ _ hne]
    exact hk.block b hb hn
theorem want_end {m : Mc} (h : 5 ≤ m.told) : (wantT m).kind = 6 := by
  unfold wantT putT getT
  rw [if_neg (by omega), if_neg (by omega)]
  split
  · split
    · rw [if_neg (by omega), if_neg (by omega)]; rfl
    · rfl
  · split
    · split
      · rfl
      · rw [if_neg (by omega), if_neg (by omega), if_neg (by omega)]; rfl
    · rfl
theorem ok_go {m : Mc} (h : OkM m) (hk : m.last.kind ≠ 6) (v : Int) : OkM { noteM m v with last := wantT (noteM m v), told := (noteM m v).told + 1 } := by
  obtain ⟨hb, hm, h1, h2, h3⟩ := h
  obtain ⟨n1, n2, n3, n4, n5, n6⟩ := note_keeps m v
  have h4 := h3.resolve_left hk
  refine ⟨by simp only [n1]; exact hb, by simp only [n2]; exact hm, by simp only [n4]; omega, by simp only [n4]; omega, ?_⟩
  by_cases h5 : m.told = 5
  · exact Or.inl (want_end (by rw [n4]; omega))
  · exact Or.inr (by simp only [n4]; omega)
set_option maxRecDepth 10000 in
theorem next_any {w : World} {X : Nat} {F : List Nat} {m : Mc} (h : McAt w X F m) (v : Int) : Calls Try.prog 5 #[.pointer (some ⟨X, 0, none⟩), .int .i64 v] w fun e w' => e = .returned (.agg (wnC (tellM m v))) ∧ ∃ F', McAt w' X F' (goM m v) ∧ Next F F' w w' := by
  have HF : Hid (∀ w : World, McAt w X F m → Calls Try.prog 13 #[.pointer (some ⟨X, 0, none⟩), .int .i64 v] w (TellsM w X F (noteM m v) (wantT (noteM m v)))) := fun w h => follow_any h v
  have HM : Hid (Mi w (w.alloc (.cells z4 24)) X F m) := Mi.first h
  obtain ⟨_, ⟨c4, c5, c6, c7⟩, _⟩ := h.cells
  have hx : X < w.heap.size := heap_lt h.2.1
  by_cases k6 : m.last.kind = 6
  · have HT : Hid (tellM m v = m.last) := by unfold tellM; rw [if_pos k6]; exact rfl
    have HE : Hid (∀ o, McAt (w.alloc o) X F (goM m v) ∧ Next F F w (w.alloc o)) := fun o => ⟨by unfold goM; rw [if_pos k6]; exact h.later (below_a1 _ _), Next.of_below (below_a1 _ _) F⟩
    rw [k6] at c4
    have HK : Hid (m.last.kind = 6) := k6
    clear h k6 HF
    go_enter Try.func5, Try.ntmps5
    go_wp2_with fail
    exact ret_wn rfl rfl (heap_alloc_new _ _) rfl rfl ⟨by rw [HT.out, wnC, HK.out], F, HE.out _⟩
  · have e6 : (m.last.kind == 6) = false := by simpa using k6
    have HT : Hid (tellM m v = wantT (noteM m v)) := by unfold tellM; rw [if_neg k6]; exact rfl
    have HGO : Hid (goM m v = { noteM m v with last := wantT (noteM m v), told := (noteM m v).told + 1 }) := by unfold goM; rw [if_neg k6, (note_keeps m v).2.2.2.1]; exact rfl
    have HO : Hid (OkM { noteM m v with last := wantT (noteM m v), told := (noteM m v).told + 1 }) := ok_go h.2.2 k6 v
    clear h k6
    go_enter Try.func5, Try.ntmps5
    go_wp2_with fail
    refine (HF.out _ HM.out.mac).mono ?_
    rintro e w1 ⟨cs, hcs, hz, rfl, hm1, hn1⟩
    obtain ⟨w2, w4, hs1, ⟨d3, d4, d5, d6, d7⟩, hf3, hpk, hs2, hr⟩ := tell_facts (HM.out.go hm1 hn1) hcs HO.out
    have HB : Hid (0 ≤ (noteM m v).told + 1 ∧ (noteM m v).told + 1 ≤ 6) := ⟨HO.out.2.2.1, HO.out.2.2.2.1⟩
    have hw : wrap64 ((noteM m v).told + 1) = (noteM m v).told + 1 := by have := HB.out; unfold wrap64; omega
    have HCS : Hid (wnC (tellM m v) = cs) := by rw [Hid, HT.out]; exact hcs.out
    have HR : Hid (w4.heap[w.heap.size]? = some (.cells cs 24 (0, 0)) ∧ McAt w4 X F (goM m v) ∧ Next F F w w4) := by rw [Hid, HGO.out]; exact hr.out
    clear hm1 hn1 HO HGO HT HF hcs hr c4 c5 c6 c7 e6 HB
    generalize wantT (noteM m v) = x at *
    generalize (noteM m v).told = t at *
    go_wp2_with fail
    exact ret_wn rfl rfl HR.out.1 hz rfl ⟨by rw [HCS.out], F, HR.out.2⟩
theorem next_nil (w : World) (v : Int) : Calls Try.prog 5 #[.pointer none, .int .i64 v] w fun e w' => e = .returned (.agg (wnC wn0)) ∧ Below w.heap.size w w' := by
  go_enter Try.func5, Try.ntmps5
  go_wp2_with fail
  exact ret_wn rfl rfl (heap_alloc_new _ _) rfl rfl ⟨rfl, below_a1 _ _⟩
theorem size_any (w : World) (m : Int) : Calls Try.prog 16 #[.int .i64 m] w fun e w' => e = .returned (.int .i64 (sizeV m)) ∧ w' = w := by
  have HC : Hid (∀ w : World, Calls Try.prog 14 #[.int .i64 m] w fun e w' => e = .returned (.bool (decide (0 ≤ m) && decide (m ≤ 16))) ∧ w' = w) := fun w => cap_any w m
  by_cases hm : 0 ≤ m ∧ m ≤ 16
  · have e1 : (decide (0 ≤ m) && decide (m ≤ 16)) = true := by simp [hm]
    rw [e1] at HC
    have HV : Hid (sizeV m = 2 + m) := by unfold sizeV; rw [if_pos hm]; exact Int.add_comm _ _
    have HW : Hid (wrap64 (2 + m) = 2 + m) := by have : wrap64 (2 + m) = 2 + m := (by unfold wrap64; omega); exact this
    clear hm e1
    go_enter Try.func16, Try.ntmps16
    go_wp2_with fail
    refine (HC.out _).mono ?_
    rintro e w1 ⟨rfl, rfl⟩
    go_wp2_with fail
    go_ret
    exact ⟨by rw [HV.out]; show Ending.returned (.int .i64 (wrap64 (2 + m))) = _; rw [HW.out], rfl⟩
  · have e1 : (decide (0 ≤ m) && decide (m ≤ 16)) = false := by
      rw [Bool.eq_false_iff]
      intro h
      simp only [Bool.and_eq_true, decide_eq_true_eq] at h
      exact hm h
    rw [e1] at HC
    have HV : Hid (sizeV m = 0) := by unfold sizeV; rw [if_neg hm]; exact rfl
    clear hm e1
    go_enter Try.func16, Try.ntmps16
    go_wp2_with fail
    refine (HC.out _).mono ?_
    rintro e w1 ⟨rfl, rfl⟩
    go_wp2_with fail
    go_ret
    exact ⟨by rw [HV.out]; rfl, rfl⟩
theorem right_parts (b m c : Int) (n : Nat) : rightV b m c n = (decide (0 ≤ b) && decide (b ≤ 1024) && (decide (0 ≤ m) && decide (m ≤ 16)) && decide (arV c = n)) := by
  unfold rightV takesV
  cases decide (0 ≤ m) <;> cases decide (m ≤ 16) <;> cases decide (0 ≤ b) <;> cases decide (b ≤ 1024) <;> simp
set_option maxRecDepth 10000 in
theorem new_no (w : World) (b m c : Int) (va : Value) (A : List Int) (hv : Nl w va A) (h : rightV b m c A.length = false) : Calls Try.prog 6 #[.int .i64 b, .int .i64 m, .int .i64 c, va] w fun e w' => e = .returned (.tuple #[.pointer none, .int .i64 1]) ∧ Below w.heap.size w w' := by
  obtain ⟨a, cap, rfl, hlen, hc1, hc2, hr, hl⟩ := hv
  have HC : Hid (∀ w : World, Calls Try.prog 14 #[.int .i64 m] w fun e w' => e = .returned (.bool (decide (0 ≤ m) && decide (m ≤ 16))) ∧ w' = w) := fun w => cap_any w m
  have HK : Hid (∀ w : World, Calls Try.prog 15 #[.int .i64 c, .slice a A.length cap] w fun e w' => e = .returned (.bool (decide (arV c = A.length))) ∧ w' = w) := fun w => takes_any w c a A.length cap
  rw [right_parts] at h
  generalize (decide (0 ≤ m) && decide (m ≤ 16)) = q1 at *
  generalize decide (arV c = (A.length : Int)) = q2 at *
  clear hl hr hc1 hc2 hlen
  by_cases h1 : b < 0
  · have d1 : decide (b < 0) = true := by simpa using h1
    clear h h1
    go_enter Try.func6, Try.ntmps6
    go_wp2_with fail
    go_ret2
    exact ⟨rfl, Below.refl _ _⟩
  · have d1 : decide (b < 0) = false := by simpa using h1
    by_cases h2 : 1024 < b
    · have d2 : decide (1024 < b) = true := by simpa using h2
      clear h h1 h2
      go_enter Try.func6, Try.ntmps6
      go_wp2_with fail
      go_ret2
      exact ⟨rfl, Below.refl _ _⟩
    · have d2 : decide (1024 < b) = false := by simpa using h2
      have hq : (q1 && q2) = false := by
        have e1 : decide (0 ≤ b) = true := by simp; omega
        have e2 : decide (b ≤ 1024) = true := by simp; omega
        rw [e1, e2] at h
        simpa using h
      clear h h1 h2
      cases q1
      · go_enter Try.func6, Try.ntmps6
        go_wp2_with fail
        refine (HC.out _).mono ?_
        rintro e w1 ⟨rfl, rfl⟩
        go_wp2_with fail
        go_ret2
        exact ⟨rfl, Below.refl _ _⟩
      · obtain rfl : q2 = false := by simpa using hq
        clear hq
        go_enter Try.func6, Try.ntmps6
        go_wp2_with fail
        refine (HC.out _).mono ?_
        rintro e w1 ⟨rfl, rfl⟩
        go_wp2_with fail
        refine (HK.out _).mono ?_
        rintro e w1 ⟨rfl, rfl⟩
        go_wp2_with fail
        go_ret2
        exact ⟨rfl, Below.refl _ _⟩
set_option maxRecDepth 10000 in
theorem new_yes (w : World) (b m c : Int) (va : Value) (A : List Int) (hv : Nl w va A) (h : rightV b m c A.length = true) : Calls Try.prog 6 #[.int .i64 b, .int .i64 m, .int .i64 c, va] w fun e w' => ∃ X F, e = .returned (.tuple #[.pointer (some ⟨X, 0, none⟩), .int .i64 0]) ∧ McAt w' X F (mkM b m c A) ∧ (∀ q ∈ F, w.heap.size ≤ q) ∧ Below w.heap.size w w' := by
  obtain ⟨a, cap, rfl, hlen, hc1, hc2, hr, hl⟩ := hv
  have HC : Hid (∀ w : World, Calls Try.prog 14 #[.int .i64 m] w fun e w' => e = .returned (.bool (decide (0 ≤ m) && decide (m ≤ 16))) ∧ w' = w) := fun w => cap_any w m
  have HK : Hid (∀ w : World, Calls Try.prog 15 #[.int .i64 c, .slice a A.length cap] w fun e w' => e = .returned (.bool (decide (arV c = A.length))) ∧ w' = w) := fun w => takes_any w c a A.length cap
  obtain ⟨hm1, hm2, hb1, hb2, hcc⟩ := call_of h
  have HOK : Hid (OkM (mkM b m c A)) := ⟨⟨hb1, hb2⟩, ⟨hm1, hm2⟩, by simp [mkM], by simp [mkM], Or.inr (by simp [mkM])⟩
  have e1 : (decide (0 ≤ m) && decide (m ≤ 16)) = true := by simp [hm1, hm2]
  have e2 : decide (arV c = (A.length : Int)) = true := by
    rw [right_parts] at h
    simp only [Bool.and_eq_true] at h
    exact h.2
  rw [e1] at HC
  rw [e2] at HK
  have d1 : decide (b < 0) = false := by simp; omega
  have d2 : decide (1024 < b) = false := by simp; omega
  by_cases h3 : c = 3
  · subst h3
    have hn : A.length = 1 := by omega
    obtain ⟨x, rfl, hxb, hcell⟩ := hl.resolve_left (by omega)
    have z0 := hcell 0 (by omega)
    rw [add_zero'] at z0
    have HM : Hid (mkM b m 3 A = ⟨b, m, 3, 0, wn0, 0, 0, nth A 0⟩) := rfl
    generalize nth A 0 = y at *
    rw [hn] at HK ⊢
    clear h hm1 hm2 hb1 hb2 hr hc1 hc2 hlen e1 e2 hcc hcell hl hn
    go_enter Try.func6, Try.ntmps6
    go_wp2_with fail
    refine (HC.out _).mono ?_
    rintro e w1 ⟨rfl, rfl⟩
    go_wp2_with fail
    refine (HK.out _).mono ?_
    rintro e w1 ⟨rfl, rfl⟩
    go_wp2_with fail
    go_ret2
    exact ⟨_, _, rfl, ⟨rfl, by rw [HM.out]; exact heap_alloc_new _ _, HOK.out⟩, by simp, below_a1 _ _⟩
  · have f3 : (c == 3) = false := by simpa using h3
    have HM : Hid (mkM b m c A = ⟨b, m, c, 0, wn0, 0, 0, 0⟩) := by unfold mkM; rw [if_neg h3]; exact rfl
    clear h hm1 hm2 hb1 hb2 hr hc1 hc2 hlen e1 e2 hcc hl h3
    go_enter Try.func6, Try.ntmps6
    go_wp2_with fail
    refine (HC.out _).mono ?_
    rintro e w1 ⟨rfl, rfl⟩
    go_wp2_with fail
    refine (HK.out _).mono ?_
    rintro e w1 ⟨rfl, rfl⟩
    go_wp2_with fail
    go_ret2
    exact ⟨_, _, rfl, ⟨rfl, by rw [HM.out]; exact heap_alloc_new _ _, HOK.out⟩, by simp, below_a1 _ _⟩
end Go.Proofs.Ytkikogalaejnlab.Qu
