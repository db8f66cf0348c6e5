/- The program's dict (layer 17): New, Next, Size. -/
import Derived.Test.YtbajgbknjmbimabDiB
import Derived.Deep.CutBlock
import Derived.Deep.DeepCutAuto
namespace Go.Proofs.Ytbajgbknjmbimab.Di
open Go.ChangeShapes Go.WideShapes Go.ChangeAt Go.RowKit
attribute [local go_sem ↓] Go.wp_at_zero Go.wp_at_succ

theorem mc_parts (m : Mc) (s : Se) : preC m ++ seC s ++ sufC m = mcC { m with se := s } := rfl
theorem McR.se {w : World} {X : Nat} {F : List Nat} {m : Mc} (h : McR w X F m) : SeAt w X 3 53 (preC m) (sufC m) m.se := ⟨rfl, by rw [mc_parts]; exact h.2.1⟩
theorem McR.of_se {w : World} {X : Nat} {F : List Nat} {m : Mc} {s : Se} (h : SeAt w X 3 53 (preC m) (sufC m) s) (hF : F = [X]) (ho : OkI m) (hs : OkS s) : McR w X F { m with se := s } := ⟨hF, by have := h.row; rw [mc_parts] at this; exact this, ⟨ho.b, ho.mm, hs, ho.t⟩⟩
/-- The look goes on. -/
theorem sn_any {w : World} {X : Nat} {F : List Nat} {m : Mc} (h : McR w X F m) (v : Int) : Calls Try.prog 28 #[.pointer (some ⟨X, 3, none⟩), .int .i64 v] w fun e w' => e = .returned (.tuple #[.int .i64 (goS m.se v).2.1, .bool (goS m.se v).2.2]) ∧ McR w' X F { m with se := (goS m.se v).1 } ∧ Next F F w w' := by
  refine (snext_any h.se h.2.2.s v).mono ?_
  rintro e w' ⟨he, hs, hk⟩
  exact ⟨he, McR.of_se hs h.1 h.2.2 (ok_goS h.2.2.s v).1, by rw [h.1]; exact hk, fun b hb => Or.inl hb⟩
theorem follow_any {w : World} {X : Nat} {F : List Nat} {m : Mc} (h : McR w X F m) (ht : m.told ≤ 5) (v : Int) : Calls Try.prog 15 #[.pointer (some ⟨X, 0, none⟩), .int .i64 v] w (TellsM w X F (stepM m v).1 (stepM m v).2) := by
  have HF : Hid (Fs X F) := fs X F
  have HS : Hid (∀ (w : World), McR w X F m → Calls Try.prog 28 #[.pointer (some ⟨X, 3, none⟩), .int .i64 v] w fun e w' => e = .returned (.tuple #[.int .i64 (goS m.se v).2.1, .bool (goS m.se v).2.2]) ∧ McR w' X F { m with se := (goS m.se v).1 } ∧ Next F F w w') := fun w h => sn_any h v
  have HP : Hid (∀ (w : World) (m : Mc), McR w X F m → Calls Try.prog 31 #[.pointer (some ⟨X, 0, none⟩), .int .i64 v] w (TellsM w X F (putS m v).1 (putS m v).2)) := fun w m h => fput_any h v
  have HG : Hid (∀ (w : World) (m : Mc), McR w X F m → Calls Try.prog 30 #[.pointer (some ⟨X, 0, none⟩), .int .i64 v] w (TellsM w X F m (getT m v))) := fun w m h => fget_any h v
  have HDl : Hid (∀ (w : World) (m : Mc), McR w X F m → Calls Try.prog 32 #[.pointer (some ⟨X, 0, none⟩), .int .i64 v] w (TellsM w X F m (delT m v))) := fun w m h => fdel_any h v
  have HL : Hid (∀ (w : World) (m : Mc), McR w X F m → Calls Try.prog 33 #[.pointer (some ⟨X, 0, none⟩), .int .i64 v] w (TellsM w X F m (lenT m v))) := fun w m h => flen_any h v
  have HM : Hid (Mi w (w.alloc (.cells z4 24)) X F m) := Mi.first h
  have hx : X < w.heap.size := heap_lt h.2.1
  obtain ⟨r, hr⟩ : ∃ r, stepM m v = r := ⟨_, rfl⟩
  rw [hr]
  unfold stepM at hr
  have HC : Hid ((goS m.se v).2.2 = true → -100 ≤ (goS m.se v).2.1 ∧ (goS m.se v).2.1 ≤ 100) := fun hg => by have := (ok_goS h.2.2.s v).2 hg; omega
  have HOK : Hid (OkS (goS m.se v).1 ∧ OkI m ∧ m.told ≤ 5) := ⟨(ok_goS h.2.2.s v).1, h.2.2, ht⟩
  obtain ⟨s', hs'⟩ : ∃ s', (goS m.se v).1 = s' := ⟨_, rfl⟩
  obtain ⟨c', hc'⟩ : ∃ c', (goS m.se v).2.1 = c' := ⟨_, rfl⟩
  cases hg : (goS m.se v).2.2 with
  | true =>
    rw [hg, hs', hc', if_pos rfl] at hr
    rw [hg, hs', hc'] at HS
    have HC' : Hid (-100 ≤ c' ∧ c' ≤ 100) := by rw [← hc']; exact HC.out hg
    subst hr
    clear h ht hg hs' hc' HC HOK
    go_enter Try.func15, Try.ntmps15
    go_wp2_with fail
    refine (HS.out _ HM.out.mac).mono ?_
    rintro e w3 ⟨rfl, hm3, hn3⟩
    have HM3 : Hid (Mi w w3 X F { m with se := s' }) := HM.out.go hm3 hn3
    clear hm3 hn3 HM
    go_wp2_with fail
    refine (HF.out.rd _ _ _ HM3.out.mac HC'.out).mono ?_
    rintro e w4 ⟨cs, hcs, hz, rfl, hb4⟩
    obtain ⟨w5, hs5, hm5, hr5⟩ := (HM3.out.on hb4).put hcs
    clear hb4 hm5
    go_wp2_with fail
    exact ret_tells rfl rfl hz rfl hcs hr5
  | false =>
    rw [hg, hs', if_neg (by decide)] at hr
    rw [hg, hs'] at HS
    unfold afterM at hr
    simp only at hr
    have hcl := h.cells.c2
    have HT : Hid (∀ w3, Mi w w3 X F { m with se := s' } → w3.cell? ⟨X, 10, none⟩ = some (.int .i64 m.told) ∧ w3.frozen? ⟨X, 10, none⟩ = false ∧ X < w3.heap.size ∧ (∀ w4, w4 = w3.setCell ⟨X, 10, none⟩ (.int .i64 (m.told + 1)) → Mi w w4 X F { m with se := s', told := m.told + 1 })) := fun w3 hm3 =>
      ⟨hm3.mac.cells.c10, frozen_at hm3.mac.2.1 10, heap_lt hm3.mac.2.1, fun w4 h4 => by
        rw [h4]
        have h1 := HOK.out.2.1.t
        have h2 := HOK.out.2.2
        exact hm3.set 10 _ rfl ⟨HOK.out.2.1.b, HOK.out.2.1.mm, by rw [← hs']; exact HOK.out.1, by simp only; omega⟩⟩
    have hw : wrap64 (m.told + 1) = m.told + 1 := by have := h.2.2.t; unfold wrap64; omega
    clear h ht hg hc' HC HOK hcl
    by_cases h2 : m.call = 2
    · rw [if_pos h2] at hr
      subst hr
      clear hs'
      go_enter Try.func15, Try.ntmps15
      go_wp2_with fail
      refine (HS.out _ HM.out.mac).mono ?_
      rintro e w3 ⟨rfl, hm3, hn3⟩
      obtain ⟨t1, t2, t3, t4⟩ := HT.out _ (HM.out.go hm3 hn3)
      have e2 : w3.cell? ⟨X, 2, none⟩ = some (.int .i64 m.call) := hm3.cells.c2
      rw [h2] at e2
      have HM4 : Hid (∀ w4, w4 = w3.setCell ⟨X, 10, none⟩ (.int .i64 (m.told + 1)) → Mi w w4 X F { m with se := s', told := m.told + 1 }) := t4
      clear hm3 hn3 HM t4 HT
      go_wp2_with fail
      refine (HG.out _ _ (HM4.out _ rfl).mac).mono ?_
      rintro e w5 ⟨cs, hcs, hz, rfl, hm5, hn5⟩
      obtain ⟨w6, hs6, hm6, hr6⟩ := ((HM4.out _ rfl).go hm5 hn5).put hcs
      clear hm5 hn5 hm6 HM4 t1 t2 t3 e2
      go_wp2_with fail
      exact ret_tells rfl rfl hz rfl hcs hr6
    · rw [if_neg h2] at hr
      have f2 : (m.call == 2) = false := by simpa using h2
      by_cases h3 : m.call = 3
      · rw [if_pos h3] at hr
        subst hr
        clear hs' h2 f2
        go_enter Try.func15, Try.ntmps15
        go_wp2_with fail
        refine (HS.out _ HM.out.mac).mono ?_
        rintro e w3 ⟨rfl, hm3, hn3⟩
        obtain ⟨t1, t2, t3, t4⟩ := HT.out _ (HM.out.go hm3 hn3)
        have e2 : w3.cell? ⟨X, 2, none⟩ = some (.int .i64 m.call) := hm3.cells.c2
        rw [h3] at e2
        have HM4 : Hid (∀ w4, w4 = w3.setCell ⟨X, 10, none⟩ (.int .i64 (m.told + 1)) → Mi w w4 X F { m with se := s', told := m.told + 1 }) := t4
        clear hm3 hn3 HM t4 HT
        go_wp2_with fail
        refine (HP.out _ _ (HM4.out _ rfl).mac).mono ?_
        rintro e w5 ⟨cs, hcs, hz, rfl, hm5, hn5⟩
        obtain ⟨w6, hs6, hm6, hr6⟩ := ((HM4.out _ rfl).go hm5 hn5).put hcs
        clear hm5 hn5 hm6 HM4 t1 t2 t3 e2
        go_wp2_with fail
        exact ret_tells rfl rfl hz rfl hcs hr6
      · rw [if_neg h3] at hr
        have f3 : (m.call == 3) = false := by simpa using h3
        by_cases h4 : m.call = 4
        · rw [if_pos h4] at hr
          subst hr
          clear hs' h2 f2 h3 f3
          go_enter Try.func15, Try.ntmps15
          go_wp2_with fail
          refine (HS.out _ HM.out.mac).mono ?_
          rintro e w3 ⟨rfl, hm3, hn3⟩
          obtain ⟨t1, t2, t3, t4⟩ := HT.out _ (HM.out.go hm3 hn3)
          have e2 : w3.cell? ⟨X, 2, none⟩ = some (.int .i64 m.call) := hm3.cells.c2
          rw [h4] at e2
          have HM4 : Hid (∀ w4, w4 = w3.setCell ⟨X, 10, none⟩ (.int .i64 (m.told + 1)) → Mi w w4 X F { m with se := s', told := m.told + 1 }) := t4
          clear hm3 hn3 HM t4 HT
          go_wp2_with fail
          refine (HDl.out _ _ (HM4.out _ rfl).mac).mono ?_
          rintro e w5 ⟨cs, hcs, hz, rfl, hm5, hn5⟩
          obtain ⟨w6, hs6, hm6, hr6⟩ := ((HM4.out _ rfl).go hm5 hn5).put hcs
          clear hm5 hn5 hm6 HM4 t1 t2 t3 e2
          go_wp2_with fail
          exact ret_tells rfl rfl hz rfl hcs hr6
        · rw [if_neg h4] at hr
          have f4 : (m.call == 4) = false := by simpa using h4
          subst hr
          clear hs' h2 h3 h4
          go_enter Try.func15, Try.ntmps15
          go_wp2_with fail
          refine (HS.out _ HM.out.mac).mono ?_
          rintro e w3 ⟨rfl, hm3, hn3⟩
          obtain ⟨t1, t2, t3, t4⟩ := HT.out _ (HM.out.go hm3 hn3)
          have e2 : w3.cell? ⟨X, 2, none⟩ = some (.int .i64 m.call) := hm3.cells.c2
          have HM4 : Hid (∀ w4, w4 = w3.setCell ⟨X, 10, none⟩ (.int .i64 (m.told + 1)) → Mi w w4 X F { m with se := s', told := m.told + 1 }) := t4
          clear hm3 hn3 HM t4 HT
          go_wp2_with fail
          refine (HL.out _ _ (HM4.out _ rfl).mac).mono ?_
          rintro e w5 ⟨cs, hcs, hz, rfl, hm5, hn5⟩
          obtain ⟨w6, hs6, hm6, hr6⟩ := ((HM4.out _ rfl).go hm5 hn5).put hcs
          clear hm5 hn5 hm6 HM4 t1 t2 t3 e2
          go_wp2_with fail
          exact ret_tells rfl rfl hz rfl hcs hr6
/-- What is told is laid into the machine, and the answer into its variable. -/
theorem tell_facts {w w1 : World} {X : Nat} {F : List Nat} {n : Mc} {x : Wn} {cs : Array Value} (h : Mi w w1 X F n) (hcs : Hid (wnC x = cs)) :
    ∃ w2 w4, (storeCells ⟨X, 11, none⟩ cs.toList 0).run Try.prog w1 = .ok () w2 ∧ (w2.cell? ⟨X, 11, none⟩ = some (.int .i64 x.kind) ∧ w2.cell? ⟨X, 12, none⟩ = some (.int .i64 x.cell) ∧ w2.cell? ⟨X, 13, none⟩ = some (.int .i64 x.val) ∧ w2.cell? ⟨X, 14, none⟩ = some (.int .i64 x.code)) ∧
      #[.int .i64 x.kind, .int .i64 x.cell, .int .i64 x.val, .int .i64 x.code] = cs ∧ (storeCells ⟨w.heap.size, 0, none⟩ cs.toList 0).run Try.prog w2 = .ok () w4 ∧ Hid (w4.heap[w.heap.size]? = some (.cells cs 24 (0, 0)) ∧ McR w4 X F { n with last := x } ∧ Next F F w w4) := by
  have hX := h.lt
  rw [← hcs.out]
  have hs := run_storeCells_at Try.prog X 11 53 (wnC x).toList 0 (mcC n) w1 h.mac.2.1 (by simp [mcC, wnC]) (fun v hv => (Array.all_eq_true_iff_forall_mem.1 (wnC_one x)) v (by simpa using hv))
  obtain ⟨w2, hw2⟩ : ∃ w2, w2 = w1.setRow X (mcC { n with last := x }) := ⟨_, rfl⟩
  have h2 : w2.heap[X]? = some (.cells (mcC { n with last := x }) 53 (0, 0)) := by rw [hw2]; exact setRow_heap _ _ _ _ _ _ h.mac.2.1
  have r2 : w2.heap[w.heap.size]? = some (.cells z4 24 (0, 0)) := by rw [hw2, setRow_other _ _ _ _ (by omega)]; exact h.row
  refine ⟨w2, w2.setRow w.heap.size (wnC x), by rw [hs, hw2]; rfl, ⟨by rw [cell_at h2]; rfl, by rw [cell_at h2]; rfl, by rw [cell_at h2]; rfl, by rw [cell_at h2]; rfl⟩, rfl, store_wn r2 rfl rfl (wnC_one x), setRow_heap _ _ _ _ _ _ r2, ⟨h.mac.1, by rw [setRow_other _ _ _ _ (by omega)]; exact h2, ⟨h.mac.2.2.b, h.mac.2.2.mm, h.mac.2.2.s, h.mac.2.2.t⟩⟩, ?_, fun b hb => Or.inl hb⟩
  have hk := h.nx.1
  refine ⟨by rw [hw2]; exact hk.os, by rw [hw2]; exact hk.tape, by rw [hw2]; exact hk.output, by rw [setRow_size, hw2, setRow_size]; exact hk.size, fun b hb hn => ?_⟩
  have hne : b ≠ X := fun e => hn (by rw [h.mac.1, e]; simp)
  rw [setRow_other _ _ _ _ (by omega), hw2, setRow_other _ _ _ _ hne]
  exact hk.block b hb hn
/-- A call under way in a block of its own. -/
def McAt (w : World) (X : Nat) (F : List Nat) (m : Mc) : Prop := McR w X F m ∧ (m.last.kind = 6 ∨ m.told ≤ 5)
theorem McAt.keep {w w' : World} {X : Nat} {F G : List Nat} {m : Mc} (h : McAt w X F m) (k : Keep G w w') (hx : ∀ b ∈ F, b ∉ G) : McAt w' X F m := ⟨h.1.keep k hx, h.2⟩
theorem McAt.later {w w' : World} {X : Nat} {F : List Nat} {m : Mc} (h : McAt w X F m) (k : Below w.heap.size w w') : McAt w' X F m := ⟨h.1.later k, h.2⟩
theorem McAt.lt {w : World} {X : Nat} {F : List Nat} {m : Mc} (h : McAt w X F m) : ∀ b ∈ F, b < w.heap.size := h.1.lt
theorem after_end {m : Mc} (h : 6 ≤ m.told) (v : Int) : (afterM m v).2.kind = 6 := by
  unfold afterM
  split
  · simp only [getT]
    split
    · rfl
    · rw [if_neg (by omega)]; rfl
  · split
    · unfold putS
      split
      · rw [if_neg (by omega), if_neg (by omega), if_neg (by omega), if_neg (by omega), if_neg (by omega)]; rfl
      · simp only [chgT]
        rw [if_neg (by omega)]; rfl
    · split
      · simp only [delT]
        split
        · rfl
        · rw [if_neg (by omega), if_neg (by omega), if_neg (by omega)]; rfl
      · simp only [lenT]
        rw [if_neg (by omega)]; rfl
theorem ok_go {m : Mc} (h : m.told ≤ 5) (v : Int) : (stepM m v).2.kind = 6 ∨ (stepM m v).1.told ≤ 5 := by
  obtain ⟨_, _, _, _, _, n6, n7⟩ := step_keeps m v
  cases hg : (goS m.se v).2.2 with
  | true => exact Or.inr (by rw [n6 hg]; exact h)
  | false =>
    by_cases h5 : m.told = 5
    · refine Or.inl ?_
      unfold stepM
      rw [if_neg (by rw [hg]; decide)]
      exact after_end (by simp only; omega) v
    · exact Or.inr (by rw [n7 hg]; omega)
set_option maxRecDepth 10000 in
theorem next_any {w : World} {X : Nat} {F : List Nat} {m : Mc} (h : McAt w X F m) (v : Int) : Calls Try.prog 6 #[.pointer (some ⟨X, 0, none⟩), .int .i64 v] w fun e w' => e = .returned (.agg (wnC (tellM m v))) ∧ ∃ F', McAt w' X F' (goM m v) ∧ Next F F' w w' := by
  have HM : Hid (Mi w (w.alloc (.cells z4 24)) X F m) := Mi.first h.1
  obtain ⟨c11, c12, c13, c14⟩ := h.1.last
  have hx : X < w.heap.size := heap_lt h.1.2.1
  by_cases k6 : m.last.kind = 6
  · have HT : Hid (tellM m v = m.last) := by unfold tellM; rw [if_pos k6]; exact rfl
    have HE : Hid (∀ o, McAt (w.alloc o) X F (goM m v) ∧ Next F F w (w.alloc o)) := fun o => ⟨by unfold goM; rw [if_pos k6]; exact h.later (below_a1 _ _), Next.of_below (below_a1 _ _) F⟩
    rw [k6] at c11
    have HK : Hid (m.last.kind = 6) := k6
    clear h k6
    go_enter Try.func6, Try.ntmps6
    go_wp2_with fail
    exact ret_wn rfl rfl (heap_alloc_new _ _) rfl rfl ⟨by rw [HT.out, wnC, HK.out], F, HE.out _⟩
  · have e6 : (m.last.kind == 6) = false := by simpa using k6
    have ht5 : m.told ≤ 5 := h.2.resolve_left k6
    have HF : Hid (∀ w : World, McR w X F m → Calls Try.prog 15 #[.pointer (some ⟨X, 0, none⟩), .int .i64 v] w (TellsM w X F (stepM m v).1 (stepM m v).2)) := fun w h => follow_any h ht5 v
    have HT : Hid (tellM m v = (stepM m v).2) := by unfold tellM; rw [if_neg k6]; exact rfl
    have HGO : Hid (goM m v = { (stepM m v).1 with last := (stepM m v).2 }) := by unfold goM; rw [if_neg k6]; exact rfl
    have HK : Hid ((stepM m v).2.kind = 6 ∨ (stepM m v).1.told ≤ 5) := ok_go ht5 v
    clear h k6 ht5
    go_enter Try.func6, Try.ntmps6
    go_wp2_with fail
    refine (HF.out _ HM.out.mac).mono ?_
    rintro e w1 ⟨cs, hcs, hz, rfl, hm1, hn1⟩
    obtain ⟨w2, w4, hs1, ⟨d4, d5, d6, d7⟩, hpk, hs2, hr⟩ := tell_facts (HM.out.go hm1 hn1) hcs
    have HCS : Hid (wnC (tellM m v) = cs) := by rw [Hid, HT.out]; exact hcs.out
    have HR : Hid (w4.heap[w.heap.size]? = some (.cells cs 24 (0, 0)) ∧ McAt w4 X F (goM m v) ∧ Next F F w w4) := by rw [Hid, HGO.out]; exact ⟨hr.out.1, ⟨hr.out.2.1, HK.out⟩, hr.out.2.2⟩
    clear hm1 hn1 HGO HT HF hcs hr c11 c12 c13 c14 e6 HK
    generalize (stepM m v).2 = x at *
    go_wp2_with fail
    exact ret_wn rfl rfl HR.out.1 hz rfl ⟨by rw [HCS.out], F, HR.out.2⟩
theorem next_nil (w : World) (v : Int) : Calls Try.prog 6 #[.pointer none, .int .i64 v] w fun e w' => e = .returned (.agg (wnC wn0)) ∧ Below w.heap.size w w' := by
  go_enter Try.func6, Try.ntmps6
  go_wp2_with fail
  exact ret_wn rfl rfl (heap_alloc_new _ _) rfl rfl ⟨rfl, below_a1 _ _⟩
theorem size_any (w : World) (m : Int) : Calls Try.prog 19 #[.int .i64 m] w fun e w' => e = .returned (.int .i64 (sizeV m)) ∧ w' = w := by
  have HC : Hid (∀ w : World, Calls Try.prog 16 #[.int .i64 m] w fun e w' => e = .returned (.bool (decide (0 ≤ m) && decide (m ≤ 16))) ∧ w' = w) := fun w => cap_any w m
  by_cases hm : 0 ≤ m ∧ m ≤ 16
  · have e1 : (decide (0 ≤ m) && decide (m ≤ 16)) = true := by simp [hm]
    rw [e1] at HC
    have HV : Hid (sizeV m = 1 + 3 * m) := by unfold sizeV; rw [if_pos hm]; exact Int.add_comm _ _
    have h3 : wrap64 (3 * m) = 3 * m := by unfold wrap64; omega
    have HW : Hid (wrap64 (1 + 3 * m) = 1 + 3 * m) := by have : wrap64 (1 + 3 * m) = 1 + 3 * m := (by unfold wrap64; omega); exact this
    clear hm e1
    go_enter Try.func19, Try.ntmps19
    go_wp2_with fail
    refine (HC.out _).mono ?_
    rintro e w1 ⟨rfl, rfl⟩
    go_wp2_with fail
    go_ret
    exact ⟨by rw [HV.out]; show Ending.returned (.int .i64 (wrap64 (1 + 3 * m))) = _; rw [HW.out], rfl⟩
  · have e1 : (decide (0 ≤ m) && decide (m ≤ 16)) = false := by
      rw [Bool.eq_false_iff]
      intro h
      simp only [Bool.and_eq_true, decide_eq_true_eq] at h
      exact hm h
    rw [e1] at HC
    have HV : Hid (sizeV m = 0) := by unfold sizeV; rw [if_neg hm]; exact rfl
    clear hm e1
    go_enter Try.func19, Try.ntmps19
    go_wp2_with fail
    refine (HC.out _).mono ?_
    rintro e w1 ⟨rfl, rfl⟩
    go_wp2_with fail
    go_ret
    exact ⟨by rw [HV.out]; rfl, rfl⟩
theorem right_parts (b m c : Int) (n : Nat) : rightV b m c n = (decide (0 ≤ b) && decide (b ≤ 1024) && (decide (0 ≤ m) && decide (m ≤ 16)) && decide (arV c = n)) := by
  unfold rightV takesV
  cases decide (0 ≤ m) <;> cases decide (m ≤ 16) <;> cases decide (0 ≤ b) <;> cases decide (b ≤ 1024) <;> simp
set_option maxRecDepth 10000 in
theorem new_no (w : World) (b m c : Int) (va : Value) (A : List Int) (hv : Nl w va A) (h : rightV b m c A.length = false) : Calls Try.prog 7 #[.int .i64 b, .int .i64 m, .int .i64 c, va] w fun e w' => e = .returned (.tuple #[.pointer none, .int .i64 1]) ∧ Below w.heap.size w w' := by
  obtain ⟨a, cap, rfl, hlen, hc1, hc2, hr, hl⟩ := hv
  have HC : Hid (∀ w : World, Calls Try.prog 16 #[.int .i64 m] w fun e w' => e = .returned (.bool (decide (0 ≤ m) && decide (m ≤ 16))) ∧ w' = w) := fun w => cap_any w m
  have HK : Hid (∀ w : World, Calls Try.prog 17 #[.int .i64 c, .slice a A.length cap] w fun e w' => e = .returned (.bool (decide (arV c = A.length))) ∧ w' = w) := fun w => takes_any w c a A.length cap
  rw [right_parts] at h
  generalize (decide (0 ≤ m) && decide (m ≤ 16)) = q1 at *
  generalize decide (arV c = (A.length : Int)) = q2 at *
  clear hl hr hc1 hc2 hlen
  by_cases h1 : b < 0
  · have d1 : decide (b < 0) = true := by simpa using h1
    clear h h1
    go_enter Try.func7, Try.ntmps7
    go_wp2_with fail
    go_ret2
    exact ⟨rfl, Below.refl _ _⟩
  · have d1 : decide (b < 0) = false := by simpa using h1
    by_cases h2 : 1024 < b
    · have d2 : decide (1024 < b) = true := by simpa using h2
      clear h h1 h2
      go_enter Try.func7, Try.ntmps7
      go_wp2_with fail
      go_ret2
      exact ⟨rfl, Below.refl _ _⟩
    · have d2 : decide (1024 < b) = false := by simpa using h2
      have hq : (q1 && q2) = false := by
        have e1 : decide (0 ≤ b) = true := by simp; omega
        have e2 : decide (b ≤ 1024) = true := by simp; omega
        rw [e1, e2] at h
        simpa using h
      clear h h1 h2
      cases q1
      · go_enter Try.func7, Try.ntmps7
        go_wp2_with fail
        refine (HC.out _).mono ?_
        rintro e w1 ⟨rfl, rfl⟩
        go_wp2_with fail
        go_ret2
        exact ⟨rfl, Below.refl _ _⟩
      · obtain rfl : q2 = false := by simpa using hq
        clear hq
        go_enter Try.func7, Try.ntmps7
        go_wp2_with fail
        refine (HC.out _).mono ?_
        rintro e w1 ⟨rfl, rfl⟩
        go_wp2_with fail
        refine (HK.out _).mono ?_
        rintro e w1 ⟨rfl, rfl⟩
        go_wp2_with fail
        go_ret2
        exact ⟨rfl, Below.refl _ _⟩
/-- A look is laid into a machine. -/
theorem lay_se {w1 : World} {X : Nat} {m : Mc} (h : w1.heap[X]? = some (.cells (mcC m) 53 (0, 0))) (s : Se) : ∃ w2, (storeCells ⟨X, 3, none⟩ (seC s).toList 0).run Try.prog w1 = .ok () w2 ∧ w2.heap[X]? = some (.cells (mcC { m with se := s }) 53 (0, 0)) ∧ Keep [X] w1 w2 := by
  have h1 : (seC s).all (·.oneCell') = true := by simp [seC, Value.oneCell']
  have hs := run_storeCells_at Try.prog X 3 53 (seC s).toList 0 (mcC m) w1 h (by simp [mcC, seC]) (fun v hv => (Array.all_eq_true_iff_forall_mem.1 h1) v (by simpa using hv))
  exact ⟨w1.setRow X (mcC { m with se := s }), by rw [hs]; rfl, setRow_heap _ _ _ _ _ _ h, Keep.row _ _ _⟩
theorem ok_mk (b m c : Int) (A : List Int) (h : 0 ≤ m ∧ m ≤ 16) : OkS (mkM b m c A).se := by
  unfold mkM
  simp only
  split
  · exact ok_se0
  · exact ok_mkS h
def zM (b m c : Int) : Mc := ⟨b, m, c, se0, 0, wn0, 0, 0⟩
set_option maxRecDepth 10000 in
theorem new_yes (w : World) (b m c : Int) (va : Value) (A : List Int) (hv : Nl w va A) (h : rightV b m c A.length = true) : Calls Try.prog 7 #[.int .i64 b, .int .i64 m, .int .i64 c, va] w fun e w' => ∃ X F, e = .returned (.tuple #[.pointer (some ⟨X, 0, none⟩), .int .i64 0]) ∧ McAt w' X F (mkM b m c A) ∧ (∀ q ∈ F, w.heap.size ≤ q) ∧ Below w.heap.size w w' := by
  obtain ⟨a, cap, rfl, hlen, hc1, hc2, hr, hl⟩ := hv
  have HC : Hid (∀ w : World, Calls Try.prog 16 #[.int .i64 m] w fun e w' => e = .returned (.bool (decide (0 ≤ m) && decide (m ≤ 16))) ∧ w' = w) := fun w => cap_any w m
  have HK : Hid (∀ w : World, Calls Try.prog 17 #[.int .i64 c, .slice a A.length cap] w fun e w' => e = .returned (.bool (decide (arV c = A.length))) ∧ w' = w) := fun w => takes_any w c a A.length cap
  obtain ⟨hm1, hm2, hb1, hb2, hcc⟩ := call_of h
  have HFO : Hid (∀ (w : World) (k : Int), Calls Try.prog 18 #[.int .i64 k, .int .i64 m] w fun e w' => e = .returned (.agg (seC (mkS k m))) ∧ Below w.heap.size w w') := fun w k => for_any w k m ⟨hm1, hm2⟩
  have HOK : Hid (OkI (mkM b m c A)) := ⟨⟨hb1, hb2⟩, ⟨hm1, hm2⟩, ok_mk b m c A ⟨hm1, hm2⟩, by simp [mkM]⟩
  have e1 : (decide (0 ≤ m) && decide (m ≤ 16)) = true := by simp [hm1, hm2]
  have e2 : decide (arV c = (A.length : Int)) = true := by
    rw [right_parts] at h
    simp only [Bool.and_eq_true] at h
    exact h.2
  rw [e1] at HC
  rw [e2] at HK
  have d1 : decide (b < 0) = false := by simp; omega
  have d2 : decide (1024 < b) = false := by simp; omega
  have HFIN : Hid (∀ (X : Nat) (w' : World), w'.heap[X]? = some (.cells (mcC (mkM b m c A)) 53 (0, 0)) → McAt w' X [X] (mkM b m c A)) := fun X w' hw => ⟨⟨rfl, hw, HOK.out⟩, Or.inr (by simp [mkM])⟩
  by_cases h5 : c = 5
  · subst h5
    have HM : Hid (mkM b m 5 A = zM b m 5) := rfl
    clear h hm1 hm2 hb1 hb2 hr hc1 hc2 hlen e1 e2 hcc hl HFO HOK
    go_enter Try.func7, Try.ntmps7
    go_wp2_with fail
    refine (HC.out _).mono ?_
    rintro e w1 ⟨rfl, rfl⟩
    go_wp2_with fail
    refine (HK.out _).mono ?_
    rintro e w1 ⟨rfl, rfl⟩
    go_wp2_with fail
    go_ret2
    exact ⟨_, _, rfl, HFIN.out _ _ (by rw [HM.out]; exact heap_alloc_new _ _), by simp, below_a1 _ _⟩
  · have f5 : (c == 5) = false := by simpa using h5
    obtain ⟨x, rfl, hxb, hcell⟩ := hl.resolve_left (by omega)
    have z0 := hcell 0 (by omega)
    rw [add_zero'] at z0
    have n0 : 0 < A.length := by omega
    have HXB : Hid (x.block < w.heap.size) := hxb
    by_cases h3 : c = 3
    · subst h3
      have hn : A.length = 2 := by omega
      have z1 := hcell 1 (by omega)
      rw [add_pos' _ _ (by decide)] at z1
      have HM : Hid (mkM b m 3 A = { zM b m 3 with se := mkS (nth A 0) m, val := nth A 1 }) := rfl
      rw [hn] at HK ⊢
      have HZ1 : Hid (w.cell? ⟨x.block, x.off + 1, none⟩ = some (.int .i64 (nth A 1))) := z1
      generalize nth A 0 = y0 at *
      generalize nth A 1 = y1 at *
      clear h hm1 hm2 hb1 hb2 hr hc1 hc2 hlen e1 e2 hcc hcell hl hn HOK n0 f5 z1 h5
      go_enter Try.func7, Try.ntmps7
      go_wp2_with fail
      refine (HC.out _).mono ?_
      rintro e wa ⟨rfl, hwa⟩
      obtain rfl : w = wa := hwa.symm
      clear hwa
      go_wp2_with fail
      refine (HK.out _).mono ?_
      rintro e wa ⟨rfl, hwa⟩
      obtain rfl : w = wa := hwa.symm
      clear hwa
      go_wp2_with fail
      refine (HFO.out _ _).mono ?_
      rintro e w2 ⟨rfl, hb2⟩
      obtain ⟨w3, hs3, hr3, hk3⟩ := lay_se (m := zM b m 3) (row_next hb2) (mkS y0 m)
      have HB3 : Hid (Below w.heap.size w w3) := (below_next hb2).trans (hk3.below (below_next hb2).size (by simp))
      have hz : (seC (mkS y0 m)).size = 7 := rfl
      have hx3 : w.heap.size < w3.heap.size := heap_lt hr3
      have z3 : w3.cell? ⟨x.block, x.off + 1, none⟩ = some (.int .i64 y1) := cell_later (a := ⟨x.block, x.off + 1, none⟩) HB3.out HXB.out HZ1.out
      have y3 : w3.cell? ⟨w.heap.size, 15, none⟩ = some (.int .i64 0) := by rw [cell_at hr3]; rfl
      have fz : w3.frozen? ⟨w.heap.size, 15, none⟩ = false := frozen_at hr3 15
      have HR3 : Hid ((w3.setCell ⟨w.heap.size, 15, none⟩ (.int .i64 y1)).heap[w.heap.size]? = some (.cells (mcC { zM b m 3 with se := mkS y0 m, val := y1 }) 53 (0, 0)) ∧ Below w.heap.size w (w3.setCell ⟨w.heap.size, 15, none⟩ (.int .i64 y1))) := ⟨by rw [heap_set hr3]; rfl, HB3.out.setCell (Nat.le_refl _) _⟩
      clear hb2 hr3 hk3 HB3 z0
      generalize seC (mkS y0 m) = cs at *
      go_wp2_with fail
      go_ret2
      exact ⟨_, _, rfl, HFIN.out _ _ (by rw [HM.out]; exact HR3.out.1), by simp, HR3.out.2⟩
    · have f3 : (c == 3) = false := by simpa using h3
      have HM : Hid (mkM b m c A = { zM b m c with se := mkS (nth A 0) m }) := by unfold mkM zM; rw [if_neg h5, if_neg h3]; exact rfl
      have hn : A.length = 1 := by clear hl hcell; omega
      rw [hn] at HK ⊢
      generalize nth A 0 = y0 at *
      clear h hm1 hm2 hb1 hb2 hr hc1 hc2 hlen e1 e2 hcc hcell hl hn HOK n0 h5 h3
      go_enter Try.func7, Try.ntmps7
      go_wp2_with fail
      refine (HC.out _).mono ?_
      rintro e wa ⟨rfl, hwa⟩
      obtain rfl : w = wa := hwa.symm
      clear hwa
      go_wp2_with fail
      refine (HK.out _).mono ?_
      rintro e wa ⟨rfl, hwa⟩
      obtain rfl : w = wa := hwa.symm
      clear hwa
      go_wp2_with fail
      refine (HFO.out _ _).mono ?_
      rintro e w2 ⟨rfl, hb2⟩
      obtain ⟨w3, hs3, hr3, hk3⟩ := lay_se (m := zM b m c) (row_next hb2) (mkS y0 m)
      have HB3 : Hid (Below w.heap.size w w3) := (below_next hb2).trans (hk3.below (below_next hb2).size (by simp))
      have hz : (seC (mkS y0 m)).size = 7 := rfl
      have hx3 : w.heap.size < w3.heap.size := heap_lt hr3
      have HR3 : Hid (w3.heap[w.heap.size]? = some (.cells (mcC { zM b m c with se := mkS y0 m }) 53 (0, 0))) := hr3
      clear hb2 hr3 hk3 z0
      generalize seC (mkS y0 m) = cs at *
      go_wp2_with fail
      go_ret2
      exact ⟨_, _, rfl, HFIN.out _ _ (by rw [HM.out]; exact HR3.out), by simp, HB3.out⟩
end Go.Proofs.Ytbajgbknjmbimab.Di
