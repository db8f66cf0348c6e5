/- The program's row of counters (layer 15): New, Next, Size. -/
import Derived.Test.YtcdkjcpfllpeoabCtM
import Derived.RegionTactic
import Derived.BigRegion
import Derived.Deep.RegionHeld3
namespace Go.Proofs.Ytcdkjcpfllpeoab.Ct
open Go.ChangeShapes Go.WideShapes Go.ChangeAt Go.RowKit
attribute [local go_sem ↓] Go.wp_at_zero Go.wp_at_succ

def mcC (m : Mc) : Array Value := #[.int .i64 m.first.kind, .int .i64 m.first.cell, .int .i64 m.first.val, .int .i64 m.first.code, .int .i64 m.told.kind, .int .i64 m.told.cell, .int .i64 m.told.val, .int .i64 m.told.code, .bool m.writes, .int .i64 m.by_]
/-- A call under way in a block of its own. -/
def McAt (w : World) (X : Nat) (F : List Nat) (m : Mc) : Prop := F = [X] ∧ w.heap[X]? = some (.cells (mcC m) 45 (0, 0))
theorem cap_any (w : World) (m : Int) : Calls Try.prog 13 #[.int .i64 m] w fun e w' => e = .returned (.bool (decide (0 ≤ m) && decide (m ≤ 16))) ∧ w' = w := by
  by_cases h1 : 0 ≤ m
  · by_cases h2 : m ≤ 16
    · have d1 : decide (0 ≤ m) = true := by simpa using h1
      have d2 : decide (m ≤ 16) = true := by simpa using h2
      clear h1 h2
      go_enter Try.func13, Try.ntmps13
      go_wp2
      go_ret
      exact ⟨by simp [d1, d2], rfl⟩
    · have d1 : decide (0 ≤ m) = true := by simpa using h1
      have d2 : decide (m ≤ 16) = false := by simpa using h2
      clear h1 h2
      go_enter Try.func13, Try.ntmps13
      go_wp2
      go_ret
      exact ⟨by simp [d1, d2], rfl⟩
  · have d1 : decide (0 ≤ m) = false := by simpa using h1
    clear h1
    go_enter Try.func13, Try.ntmps13
    go_wp2
    go_ret
    exact ⟨by simp [d1], rfl⟩
theorem ar_1 {c : Int} (n : Nat) (h : c = 1) : ((n : Int) == 2) = decide (arV c = n) := by
  subst h
  rw [Bool.eq_iff_iff]
  simp [arV]
  omega
theorem ar_2 {c : Int} (n : Nat) (h : c = 2) : ((n : Int) == 1) = decide (arV c = n) := by
  subst h
  rw [Bool.eq_iff_iff]
  simp [arV]
  omega
theorem ar_3 {c : Int} (n : Nat) (h1 : c ≠ 1) (h2 : c ≠ 2) : false = decide (arV c = n) := by
  have : ¬ arV c = n := by
    unfold arV
    rw [if_neg h1, if_neg h2]
    omega
  simp [this]
theorem takes_any (w : World) (c : Int) (a : Option Addr) (n cap : Nat) : Calls Try.prog 14 #[.int .i64 c, .slice a n cap] w fun e w' => e = .returned (.bool (decide (arV c = n))) ∧ w' = w := by
  by_cases h1 : c = 1
  · have HE : Hid (((n : Int) == 2) = decide (arV c = n)) := ar_1 n h1
    generalize decide (arV c = n) = d at *
    subst h1
    go_enter Try.func14, Try.ntmps14
    go_wp2
    go_ret
    exact ⟨by rw [← HE.out]; rfl, rfl⟩
  · by_cases h2 : c = 2
    · have HE : Hid (((n : Int) == 1) = decide (arV c = n)) := ar_2 n h2
      generalize decide (arV c = n) = d at *
      subst h2
      go_enter Try.func14, Try.ntmps14
      go_wp2
      go_ret
      exact ⟨by rw [← HE.out]; rfl, rfl⟩
    · have HE : Hid (false = decide (arV c = n)) := ar_3 n h1 h2
      generalize decide (arV c = n) = d at *
      have e1 : (c == 1) = false := by simpa using h1
      have e2 : (c == 2) = false := by simpa using h2
      clear h1 h2
      go_enter Try.func14, Try.ntmps14
      go_wp2
      go_ret
      exact ⟨by rw [← HE.out]; rfl, rfl⟩
theorem first_any (w : World) (b m i : Int) (hb : 0 ≤ b ∧ b ≤ 1024) (hm : m ≤ 16) : Calls Try.prog 15 #[.int .i64 b, .int .i64 m, .int .i64 i] w fun e w' => e = .returned (.agg (wnC (firstW b m i))) ∧ Below w.heap.size w w' := by
  by_cases h : i < 0 ∨ m ≤ i
  · unfold firstW
    rw [if_pos h]
    by_cases h1 : i < 0
    · have d1 : decide (i < 0) = true := by simpa using h1
      clear h h1 hb hm
      go_enter Try.func15, Try.ntmps15
      go_wp2
      exact ret_wn rfl rfl (heap_alloc_new _ _) rfl rfl ⟨rfl, below_a1 _ _⟩
    · have d1 : decide (i < 0) = false := by simpa using h1
      have d2 : decide (m ≤ i) = true := by simp; omega
      clear h h1 hb hm
      go_enter Try.func15, Try.ntmps15
      go_wp2
      exact ret_wn rfl rfl (heap_alloc_new _ _) rfl rfl ⟨rfl, below_a1 _ _⟩
  · unfold firstW
    rw [if_neg h]
    have d1 : decide (i < 0) = false := by simp; omega
    have d2 : decide (m ≤ i) = false := by simp; omega
    have hw : wrap64 (b + i) = b + i := by unfold wrap64; omega
    clear h hb hm
    go_enter Try.func15, Try.ntmps15
    go_wp2
    exact ret_wn rfl rfl (heap_alloc_new _ _) rfl rfl ⟨rfl, below_a1 _ _⟩
theorem done_any (w : World) (v : Int) : Calls Try.prog 12 #[.int .i64 v] w fun e w' => e = .returned (.agg (wnC (endW v 0))) ∧ Below w.heap.size w w' := by
  go_enter Try.func12, Try.ntmps12
  go_wp2
  exact ret_wn rfl rfl (heap_alloc_new _ _) rfl rfl ⟨rfl, below_a1 _ _⟩
theorem behind_any {w : World} {X : Nat} {F : List Nat} {m : Mc} (h : McAt w X F m) (v : Int) : Calls Try.prog 11 #[.pointer (some ⟨X, 0, none⟩), .int .i64 v] w fun e w' => e = .returned (.agg (wnC (behindV m v))) ∧ Below w.heap.size w w' := by
  have HD : Hid (∀ w : World, Calls Try.prog 12 #[.int .i64 v] w fun e w' => e = .returned (.agg (wnC (endW v 0))) ∧ Below w.heap.size w w') := fun w => done_any w v
  have c5 : w.cell? ⟨X, 5, none⟩ = some (.int .i64 m.told.cell) := by rw [cell_at h.2]; rfl
  have c8 : w.cell? ⟨X, 8, none⟩ = some (.bool m.writes) := by rw [cell_at h.2]; rfl
  have c9 : w.cell? ⟨X, 9, none⟩ = some (.int .i64 m.by_) := by rw [cell_at h.2]; rfl
  have hx : X < w.heap.size := heap_lt h.2
  clear h
  unfold behindV
  obtain ⟨first, told, writes, by_⟩ := m
  simp only at c5 c8 c9 ⊢
  cases writes
  · rw [if_neg (by decide)]
    go_enter Try.func11, Try.ntmps11
    go_wp2_with fail
    refine (HD.out _).mono ?_
    rintro e w1 ⟨rfl, hb⟩
    have hst := store_wn (P := Try.prog) (row_next hb) rfl (wnC_size (endW v 0)) (wnC_one _)
    have HB : Hid (Below w.heap.size w w1) := below_next hb
    have HG : Hid (w1.heap[w.heap.size]? = _) := row_next hb
    generalize hcs : wnC (endW v 0) = cs at *
    have hz : cs.size = 4 := by rw [← hcs]; rfl
    have HCS : Hid (wnC (endW v 0) = cs) := hcs
    clear hb hcs
    go_wp2_with fail
    exact ret_wn rfl rfl (setRow_heap _ _ _ _ _ _ HG.out) hz rfl ⟨by rw [HCS.out], below_row HB.out _ (Nat.le_refl _) _⟩
  · rw [if_pos rfl]
    go_enter Try.func11, Try.ntmps11
    go_wp2_with fail
    go_region
    go_wp2_with fail
    exact ret_wn rfl rfl (heap_alloc_new w _) rfl rfl ⟨rfl, below_drawn (below_a1 w _) 1⟩
theorem McAt.told {w : World} {X : Nat} {F : List Nat} {m : Mc} (h : McAt w X F m) (x : Wn) : McAt (w.setRow X (mcC { m with told := x })) X F { m with told := x } := ⟨h.1, setRow_heap _ _ _ _ _ _ h.2⟩
/-- What was told last becomes another. -/
theorem store_told {P : Program} {w : World} {X : Nat} {F : List Nat} {m : Mc} (h : McAt w X F m) (x : Wn) : (storeCells ⟨X, 4, none⟩ (wnC x).toList 0).run P w = .ok () (w.setRow X (mcC { m with told := x })) := by
  have hs := run_storeCells_at P X 4 45 (wnC x).toList 0 (mcC m) w h.2 (by simp [mcC, wnC]) (fun v hv => (Array.all_eq_true_iff_forall_mem.1 (wnC_one x)) v (by simpa using hv))
  rw [hs]
  rfl
theorem McAt.cells {w : World} {X : Nat} {F : List Nat} {m : Mc} (h : McAt w X F m) : w.cell? ⟨X, 4, none⟩ = some (.int .i64 m.told.kind) ∧ w.cell? ⟨X, 5, none⟩ = some (.int .i64 m.told.cell) ∧ w.cell? ⟨X, 6, none⟩ = some (.int .i64 m.told.val) ∧ w.cell? ⟨X, 7, none⟩ = some (.int .i64 m.told.code) :=
  ⟨by rw [cell_at h.2]; rfl, by rw [cell_at h.2]; rfl, by rw [cell_at h.2]; rfl, by rw [cell_at h.2]; rfl⟩
theorem McAt.keep {w w' : World} {X : Nat} {F G : List Nat} {m : Mc} (h : McAt w X F m) (k : Keep G w w') (hx : ∀ b ∈ F, b ∉ G) : McAt w' X F m := ⟨h.1, by rw [k.block _ (heap_lt h.2) (hx X (by rw [h.1]; simp))]; exact h.2⟩
theorem McAt.later {w w' : World} {X : Nat} {F : List Nat} {m : Mc} (h : McAt w X F m) (k : Below w.heap.size w w') : McAt w' X F m := h.keep (Keep.of_below k []) (by simp)
theorem McAt.lt {w : World} {X : Nat} {F : List Nat} {m : Mc} (h : McAt w X F m) : ∀ b ∈ F, b < w.heap.size := fun b hb => by
  rw [h.1] at hb
  simp at hb
  rw [hb]
  exact heap_lt h.2
/-- What is told: it is laid into the machine, and into the answer's variable. -/
theorem tell_facts {P : Program} {w w1 : World} {X : Nat} {F : List Nat} {m : Mc} {z : Array Value} (h : McAt w X F m) (hz : z.size = 4) (hb : Below (w.alloc (.cells z 24)).heap.size (w.alloc (.cells z 24)) w1) (x : Wn) :
    ∃ w2 w3 cs, wnC x = cs ∧ cs.size = 4 ∧ (storeCells ⟨X, 4, none⟩ cs.toList 0).run P w1 = .ok () w2 ∧ (w2.cell? ⟨X, 4, none⟩ = some (.int .i64 x.kind) ∧ w2.cell? ⟨X, 5, none⟩ = some (.int .i64 x.cell) ∧ w2.cell? ⟨X, 6, none⟩ = some (.int .i64 x.val) ∧ w2.cell? ⟨X, 7, none⟩ = some (.int .i64 x.code)) ∧
      #[.int .i64 x.kind, .int .i64 x.cell, .int .i64 x.val, .int .i64 x.code] = cs ∧ (storeCells ⟨w.heap.size, 0, none⟩ cs.toList 0).run P w2 = .ok () w3 ∧ w3.heap[w.heap.size]? = some (.cells cs 24 (0, 0)) ∧ McAt w3 X F { m with told := x } ∧ Next F F w w3 := by
  have hX := heap_lt h.2
  have h1 : McAt w1 X F m := h.later (below_next hb)
  have hr := row_next hb
  have h2 := h1.told x
  have hr2 : (w1.setRow X (mcC { m with told := x })).heap[w.heap.size]? = some (.cells z 24 (0, 0)) := by rw [setRow_other _ _ _ _ (by omega)]; exact hr
  refine ⟨_, (w1.setRow X (mcC { m with told := x })).setRow w.heap.size (wnC x), wnC x, rfl, rfl, store_told h1 x, h2.cells, rfl, store_wn hr2 hz rfl (wnC_one x), setRow_heap _ _ _ _ _ _ hr2, ⟨h.1, by rw [setRow_other _ _ _ _ (by omega)]; exact h2.2⟩, ⟨?_, fun b hb => Or.inl hb⟩⟩
  have hk := below_next hb
  refine ⟨hk.os, hk.tape, hk.output, by rw [setRow_size, setRow_size]; exact hk.size, fun b hb hn => ?_⟩
  have hne : b ≠ X := fun e => hn (by rw [h.1, e]; simp)
  rw [setRow_other _ _ _ _ (by omega), setRow_other _ _ _ _ hne]
  exact hk.block b hb
set_option maxRecDepth 10000 in
theorem next_any {w : World} {X : Nat} {F : List Nat} {m : Mc} (h : McAt w X F m) (v : Int) : Calls Try.prog 5 #[.pointer (some ⟨X, 0, none⟩), .int .i64 v] w fun e w' => e = .returned (.agg (wnC (tellM m v))) ∧ ∃ F', McAt w' X F' (goM m v) ∧ Next F F' w w' := by
  have HB : Hid (∀ w : World, McAt w X F m → Calls Try.prog 11 #[.pointer (some ⟨X, 0, none⟩), .int .i64 v] w fun e w' => e = .returned (.agg (wnC (behindV m v))) ∧ Below w.heap.size w w') := fun w h => behind_any h v
  have HD : Hid (∀ w : World, Calls Try.prog 12 #[.int .i64 m.told.val] w fun e w' => e = .returned (.agg (wnC (endW m.told.val 0))) ∧ Below w.heap.size w w') := fun w => done_any w m.told.val
  obtain ⟨c4, c5, c6, c7⟩ := h.cells
  have hx : X < w.heap.size := heap_lt h.2
  have HX : Hid (McAt w X F m) := h
  by_cases k2 : m.told.kind = 2
  · have HT : Hid (tellM m v = behindV m v) := by unfold tellM; rw [if_pos k2]; exact rfl
    rw [k2] at c4
    clear h k2 c5 c6 c7
    go_enter Try.func5, Try.ntmps5
    go_wp2_with fail
    refine (HB.out _ (HX.out.later (below_a1 _ _))).mono ?_
    rintro e w1 ⟨rfl, hb⟩
    obtain ⟨w2, w3, cs, hcs, hz, hs1, ⟨d4, d5, d6, d7⟩, hpk, hs2, hr, hm, hn⟩ := tell_facts (P := Try.prog) HX.out rfl hb (behindV m v)
    have HE : Hid (wnC (tellM m v) = cs ∧ cs.size = 4 ∧ w3.heap[w.heap.size]? = some (.cells cs 24 (0, 0)) ∧ McAt w3 X F (goM m v) ∧ Next F F w w3) := ⟨by rw [HT.out]; exact hcs, hz, hr, by unfold goM; rw [HT.out]; exact hm, hn⟩
    rw [hcs]
    generalize behindV m v = x at *
    clear hb hcs hr hm hn HB HD HT c4
    go_wp2_with fail
    exact ret_wn rfl rfl HE.out.2.2.1 HE.out.2.1 rfl ⟨by rw [HE.out.1], F, HE.out.2.2.2⟩
  · by_cases k3 : m.told.kind = 3
    · have HT : Hid (tellM m v = endW m.told.val 0) := by unfold tellM; rw [if_neg k2, if_pos k3]; exact rfl
      rw [k3] at c4
      clear h k2 k3 c5 c7
      go_enter Try.func5, Try.ntmps5
      go_wp2_with fail
      refine (HD.out _).mono ?_
      rintro e w1 ⟨rfl, hb⟩
      obtain ⟨w2, w3, cs, hcs, hz, hs1, ⟨d4, d5, d6, d7⟩, hpk, hs2, hr, hm, hn⟩ := tell_facts (P := Try.prog) HX.out rfl hb (endW m.told.val 0)
      have HE : Hid (wnC (tellM m v) = cs ∧ cs.size = 4 ∧ w3.heap[w.heap.size]? = some (.cells cs 24 (0, 0)) ∧ McAt w3 X F (goM m v) ∧ Next F F w w3) := ⟨by rw [HT.out]; exact hcs, hz, hr, by unfold goM; rw [HT.out]; exact hm, hn⟩
      rw [hcs]
      generalize endW m.told.val 0 = x at *
      clear hb hcs hr hm hn HB HD HT c4 c6
      go_wp2_with fail
      exact ret_wn rfl rfl HE.out.2.2.1 HE.out.2.1 rfl ⟨by rw [HE.out.1], F, HE.out.2.2.2⟩
    · by_cases k6 : m.told.kind = 6
      · have HT : Hid (tellM m v = m.told) := by unfold tellM; rw [if_neg k2, if_neg k3, if_pos k6]; exact rfl
        have HE : Hid (∀ o, McAt (w.alloc o) X F (goM m v) ∧ Next F F w (w.alloc o)) := fun o => ⟨by unfold goM; rw [HT.out]; exact h.later (below_a1 _ _), Next.of_below (below_a1 _ _) F⟩
        rw [k6] at c4
        have HK : Hid (m.told.kind = 6) := k6
        clear h k2 k3 k6 HB HD
        go_enter Try.func5, Try.ntmps5
        go_wp2_with fail
        exact ret_wn rfl rfl (heap_alloc_new _ _) rfl rfl ⟨by rw [HT.out, wnC, HK.out], F, HE.out _⟩
      · have HT : Hid (tellM m v = m.first) := by unfold tellM; rw [if_neg k2, if_neg k3, if_neg k6]; exact rfl
        have c0 : w.cell? ⟨X, 0, none⟩ = some (.int .i64 m.first.kind) := by rw [cell_at h.2]; rfl
        have c1 : w.cell? ⟨X, 1, none⟩ = some (.int .i64 m.first.cell) := by rw [cell_at h.2]; rfl
        have c2 : w.cell? ⟨X, 2, none⟩ = some (.int .i64 m.first.val) := by rw [cell_at h.2]; rfl
        have c3 : w.cell? ⟨X, 3, none⟩ = some (.int .i64 m.first.code) := by rw [cell_at h.2]; rfl
        have e2 : (m.told.kind == 2) = false := by simpa using k2
        have e3 : (m.told.kind == 3) = false := by simpa using k3
        have e6 : (m.told.kind == 6) = false := by simpa using k6
        obtain ⟨w2, w3, cs, hcs, hz, hs1, ⟨d4, d5, d6, d7⟩, hpk, hs2, hr, hm, hn⟩ := tell_facts (P := Try.prog) (z := #[.int .i64 0, .int .i64 0, .int .i64 0, .int .i64 0]) HX.out rfl (Below.refl _ _) m.first
        have HE : Hid (wnC (tellM m v) = cs ∧ cs.size = 4 ∧ w3.heap[w.heap.size]? = some (.cells cs 24 (0, 0)) ∧ McAt w3 X F (goM m v) ∧ Next F F w w3) := ⟨by rw [HT.out]; exact hcs, hz, hr, by unfold goM; rw [HT.out]; exact hm, hn⟩
        clear h k2 k3 k6 HB HD c5 c6 c7 hcs hr hm hn
        go_enter Try.func5, Try.ntmps5
        go_wp2_with fail
        exact ret_wn rfl rfl HE.out.2.2.1 HE.out.2.1 rfl ⟨by rw [HE.out.1], F, HE.out.2.2.2⟩
theorem next_nil (w : World) (v : Int) : Calls Try.prog 5 #[.pointer none, .int .i64 v] w fun e w' => e = .returned (.agg (wnC wn0)) ∧ Below w.heap.size w w' := by
  go_enter Try.func5, Try.ntmps5
  go_wp2_with fail
  exact ret_wn rfl rfl (heap_alloc_new _ _) rfl rfl ⟨rfl, below_a1 _ _⟩
theorem size_any (w : World) (m : Int) : Calls Try.prog 16 #[.int .i64 m] w fun e w' => e = .returned (.int .i64 (sizeV m)) ∧ w' = w := by
  have HC : Hid (∀ w : World, Calls Try.prog 13 #[.int .i64 m] w fun e w' => e = .returned (.bool (decide (0 ≤ m) && decide (m ≤ 16))) ∧ w' = w) := fun w => cap_any w m
  have hs : sizeV m = if (decide (0 ≤ m) && decide (m ≤ 16)) = true then m else 0 := by simp [sizeV]
  rw [hs]
  generalize (decide (0 ≤ m) && decide (m ≤ 16)) = q at *
  clear hs
  cases q
  · go_enter Try.func16, Try.ntmps16
    go_wp2_with fail
    refine (HC.out _).mono ?_
    rintro e w1 ⟨rfl, rfl⟩
    go_wp2
    go_ret
    exact ⟨rfl, rfl⟩
  · go_enter Try.func16, Try.ntmps16
    go_wp2_with fail
    refine (HC.out _).mono ?_
    rintro e w1 ⟨rfl, rfl⟩
    go_wp2
    go_ret
    exact ⟨rfl, rfl⟩
theorem right_parts (b m c : Int) (n : Nat) : rightV b m c n = (decide (0 ≤ b) && decide (b ≤ 1024) && (decide (0 ≤ m) && decide (m ≤ 16)) && decide (arV c = n)) := by
  unfold rightV takesV
  cases decide (0 ≤ m) <;> cases decide (m ≤ 16) <;> cases decide (0 ≤ b) <;> cases decide (b ≤ 1024) <;> simp
set_option maxRecDepth 10000 in
theorem new_no (w : World) (b m c : Int) (va : Value) (A : List Int) (hv : Nl w va A) (h : rightV b m c A.length = false) : Calls Try.prog 6 #[.int .i64 b, .int .i64 m, .int .i64 c, va] w fun e w' => e = .returned (.tuple #[.pointer none, .int .i64 1]) ∧ Below w.heap.size w w' := by
  obtain ⟨a, cap, rfl, hlen, hc1, hc2, hr, hl⟩ := hv
  have HC : Hid (∀ w : World, Calls Try.prog 13 #[.int .i64 m] w fun e w' => e = .returned (.bool (decide (0 ≤ m) && decide (m ≤ 16))) ∧ w' = w) := fun w => cap_any w m
  have HK : Hid (∀ w : World, Calls Try.prog 14 #[.int .i64 c, .slice a A.length cap] w fun e w' => e = .returned (.bool (decide (arV c = A.length))) ∧ w' = w) := fun w => takes_any w c a A.length cap
  rw [right_parts] at h
  generalize (decide (0 ≤ m) && decide (m ≤ 16)) = q1 at *
  generalize decide (arV c = (A.length : Int)) = q2 at *
  clear hl hr hc1 hc2 hlen
  by_cases h1 : b < 0
  · have d1 : decide (b < 0) = true := by simpa using h1
    clear h h1
    go_enter Try.func6, Try.ntmps6
    go_wp2_with fail
    go_ret2
    exact ⟨rfl, Below.refl _ _⟩
  · have d1 : decide (b < 0) = false := by simpa using h1
    by_cases h2 : 1024 < b
    · have d2 : decide (1024 < b) = true := by simpa using h2
      clear h h1 h2
      go_enter Try.func6, Try.ntmps6
      go_wp2_with fail
      go_ret2
      exact ⟨rfl, Below.refl _ _⟩
    · have d2 : decide (1024 < b) = false := by simpa using h2
      have hq : (q1 && q2) = false := by
        have e1 : decide (0 ≤ b) = true := by simp; omega
        have e2 : decide (b ≤ 1024) = true := by simp; omega
        rw [e1, e2] at h
        simpa using h
      clear h h1 h2
      cases q1
      · go_enter Try.func6, Try.ntmps6
        go_wp2_with fail
        refine (HC.out _).mono ?_
        rintro e w1 ⟨rfl, rfl⟩
        go_wp2_with fail
        go_ret2
        exact ⟨rfl, Below.refl _ _⟩
      · obtain rfl : q2 = false := by simpa using hq
        clear hq
        go_enter Try.func6, Try.ntmps6
        go_wp2_with fail
        refine (HC.out _).mono ?_
        rintro e w1 ⟨rfl, rfl⟩
        go_wp2_with fail
        refine (HK.out _).mono ?_
        rintro e w1 ⟨rfl, rfl⟩
        go_wp2_with fail
        go_ret2
        exact ⟨rfl, Below.refl _ _⟩
set_option maxRecDepth 10000 in
theorem new_yes (w : World) (b m c : Int) (va : Value) (A : List Int) (hv : Nl w va A) (h : rightV b m c A.length = true) : Calls Try.prog 6 #[.int .i64 b, .int .i64 m, .int .i64 c, va] w fun e w' => ∃ X F, e = .returned (.tuple #[.pointer (some ⟨X, 0, none⟩), .int .i64 0]) ∧ McAt w' X F (mkM b m c A) ∧ (∀ q ∈ F, w.heap.size ≤ q) ∧ Below w.heap.size w w' := by
  obtain ⟨a, cap, rfl, hlen, hc1, hc2, hr, hl⟩ := hv
  have HC : Hid (∀ w : World, Calls Try.prog 13 #[.int .i64 m] w fun e w' => e = .returned (.bool (decide (0 ≤ m) && decide (m ≤ 16))) ∧ w' = w) := fun w => cap_any w m
  have HK : Hid (∀ w : World, Calls Try.prog 14 #[.int .i64 c, .slice a A.length cap] w fun e w' => e = .returned (.bool (decide (arV c = A.length))) ∧ w' = w) := fun w => takes_any w c a A.length cap
  obtain ⟨hm1, hm2, hb1, hb2, hcc⟩ := call_of h
  have HF : Hid (∀ w : World, Calls Try.prog 15 #[.int .i64 b, .int .i64 m, .int .i64 (nth A 0)] w fun e w' => e = .returned (.agg (wnC (firstW b m (nth A 0)))) ∧ Below w.heap.size w w') := fun w => first_any w b m _ ⟨hb1, hb2⟩ hm2
  have e1 : (decide (0 ≤ m) && decide (m ≤ 16)) = true := by simp [hm1, hm2]
  have e2 : decide (arV c = (A.length : Int)) = true := by
    rw [right_parts] at h
    simp only [Bool.and_eq_true] at h
    exact h.2
  rw [e1] at HC
  rw [e2] at HK
  have d1 : decide (b < 0) = false := by simp; omega
  have d2 : decide (1024 < b) = false := by simp; omega
  have hl0 : A.length ≠ 0 := by omega
  obtain ⟨x, rfl, hxb, hcell⟩ := hl.resolve_left hl0
  have z0 := hcell 0 (by omega)
  rw [add_zero'] at z0
  clear h hm1 hm2 hb1 hb2 hr hc1 hc2 hlen e1 e2
  rcases hcc with ⟨rfl, hn⟩ | ⟨rfl, hn⟩
  · have z1 := hcell 1 (by omega)
    clear hcell hl hl0
    rw [hn] at HK ⊢
    go_enter Try.func6, Try.ntmps6
    go_wp2_with fail
    refine (HC.out _).mono ?_
    rintro e w1 ⟨rfl, rfl⟩
    go_wp2_with fail
    refine (HK.out _).mono ?_
    rintro e w1 ⟨rfl, rfl⟩
    go_wp2_with fail
    refine (HF.out _).mono ?_
    rintro e w2 ⟨rfl, hb⟩
    have HB : Hid (Below w1.heap.size w1 w2) := hb
    have z1' : w2.cell? (x.add 1) = some (.int .i64 (nth A 1)) := cell_later hb (by rw [add_block]; exact hxb) z1
    rw [add_pos' _ _ (by decide)] at z1'
    have hx2 : x.block < w2.heap.size := Nat.lt_of_lt_of_le hxb hb.size
    have HM : Hid (mkM b m 1 A = ⟨firstW b m (nth A 0), wn0, true, nth A 1⟩) := rfl
    generalize firstW b m (nth A 0) = fw at *
    generalize nth A 1 = y1 at *
    unfold wnC
    clear hb z0 z1 HF HC HK
    go_wp2_with fail
    go_ret2
    exact ⟨_, _, rfl, ⟨rfl, by rw [HM.out]; exact heap_alloc_new _ _⟩, by simp [HB.out.size], below_then HB.out (below_a1 _ _)⟩
  · clear hcell hl hl0
    rw [hn] at HK ⊢
    go_enter Try.func6, Try.ntmps6
    go_wp2_with fail
    refine (HC.out _).mono ?_
    rintro e w1 ⟨rfl, rfl⟩
    go_wp2_with fail
    refine (HK.out _).mono ?_
    rintro e w1 ⟨rfl, rfl⟩
    go_wp2_with fail
    refine (HF.out _).mono ?_
    rintro e w2 ⟨rfl, hb⟩
    have HB : Hid (Below w1.heap.size w1 w2) := hb
    have HM : Hid (mkM b m 2 A = ⟨firstW b m (nth A 0), wn0, false, 0⟩) := rfl
    generalize firstW b m (nth A 0) = fw at *
    unfold wnC
    clear hb z0 HF HC HK
    go_wp2_with fail
    go_ret2
    exact ⟨_, _, rfl, ⟨rfl, by rw [HM.out]; exact heap_alloc_new _ _⟩, by simp [HB.out.size], below_then HB.out (below_a1 _ _)⟩
end Go.Proofs.Ytcdkjcpfllpeoab.Ct
