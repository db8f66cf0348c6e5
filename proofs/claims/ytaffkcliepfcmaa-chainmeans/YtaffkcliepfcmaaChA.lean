/- The program's chain (layer 18): New, Next, Size. -/
import Derived.Test.YtaffkcliepfcmaaChV
import Derived.Deep.CutBlock
import Derived.Deep.DeepCutAuto
import Derived.WalkMore
namespace Go.Proofs.Ytaffkcliepfcmaa.Ch
open Go.ChangeShapes Go.WideShapes Go.ChangeAt Go.RowKit
attribute [local go_sem ↓] Go.wp_at_zero Go.wp_at_succ

theorem cap_any (w : World) (m : Int) : Calls Try.prog 15 #[.int .i64 m] w fun e w' => e = .returned (.bool (decide (0 ≤ m) && decide (m ≤ 16))) ∧ w' = w := by
  cases h : decide (0 ≤ m) with
  | false =>
    go_enter Try.func15, Try.ntmps15
    go_wp2_with fail
    go_ret
    exact ⟨rfl, rfl⟩
  | true =>
    go_enter Try.func15, Try.ntmps15
    go_wp2_with fail
    go_ret
    exact ⟨rfl, rfl⟩
theorem size_any (w : World) (m : Int) : Calls Try.prog 22 #[.int .i64 m] w fun e w' => e = .returned (.int .i64 (sizeV m)) ∧ w' = w := by
  have HC : Hid (∀ w : World, Calls Try.prog 15 #[.int .i64 m] w fun e w' => e = .returned (.bool (decide (0 ≤ m) && decide (m ≤ 16))) ∧ w' = w) := fun w => cap_any w m
  by_cases hm : 0 ≤ m ∧ m ≤ 16
  · have e1 : (decide (0 ≤ m) && decide (m ≤ 16)) = true := by simp [hm]
    rw [e1] at HC
    have HV : Hid (wrap64 (nxtV m + 1) = sizeV m) := by have : wrap64 (nxtV m + 1) = sizeV m := (by unfold sizeV wrap64 nxtV keyV; rw [if_pos hm]; omega); exact this
    have HN : Hid (∀ w : World, Calls Try.prog 39 #[.int .i64 m] w fun e w' => e = .returned (.int .i64 (nxtV m)) ∧ w' = w) := fun w => nextof_any w (by omega)
    generalize nxtV m = y at *
    clear hm e1
    go_enter Try.func22, Try.ntmps22
    go_wp2_with fail
    refine (HC.out _).mono ?_
    rintro e w1 ⟨rfl, rfl⟩
    go_wp2_with fail
    refine (HN.out _).mono ?_
    rintro e w1 ⟨rfl, rfl⟩
    go_wp2_with fail
    go_ret
    exact ⟨by rw [← HV.out]; rfl, rfl⟩
  · have e1 : (decide (0 ≤ m) && decide (m ≤ 16)) = false := by
      rw [Bool.eq_false_iff]
      intro h
      simp only [Bool.and_eq_true, decide_eq_true_eq] at h
      exact hm h
    rw [e1] at HC
    have HV : Hid (sizeV m = 0) := by unfold sizeV; rw [if_neg hm]; exact rfl
    clear hm e1
    go_enter Try.func22, Try.ntmps22
    go_wp2_with fail
    refine (HC.out _).mono ?_
    rintro e w1 ⟨rfl, rfl⟩
    go_wp2_with fail
    go_ret
    exact ⟨by rw [HV.out]; rfl, rfl⟩
theorem takes_one (w : World) (c : Int) (k : Nat) (h : c = 1 ∨ c = 4 ∨ c = 6 ∨ c = 8) : Calls Try.prog 16 #[.int .i64 c, .int .i64 k] w fun e w' => e = .returned (.bool (decide (arV c = k))) ∧ w' = w := by
  have HV : Hid (((k : Int) == 1) = decide (arV c = k)) := by
    have h1 : arV c = 1 := by rcases h with rfl | rfl | rfl | rfl <;> rfl
    have : ((k : Int) == 1) = decide (arV c = k) := (by rw [h1]; by_cases e : (k : Int) = 1; (· rw [e]; rfl); (· have e' : ¬ (1 : Int) = k := fun h => e h.symm; rw [decide_eq_false e']; simp; omega))
    exact this
  rw [← HV.out]
  clear HV
  rcases h with rfl | rfl | rfl | rfl <;> (go_enter Try.func16, Try.ntmps16; go_wp2_with fail; go_ret; exact ⟨rfl, rfl⟩)
theorem takes_none (w : World) (c : Int) (k : Nat) (h : c = 7 ∨ c = 5) : Calls Try.prog 16 #[.int .i64 c, .int .i64 k] w fun e w' => e = .returned (.bool (decide (arV c = k))) ∧ w' = w := by
  have HV : Hid (((k : Int) == 0) = decide (arV c = k)) := by
    have h1 : arV c = 0 := by rcases h with rfl | rfl <;> rfl
    have : ((k : Int) == 0) = decide (arV c = k) := (by rw [h1]; by_cases e : (k : Int) = 0; (· rw [e]; rfl); (· have e' : ¬ (0 : Int) = k := fun h => e h.symm; rw [decide_eq_false e']; simp; omega))
    exact this
  rw [← HV.out]
  clear HV
  rcases h with rfl | rfl <;> (go_enter Try.func16, Try.ntmps16; go_wp2_with fail; go_ret; exact ⟨rfl, rfl⟩)
theorem takes_any (w : World) (c : Int) (k : Nat) : Calls Try.prog 16 #[.int .i64 c, .int .i64 k] w fun e w' => e = .returned (.bool (decide (arV c = k))) ∧ w' = w := by
  by_cases h1 : c = 1 ∨ c = 4 ∨ c = 6 ∨ c = 8
  · exact takes_one w c k h1
  · by_cases h2 : c = 7 ∨ c = 5
    · exact takes_none w c k h2
    · have HV : Hid (decide (arV c = k) = false) := by
        have : decide (arV c = k) = false := (by unfold arV; rw [if_neg (by omega), if_neg (by omega), if_neg (by omega), if_neg (by omega), if_neg (by omega), if_neg (by omega)]; simp)
        exact this
      rw [HV.out]
      have f1 : (c == 1) = false := by simp; omega
      have f4 : (c == 4) = false := by simp; omega
      have f6 : (c == 6) = false := by simp; omega
      have f8 : (c == 8) = false := by simp; omega
      have f7 : (c == 7) = false := by simp; omega
      have f5 : (c == 5) = false := by simp; omega
      clear h1 h2 HV
      go_enter Try.func16, Try.ntmps16
      go_wp2_with fail
      go_ret
      exact ⟨rfl, rfl⟩
theorem first_add {w : World} {b n k : Int} {x : Addr} {cap : Nat} (hs : SiteOk b n) (hx : x.block < w.heap.size) (hk : w.cell? x = some (.int .i64 k)) : Calls Try.prog 17 #[.agg #[.int .i64 b, .int .i64 n], .int .i64 1, .slice (some x) 1 cap] w (Gv (goT b n k (addH b n k) n.toNat 0) [] w) := by
  have HR : Hid (∀ w : World, Calls Try.prog 31 #[.agg #[.int .i64 b, .int .i64 n], .int .i64 k] w (Gv (goT b n k (addH b n k) n.toNat 0) [] w)) := fun w => sadd_any hs (by simp)
  generalize goT b n k (addH b n k) n.toNat 0 = t at *
  clear hs
  go_enter Try.func17, Try.ntmps17
  go_wp2_with fail
  obtain ⟨w2, hw2⟩ : ∃ w2, w2 = (World.alloc (World.alloc w (.cells #[.int .i64 b, .int .i64 n] 56)) (.cells #[.int .i64 0, .int .i64 0, .int .i64 0, .int .i64 0, .nilFunc] 54)) := ⟨_, rfl⟩
  have HB2 : Hid (Below w.heap.size w w2) := by rw [hw2]; exact bl2 _ _ _
  have HG0 : Hid (w2.heap[w.heap.size]? = some (.cells #[.int .i64 b, .int .i64 n] 56 (0, 0))) := by rw [hw2]; exact hp_past (hp_at (by simp))
  have HG1 : Hid (w2.heap[w.heap.size + 1]? = some (.cells #[.int .i64 0, .int .i64 0, .int .i64 0, .int .i64 0, .nilFunc] 54 (0, 0))) := by rw [hw2]; exact hp_at (by simp)
  have HS : Hid (∀ w' : World, (∀ q, q < w2.heap.size → q ≠ w.heap.size + 1 → w'.heap[q]? = w2.heap[q]?) → w'.cell? ⟨w.heap.size, 0, none⟩ = some (.int .i64 b) ∧ w'.cell? ⟨w.heap.size, 1, none⟩ = some (.int .i64 n) ∧ w'.cell? x = some (.int .i64 k)) := fun w' hq => ⟨(by rw [cell_at ((hq _ (heap_lt HG0.out) (by omega)).trans HG0.out)]; rfl), (by rw [cell_at ((hq _ (heap_lt HG0.out) (by omega)).trans HG0.out)]; rfl), (by
    rw [← hk]
    unfold World.cell?
    rw [hq _ (Nat.lt_of_lt_of_le hx HB2.out.size) (by omega), HB2.out.block _ hx])⟩
  rw [← hw2]
  clear hw2
  obtain ⟨s0, s1, s2⟩ := HS.out w2 (fun _ _ _ => rfl)
  have y0 : w.heap.size < w2.heap.size := heap_lt HG0.out
  have y1 : x.block < w2.heap.size := Nat.lt_of_lt_of_le hx HB2.out.size
  clear hk
  go_region_held3 (fun w' => w'.cell? ⟨w.heap.size, 0, none⟩ = some (.int .i64 b) ∧ w'.cell? ⟨w.heap.size, 1, none⟩ = some (.int .i64 n) ∧ w'.cell? x = some (.int .i64 k)) (first | go_keep | exact hS | exact hS5) (first
    | (go_at_call 31; refine (HR.out _).mono ?_; rintro e w4 h4; obtain ⟨cs, w5, rfl, hz, hst, hr, hold⟩ := gv_put (w := w) (F := []) (R := w.heap.size + 1) h4 (by first | exact HG1.out | (rw [(bl_drew1 w2).block _ (heap_lt HG1.out)]; exact HG1.out)) rfl (by simp) (by first | exact HB2.out | exact below_then HB2.out (bl_drew1 _)) (by omega) (by simp); have hS : w4.cell? ⟨w.heap.size, 0, none⟩ = some (.int .i64 b) ∧ w4.cell? ⟨w.heap.size, 1, none⟩ = some (.int .i64 n) ∧ w4.cell? x = some (.int .i64 k) := HS.out w4 (fun q hq _ => (below_then (bl_drew1 _) (gv_below h4)).block q hq); have hS5 : w5.cell? ⟨w.heap.size, 0, none⟩ = some (.int .i64 b) ∧ w5.cell? ⟨w.heap.size, 1, none⟩ = some (.int .i64 n) ∧ w5.cell? x = some (.int .i64 k) := HS.out w5 (fun q hq hqr => hold.out q hq hqr); clear h4))
  all_goals (go_wp2_with fail; exact ret_tn rfl rfl hr.out.1 hz rfl hr.out.2)
theorem first_del {w : World} {b n k : Int} {x : Addr} {cap : Nat} (hs : SiteOk b n) (hx : x.block < w.heap.size) (hk : w.cell? x = some (.int .i64 k)) : Calls Try.prog 17 #[.agg #[.int .i64 b, .int .i64 n], .int .i64 4, .slice (some x) 1 cap] w (Gv (goT b n k (delH b k) n.toNat 0) [] w) := by
  have HR : Hid (∀ w : World, Calls Try.prog 32 #[.agg #[.int .i64 b, .int .i64 n], .int .i64 k] w (Gv (goT b n k (delH b k) n.toNat 0) [] w)) := fun w => sdel_any hs (by simp)
  generalize goT b n k (delH b k) n.toNat 0 = t at *
  clear hs
  go_enter Try.func17, Try.ntmps17
  go_wp2_with fail
  obtain ⟨w2, hw2⟩ : ∃ w2, w2 = (World.alloc (World.alloc w (.cells #[.int .i64 b, .int .i64 n] 56)) (.cells #[.int .i64 0, .int .i64 0, .int .i64 0, .int .i64 0, .nilFunc] 54)) := ⟨_, rfl⟩
  have HB2 : Hid (Below w.heap.size w w2) := by rw [hw2]; exact bl2 _ _ _
  have HG0 : Hid (w2.heap[w.heap.size]? = some (.cells #[.int .i64 b, .int .i64 n] 56 (0, 0))) := by rw [hw2]; exact hp_past (hp_at (by simp))
  have HG1 : Hid (w2.heap[w.heap.size + 1]? = some (.cells #[.int .i64 0, .int .i64 0, .int .i64 0, .int .i64 0, .nilFunc] 54 (0, 0))) := by rw [hw2]; exact hp_at (by simp)
  have HS : Hid (∀ w' : World, (∀ q, q < w2.heap.size → q ≠ w.heap.size + 1 → w'.heap[q]? = w2.heap[q]?) → w'.cell? ⟨w.heap.size, 0, none⟩ = some (.int .i64 b) ∧ w'.cell? ⟨w.heap.size, 1, none⟩ = some (.int .i64 n) ∧ w'.cell? x = some (.int .i64 k)) := fun w' hq => ⟨(by rw [cell_at ((hq _ (heap_lt HG0.out) (by omega)).trans HG0.out)]; rfl), (by rw [cell_at ((hq _ (heap_lt HG0.out) (by omega)).trans HG0.out)]; rfl), (by
    rw [← hk]
    unfold World.cell?
    rw [hq _ (Nat.lt_of_lt_of_le hx HB2.out.size) (by omega), HB2.out.block _ hx])⟩
  rw [← hw2]
  clear hw2
  obtain ⟨s0, s1, s2⟩ := HS.out w2 (fun _ _ _ => rfl)
  have y0 : w.heap.size < w2.heap.size := heap_lt HG0.out
  have y1 : x.block < w2.heap.size := Nat.lt_of_lt_of_le hx HB2.out.size
  clear hk
  go_region_held3 (fun w' => w'.cell? ⟨w.heap.size, 0, none⟩ = some (.int .i64 b) ∧ w'.cell? ⟨w.heap.size, 1, none⟩ = some (.int .i64 n) ∧ w'.cell? x = some (.int .i64 k)) (first | go_keep | exact hS | exact hS5) (first
    | (go_at_call 32; refine (HR.out _).mono ?_; rintro e w4 h4; obtain ⟨cs, w5, rfl, hz, hst, hr, hold⟩ := gv_put (w := w) (F := []) (R := w.heap.size + 1) h4 (by first | exact HG1.out | (rw [(bl_drew1 w2).block _ (heap_lt HG1.out)]; exact HG1.out)) rfl (by simp) (by first | exact HB2.out | exact below_then HB2.out (bl_drew1 _)) (by omega) (by simp); have hS : w4.cell? ⟨w.heap.size, 0, none⟩ = some (.int .i64 b) ∧ w4.cell? ⟨w.heap.size, 1, none⟩ = some (.int .i64 n) ∧ w4.cell? x = some (.int .i64 k) := HS.out w4 (fun q hq _ => (below_then (bl_drew1 _) (gv_below h4)).block q hq); have hS5 : w5.cell? ⟨w.heap.size, 0, none⟩ = some (.int .i64 b) ∧ w5.cell? ⟨w.heap.size, 1, none⟩ = some (.int .i64 n) ∧ w5.cell? x = some (.int .i64 k) := HS.out w5 (fun q hq hqr => hold.out q hq hqr); clear h4))
  all_goals (go_wp2_with fail; exact ret_tn rfl rfl hr.out.1 hz rfl hr.out.2)
theorem first_has {w : World} {b n k : Int} {x : Addr} {cap : Nat} (hs : SiteOk b n) (hx : x.block < w.heap.size) (hk : w.cell? x = some (.int .i64 k)) : Calls Try.prog 17 #[.agg #[.int .i64 b, .int .i64 n], .int .i64 6, .slice (some x) 1 cap] w (Gv (goT b n k (hasH k) n.toNat 0) [] w) := by
  have HR : Hid (∀ w : World, Calls Try.prog 33 #[.agg #[.int .i64 b, .int .i64 n], .int .i64 k] w (Gv (goT b n k (hasH k) n.toNat 0) [] w)) := fun w => shas_any hs (by simp)
  generalize goT b n k (hasH k) n.toNat 0 = t at *
  clear hs
  go_enter Try.func17, Try.ntmps17
  go_wp2_with fail
  obtain ⟨w2, hw2⟩ : ∃ w2, w2 = (World.alloc (World.alloc w (.cells #[.int .i64 b, .int .i64 n] 56)) (.cells #[.int .i64 0, .int .i64 0, .int .i64 0, .int .i64 0, .nilFunc] 54)) := ⟨_, rfl⟩
  have HB2 : Hid (Below w.heap.size w w2) := by rw [hw2]; exact bl2 _ _ _
  have HG0 : Hid (w2.heap[w.heap.size]? = some (.cells #[.int .i64 b, .int .i64 n] 56 (0, 0))) := by rw [hw2]; exact hp_past (hp_at (by simp))
  have HG1 : Hid (w2.heap[w.heap.size + 1]? = some (.cells #[.int .i64 0, .int .i64 0, .int .i64 0, .int .i64 0, .nilFunc] 54 (0, 0))) := by rw [hw2]; exact hp_at (by simp)
  have HS : Hid (∀ w' : World, (∀ q, q < w2.heap.size → q ≠ w.heap.size + 1 → w'.heap[q]? = w2.heap[q]?) → w'.cell? ⟨w.heap.size, 0, none⟩ = some (.int .i64 b) ∧ w'.cell? ⟨w.heap.size, 1, none⟩ = some (.int .i64 n) ∧ w'.cell? x = some (.int .i64 k)) := fun w' hq => ⟨(by rw [cell_at ((hq _ (heap_lt HG0.out) (by omega)).trans HG0.out)]; rfl), (by rw [cell_at ((hq _ (heap_lt HG0.out) (by omega)).trans HG0.out)]; rfl), (by
    rw [← hk]
    unfold World.cell?
    rw [hq _ (Nat.lt_of_lt_of_le hx HB2.out.size) (by omega), HB2.out.block _ hx])⟩
  rw [← hw2]
  clear hw2
  obtain ⟨s0, s1, s2⟩ := HS.out w2 (fun _ _ _ => rfl)
  have y0 : w.heap.size < w2.heap.size := heap_lt HG0.out
  have y1 : x.block < w2.heap.size := Nat.lt_of_lt_of_le hx HB2.out.size
  clear hk
  go_region_held3 (fun w' => w'.cell? ⟨w.heap.size, 0, none⟩ = some (.int .i64 b) ∧ w'.cell? ⟨w.heap.size, 1, none⟩ = some (.int .i64 n) ∧ w'.cell? x = some (.int .i64 k)) (first | go_keep | exact hS | exact hS5) (first
    | (go_at_call 33; refine (HR.out _).mono ?_; rintro e w4 h4; obtain ⟨cs, w5, rfl, hz, hst, hr, hold⟩ := gv_put (w := w) (F := []) (R := w.heap.size + 1) h4 (by first | exact HG1.out | (rw [(bl_drew1 w2).block _ (heap_lt HG1.out)]; exact HG1.out)) rfl (by simp) (by first | exact HB2.out | exact below_then HB2.out (bl_drew1 _)) (by omega) (by simp); have hS : w4.cell? ⟨w.heap.size, 0, none⟩ = some (.int .i64 b) ∧ w4.cell? ⟨w.heap.size, 1, none⟩ = some (.int .i64 n) ∧ w4.cell? x = some (.int .i64 k) := HS.out w4 (fun q hq _ => (below_then (bl_drew1 _) (gv_below h4)).block q hq); have hS5 : w5.cell? ⟨w.heap.size, 0, none⟩ = some (.int .i64 b) ∧ w5.cell? ⟨w.heap.size, 1, none⟩ = some (.int .i64 n) ∧ w5.cell? x = some (.int .i64 k) := HS.out w5 (fun q hq hqr => hold.out q hq hqr); clear h4))
  all_goals (go_wp2_with fail; exact ret_tn rfl rfl hr.out.1 hz rfl hr.out.2)
theorem first_next {w : World} {b n k : Int} {x : Addr} {cap : Nat} (hs : SiteOk b n) (hx : x.block < w.heap.size) (hk : w.cell? x = some (.int .i64 k)) : Calls Try.prog 17 #[.agg #[.int .i64 b, .int .i64 n], .int .i64 8, .slice (some x) 1 cap] w (Gv (goT b n k (nextH b n k) n.toNat 0) [] w) := by
  have HR : Hid (∀ w : World, Calls Try.prog 34 #[.agg #[.int .i64 b, .int .i64 n], .int .i64 k] w (Gv (goT b n k (nextH b n k) n.toNat 0) [] w)) := fun w => snext_any hs (by simp)
  generalize goT b n k (nextH b n k) n.toNat 0 = t at *
  clear hs
  go_enter Try.func17, Try.ntmps17
  go_wp2_with fail
  obtain ⟨w2, hw2⟩ : ∃ w2, w2 = (World.alloc (World.alloc w (.cells #[.int .i64 b, .int .i64 n] 56)) (.cells #[.int .i64 0, .int .i64 0, .int .i64 0, .int .i64 0, .nilFunc] 54)) := ⟨_, rfl⟩
  have HB2 : Hid (Below w.heap.size w w2) := by rw [hw2]; exact bl2 _ _ _
  have HG0 : Hid (w2.heap[w.heap.size]? = some (.cells #[.int .i64 b, .int .i64 n] 56 (0, 0))) := by rw [hw2]; exact hp_past (hp_at (by simp))
  have HG1 : Hid (w2.heap[w.heap.size + 1]? = some (.cells #[.int .i64 0, .int .i64 0, .int .i64 0, .int .i64 0, .nilFunc] 54 (0, 0))) := by rw [hw2]; exact hp_at (by simp)
  have HS : Hid (∀ w' : World, (∀ q, q < w2.heap.size → q ≠ w.heap.size + 1 → w'.heap[q]? = w2.heap[q]?) → w'.cell? ⟨w.heap.size, 0, none⟩ = some (.int .i64 b) ∧ w'.cell? ⟨w.heap.size, 1, none⟩ = some (.int .i64 n) ∧ w'.cell? x = some (.int .i64 k)) := fun w' hq => ⟨(by rw [cell_at ((hq _ (heap_lt HG0.out) (by omega)).trans HG0.out)]; rfl), (by rw [cell_at ((hq _ (heap_lt HG0.out) (by omega)).trans HG0.out)]; rfl), (by
    rw [← hk]
    unfold World.cell?
    rw [hq _ (Nat.lt_of_lt_of_le hx HB2.out.size) (by omega), HB2.out.block _ hx])⟩
  rw [← hw2]
  clear hw2
  obtain ⟨s0, s1, s2⟩ := HS.out w2 (fun _ _ _ => rfl)
  have y0 : w.heap.size < w2.heap.size := heap_lt HG0.out
  have y1 : x.block < w2.heap.size := Nat.lt_of_lt_of_le hx HB2.out.size
  clear hk
  go_region_held3 (fun w' => w'.cell? ⟨w.heap.size, 0, none⟩ = some (.int .i64 b) ∧ w'.cell? ⟨w.heap.size, 1, none⟩ = some (.int .i64 n) ∧ w'.cell? x = some (.int .i64 k)) (first | go_keep | exact hS | exact hS5) (first
    | (go_at_call 34; refine (HR.out _).mono ?_; rintro e w4 h4; obtain ⟨cs, w5, rfl, hz, hst, hr, hold⟩ := gv_put (w := w) (F := []) (R := w.heap.size + 1) h4 (by first | exact HG1.out | (rw [(bl_drew1 w2).block _ (heap_lt HG1.out)]; exact HG1.out)) rfl (by simp) (by first | exact HB2.out | exact below_then HB2.out (bl_drew1 _)) (by omega) (by simp); have hS : w4.cell? ⟨w.heap.size, 0, none⟩ = some (.int .i64 b) ∧ w4.cell? ⟨w.heap.size, 1, none⟩ = some (.int .i64 n) ∧ w4.cell? x = some (.int .i64 k) := HS.out w4 (fun q hq _ => (below_then (bl_drew1 _) (gv_below h4)).block q hq); have hS5 : w5.cell? ⟨w.heap.size, 0, none⟩ = some (.int .i64 b) ∧ w5.cell? ⟨w.heap.size, 1, none⟩ = some (.int .i64 n) ∧ w5.cell? x = some (.int .i64 k) := HS.out w5 (fun q hq hqr => hold.out q hq hqr); clear h4))
  all_goals (go_wp2_with fail; exact ret_tn rfl rfl hr.out.1 hz rfl hr.out.2)
theorem first_least {w : World} {b n : Int} {va : Value} (hs : SiteOk b n) : Calls Try.prog 17 #[.agg #[.int .i64 b, .int .i64 n], .int .i64 7, va] w (Gv (readT b 0 (kbT b n)) [] w) := by
  have HR : Hid (∀ w : World, Calls Try.prog 35 #[.agg #[.int .i64 b, .int .i64 n], .int .i64 0, .func (.func 36) #[.agg #[.int .i64 b, .int .i64 n]] #[]] w (Gv (readT b 0 (kbT b n)) [] w)) := fun w => read_any hs (by omega) (fv_mk (by simp) (ent Try.func36 (by kernel_rfl) rfl) (fun z _ w' _ => by simpa [encI] using kb_any w' hs (by simp)))
  generalize readT b 0 (kbT b n) = t at *
  clear hs
  go_enter Try.func17, Try.ntmps17
  go_wp2_with fail
  refine (HR.out _).mono ?_
  rintro e w4 h4
  obtain ⟨cs, w5, rfl, hz, hst, hr, hold⟩ := gv_put (w := w) (F := []) (R := w.heap.size + 1) h4 (hp_at (by simp)) rfl (by simp) (bl2 _ _ _) (by omega) (by simp)
  clear h4
  go_wp2_with fail
  exact ret_tn rfl rfl hr.out.1 hz rfl hr.out.2
theorem first_len {w : World} {b n : Int} {va : Value} (hs : SiteOk b n) : Calls Try.prog 17 #[.agg #[.int .i64 b, .int .i64 n], .int .i64 5, va] w (Gv (cntT b n n.toNat 0 0) [] w) := by
  have HR : Hid (∀ w : World, Calls Try.prog 37 #[.agg #[.int .i64 b, .int .i64 n], .int .i64 0, .int .i64 0] w (Gv (cntT b n n.toNat 0 0) [] w)) := fun w => count_any hs _ w 0 0 [] (by simp) (by omega) (by omega) (by have := hs.2; omega)
  generalize cntT b n n.toNat 0 0 = t at *
  clear hs
  go_enter Try.func17, Try.ntmps17
  go_wp2_with fail
  refine (HR.out _).mono ?_
  rintro e w4 h4
  obtain ⟨cs, w5, rfl, hz, hst, hr, hold⟩ := gv_put (w := w) (F := []) (R := w.heap.size + 1) h4 (hp_at (by simp)) rfl (by simp) (bl2 _ _ _) (by omega) (by simp)
  clear h4
  go_wp2_with fail
  exact ret_tn rfl rfl hr.out.1 hz rfl hr.out.2
theorem first_any {w : World} {b n c : Int} {va : Value} {A : List Int} (hv : Nl w va A) (h : rightV b n c A.length = true) : Calls Try.prog 17 #[.agg #[.int .i64 b, .int .i64 n], .int .i64 c, va] w (Gv (firstT b n c A) [] w) := by
  obtain ⟨h1, h2, h3, h4, hc⟩ := call_of h
  have hs : SiteOk b n := ⟨⟨h3, h4⟩, h1, h2⟩
  have hone : A.length = 1 → ∃ x cap, va = .slice (some x) 1 cap ∧ x.block < w.heap.size ∧ w.cell? x = some (.int .i64 (nth A 0)) := fun hn => by
    obtain ⟨a, cap, rfl, hlen, hc1, hc2, hr, hl⟩ := hv
    obtain ⟨x, rfl, hxb, hcell⟩ := hl.resolve_left (by omega)
    have z0 := hcell 0 (by omega)
    rw [add_zero'] at z0
    exact ⟨x, cap, by rw [hn], hxb, z0⟩
  unfold firstT
  rcases hc with ⟨rfl, hn⟩ | ⟨rfl, hn⟩ | ⟨rfl, hn⟩ | ⟨rfl, hn⟩ | ⟨rfl, hn⟩ | ⟨rfl, hn⟩
  · obtain ⟨x, cap, rfl, hx, hk⟩ := hone hn
    exact first_add hs hx hk
  · obtain ⟨x, cap, rfl, hx, hk⟩ := hone hn
    exact first_del hs hx hk
  · obtain ⟨x, cap, rfl, hx, hk⟩ := hone hn
    exact first_has hs hx hk
  · obtain ⟨x, cap, rfl, hx, hk⟩ := hone hn
    exact first_next hs hx hk
  · exact first_least hs
  · exact first_len hs
end Go.Proofs.Ytaffkcliepfcmaa.Ch
