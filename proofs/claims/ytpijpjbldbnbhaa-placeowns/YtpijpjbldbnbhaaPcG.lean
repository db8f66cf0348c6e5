/- PlaceApart, walked. -/
import Derived.Test.YtpijpjbldbnbhaaPcF
import Derived.Deep.CutBlock
import Derived.Deep.DeepCutAuto
namespace Go.Proofs.Ytpijpjbldbnbhaa.Pc
open Go.ChangeShapes Go.WideShapes Go.ChangeAt Go.RowKit
attribute [local go_sem ↓] Go.wp_at_zero Go.wp_at_succ

def cfCells (w1 : World) (P : Nat) (a b d s : Int) (mu : Bool) (t : Int) (vr : Value) : Prop := w1.cell? ⟨P, 0, none⟩ = some (.int .i64 a) ∧ w1.cell? ⟨P, 1, none⟩ = some (.int .i64 b) ∧ w1.cell? ⟨P, 2, none⟩ = some (.int .i64 d) ∧ w1.cell? ⟨P, 3, none⟩ = some (.int .i64 s) ∧ w1.cell? ⟨P, 4, none⟩ = some (.bool mu) ∧ w1.cell? ⟨P, 5, none⟩ = some (.int .i64 t) ∧ w1.cell? ⟨P, 6, none⟩ = some vr
theorem cf_cells {w1 : World} {P : Nat} {a b d s : Int} {mu : Bool} {t : Int} {vr : Value} (hr : w1.heap[P]? = some (.cells #[.int .i64 a, .int .i64 b, .int .i64 d, .int .i64 s, .bool mu, .int .i64 t, vr] 24 (0, 0))) : cfCells w1 P a b d s mu t vr := ⟨(cell_at hr 0).trans rfl, (cell_at hr 1).trans rfl, (cell_at hr 2).trans rfl, (cell_at hr 3).trans rfl, (cell_at hr 4).trans rfl, (cell_at hr 5).trans rfl, (cell_at hr 6).trans rfl⟩
theorem apart_no {w : World} {v : Value} {c : Cf} (h : CfV w v c) (hq : okC c = false) : Calls Try.prog 7 #[v] w (Yes w) := by
  have HC : Hid (∀ w' : World, Below w.heap.size w w' → Calls Try.prog 9 #[v] w' fun e w'' => e = .returned (.int .i64 (chkV c)) ∧ Below w'.heap.size w' w'') := fun w' hb => check_any (h.later hb (Nat.le_refl _))
  have HD : Hid (∀ w' : World, Below w.heap.size w w' → Calls Try.prog 10 #[v] w' fun e w'' => e = .returned (.int .i64 (chkV c)) ∧ Below w'.heap.size w' w'') := fun w' hb => rcheck_any (h.later hb (Nat.le_refl _))
  obtain ⟨vr, rfl, hR⟩ := h
  have e1 : chkV c = 13 := by unfold chkV; rw [hq]; rfl
  rw [e1] at HC HD
  clear hR e1 hq
  obtain ⟨a, b, d, s, mu, t, R⟩ := c
  unfold cfA Yes at *
  dsimp only at *
  go_enter Try.func7, Try.ntmps7
  go_wp2_with fail
  refine (HC.out _ (below_a1 _ _)).mono ?_
  rintro e w1 ⟨rfl, hb⟩
  obtain ⟨k0, k1, k2, k3, k4, k5, k6⟩ := cf_cells (row_nx hb)
  have HB : Hid (Below w.heap.size w w1) := below_then (below_a1 _ _) hb
  clear hb
  go_wp2_with fail
  refine (HD.out _ HB.out).mono ?_
  rintro e w2 ⟨rfl, hb2⟩
  go_wp2_with fail
  go_ret
  exact ⟨rfl, bt HB.out hb2⟩
theorem apart_yes {w : World} {v : Value} {c : Cf} (h : CfV w v c) (hq : okC c = true) : Calls Try.prog 7 #[v] w (Yes w) := by
  have HC : Hid (∀ w' : World, Below w.heap.size w w' → Calls Try.prog 9 #[v] w' fun e w'' => e = .returned (.int .i64 (chkV c)) ∧ Below w'.heap.size w' w'') := fun w' hb => check_any (h.later hb (Nat.le_refl _))
  have HD : Hid (∀ w' : World, Below w.heap.size w w' → Calls Try.prog 10 #[v] w' fun e w'' => e = .returned (.int .i64 (chkV c)) ∧ Below w'.heap.size w' w'') := fun w' hb => rcheck_any (h.later hb (Nat.le_refl _))
  have HS : Hid (∀ (x : Rg) (w : World), Calls Try.prog 11 #[regV x] w fun e w' => e = .returned (.tuple #[.int .i64 (szV x), .int .i64 (erV x)]) ∧ Below w.heap.size w w') := fun x w => size_any w x
  have HE : Hid (∀ w' : World, Below w.heap.size w w' → Calls Try.prog 15 #[v] w' fun e w'' => e = .returned (.tuple #[.int .i64 (c.raw + sumV c.R), .int .i64 0]) ∧ Below w'.heap.size w' w'') := fun w' hb => by
    have := cells_any (h.later hb (Nat.le_refl _))
    unfold Two cellsV at this
    rw [hq] at this
    exact this
  have HF : Hid (∀ w' : World, Below w.heap.size w w' → Calls Try.prog 13 #[v, .int .i64 (c.R.length : Int)] w' fun e w'' => e = .returned (.tuple #[.int .i64 0, .int .i64 1]) ∧ Below w'.heap.size w' w'') := fun w' hb => by
    have := base_any (h.later hb (Nat.le_refl _)) (c.R.length : Int)
    unfold Two baseV at this
    rw [hq, if_pos rfl, if_neg (by omega)] at this
    exact this
  have HA : Hid (∀ (n : Nat) (w' : World), n < c.R.length → Below w.heap.size w w' → Calls Try.prog 13 #[v, .int .i64 (n : Int)] w' fun e w'' => e = .returned (.tuple #[.int .i64 (c.raw + sumV (c.R.take n)), .int .i64 0]) ∧ Below w'.heap.size w' w'') := fun n w' hn hb => by
    have := base_any (h.later hb (Nat.le_refl _)) (n : Int)
    unfold Two baseV at this
    rw [hq, if_pos rfl, if_pos (by omega), Int.toNat_natCast] at this
    exact this
  have HK : Hid (∀ x ∈ c.R, okR x = true) := by
    simp only [okC, okL, Bool.and_eq_true, List.all_eq_true] at hq
    exact fun x hx => hq.2.2 x hx
  have hk := okC_raw hq
  have HP : Hid (0 ≤ c.raw ∧ c.raw ≤ 64) := ⟨by omega, hk.2.1⟩
  have H8 : Hid (c.R.length ≤ 8) := hk.2.2
  obtain ⟨vr, rfl, hR⟩ := h
  have e1 : chkV c = 0 := by unfold chkV; rw [hq]; rfl
  rw [e1] at HC HD
  obtain ⟨ar, cap, rfl, hlen, hcap, hcs, hl⟩ := hR
  have HL : Hid (RL w ar c.R) := hl
  clear e1 hq hk hl hcap hcs
  obtain ⟨a, b, d, s, mu, t, R⟩ := c
  unfold cfA Yes at *
  dsimp only at *
  go_enter Try.func7, Try.ntmps7
  go_wp2_with fail
  refine (HC.out _ (below_a1 _ _)).mono ?_
  rintro e w1 ⟨rfl, hb⟩
  obtain ⟨k0, k1, k2, k3, k4, k5, k6⟩ := cf_cells (row_nx hb)
  have HB1 : Hid (w1.heap[w.heap.size]? = some (.cells #[.int .i64 a, .int .i64 b, .int .i64 d, .int .i64 s, .bool mu, .int .i64 t, .slice ar R.length cap] 24 (0, 0))) := row_nx hb
  have HB : Hid (Below w.heap.size w w1) := below_then (below_a1 _ _) hb
  clear hb
  go_wp2_with fail
  refine (HD.out _ HB.out).mono ?_
  rintro e w2 ⟨rfl, hb2⟩
  have hr2 : w2.heap[w.heap.size]? = some (.cells #[.int .i64 a, .int .i64 b, .int .i64 d, .int .i64 s, .bool mu, .int .i64 t, .slice ar R.length cap] 24 (0, 0)) := by rw [hb2.block _ (heap_lt HB1.out)]; exact HB1.out
  have HR2 : Hid (w2.heap[w.heap.size]? = some (.cells #[.int .i64 a, .int .i64 b, .int .i64 d, .int .i64 s, .bool mu, .int .i64 t, .slice ar R.length cap] 24 (0, 0))) := hr2
  have HB2 : Hid (Below w.heap.size w w2) := bt HB.out hb2
  have k0' : w2.cell? ⟨w.heap.size, 0, none⟩ = some (.int .i64 a) := (cell_at hr2 0).trans rfl
  clear hb2 HB HB1 hr2 k0 k1 k2 k3 k4 k5 k6 HC HD
  go_wp2_with fail
  go_loopw [5, 6] (fun cv iv wr => ∃ (j : Nat) (c : Int), j ≤ R.length ∧ iv = .int .i64 (j : Int) ∧ cv = .int .i64 c ∧ Hid (c = a + sumV (R.take j)) ∧ Below w.heap.size w wr ∧ wr.heap[w.heap.size]? = some (.cells #[.int .i64 a, .int .i64 b, .int .i64 d, .int .i64 s, .bool mu, .int .i64 t, .slice ar R.length cap] 24 (0, 0))) (fun _ iv _ => R.length - (intOf iv).toNat)
  case atStart => exact ⟨0, a, by omega, rfl, rfl, by simp [Hid, sumV], HB2.out, HR2.out⟩
  case round =>
    obtain ⟨j, c, hj, rfl, rfl, HJ, hbel, hr⟩ := hrel
    have HB : Hid (Below w.heap.size w wr) := hbel
    have HR : Hid (wr.heap[w.heap.size]? = some (.cells #[.int .i64 a, .int .i64 b, .int .i64 d, .int .i64 s, .bool mu, .int .i64 t, .slice ar R.length cap] 24 (0, 0))) := hr
    obtain ⟨k0, k1, k2, k3, k4, k5, k6⟩ := cf_cells hr
    clear hbel hr HR2 HB2 k0'
    by_cases hlt : j < R.length
    · have hjd : decide ((j : Int) < (R.length : Int)) = true := by simp; omega
      obtain ⟨x, rfl, _, _⟩ := HL.out.at HB.out hlt
      have HS2 : Hid (wrap64 (c + szV (nthR R j)) = a + sumV (R.take (j + 1))) := by
        rw [Hid, HJ.out]
        exact sum_bd HP.out H8.out hlt
      have hw : wrap64 ((j : Int) + 1) = (j : Int) + 1 := wz hlt (by omega)
      have HM : Hid (R.length - (j + 1) < R.length - j) := mz _ _ hlt
      have HA' := fun w' hb => HA.out j w' hlt hb
      rw [← HJ.out] at HA'
      have HAJ : Hid (∀ w' : World, Below w.heap.size w w' → Calls Try.prog 13 #[.agg #[.int .i64 a, .int .i64 b, .int .i64 d, .int .i64 s, .bool mu, .int .i64 t, .slice (some x) R.length cap], .int .i64 (j : Int)] w' fun e w'' => e = .returned (.tuple #[.int .i64 c, .int .i64 0]) ∧ Below w'.heap.size w' w'') := HA'
      have he : erV (nthR R j) = 0 := by
        unfold erV
        rw [HK.out _ (nthR_mem hlt)]
        rfl
      have HZ : Hid (∀ w : World, Calls Try.prog 11 #[regV (nthR R j)] w fun e w' => e = .returned (.tuple #[.int .i64 (szV (nthR R j)), .int .i64 (erV (nthR R j))]) ∧ Below w.heap.size w w') := fun w => HS.out _ w
      have HCL : Hid (∀ w' : World, Below w.heap.size w w' → w'.cell? (x.add (j * 2)) = some (.int .i64 (nthR R j).1) ∧ w'.cell? ⟨(x.add (j * 2)).block, (x.add (j * 2)).off + 1, none⟩ = some (.int .i64 (nthR R j).2)) := fun w' hb => by
        obtain ⟨y, hy, z1, z2⟩ := HL.out.at hb hlt
        cases hy
        exact ⟨z1, z2⟩
      have hsz : decide (szV (nthR R j) < 0) = false := by have := sz_le (nthR R j); simp; omega
      rw [he] at HZ
      clear HL HJ HA HA' he HE HF HS
      generalize szV (nthR R j) = sz at *
      generalize nthR R j = r at *
      obtain ⟨k, m⟩ := r
      obtain ⟨y, hd⟩ : ∃ y, wrap64 (c + sz) = y := ⟨_, rfl⟩
      have HDD : Hid (y = a + sumV (R.take (j + 1))) := by rw [Hid, ← hd, HS2.out]
      clear HS2
      unfold regV at HZ
      dsimp only at *
      go_wp2_with fail
      refine (HAJ.out _ HB.out).mono ?_
      rintro e w3 ⟨rfl, hb3⟩
      have hr3 : w3.heap[w.heap.size]? = some (.cells #[.int .i64 a, .int .i64 b, .int .i64 d, .int .i64 s, .bool mu, .int .i64 t, .slice (some x) R.length cap] 24 (0, 0)) := by rw [hb3.block _ (heap_lt HR.out)]; exact HR.out
      have HR3 : Hid (w3.heap[w.heap.size]? = some (.cells #[.int .i64 a, .int .i64 b, .int .i64 d, .int .i64 s, .bool mu, .int .i64 t, .slice (some x) R.length cap] 24 (0, 0))) := hr3
      have HB3 : Hid (Below w.heap.size w w3) := bt HB.out hb3
      have k6' : w3.cell? ⟨w.heap.size, 6, none⟩ = some (.slice (some x) R.length cap) := (cell_at hr3 6).trans rfl
      obtain ⟨z1, z2⟩ := HCL.out w3 HB3.out
      clear hb3 HB HR hr3 k0 k1 k2 k3 k4 k5 k6 HAJ
      go_wp2_with fail
      refine (HZ.out _).mono ?_
      rintro e w4 ⟨rfl, hb4⟩
      have HR4 : Hid (w4.heap[w.heap.size]? = some (.cells #[.int .i64 a, .int .i64 b, .int .i64 d, .int .i64 s, .bool mu, .int .i64 t, .slice (some x) R.length cap] 24 (0, 0))) := by rw [Hid, hb4.block _ (heap_lt HR3.out)]; exact HR3.out
      have HB4 : Hid (Below w.heap.size w w4) := bt HB3.out hb4
      clear hb4 HB3 HR3 z1 z2 k6'
      go_wp2_with fail
      go_roundw
      case rel => exact ⟨j + 1, y, hlt, by go_num, by rw [hd], HDD, HB4.out, HR4.out⟩
      case measure => simpa [intOf] using HM.out
    · obtain rfl : j = R.length := by omega
      have hz : a + sumV R = c := by
        have := HJ.out
        rw [List.take_length] at this
        exact this.symm
      rw [hz] at HE
      clear HL HA HS HJ hz
      go_wp2_with fail
      refine (HE.out _ HB.out).mono ?_
      rintro e w3 ⟨rfl, hb3⟩
      have hr3 : w3.heap[w.heap.size]? = some (.cells #[.int .i64 a, .int .i64 b, .int .i64 d, .int .i64 s, .bool mu, .int .i64 t, .slice ar R.length cap] 24 (0, 0)) := by rw [hb3.block _ (heap_lt HR.out)]; exact HR.out
      have HB3 : Hid (Below w.heap.size w w3) := bt HB.out hb3
      clear k0 k1 k2 k3 k4 k5 k6
      obtain ⟨k0, k1, k2, k3, k4, k5, k6⟩ := cf_cells hr3
      clear hb3 HB HR hr3 HE
      go_wp2_with fail
      refine (HF.out _ HB3.out).mono ?_
      rintro e w4 ⟨rfl, hb4⟩
      go_wp2_with fail
      go_ret
      exact ⟨rfl, bt HB3.out hb4⟩
theorem apart_walk {w : World} {v : Value} {c : Cf} (h : CfV w v c) : Calls Try.prog 7 #[v] w (Yes w) := by
  cases hq : okC c
  · exact apart_no h hq
  · exact apart_yes h hq
end Go.Proofs.Ytpijpjbldbnbhaa.Pc
