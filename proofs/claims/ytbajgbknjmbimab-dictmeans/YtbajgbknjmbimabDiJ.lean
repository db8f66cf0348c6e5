/- What the cells of a dict say, by the document: finds. -/
import Derived.Test.YtbajgbknjmbimabDiH
import Derived.Test.YtbajgbknjmbimabDiR
namespace Go.Proofs.Ytbajgbknjmbimab.Di
open Go.ChangeShapes Go.WideShapes Go.ChangeAt Go.RowKit
attribute [local go_sem ↓] Go.wp_at_zero Go.wp_at_succ

theorem lk_zero {C : List Int} {key n i : Int} {c : Nat} (h : stV C i = 0) : (look2 C key n (c + 1) i (-1)).1 = -1 := by
  simp only [look2]
  rw [if_neg (by rw [h]; decide), if_pos h]
theorem lk_hit {C : List Int} {key n i : Int} {c : Nat} (h : stV C i = 1) (hk : kyV C i = key) : (look2 C key n (c + 1) i (-1)).1 = i := by
  simp only [look2]
  rw [if_pos h, if_pos hk]
theorem lk_pass {C : List Int} {key n i : Int} {c : Nat} (h0 : stV C i ≠ 0) (h1 : stV C i = 1 → kyV C i ≠ key) : (look2 C key n (c + 1) i (-1)).1 = (look2 C key n c (nxtV n i) (-1)).1 := by
  simp only [look2]
  by_cases h : stV C i = 1
  · rw [if_pos h, if_neg (h1 h)]
  · rw [if_neg h, if_neg h0]
    exact look_free1 _ _ _ _
/-- The cells of a slot, by a number. -/
theorem slot_in {w w' : World} {a : Option Addr} {m : Int} {l : List Int} (i : Int) (hcc : ∀ i, i < l.length → ∃ x, a = some x ∧ x.block < w.heap.size ∧ w.cell? (x.add i) = some (.int .i64 (nth l i))) (hm : 0 ≤ m ∧ m ≤ 16 ∧ (l.length : Int) = 3 * m + 1) (hi : 0 ≤ i ∧ i < m) (hb : Below w.heap.size w w') :
    ∃ (x : Addr) (q0 q1 q2 : Nat), a = some x ∧ (q0 < l.length ∧ q1 < l.length ∧ q2 < l.length) ∧ w'.cell? (x.add q0) = some (.int .i64 (stV l i)) ∧ w'.cell? (x.add q1) = some (.int .i64 (kyV l i)) ∧ w'.cell? (x.add q2) = some (.int .i64 (vlV l i)) ∧ (wrap64 (3 * i) = 3 * i ∧ wrap64 (1 + 3 * i) = (q0 : Int) ∧ wrap64 (2 + 3 * i) = (q1 : Int) ∧ wrap64 (3 + 3 * i) = (q2 : Int)) := by
  obtain ⟨j, rfl⟩ := Int.eq_ofNat_of_zero_le hi.1
  obtain ⟨x, q0, q1, q2, st, ky, vl, h1, h2, h3, h4, h5, h6, h7, h8⟩ := slot_at (j := j) (c := m.toNat - j - 1) hcc hm (by omega) hb
  obtain ⟨⟨e0, e1, e2⟩, rfl, rfl, rfl⟩ := h8.out
  refine ⟨x, q0, q1, q2, h1, ⟨h2, h3, h4⟩, h5, h6, h7, ?_⟩
  subst e0 e1 e2
  unfold wrap64
  omega
theorem fn_wrap {f m : Int} {j : Nat} (hf : 0 ≤ f ∧ f < m) (hm : m ≤ 16) (hj : (j : Int) < m) : wrap64 (f + (j : Int)) = f + (j : Int) ∧ wrap64 ((j : Int) + 1) = ((j + 1 : Nat) : Int) := by
  unfold wrap64
  omega
theorem fn_slot {f m : Int} {j : Nat} (hf : 0 ≤ f ∧ f < m) : 0 ≤ (f + (j : Int)).tmod m ∧ (f + (j : Int)).tmod m < m := by
  rw [Int.tmod_eq_emod_of_nonneg (by omega)]
  exact ⟨Int.emod_nonneg _ (by omega), Int.emod_lt_of_pos _ (by omega)⟩
theorem fn_a {m : Int} (h : 0 < m ∧ m ≤ 16) : ((0 : Nat) : Int) + (m.toNat : Int) = m := by omega
theorem fn_d0 {m : Int} {j : Nat} (h : (j : Int) + ((0 : Nat) : Int) = m) : decide ((j : Int) < m) = false := by simp; omega
theorem fn_d1 {m : Int} {j c : Nat} (h : (j : Int) + ((c + 1 : Nat) : Int) = m) : decide ((j : Int) < m) = true ∧ (j : Int) < m ∧ ((j + 1 : Nat) : Int) + (c : Int) = m := by
  refine ⟨?_, by omega, by omega⟩
  simp
  omega
theorem fn_no {r s : Int} (h : r = -1) (hs : 0 ≤ s) : decide (r = s) = false := by simp; omega
theorem fn_eq {r i s : Int} (h : i = r) : decide (r = s) = (i == s) := by rw [h, Bool.eq_iff_iff]; simp
theorem fn_first {f m : Int} (hf : 0 ≤ f ∧ f < m) : (f + ((0 : Nat) : Int)).tmod m = f := by
  simp only [Int.natCast_zero, Int.add_zero]
  exact Int.tmod_eq_of_lt hf.1 hf.2
set_option maxRecDepth 10000 in
set_option maxHeartbeats 2000000 in
theorem rfinds_any {w : World} {m s : Int} {vc : Value} {C : List Int} (hc : Nl w vc C) (hm : 0 ≤ m ∧ m ≤ 16 ∧ (C.length : Int) = 3 * m + 1) (hs : 0 ≤ s ∧ s < m) : Calls Try.prog 27 #[.int .i64 m, vc, .int .i64 s] w fun e w' => e = .returned (.bool (decide ((lookV C (kyV C s) m).1 = s))) ∧ Below w.heap.size w w' := by
  obtain ⟨ca, cap, rfl⟩ := nl_slice hc
  obtain ⟨_, hcl, hcc⟩ := nl_cells hc
  obtain ⟨x, q0, q1, q2, rfl, ⟨_, hq1, _⟩, _, x1, _, g0, _, g1, _⟩ := slot_in s hcc hm hs (Below.refl _ _)
  have HSL : Hid (∀ (w' : World) (i : Int), Below w.heap.size w w' → 0 ≤ i ∧ i < m → ∃ (x' : Addr) (q0 q1 q2 : Nat), some x = some x' ∧ (q0 < C.length ∧ q1 < C.length ∧ q2 < C.length) ∧ w'.cell? (x'.add q0) = some (.int .i64 (stV C i)) ∧ w'.cell? (x'.add q1) = some (.int .i64 (kyV C i)) ∧ w'.cell? (x'.add q2) = some (.int .i64 (vlV C i)) ∧ (wrap64 (3 * i) = 3 * i ∧ wrap64 (1 + 3 * i) = (q0 : Int) ∧ wrap64 (2 + 3 * i) = (q1 : Int) ∧ wrap64 (3 + 3 * i) = (q2 : Int))) := fun w' i hb hi => slot_in i hcc hm hi hb
  generalize kyV C s = key at *
  have HF : Hid (∀ w : World, Calls Try.prog 38 #[.int .i64 key, .int .i64 m] w fun e w' => e = .returned (.int .i64 (firV key m)) ∧ w' = w) := fun w => rfirst_any w key m ⟨hm.1, hm.2.1⟩
  obtain ⟨r, hr⟩ : ∃ r, (lookV C key m).1 = r := ⟨_, rfl⟩
  have HR : Hid ((look2 C key m m.toNat (firV key m) (-1)).1 = r) := hr
  have HFI : Hid (0 ≤ firV key m ∧ firV key m < m) := fir_lt ⟨by omega, hm.2.1⟩
  have HMM : Hid (0 < m ∧ m ≤ 16) := ⟨by omega, hm.2.1⟩
  have hn1 : (m == 0) = false := by simp; omega
  have hn0 : ¬ m = 0 := by omega
  have HS0 : Hid (0 ≤ s) := hs.1
  rw [hr]
  generalize firV key m = f at *
  clear hr hc hcc hcl hm hs
  go_enter Try.func27, Try.ntmps27
  go_wp2_with fail
  clear x1 g0 g1 hq1
  go_loopg [8] m.toNat (fun gh jv wr => ∃ (j c : Nat), c = gh ∧ (j : Int) + c = m ∧ jv = .int .i64 (j : Int) ∧ Below w.heap.size w wr ∧ (look2 C key m c ((f + (j : Int)).tmod m) (-1)).1 = r)
  case atStart => exact ⟨0, m.toNat, rfl, fn_a HMM.out, rfl, Below.refl _ _, by rw [fn_first HFI.out]; exact HR.out⟩
  case round =>
    obtain ⟨j, c, rfl, hjc, rfl, hbel, hres⟩ := hrel
    have HBE : Hid (Below w.heap.size w wr) := hbel
    clear hbel
    cases c with
    | zero =>
      have d1 : decide ((j : Int) < m) = false := fn_d0 hjc
      have HD : Hid (decide (r = s) = false) := fn_no hres.symm HS0.out
      clear hres hjc
      go_wp2_with fail
      go_ret
      exact ⟨by rw [HD.out]; rfl, HBE.out⟩
    | succ c =>
      obtain ⟨d1, hjm, hjn⟩ := fn_d1 hjc
      obtain ⟨hw1, hw2⟩ := fn_wrap (j := j) HFI.out HMM.out.2 hjm
      have HNX : Hid (((j + 1 : Nat) : Int) + (c : Int) = m ∧ wrap64 ((j : Int) + 1) = ((j + 1 : Nat) : Int)) := ⟨hjn, hw2⟩
      have hib := fn_slot (m := m) (j := j) HFI.out
      have HWN : Hid ((f + ((j + 1 : Nat) : Int)).tmod m = nxtV m ((f + (j : Int)).tmod m)) := way_next (f := f) (j := (j : Int)) (n := m) HMM.out.1 HFI.out.1 (Int.natCast_nonneg j)
      generalize hi : (f + (j : Int)).tmod m = i at *
      obtain ⟨x', q0, q1, q2, hxx, ⟨b0, b1, _⟩, y0, y1, _, e0, e1, e2, _⟩ := HSL.out wr i HBE.out hib
      obtain rfl : x = x' := by injection hxx
      have HRS : Hid ((look2 C key m (c + 1) i (-1)).1 = r) := hres
      clear hjc hib hres hw2 hxx hjm hjn
      go_wp2_with fail
      refine (HF.out _).mono ?_
      rintro e wa ⟨rfl, hwa⟩
      obtain rfl : wr = wa := hwa.symm
      clear hwa
      generalize hst : stV C i = st at *
      generalize hky : kyV C i = ky at *
      by_cases s0 : st = 0
      · have HD : Hid (decide (r = s) = false) := by
          have h1 := HRS.out
          rw [lk_zero (by rw [hst]; exact s0)] at h1
          exact fn_no h1.symm HS0.out
        subst s0
        clear hst hky
        go_wp2_with fail
        go_ret
        exact ⟨by rw [HD.out]; rfl, HBE.out⟩
      · have c0 : (st == 0) = false := by simpa using s0
        by_cases hit : st = 1 ∧ ky = key
        · obtain ⟨rfl, rfl⟩ := hit
          have HD : Hid (decide (r = s) = (i == s)) := by
            have h1 := HRS.out
            rw [lk_hit hst hky] at h1
            exact fn_eq h1
          clear hst hky c0 s0
          go_wp2_with fail
          go_ret
          exact ⟨by rw [HD.out]; rfl, HBE.out⟩
        · have HQ : Hid ((look2 C key m c (nxtV m i) (-1)).1 = r) := by
            rw [Hid, ← HRS.out]
            exact (lk_pass (by rw [hst]; exact s0) (fun h => by rw [hky]; rw [hst] at h; exact fun e => hit ⟨h, e⟩)).symm
          clear hst hky s0
          by_cases s1 : st = 1
          · have ck : (ky == key) = false := by simpa using fun e => hit ⟨s1, e⟩
            subst s1
            clear hit c0
            go_wp2_with fail
            go_roundg c
            case rel => exact ⟨j + 1, c, rfl, HNX.out.1, by first | rw [HNX.out.2] | go_num, HBE.out, by rw [HWN.out]; exact HQ.out⟩
            case measure => exact Nat.lt_succ_self c
          · have c1 : (st == 1) = false := by simpa using s1
            clear hit s1
            go_wp2_with fail
            go_roundg c
            case rel => exact ⟨j + 1, c, rfl, HNX.out.1, by first | rw [HNX.out.2] | go_num, HBE.out, by rw [HWN.out]; exact HQ.out⟩
            case measure => exact Nat.lt_succ_self c
end Go.Proofs.Ytbajgbknjmbimab.Di
