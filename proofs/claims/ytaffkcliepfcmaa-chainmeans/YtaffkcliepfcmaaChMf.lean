/- What is meant by a call without arguments; what Shape tells of cells that say a chain. -/
import Derived.Test.YtaffkcliepfcmaaChMe
import Derived.Test.YtaffkcliepfcmaaChSd
namespace Go.Proofs.Ytaffkcliepfcmaa.Ch
open Go.ChangeShapes Go.WideShapes Go.ChangeAt Go.RowKit
attribute [local go_sem ↓] Go.wp_at_zero Go.wp_at_succ

theorem out_inv {n : Nat} {C : List Int} {L Fr : List Nat} (hn : n ≤ 16) (h : CInv n C L Fr) : outS (n : Int) C = (4, kys C L, 0) := by
  obtain ⟨u, h1, h2, h3⟩ := inv_ok h
  have hk : okS (n : Int) C = true := by
    have := h.len
    simp only [okS, Bool.and_eq_true, decide_eq_true_eq]
    unfold sizeV
    rw [if_pos ⟨by omega, by omega⟩]
    omega
  unfold outS
  rw [if_pos hk, h1, if_neg (by omega), Int.toNat_natCast, hp_iff.2 ⟨Fr, h3⟩]
  rfl
theorem out_cases (m : Int) (C : List Int) : ((outS m C).2.2 = 1 ∨ (outS m C).2.2 = 12) ∨ ∃ (n : Nat) (L Fr : List Nat), m = n ∧ n ≤ 16 ∧ CInv n C L Fr ∧ outS m C = (4, kys C L, 0) := by
  cases hq : okS m C with
  | false => exact Or.inl (Or.inl (by unfold outS; rw [hq]; rfl))
  | true =>
    obtain ⟨n, rfl, hn, hC⟩ := okS_of hq
    by_cases hr : nth C 2 < 0 ∨ (n : Int) < nth C 2
    · exact Or.inl (Or.inr (by unfold outS; rw [hq, if_pos rfl, if_pos hr]))
    · cases h : hpV C (nth C 2).toNat with
      | none => exact Or.inl (Or.inr (by unfold outS; rw [hq, if_pos rfl, if_neg hr, h]; rfl))
      | some L =>
        obtain ⟨Fr, h1⟩ := hp_iff.1 h
        refine Or.inr ⟨n, L, Fr, rfl, hn, ok_inv (u := (nth C 2).toNat) hC (by omega) (by omega) h1, ?_⟩
        unfold outS
        rw [hq, if_pos rfl, if_neg hr, h]
        rfl
set_option maxRecDepth 100000 in
set_option maxHeartbeats 1000000 in
theorem means_none {w : World} {vl : Value} {K : List Int} {n : Nat} {call : Int} {va : Value} (hl : Nl w vl K) (hK : K.length ≤ 90) (hca : call = 5 ∨ call = 7) (hva : ∃ a cap, va = .slice a 0 cap) :
    Calls Try.prog 13 #[vl, .int .i64 (n : Int), .int .i64 call, va] w (MnP w vl (meanV n call [] K)) := by
  obtain ⟨xa, acap, rfl⟩ := hva
  have HLL : Hid (∀ w' : World, Below w.heap.size w w' → Nl w' vl K) := fun w' hb => hl.later hb (Nat.le_refl _)
  obtain ⟨la, lcap, rfl⟩ := nl_slice hl
  obtain ⟨_, _, hcell⟩ := nl_cells hl
  have HC : Hid (∀ i, i < K.length → ∃ x, la = some x ∧ x.block < w.heap.size ∧ w.cell? (x.add i) = some (.int .i64 (nth K i))) := hcell
  have HNUM : Hid (∀ w' : World, Below w.heap.size w w' → Calls Try.prog 10 #[.slice la 0 lcap] w' fun e w'' => ∃ v', e = .returned v' ∧ Below w'.heap.size w' w'') := fun w' hb => (numbers_any (nl_take (HLL.out w' hb) (Nat.zero_le _))).mono (fun e w'' ⟨v', h1, _, h3⟩ => ⟨v', h1, h3⟩)
  have hlcap : K.length ≤ lcap := by obtain ⟨_, _, e, _, h1, _⟩ := hl; injection e with _ _ e2; omega
  have h0c : (0 : Int) ≤ (lcap : Int) := by omega
  clear hl hcell
  rcases hca with rfl | rfl
  · have HRS : Hid (meanV n 5 [] K = (K, (K.length : Int), 0)) := by have : meanV n 5 [] K = (K, (K.length : Int), 0) := (by simp [meanV]); exact this
    go_enter Try.func13, Try.ntmps13
    go_wp2_with fail
    go_quiet (fail)
    obtain ⟨w1, hww1⟩ : ∃ w1, w1 = w.drewN nq := ⟨_, rfl⟩
    have HBw1 : Hid (Below w.heap.size w w1) := by rw [Hid, hww1]; exact below_drawn (Below.refl _ _) _
    rw [← hww1]
    clear hww1
    go_wp2_with fail
    refine (HNUM.out _ HBw1.out).mono ?_
    rintro e w2 ⟨v2, rfl, hb2'⟩
    have hb2 := below_then HBw1.out hb2'
    go_wp2_with fail
    go_ret3
    rw [HRS.out]
    exact ⟨_, rfl, hb2, HLL.out _ hb2, Or.inl rfl⟩
  · by_cases h0 : K.length = 0
    · obtain rfl : K = [] := List.length_eq_zero_iff.1 h0
      have HRS : Hid (meanV n 7 [] ([] : List Int) = ([], 0, 1)) := by
        have : meanV n 7 [] [] = ([], 0, 1) := (by simp [meanV, firK])
        exact this
      clear h0
      go_enter Try.func13, Try.ntmps13
      go_wp2_with fail
      go_quiet (fail)
      obtain ⟨w1, hww1⟩ : ∃ w1, w1 = w.drewN nq := ⟨_, rfl⟩
      have HBw1 : Hid (Below w.heap.size w w1) := by rw [Hid, hww1]; exact below_drawn (Below.refl _ _) _
      rw [← hww1]
      clear hww1
      go_wp2_with fail
      refine (HNUM.out _ HBw1.out).mono ?_
      rintro e w2 ⟨v2, rfl, hb2'⟩
      have hb2 := below_then HBw1.out hb2'
      go_wp2_with fail
      go_ret3
      rw [HRS.out]
      exact ⟨_, rfl, hb2, HLL.out _ hb2, Or.inl rfl⟩
    · have HRS : Hid (meanV n 7 [] K = (K, nth K 0, 0)) := by
        cases K with
        | nil => simp at h0
        | cons x l =>
          have : meanV n 7 [] (x :: l) = (x :: l, nth (x :: l) 0, 0) := (by simp [meanV, firK, nth])
          exact this
      have d0 : ((0 : Int) == (K.length : Int)) = false := by simp; omega
      have d1 : 0 < K.length := by omega
      have d2 : (0 : Int) < (K.length : Int) := by omega
      obtain ⟨x, rfl, hxb, hx⟩ := HC.out 0 (by omega)
      rw [add_zero'] at hx
      have HX : Hid (x.block < w.heap.size ∧ w.cell? x = some (.int .i64 (nth K 0))) := ⟨hxb, hx⟩
      generalize nth K 0 = z at *
      clear hx hxb HC h0
      go_enter Try.func13, Try.ntmps13
      go_wp2_with fail
      go_quiet (fail)
      obtain ⟨w1, hww1⟩ : ∃ w1, w1 = w.drewN nq := ⟨_, rfl⟩
      have HBw1 : Hid (Below w.heap.size w w1) := by rw [Hid, hww1]; exact below_drawn (Below.refl _ _) _
      rw [← hww1]
      clear hww1
      go_wp2_with fail
      refine (HNUM.out _ HBw1.out).mono ?_
      rintro e w2 ⟨v2, rfl, hb2'⟩
      have hb2 := below_then HBw1.out hb2'
      have hx2 : w2.cell? x = some (.int .i64 z) := cell_later hb2 HX.out.1 HX.out.2
      have hx3 : w2.cell? (x.add 0) = some (.int .i64 z) := by rw [add_zero']; exact hx2
      go_wp2_with fail
      go_quiet (fail)
      obtain ⟨w6, hww6⟩ : ∃ w6, w6 = w2.drewN nq := ⟨_, rfl⟩
      have HBw6 : Hid (Below w.heap.size w w6) := by rw [Hid, hww6]; exact below_drawn hb2 _
      rw [← hww6]
      clear hww6
      go_wp2_with fail
      go_ret3
      rw [HRS.out]
      exact ⟨_, rfl, HBw6.out, HLL.out _ HBw6.out, Or.inl rfl⟩
theorem means_all {w : World} {vl va : Value} {K A : List Int} {n : Nat} {call : Int} (hl : Nl w vl K) (hK : K.length ≤ 90) (hA : Nl w va A) (hr : rightV 0 n call A.length = true) :
    Calls Try.prog 13 #[vl, .int .i64 (n : Int), .int .i64 call, va] w (MnP w vl (meanV n call A K)) := by
  obtain ⟨_, _, _, _, hc⟩ := call_of hr
  have hcase : (A.length = 1 ∧ (call = 1 ∨ call = 4 ∨ call = 6 ∨ call = 8)) ∨ (A.length = 0 ∧ (call = 5 ∨ call = 7)) := by
    rcases hc with ⟨rfl, h⟩ | ⟨rfl, h⟩ | ⟨rfl, h⟩ | ⟨rfl, h⟩ | ⟨rfl, h⟩ | ⟨rfl, h⟩ <;> simp [h]
  obtain ⟨aa, ac, rfl⟩ := nl_slice hA
  have hone : A.length = 1 → ∃ xa ak, aa = some xa ∧ A = [ak] ∧ xa.block < w.heap.size ∧ w.cell? xa = some (.int .i64 ak) ∧ Sx ak := fun h => by
    match A, h, hA with
    | [ak], _, hA =>
      obtain ⟨_, _, h3⟩ := nl_cells hA
      obtain ⟨x, e, hxb, hx⟩ := h3 0 (by simp)
      rw [add_zero'] at hx
      exact ⟨x, ak, e, rfl, hxb, hx, hA.w64 ak (by simp)⟩
  rcases hcase with ⟨h1, h2⟩ | ⟨h1, h2⟩
  · obtain ⟨xa, ak, rfl, rfl, hxb, hx, hs⟩ := hone h1
    exact means_one hl hK h2 hxb hx hs
  · obtain rfl : A = [] := List.length_eq_zero_iff.1 h1
    exact means_none hl hK h2 ⟨_, _, rfl⟩
end Go.Proofs.Ytaffkcliepfcmaa.Ch
