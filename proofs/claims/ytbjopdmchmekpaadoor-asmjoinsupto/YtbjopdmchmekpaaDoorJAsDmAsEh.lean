/- The document's number. -/
import Derived.Test.YtbjopdmchmekpaaDoorJAsDnAsEa
import Derived.Test.YtbjopdmchmekpaaDoorJAsDaAsEg
import Derived.Test.YtbjopdmchmekpaaDoorAsO
import Derived.Test.YtbjopdmchmekpaaDoorAsE
import Derived.RegionTactic
import Derived.BigRegion
namespace Go.Proofs.YtbjopdmchmekpaaDoor
open Go.ChangeShapes Go.WideShapes Go.ChangeAt Go.RowKit

def minS : ByteArray := ⟨#[45, 57, 50, 50, 51, 51, 55, 50, 48, 51, 54, 56, 53, 52, 55, 55, 53, 56, 48, 56]⟩
theorem val_lt : ∀ (n : Nat) (l : List UInt8), l.length = n → (∀ b ∈ l, isDg b = true) → valD l < 10 ^ n
  | 0, l, h, _ => by rw [List.length_eq_zero_iff.1 h]; decide
  | n + 1, l, h, hd => by
    obtain ⟨a, b, rfl⟩ := snoc_of (l := l) (fun e => by rw [e] at h; cases h)
    have h1 := val_lt n a (by simp at h; omega) (fun b hb => hd b (by simp [hb]))
    have hb := hd b (by simp)
    simp only [isDg, Bool.and_eq_true, decide_eq_true_eq] at hb
    rw [valD_snoc, Nat.pow_succ]
    omega
theorem val_step (s : ByteArray) (i : Nat) (hi : i < s.size) (h18 : i ≤ 18) (hok : ∀ j (hj : j < s.size), j < i → isDg s[j] = true) (h : 48 ≤ s[i].toNat ∧ s[i].toNat ≤ 57) : IntKind.u64.wrap (IntKind.u64.wrap ((valD (s.data.toList.take i) : Int) * 10) + ((s[i].toNat : Int) - 48)) = (valD (s.data.toList.take (i + 1)) : Int) := by
  have hl : s.data.toList.length = s.size := ba_len s
  have h1 : s.data.toList.take (i + 1) = s.data.toList.take i ++ [s[i]] := by
    rw [List.take_add_one, ba_at s i hi]
    rfl
  have h2 := val_lt i (s.data.toList.take i) (by rw [List.length_take]; omega) (fun b hb => by
    obtain ⟨j, hj, rfl⟩ := List.mem_iff_getElem.1 hb
    have hj2 : j < i := by rw [List.length_take] at hj; omega
    have h5 := ba_at s j (by omega)
    rw [List.getElem_take]
    rw [List.getElem?_eq_getElem (by omega)] at h5
    injection h5 with h5
    rw [h5]
    exact hok j (by omega) hj2)
  have h3 : 10 ^ i ≤ 10 ^ 18 := Nat.pow_le_pow_right (by omega) h18
  have h4 : (10 : Nat) ^ 18 = 1000000000000000000 := by decide
  rw [h1, valD_snoc, IntKind.wrap_u64, IntKind.wrap_u64]
  omega
set_option maxRecDepth 10000 in
theorem rnum_loop (s : ByteArray) (hs : s.size ≤ 20000000) (hm : ¬ s = minS) (hp : s.data.toList.head? ≠ some 45 ∨ s.data.toList = [45]) (w : World) : Calls Tryd.prog 52 #[.string s] w fun e w' => ∃ n : Int, e = .returned (.tuple #[.int .i64 n, .bool (numV s.data.toList).isSome]) ∧ (∀ v, numV s.data.toList = some v → n = v) ∧ Below w.heap.size w w' := by
  have hl : s.data.toList.length = s.size := ba_len s
  have hmb : (s.toList == [45, 57, 50, 50, 51, 51, 55, 50, 48, 51, 54, 56, 53, 52, 55, 55, 53, 56, 48, 56]) = false := by
    have h := str_ne hm
    rw [ba_toList minS] at h
    exact h
  have hN := num_pos hp
  have HF : Hid (s.size = 0 ∨ 19 < s.size ∨ (1 < s.size ∧ s.data.toList.head? = some 48) → numV s.data.toList = none) := fun h => by
    rw [hN]
    unfold numP
    rw [if_pos (by
      rcases h with h | h | h
      · exact Or.inl (List.length_eq_zero_iff.1 (by omega))
      · exact Or.inr (Or.inl (by omega))
      · exact Or.inr (Or.inr (Or.inl ⟨by omega, h.2⟩)))]
  have HD : Hid (∀ i (hi : i < s.size), isDg s[i] = false → numV s.data.toList = none) := fun i hi h => by
    rw [hN]
    unfold numP
    have ha : s.data.toList.all isDg = false := by
      rw [List.all_eq_false]
      exact ⟨s[i], List.mem_iff_getElem?.2 ⟨i, ba_at s i hi⟩, by rw [h]; simp⟩
    rw [if_pos (Or.inr (Or.inr (Or.inr (Or.inl ha))))]
  have HV : Hid (0 < s.size → s.size ≤ 19 → ¬ (1 < s.size ∧ s.data.toList.head? = some 48) → (∀ i (hi : i < s.size), isDg s[i] = true) → numV s.data.toList = if 9223372036854775807 < valD s.data.toList then none else some (valD s.data.toList : Int)) := fun h1 h2 h3 h4 => by
    rw [hN]
    unfold numP
    have ha : s.data.toList.all isDg = true := by
      rw [List.all_eq_true]
      intro b hb
      obtain ⟨i, hi, rfl⟩ := List.mem_iff_getElem.1 hb
      have hi' : i < s.size := by omega
      have h5 := ba_at s i hi'
      rw [List.getElem?_eq_getElem hi] at h5
      injection h5 with h5
      rw [h5]
      exact h4 i hi'
    have hne : ¬ s.data.toList = [] := fun e => by rw [e] at hl; simp at hl; omega
    by_cases hb : 9223372036854775807 < valD s.data.toList
    · rw [if_pos (Or.inr (Or.inr (Or.inr (Or.inr hb)))), if_pos hb]
    · rw [if_neg hb, if_neg]
      simp only [not_or]
      exact ⟨hne, by omega, fun q => h3 ⟨by omega, q.2⟩, by rw [ha]; simp, hb⟩
  by_cases h0 : s.size = 0
  · have hse : s = ByteArray.empty := ByteArray.ext (Array.size_eq_zero_iff.1 h0)
    have hn := HF.out (Or.inl h0)
    rw [hn]
    subst hse
    clear hm hp hmb h0 hs HF HD HV hN hl hn
    go_enter Tryd.func52, Tryd.ntmps52
    go_wp2
    go_ret2
    exact ⟨_, rfl, fun v h => by (cases h), Below.refl _ _⟩
  · have hne : ¬ s = ByteArray.empty := fun e => h0 (by rw [e]; rfl)
    have hneb : (s.toList == []) = false := by
      have h := str_ne hne
      rw [ba_toList ByteArray.empty] at h
      exact h
    have h0' : 0 < s.size := by omega
    have hhd : s.data.toList.head? = some (s[0]'h0') := by rw [List.head?_eq_getElem?]; exact ba_at s 0 h0'
    have hix : ∀ h : 0 < s.size, s[0]'h = s[0]'h0' := fun _ => rfl
    rw [hhd] at HF HV hp
    generalize hcb : s[0]'h0' = cb at *
    generalize numV s.data.toList = NV at *
    clear hN hm hhd
    by_cases h19 : 19 < s.size
    · have hd1 : decide ((1 : Int) < (s.size : Int)) = true := by simp; omega
      have hd2 : decide ((19 : Int) < (s.size : Int)) = true := by simp; omega
      have n45 : ¬ (cb.toNat : Int) = 45 := fun h => by
        rcases hp with q | q
        · exact q (by rw [show cb = 45 from UInt8.toNat_inj.1 (by show cb.toNat = 45; omega)])
        · rw [q] at hl; simp at hl; omega
      have d45 : ((cb.toNat : Int) == 45) = false := by simp [n45]
      have hnv := HF.out (Or.inr (Or.inl h19))
      clear HF HV HD hp hcb
      subst hnv
      go_enter Tryd.func52, Tryd.ntmps52
      go_wp2
      go_ret2
      exact ⟨_, rfl, fun v h => by (cases h), Below.refl _ _⟩
    · have hd2 : decide ((19 : Int) < (s.size : Int)) = false := by simp; omega
      by_cases h48 : 1 < s.size ∧ cb = 48
      · obtain ⟨h1, rfl⟩ := h48
        have hd1 : decide ((1 : Int) < (s.size : Int)) = true := by simp; omega
        have hnv := HF.out (Or.inr (Or.inr ⟨h1, rfl⟩))
        clear HF HV HD hp hcb
        subst hnv
        go_enter Tryd.func52, Tryd.ntmps52
        go_wp2
        go_ret2
        exact ⟨_, rfl, fun v h => by (cases h), Below.refl _ _⟩
      · have HV2 := HV.out h0' (by omega) (fun q => h48 ⟨q.1, by injection q.2⟩)
        have HV3 : Hid _ := HV2
        clear HV2 HV HF
        by_cases h1 : 1 < s.size
        · have hd1 : decide ((1 : Int) < (s.size : Int)) = true := by simp; omega
          have n45 : ¬ (cb.toNat : Int) = 45 := fun h => by
            rcases hp with q | q
            · exact q (by rw [show cb = 45 from UInt8.toNat_inj.1 (by show cb.toNat = 45; omega)])
            · rw [q] at hl; simp at hl; omega
          have d45 : ((cb.toNat : Int) == 45) = false := by simp [n45]
          have n48 : ¬ (cb.toNat : Int) = 48 := fun h => h48 ⟨h1, UInt8.toNat_inj.1 (by show cb.toNat = 48; omega)⟩
          have d48 : ((cb.toNat : Int) == 48) = false := by simp [n48]
          clear hp
          go_enter Tryd.func52, Tryd.ntmps52
          go_wp2_with fail
          go_loopw [6, 7] (fun u6 u7 wr => ∃ i : Nat, i ≤ s.size ∧ u7 = .int .i64 (i : Int) ∧ u6 = .int .u64 (valD (s.data.toList.take i) : Int) ∧ (∀ j (hj : j < s.size), j < i → isDg s[j] = true) ∧ Below w.heap.size w wr) (fun _ u _ => s.size - (intOf u).toNat)
          case atStart => exact ⟨0, Nat.zero_le _, rfl, rfl, fun j _ h => absurd h (Nat.not_lt_zero _), Below.refl _ _⟩
          case round =>
            obtain ⟨i, hi, rfl, rfl, hok, hbr⟩ := hrel
            have HB : Hid (Below w.heap.size w wr) := hbr
            have HO : Hid (∀ j (hj : j < s.size), j < i → isDg s[j] = true) := hok
            clear hbr hok hcb
            by_cases hlt : i < s.size
            · have hd : decide ((i : Int) < (s.size : Int)) = true := by simp; omega
              have hxx : ∀ h : i < s.size, s[i]'h = s[i]'hlt := fun _ => rfl
              clear hix
              have HW : Hid (48 ≤ (s[i]'hlt).toNat ∧ (s[i]'hlt).toNat ≤ 57 → IntKind.u64.wrap (IntKind.u64.wrap ((valD (s.data.toList.take i) : Int) * 10) + (((s[i]'hlt).toNat : Int) - 48)) = (valD (s.data.toList.take (i + 1)) : Int)) := fun h => val_step s i hlt (by omega) HO.out h
              have HO2 : Hid (48 ≤ (s[i]'hlt).toNat ∧ (s[i]'hlt).toNat ≤ 57 → ∀ j (hj : j < s.size), j < i + 1 → isDg s[j] = true) := fun h j hj hji => by
                rcases Nat.lt_or_ge j i with q | q
                · exact HO.out j hj q
                · obtain rfl : j = i := by omega
                  unfold isDg
                  simp only [Bool.and_eq_true, decide_eq_true_eq]
                  exact h
              have HN : Hid (¬ (48 ≤ (s[i]'hlt).toNat ∧ (s[i]'hlt).toNat ≤ 57) → NV = none) := fun h => HD.out i hlt (by
                unfold isDg
                rw [Bool.and_eq_false_iff]
                simp only [decide_eq_false_iff_not]
                omega)
              generalize hcc : s[i]'hlt = cc at *
              clear HD HV3 HO
              go_wp2_with fail
              all_goals try simp only [decide_eq_true_eq, decide_eq_false_iff_not, beq_eq_false_iff_ne] at *
              all_goals first
                | (refine ⟨⟨i + 1, by omega, rfl, by rw [HW.out (by omega)], HO2.out (by omega), HB.out⟩, by simp only [intOf]; omega⟩)
                | (go_ret2
                   rw [HN.out (by omega)]
                   exact ⟨_, rfl, fun v h => by (cases h), HB.out⟩)
              done
            · obtain rfl : i = s.size := by omega
              have hd : decide ((s.size : Int) < (s.size : Int)) = false := by simp
              have hV := HV3.out (fun j hj => HO.out j hj hj)
              have htk : s.data.toList.take s.size = s.data.toList := by rw [← hl]; exact List.take_length
              rw [htk]
              clear HD HV3 HO htk hix
              generalize valD s.data.toList = V at *
              have HVV : Hid _ := hV
              clear hV
              by_cases hbig : 9223372036854775807 < V
              · have hdb : decide ((9223372036854775807 : Int) < (V : Int)) = true := by simp; omega
                go_wp2
                go_ret2
                rw [HVV.out, if_pos hbig]
                exact ⟨_, rfl, fun v h => by (cases h), HB.out⟩
              · have hdb : decide ((9223372036854775807 : Int) < (V : Int)) = false := by simp; omega
                have hwv : wrap64 (V : Int) = (V : Int) := by unfold wrap64; omega
                go_wp2
                go_ret2
                rw [HVV.out, if_neg hbig]
                exact ⟨_, rfl, fun v h => by (injection h), HB.out⟩
        · have hd1 : decide ((1 : Int) < (s.size : Int)) = false := by simp; omega
          clear hp
          go_enter Tryd.func52, Tryd.ntmps52
          go_wp2_with fail
          go_loopw [6, 7] (fun u6 u7 wr => ∃ i : Nat, i ≤ s.size ∧ u7 = .int .i64 (i : Int) ∧ u6 = .int .u64 (valD (s.data.toList.take i) : Int) ∧ (∀ j (hj : j < s.size), j < i → isDg s[j] = true) ∧ Below w.heap.size w wr) (fun _ u _ => s.size - (intOf u).toNat)
          case atStart => exact ⟨0, Nat.zero_le _, rfl, rfl, fun j _ h => absurd h (Nat.not_lt_zero _), Below.refl _ _⟩
          case round =>
            obtain ⟨i, hi, rfl, rfl, hok, hbr⟩ := hrel
            have HB : Hid (Below w.heap.size w wr) := hbr
            have HO : Hid (∀ j (hj : j < s.size), j < i → isDg s[j] = true) := hok
            clear hbr hok hcb
            by_cases hlt : i < s.size
            · have hd : decide ((i : Int) < (s.size : Int)) = true := by simp; omega
              have hxx : ∀ h : i < s.size, s[i]'h = s[i]'hlt := fun _ => rfl
              clear hix
              have HW : Hid (48 ≤ (s[i]'hlt).toNat ∧ (s[i]'hlt).toNat ≤ 57 → IntKind.u64.wrap (IntKind.u64.wrap ((valD (s.data.toList.take i) : Int) * 10) + (((s[i]'hlt).toNat : Int) - 48)) = (valD (s.data.toList.take (i + 1)) : Int)) := fun h => val_step s i hlt (by omega) HO.out h
              have HO2 : Hid (48 ≤ (s[i]'hlt).toNat ∧ (s[i]'hlt).toNat ≤ 57 → ∀ j (hj : j < s.size), j < i + 1 → isDg s[j] = true) := fun h j hj hji => by
                rcases Nat.lt_or_ge j i with q | q
                · exact HO.out j hj q
                · obtain rfl : j = i := by omega
                  unfold isDg
                  simp only [Bool.and_eq_true, decide_eq_true_eq]
                  exact h
              have HN : Hid (¬ (48 ≤ (s[i]'hlt).toNat ∧ (s[i]'hlt).toNat ≤ 57) → NV = none) := fun h => HD.out i hlt (by
                unfold isDg
                rw [Bool.and_eq_false_iff]
                simp only [decide_eq_false_iff_not]
                omega)
              generalize hcc : s[i]'hlt = cc at *
              clear HD HV3 HO
              go_wp2_with fail
              all_goals try simp only [decide_eq_true_eq, decide_eq_false_iff_not, beq_eq_false_iff_ne] at *
              all_goals first
                | (refine ⟨⟨i + 1, by omega, rfl, by rw [HW.out (by omega)], HO2.out (by omega), HB.out⟩, by simp only [intOf]; omega⟩)
                | (go_ret2
                   rw [HN.out (by omega)]
                   exact ⟨_, rfl, fun v h => by (cases h), HB.out⟩)
              done
            · obtain rfl : i = s.size := by omega
              have hd : decide ((s.size : Int) < (s.size : Int)) = false := by simp
              have hV := HV3.out (fun j hj => HO.out j hj hj)
              have htk : s.data.toList.take s.size = s.data.toList := by rw [← hl]; exact List.take_length
              rw [htk]
              clear HD HV3 HO htk hix
              generalize valD s.data.toList = V at *
              have HVV : Hid _ := hV
              clear hV
              by_cases hbig : 9223372036854775807 < V
              · have hdb : decide ((9223372036854775807 : Int) < (V : Int)) = true := by simp; omega
                go_wp2
                go_ret2
                rw [HVV.out, if_pos hbig]
                exact ⟨_, rfl, fun v h => by (cases h), HB.out⟩
              · have hdb : decide ((9223372036854775807 : Int) < (V : Int)) = false := by simp; omega
                have hwv : wrap64 (V : Int) = (V : Int) := by unfold wrap64; omega
                go_wp2
                go_ret2
                rw [HVV.out, if_neg hbig]
                exact ⟨_, rfl, fun v h => by (injection h), HB.out⟩
end Go.Proofs.YtbjopdmchmekpaaDoor
/- The document's number. -/
namespace Go.Proofs.YtbjopdmchmekpaaDoor
open Go.ChangeShapes Go.WideShapes Go.ChangeAt Go.RowKit

theorem dec_min : Lib.decDigits 9223372036854775808 = [57, 50, 50, 51, 51, 55, 50, 48, 51, 54, 56, 53, 52, 55, 55, 53, 56, 48, 56] := by
  have h := (dec_val 19 [57, 50, 50, 51, 51, 55, 50, 48, 51, 54, 56, 53, 52, 55, 55, 53, 56, 48, 56] rfl (by simp) (by decide) (by decide)).2
  have e : valD [57, 50, 50, 51, 51, 55, 50, 48, 51, 54, 56, 53, 52, 55, 55, 53, 56, 48, 56] = 9223372036854775808 := by decide
  rw [e] at h
  exact h
set_option maxRecDepth 10000 in
theorem rnum_any : ∀ (k : Nat) (s : ByteArray), s.size ≤ k → k ≤ 20000000 → ∀ w : World, Calls Tryd.prog 52 #[.string s] w fun e w' => ∃ n : Int, e = .returned (.tuple #[.int .i64 n, .bool (numV s.data.toList).isSome]) ∧ (∀ v, numV s.data.toList = some v → n = v) ∧ Below w.heap.size w w'
  | 0, s, h, _, w => by
    have hl : s.data.toList = [] := List.length_eq_zero_iff.1 (by rw [ba_len]; omega)
    exact rnum_loop s (by omega) (fun e => by rw [e] at h; exact absurd h (by decide)) (Or.inl (by rw [hl]; simp)) w
  | k + 1, s, h, hk, w => by
    by_cases hm : s = minS
    · have hv : numV minS.data.toList = some (-9223372036854775808) := by
        have := num_min
        rw [dec_min] at this
        exact this
      subst hm
      rw [hv]
      unfold minS
      clear hv h
      go_enter Tryd.func52, Tryd.ntmps52
      go_wp2
      go_ret2
      exact ⟨_, rfl, fun v h => by (injection h), Below.refl _ _⟩
    · by_cases hp : s.data.toList.head? ≠ some 45 ∨ s.data.toList = [45]
      · exact rnum_loop s (by omega) hm hp w
      · simp only [not_or, Decidable.not_not] at hp
        obtain ⟨hp1, hp2⟩ := hp
        obtain ⟨r, hr⟩ : ∃ r, s.data.toList = 45 :: r := by
          cases hc : s.data.toList with
          | nil => rw [hc] at hp1; cases hp1
          | cons x r => rw [hc] at hp1; injection hp1 with hp1; exact ⟨r, by rw [hp1]⟩
        have hl : s.data.toList.length = s.size := ba_len s
        have hr0 : r ≠ [] := fun e => hp2 (by rw [hr, e])
        have hrl : 0 < r.length := List.length_pos_iff.2 hr0
        have hsz : s.size = r.length + 1 := by rw [← hl, hr]; rfl
        have hex : (s.extract 1 s.size).data.toList = r := by
          rw [ext_S]
          unfold cut
          rw [← hl, List.take_length, hr]
          simp [S]
        have hes : (s.extract 1 s.size).size = s.size - 1 := by rw [ByteArray.size_extract]; omega
        have hmr : r ≠ Lib.decDigits 9223372036854775808 := fun e => hm (by
          rw [dec_min] at e
          have := (S_eq s (45 :: r)).2 hr.symm
          rw [← this, e]
          rfl)
        have HI : Hid (∀ w : World, Calls Tryd.prog 52 #[.string (s.extract 1 s.size)] w fun e w' => ∃ n : Int, e = .returned (.tuple #[.int .i64 n, .bool (numV r).isSome]) ∧ (∀ v, numV r = some v → n = v) ∧ Below w.heap.size w w') := fun w => by
          have := rnum_any k (s.extract 1 s.size) (by omega) (by omega) w
          rw [hex] at this
          exact this
        have hv := num_neg hmr
        rw [hr, hv]
        have hmb : (s.toList == [45, 57, 50, 50, 51, 51, 55, 50, 48, 51, 54, 56, 53, 52, 55, 55, 53, 56, 48, 56]) = false := by
          have h := str_ne hm
          rw [ba_toList minS] at h
          exact h
        have hd1 : decide ((1 : Int) < (s.size : Int)) = true := by simp; omega
        have h0' : 0 < s.size := by omega
        have h45 : s[0]'h0' = 45 := by
          have := ba_at s 0 h0'
          rw [hr] at this
          injection this with this
          exact this.symm
        have hix : ∀ h : 0 < s.size, s[0]'h = 45 := fun _ => h45
        have k1 : (1 : Int) ≤ (s.size : Int) := by omega
        have HRG : Hid (∀ v, numV r = some v → -9223372036854775808 ≤ v ∧ v ≤ 9223372036854775807) := fun v hv => ((numV_iff r v).1 hv).1
        generalize numV r = NV at *
        clear hv hmr hes hex hsz hrl hr0 hr hl hp1 hp2 hm h45
        go_enter Tryd.func52, Tryd.ntmps52
        go_wp2_with fail
        refine (HI.out _).mono ?_
        rintro e w1 ⟨n, rfl, hn, hb1⟩
        cases NV with
        | none =>
          have hi : (none : Option Int).isSome = false := rfl
          clear hn HRG
          go_wp2
          go_ret2
          exact ⟨⟨_, rfl⟩, hb1⟩
        | some x =>
          obtain rfl := hn x rfl
          have hrg := HRG.out n rfl
          clear hn HRG HI
          by_cases hpos : 0 < n
          · have hdp : decide ((0 : Int) < n) = true := by simp [hpos]
            have hw : wrap64 (-n) = -n := by unfold wrap64; omega
            go_wp2
            go_ret2
            first | exact ⟨_, rfl, rfl, hb1⟩ | exact ⟨⟨_, rfl, rfl⟩, hb1⟩ | (simp only; exact ⟨_, rfl, rfl, hb1⟩)
          · have hdp : decide ((0 : Int) < n) = false := by simp; omega
            go_wp2
            go_ret2
            first | exact ⟨⟨_, rfl⟩, hb1⟩ | exact ⟨_, rfl, fun v h => by (cases h), hb1⟩
end Go.Proofs.YtbjopdmchmekpaaDoor
/- The document's operand. -/
namespace Go.Proofs.YtbjopdmchmekpaaDoor
open Go.ChangeShapes Go.WideShapes Go.ChangeAt Go.RowKit
attribute [local go_sem ↓] Go.wp_at_zero Go.wp_at_succ

/-- What an operand answers. -/
def odV (c : Nat) (x : Tok) : List Tok → Except (Int × Nat) (Int × Tok)
  | [] => .error (9, x.2 + x.1.length)
  | (y, q) :: _ => match numV y with
    | none => if ldC c && nameV y then .ok (0, (y, q)) else .error (9, q)
    | some v => if loC c ≤ v ∧ v ≤ hiC c then .ok (v, ([], 0)) else .error (12, q)
def odA : Except (Int × Nat) (Int × Tok) → Value
  | .error (e, p) => .tuple #[.int .i64 0, .agg #[.string ⟨#[]⟩, .int .i64 0], .int .i64 e, .int .i64 (p : Int)]
  | .ok (v, t) => .tuple #[.int .i64 v, .agg #[.string (S t.1), .int .i64 (t.2 : Int)], .int .i64 0, .int .i64 0]
theorem ret_o4 {fn : Func} {p q1 q2 q3 : Tmp} {R : Ending → World → Prop} {a : Act} {w : World} {g : Nat} {cs : Array Value} (h : fn.results = #[.tmp q1, .cell p 55, .tmp q2, .tmp q3]) (hp : a.tmps.getD p undef = .pointer (some ⟨g, 0, none⟩))
    (hg : w.heap[g]? = some (.cells cs 55 (0, 0))) (hz : cs.size = 2) (hd : a.defers = []) (hR : R (.returned (.tuple #[a.tmps.getD q1 undef, .agg cs, a.tmps.getD q2 undef, a.tmps.getD q3 undef])) w) : bodyPost Tryd.prog fn R .ret a w := by
  refine bodyPost_ret (v := .tuple #[a.tmps.getD q1 undef, .agg cs, a.tmps.getD q2 undef, a.tmps.getD q3 undef]) ?_ hd hR
  have hp' : a.tmps[p]?.getD undef = .pointer (some ⟨g, 0, none⟩) := by simpa using hp
  have hl := run_loadVar_row (P := Tryd.prog) w g 55 55 cs (0, 0) _ hg Tryd.underlying55 rfl (by rw [hz]; kernel_rfl)
  simp [results, h, hp', asAddr, hl]
/-- A token's variable, written cell by cell. -/
theorem laid2 {w w2 : World} {cs : Array Value} (h : Below w.heap.size w w2) (hr : w2.heap[w.heap.size]? = some (.cells cs 55 (0, 0))) (hz : cs.size = 2) (a b : Value) :
    ((w2.setCell ⟨w.heap.size, 0, none⟩ a).setCell ⟨w.heap.size, 1, none⟩ b).heap[w.heap.size]? = some (.cells #[a, b] 55 (0, 0)) ∧ Below w.heap.size w ((w2.setCell ⟨w.heap.size, 0, none⟩ a).setCell ⟨w.heap.size, 1, none⟩ b) := by
  have hk : Keep [w.heap.size] w2 ((w2.setCell ⟨w.heap.size, 0, none⟩ a).setCell ⟨w.heap.size, 1, none⟩ b) := ((Keep.refl _ _).setCell _ _ (Or.inl (by simp))).setCell _ _ (Or.inl (by simp))
  refine ⟨?_, h.trans (hk.below h.size (by simp))⟩
  rw [heap_set (heap_set hr 0 a) 1 b]
  have : (cs.setIfInBounds 0 a).setIfInBounds 1 b = #[a, b] := by
    obtain ⟨cs⟩ := cs
    match cs, hz with
    | [_, _], _ => rfl
  rw [this]
theorem row_nx1 {w w' : World} {o1 o2 : Obj} (hb : Below ((w.alloc o1).alloc o2).heap.size ((w.alloc o1).alloc o2) w') : w'.heap[w.heap.size]? = some o1 ∧ w'.heap[w.heap.size + 1]? = some o2 ∧ Below w.heap.size w w' := by
  refine ⟨?_, ?_, below_then (below_then (below_a1 _ _) (below_a1 _ _)) hb⟩
  · rw [hb.block _ (by simp; omega)]
    exact heap_alloc2_old _ _ _
  · rw [hb.block _ (by simp)]
    exact heap_alloc2_new _ _ _
set_option maxRecDepth 100000 in
theorem rodn_any {w : World} {B X : Nat} (c : Nat) (hc : c ≤ 40) {v : Value} {x : Tok} {r : List Tok} (h : TkL B X w v (x :: r)) :
    Calls Tryd.prog 33 #[.int .i64 (c : Int), v] w fun e w' => e = .returned (odA (odV c x r)) ∧ Below w.heap.size w w' := by
  have hbd : ∀ t ∈ x :: r, t.1.length ≤ 20000000 ∧ t.2 ≤ 20000000 := fun t ht => by obtain ⟨a, cap, h1, h2, h3, h4, h5, h6⟩ := h; exact ⟨(h5 t ht).1, (h5 t ht).2.1⟩
  match r, h with
  | [], h =>
    obtain ⟨g, o, cap, rfl, hg, z0, z1⟩ := tk_one h
    obtain ⟨x1, x2⟩ := x
    have hb1 := hbd (x1, x2) (by simp)
    simp only at hb1
    have hl : Hid ((S x1).size = x1.length) := S_size x1
    have hw : wrap64 ((x2 : Int) + (x1.length : Int)) = (x2 : Int) + (x1.length : Int) := by unfold wrap64; omega
    show Calls _ _ _ _ fun e w' => e = .returned (.tuple #[.int .i64 0, .agg #[.string ⟨#[]⟩, .int .i64 0], .int .i64 9, .int .i64 ((x2 + x1.length : Nat) : Int)]) ∧ _
    simp only at z0 z1
    have HSZ : ((S x1).size : Int) = (x1.length : Int) := by rw [hl.out]
    generalize S x1 = s1 at *
    clear hbd h
    have hw2 : IntKind.i64.wrap ((x2 : Int) + (x1.length : Int)) = (x2 : Int) + (x1.length : Int) := by have h0 := hw; unfold wrap64 at h0; rw [IntKind.wrap_i64]; exact h0
    go_enter Tryd.func33, Tryd.ntmps33
    go_wp2_with fail
    go_region
    go_wp2_with fail
    exact ret_o4 rfl rfl (heap_alloc_new w _) rfl rfl ⟨rfl, below_drawn (below_a1 w _) 1⟩
  | y :: r2, h =>
    obtain ⟨g, o, cap, rfl, hg, ⟨z0, z1⟩, z2, z3⟩ := tk_two h
    obtain ⟨y1, y2⟩ := y
    have hb1 := hbd (y1, y2) (by simp)
    simp only at hb1 z2 z3
    have eS : (S y1).data.toList = y1 := by simp [S]
    have HNU : Hid (∀ w : World, Calls Tryd.prog 52 #[.string (S y1)] w fun e w' => ∃ n : Int, e = .returned (.tuple #[.int .i64 n, .bool (numV y1).isSome]) ∧ (∀ v, numV y1 = some v → n = v) ∧ Below w.heap.size w w') := fun w => by have := rnum_any y1.length (S y1) (by rw [S_size]; exact Nat.le_refl _) hb1.1 w; rw [eS] at this; exact this
    have HNM : Hid (∀ w : World, Calls Tryd.prog 50 #[.string (S y1)] w fun e w' => e = .returned (.bool (nameV y1)) ∧ Below w.heap.size w w') := fun w => by have := rname_any (S y1) (by rw [S_size]; omega) w; rw [eS] at this; exact this
    have HLD : Hid (∀ w : World, Calls Tryd.prog 53 #[.int .i64 (c : Int)] w fun e w' => e = .returned (.bool (ldC c)) ∧ w' = w) := fun w => leads_any c w
    have HRG : Hid (∀ w : World, Calls Tryd.prog 41 #[.int .i64 (c : Int)] w fun e w' => e = .returned (.tuple #[.int .i64 (loC c), .int .i64 (hiC c)]) ∧ w' = w) := fun w => rrange_any c hc w
    have hnn : Hid (nameV y1 = true → numV y1 = none) := name_num
    obtain ⟨Y, hY⟩ : ∃ Y, odV c x ((y1, y2) :: r2) = Y := ⟨_, rfl⟩
    rw [hY]
    have HY : Hid (Y = match numV y1 with | none => if ldC c && nameV y1 then .ok (0, (y1, y2)) else .error (9, y2) | some v => if loC c ≤ v ∧ v ≤ hiC c then .ok (v, ([], 0)) else .error (12, y2)) := hY.symm
    obtain ⟨s1, hs1⟩ : ∃ s1, S y1 = s1 := ⟨_, rfl⟩
    have HS1 : Hid (S y1 = s1) := hs1
    rw [hs1] at HNU HNM z2
    generalize numV y1 = N at *
    generalize nameV y1 = M at *
    generalize ldC c = D at *
    generalize loC c = lo at *
    generalize hiC c = hi at *
    clear hbd h hY z0 z1 hs1 eS
    go_enter Tryd.func33, Tryd.ntmps33
    go_wp2_with fail
    refine (HNU.out _).mono ?_
    rintro e w3 ⟨n, rfl, hnv, hb3⟩
    obtain ⟨r0, r1, hB3⟩ := row_nx1 hb3
    have b0 : w3.cell? ⟨w.heap.size + 1, 0, none⟩ = some (.string s1) := by rw [cell_at r1]; rfl
    have HB3 : Hid (Below ((w.alloc (.cells #[.string ⟨#[]⟩, .int .i64 0] 55)).alloc (.cells #[.string s1, .int .i64 (y2 : Int)] 55)).heap.size ((w.alloc (.cells #[.string ⟨#[]⟩, .int .i64 0] 55)).alloc (.cells #[.string s1, .int .i64 (y2 : Int)] 55)) w3) := hb3
    have HNV : Hid (∀ v, N = some v → n = v) := hnv
    have hl3 : w.heap.size + 1 < w3.heap.size := heap_lt r1
    clear hb3 hB3 r0 r1 hnv HNU z2 z3
    go_wp2_with fail
    refine (HNM.out _).mono ?_
    rintro e w4 ⟨rfl, hb4⟩
    obtain ⟨r0, r1, hB4⟩ := row_nx1 (below_then HB3.out hb4)
    have HR4 : Hid (w4.heap[w.heap.size]? = some (.cells #[.string ⟨#[]⟩, .int .i64 0] 55 (0, 0)) ∧ Below w.heap.size w w4) := ⟨r0, hB4⟩
    have b1 : w4.cell? ⟨w.heap.size + 1, 0, none⟩ = some (.string s1) := by rw [cell_at r1]; rfl
    have b2 : w4.cell? ⟨w.heap.size + 1, 1, none⟩ = some (.int .i64 (y2 : Int)) := by rw [cell_at r1]; rfl
    have b3 : w4.cell? ⟨w.heap.size, 0, none⟩ = some (.string ⟨#[]⟩) := by rw [cell_at r0]; rfl
    have b4 : w4.cell? ⟨w.heap.size, 1, none⟩ = some (.int .i64 0) := by rw [cell_at r0]; rfl
    have f3 : w4.frozen? ⟨w.heap.size, 0, none⟩ = false := frozen_at r0 0
    have f4 : w4.frozen? ⟨w.heap.size, 1, none⟩ = false := frozen_at r0 1
    have hl4 : w.heap.size + 1 < w4.heap.size := heap_lt r1
    clear hb4 HB3 r0 r1 hB4 HNM b0 hl3
    go_wp2_with fail
    refine (HLD.out _).mono ?_
    rintro e w5 ⟨rfl, hw5⟩
    obtain rfl : w4 = w5 := hw5.symm
    go_wp2_with fail
    refine (HRG.out _).mono ?_
    rintro e w5 ⟨rfl, hw5⟩
    obtain rfl : w4 = w5 := hw5.symm
    cases N with
    | none =>
      cases D with
      | false =>
        have HYE : Hid (Y = .error (9, y2)) := HY.out
        clear HY HLD HRG HNV hnn
        simp only [Option.isSome_none]
        go_wp2_with fail
        go_region
        go_wp2_with fail
        obtain ⟨g1, g2⟩ := laid2 HR4.out.2 HR4.out.1 rfl (.string ⟨#[]⟩) (.int .i64 0)
        exact ret_o4 rfl rfl g1 rfl rfl ⟨by rw [HYE.out]; rfl, below_drawn g2 1⟩
      | true =>
        cases M with
        | false =>
          have HYE : Hid (Y = .error (9, y2)) := HY.out
          clear HY HLD HRG HNV hnn
          simp only [Option.isSome_none]
          go_wp2_with fail
          go_region
          go_wp2_with fail
          obtain ⟨g1, g2⟩ := laid2 HR4.out.2 HR4.out.1 rfl (.string ⟨#[]⟩) (.int .i64 0)
          exact ret_o4 rfl rfl g1 rfl rfl ⟨by rw [HYE.out]; rfl, below_drawn g2 1⟩
        | true =>
          have HYE : Hid (Y = .ok (0, (y1, y2))) := HY.out
          clear HY HLD HRG HNV hnn
          simp only [Option.isSome_none]
          go_wp2_with fail
          go_region
          go_wp2_with fail
          obtain ⟨g1, g2⟩ := laid2 HR4.out.2 HR4.out.1 rfl (.string s1) (.int .i64 (y2 : Int))
          exact ret_o4 rfl rfl g1 rfl rfl ⟨by rw [HYE.out, odA, HS1.out]; rfl, below_drawn g2 1⟩
    | some vv =>
      obtain rfl : n = vv := HNV.out vv rfl
      have hM : M = false := by cases M with | false => rfl | true => have := hnn.out rfl; cases this
      subst hM
      by_cases hrg : lo ≤ n ∧ n ≤ hi
      · have HYE : Hid (Y = .ok (n, ([], 0))) := by have := HY.out; simp only [if_pos hrg] at this; exact this
        have d1 : decide (n < lo) = false := by simp; omega
        have d2 : decide (hi < n) = false := by simp; omega
        clear HY HLD HRG HNV hnn hrg
        simp only [Option.isSome_some]
        go_wp2_with fail
        obtain ⟨g1, g2⟩ := laid2 HR4.out.2 HR4.out.1 rfl (.string ⟨#[]⟩) (.int .i64 0)
        exact ret_o4 rfl rfl g1 rfl rfl ⟨by rw [HYE.out]; rfl, g2⟩
      · have HYE : Hid (Y = .error (12, y2)) := by have := HY.out; simp only [if_neg hrg] at this; exact this
        by_cases h1 : n < lo
        · have d1 : decide (n < lo) = true := by simpa using h1
          clear HY HLD HRG HNV hnn hrg h1
          simp only [Option.isSome_some]
          go_wp2_with fail
          go_region
          go_wp2_with fail
          obtain ⟨g1, g2⟩ := laid2 HR4.out.2 HR4.out.1 rfl (.string ⟨#[]⟩) (.int .i64 0)
          exact ret_o4 rfl rfl g1 rfl rfl ⟨by rw [HYE.out]; rfl, below_drawn g2 1⟩
        · have d1 : decide (n < lo) = false := by simpa using h1
          have d2 : decide (hi < n) = true := by simp; omega
          clear HY HLD HRG HNV hnn hrg h1
          simp only [Option.isSome_some]
          go_wp2_with fail
          go_region
          go_wp2_with fail
          obtain ⟨g1, g2⟩ := laid2 HR4.out.2 HR4.out.1 rfl (.string ⟨#[]⟩) (.int .i64 0)
          exact ret_o4 rfl rfl g1 rfl rfl ⟨by rw [HYE.out]; rfl, below_drawn g2 1⟩
end Go.Proofs.YtbjopdmchmekpaaDoor
/- The document's reader grows; a line, as plain data. -/
namespace Go.Proofs.YtbjopdmchmekpaaDoor
open Go.ChangeShapes Go.WideShapes Go.ChangeAt Go.RowKit

/-- What is apart. -/
theorem AmV.apart {w : World} {B X : Nat} {d : DS} {vo va vn vl : Value} (h : AmV w B X d vo va vn vl) :
    (∀ b, vo.ownBlock = some b → va.ownBlock ≠ some b ∧ vn.ownBlock ≠ some b ∧ vl.ownBlock ≠ some b ∧ b ≠ X ∧ B ≤ b ∧ b < w.heap.size) ∧ (∀ b, va.ownBlock = some b → vo.ownBlock ≠ some b ∧ vn.ownBlock ≠ some b ∧ vl.ownBlock ≠ some b ∧ b ≠ X ∧ B ≤ b ∧ b < w.heap.size) ∧
    (∀ b, vn.ownBlock = some b → vo.ownBlock ≠ some b ∧ va.ownBlock ≠ some b ∧ vl.ownBlock ≠ some b ∧ b ≠ X ∧ B ≤ b ∧ b < w.heap.size) ∧ (∀ b, vl.ownBlock = some b → vo.ownBlock ≠ some b ∧ va.ownBlock ≠ some b ∧ vn.ownBlock ≠ some b ∧ b ≠ X ∧ B ≤ b ∧ b < w.heap.size) :=
  ⟨fun b hb => ⟨fun e => own_apart h.ro h.ra (by decide) b hb e, fun e => own_apart h.ro h.rn (by decide) b hb e, fun e => own_apart h.ro h.rl (by decide) b hb e, fun e => own_ne h.ro h.blk (by decide) (by rw [hb, e]), (own_block h.ro b hb).1, (own_block h.ro b hb).2⟩,
   fun b hb => ⟨fun e => own_apart h.ra h.ro (by decide) b hb e, fun e => own_apart h.ra h.rn (by decide) b hb e, fun e => own_apart h.ra h.rl (by decide) b hb e, fun e => own_ne h.ra h.blk (by decide) (by rw [hb, e]), (own_block h.ra b hb).1, (own_block h.ra b hb).2⟩,
   fun b hb => ⟨fun e => own_apart h.rn h.ro (by decide) b hb e, fun e => own_apart h.rn h.ra (by decide) b hb e, h.ne b hb, fun e => own_ne h.rn h.blk (by decide) (by rw [hb, e]), (own_block h.rn b hb).1, (own_block h.rn b hb).2⟩,
   fun b hb => ⟨fun e => own_apart h.rl h.ro (by decide) b hb e, fun e => own_apart h.rl h.ra (by decide) b hb e, fun e => h.ne b e hb, fun e => own_ne h.rl h.blk (by decide) (by rw [hb, e]), (own_block h.rl b hb).1, (own_block h.rl b hb).2⟩⟩
/-- A row that grows, and a cell of the reader that is stored anew: what stays. -/
theorem grow_keep {w w1 : World} {B X i : Nat} {o : Obj} {v u : Value} (hX : X < w.heap.size) (hB : B ≤ w.heap.size) (hv : ∀ b, v.ownBlock = some b → B ≤ b ∧ b ≠ X) (hg : ((w.alloc o).drewN 1).grownBy w1 v.ownBlock) :
    w1.heap[X]? = w.heap[X]? ∧ Fz B X w (w1.setCell ⟨X, i, none⟩ u) ∧ (∀ (t : TypeId) (s n : Nat) (x : Value) (xs : List Value), w.ownsRow B t s x n xs → (∀ b, x.ownBlock = some b → v.ownBlock ≠ some b ∧ b ≠ X) → (w1.setCell ⟨X, i, none⟩ u).ownsRow B t s x n xs) ∧
    (∀ b, b < w.heap.size → v.ownBlock ≠ some b → b ≠ X → (w1.setCell ⟨X, i, none⟩ u).heap[b]? = w.heap[b]?) := by
  have hk : Keep (match v.ownBlock with | some b => [b] | none => []) w w1 := (((Keep.refl _ _).alloc o).drewN 1).grown hg (fun b hb => by rw [hb]; simp)
  have hmem : ∀ b, b ∈ (match v.ownBlock with | some b => [b] | none => []) → v.ownBlock = some b := fun b hb => by
    cases hv : v.ownBlock with
    | none => rw [hv] at hb; simp at hb
    | some c => rw [hv] at hb; simp at hb; rw [hb]
  have hk2 : Keep [X] w1 (w1.setCell ⟨X, i, none⟩ u) := (Keep.refl _ _).setCell _ _ (Or.inl (by simp))
  refine ⟨hk.block X hX (fun hc => (hv X (hmem X hc)).2 rfl), ⟨hk2.os.trans hk.os, hk2.tape.trans hk.tape, hk2.output.trans hk.output, Nat.le_trans hk.size hk2.size, fun b hb hx => ?_⟩, fun t s n x xs ho hx => own_keep (own_keep ho hk (fun b hb hc => (hx b hb).1 (hmem b hc))) hk2 (fun b hb => by simpa using (hx b hb).2), fun b hb hx hbx => ?_⟩
  · rw [heap_set_other _ _ (Ne.symm hx), hk.block b (by omega) (fun hc => by have := (hv b (hmem b hc)).1; omega)]
  · rw [heap_set_other _ _ (Ne.symm hbx), hk.block b hb (fun hc => hx (hmem b hc))]
/-- An instruction more. -/
theorem AmV.op {w w1 : World} {B X g cap : Nat} {o : Obj} {d : DS} {vo va vn vl : Value} {c x : Int} (h : AmV w B X d vo va vn vl) (hB : B ≤ w.heap.size)
    (hown : w1.ownsRow B 53 2 (.slice (some ⟨g, 0, none⟩) (d.ops.length + 1) cap) (d.ops.length + 1) (opsC d.ops ++ [.int .i64 c, .int .i64 x])) (hg : ((w.alloc o).drewN 1).grownBy w1 vo.ownBlock) :
    AmV (w1.setCell ⟨X, 0, none⟩ (.slice (some ⟨g, 0, none⟩) (d.ops.length + 1) cap)) B X { d with ops := d.ops ++ [(c, x)] } (.slice (some ⟨g, 0, none⟩) (d.ops.length + 1) cap) va vn vl ∧ Fz B X w (w1.setCell ⟨X, 0, none⟩ (.slice (some ⟨g, 0, none⟩) (d.ops.length + 1) cap)) ∧ (∀ b, b < w.heap.size → vo.ownBlock ≠ some b → b ≠ X → (w1.setCell ⟨X, 0, none⟩ (.slice (some ⟨g, 0, none⟩) (d.ops.length + 1) cap)).heap[b]? = w.heap[b]?) := by
  obtain ⟨k1, k2, k3, k4⟩ := grow_keep (i := 0) (u := (.slice (some ⟨g, 0, none⟩) (d.ops.length + 1) cap)) (heap_lt h.blk) hB (fun b hb => ⟨(h.apart.1 b hb).2.2.2.2.1, (h.apart.1 b hb).2.2.2.1⟩) hg
  have hr1 : w1.heap[X]? = some (.cells #[vo, va, vn, .int .i64 (d.size : Int), vl] 45 (0, 0)) := by rw [k1]; exact h.blk
  have hgX : g ≠ X := fun e => own_ne hown hr1 (by decide) (by rw [e]; rfl)
  have hk2 : Keep [X] w1 (w1.setCell ⟨X, 0, none⟩ (.slice (some ⟨g, 0, none⟩) (d.ops.length + 1) cap)) := (Keep.refl _ _).setCell _ _ (Or.inl (by simp))
  refine ⟨⟨by rw [heap_set hr1]; rfl, ?_, k3 _ _ _ _ _ h.ra (fun b hb => ⟨(h.apart.2.1 b hb).1, (h.apart.2.1 b hb).2.2.2.1⟩), k3 _ _ _ _ _ h.rn (fun b hb => ⟨(h.apart.2.2.1 b hb).1, (h.apart.2.2.1 b hb).2.2.2.1⟩), k3 _ _ _ _ _ h.rl (fun b hb => ⟨(h.apart.2.2.2 b hb).1, (h.apart.2.2.2 b hb).2.2.2.1⟩), h.ne⟩, k2, k4⟩
  · rw [List.length_append, opsC_snoc]
    exact own_keep hown hk2 (fun b hb => by simp [Value.ownBlock] at hb; subst hb; simpa using hgX)
/-- A place more. -/
theorem AmV.pl {w w1 : World} {B X g cap : Nat} {o : Obj} {d : DS} {vo va vn vl : Value} {n : Nat} (h : AmV w B X d vo va vn vl) (hB : B ≤ w.heap.size)
    (hown : w1.ownsRow B 3 1 (.slice (some ⟨g, 0, none⟩) (d.ats.length + 1) cap) (d.ats.length + 1) (intC d.ats ++ [.int .i64 (n : Int)])) (hg : ((w.alloc o).drewN 1).grownBy w1 va.ownBlock) :
    AmV (w1.setCell ⟨X, 1, none⟩ (.slice (some ⟨g, 0, none⟩) (d.ats.length + 1) cap)) B X { d with ats := d.ats ++ [n] } vo (.slice (some ⟨g, 0, none⟩) (d.ats.length + 1) cap) vn vl ∧ Fz B X w (w1.setCell ⟨X, 1, none⟩ (.slice (some ⟨g, 0, none⟩) (d.ats.length + 1) cap)) ∧ (∀ b, b < w.heap.size → va.ownBlock ≠ some b → b ≠ X → (w1.setCell ⟨X, 1, none⟩ (.slice (some ⟨g, 0, none⟩) (d.ats.length + 1) cap)).heap[b]? = w.heap[b]?) := by
  obtain ⟨k1, k2, k3, k4⟩ := grow_keep (i := 1) (u := (.slice (some ⟨g, 0, none⟩) (d.ats.length + 1) cap)) (heap_lt h.blk) hB (fun b hb => ⟨(h.apart.2.1 b hb).2.2.2.2.1, (h.apart.2.1 b hb).2.2.2.1⟩) hg
  have hr1 : w1.heap[X]? = some (.cells #[vo, va, vn, .int .i64 (d.size : Int), vl] 45 (0, 0)) := by rw [k1]; exact h.blk
  have hgX : g ≠ X := fun e => own_ne hown hr1 (by decide) (by rw [e]; rfl)
  have hk2 : Keep [X] w1 (w1.setCell ⟨X, 1, none⟩ (.slice (some ⟨g, 0, none⟩) (d.ats.length + 1) cap)) := (Keep.refl _ _).setCell _ _ (Or.inl (by simp))
  refine ⟨⟨by rw [heap_set hr1]; rfl, k3 _ _ _ _ _ h.ro (fun b hb => ⟨(h.apart.1 b hb).1, (h.apart.1 b hb).2.2.2.1⟩), ?_, k3 _ _ _ _ _ h.rn (fun b hb => ⟨(h.apart.2.2.1 b hb).2.1, (h.apart.2.2.1 b hb).2.2.2.1⟩), k3 _ _ _ _ _ h.rl (fun b hb => ⟨(h.apart.2.2.2 b hb).2.1, (h.apart.2.2.2 b hb).2.2.2.1⟩), h.ne⟩, k2, k4⟩
  · rw [List.length_append, intC_snoc]
    exact own_keep hown hk2 (fun b hb => by simp [Value.ownBlock] at hb; subst hb; simpa using hgX)
/-- A name more. -/
theorem AmV.nm {w w1 : World} {B X g cap : Nat} {o : Obj} {d : DS} {vo va vn vl : Value} {x : Tok} (h : AmV w B X d vo va vn vl) (hB : B ≤ w.heap.size)
    (hown : w1.ownsRow B 55 2 (.slice (some ⟨g, 0, none⟩) (d.nms.length + 1) cap) (d.nms.length + 1) (tkC d.nms ++ [.string (S x.1), .int .i64 (x.2 : Int)])) (hg : ((w.alloc o).drewN 1).grownBy w1 vn.ownBlock) (hat : vn.ownBlock = some g ∨ g = w.heap.size + 1) :
    AmV (w1.setCell ⟨X, 2, none⟩ (.slice (some ⟨g, 0, none⟩) (d.nms.length + 1) cap)) B X { d with nms := d.nms ++ [x] } vo va (.slice (some ⟨g, 0, none⟩) (d.nms.length + 1) cap) vl ∧ Fz B X w (w1.setCell ⟨X, 2, none⟩ (.slice (some ⟨g, 0, none⟩) (d.nms.length + 1) cap)) ∧ (∀ b, b < w.heap.size → vn.ownBlock ≠ some b → b ≠ X → (w1.setCell ⟨X, 2, none⟩ (.slice (some ⟨g, 0, none⟩) (d.nms.length + 1) cap)).heap[b]? = w.heap[b]?) := by
  obtain ⟨k1, k2, k3, k4⟩ := grow_keep (i := 2) (u := (.slice (some ⟨g, 0, none⟩) (d.nms.length + 1) cap)) (heap_lt h.blk) hB (fun b hb => ⟨(h.apart.2.2.1 b hb).2.2.2.2.1, (h.apart.2.2.1 b hb).2.2.2.1⟩) hg
  have hr1 : w1.heap[X]? = some (.cells #[vo, va, vn, .int .i64 (d.size : Int), vl] 45 (0, 0)) := by rw [k1]; exact h.blk
  have hgX : g ≠ X := fun e => own_ne hown hr1 (by decide) (by rw [e]; rfl)
  have hk2 : Keep [X] w1 (w1.setCell ⟨X, 2, none⟩ (.slice (some ⟨g, 0, none⟩) (d.nms.length + 1) cap)) := (Keep.refl _ _).setCell _ _ (Or.inl (by simp))
  refine ⟨⟨by rw [heap_set hr1]; rfl, k3 _ _ _ _ _ h.ro (fun b hb => ⟨(h.apart.1 b hb).2.1, (h.apart.1 b hb).2.2.2.1⟩), k3 _ _ _ _ _ h.ra (fun b hb => ⟨(h.apart.2.1 b hb).2.1, (h.apart.2.1 b hb).2.2.2.1⟩), ?_, k3 _ _ _ _ _ h.rl (fun b hb => ⟨(h.apart.2.2.2 b hb).2.2.1, (h.apart.2.2.2 b hb).2.2.2.1⟩), fun b hb e => ?_⟩, k2, k4⟩
  · rw [List.length_append, tkC_snoc]
    exact own_keep hown hk2 (fun b hb => by simp [Value.ownBlock] at hb; subst hb; simpa using hgX)
  · simp [Value.ownBlock] at hb
    subst hb
    rcases hat with h1 | h1
    · exact h.ne g h1 e
    · have := (own_block h.rl g e).2
      omega
/-- The size. -/
theorem AmV.sz {w : World} {B X : Nat} {d : DS} {vo va vn vl : Value} (h : AmV w B X d vo va vn vl) (n : Nat) : AmV (w.setCell ⟨X, 3, none⟩ (.int .i64 (n : Int))) B X { d with size := n } vo va vn vl ∧ Fz B X w (w.setCell ⟨X, 3, none⟩ (.int .i64 (n : Int))) := by
  have hk2 : Keep [X] w (w.setCell ⟨X, 3, none⟩ (.int .i64 (n : Int))) := (Keep.refl _ _).setCell _ _ (Or.inl (by simp))
  obtain ⟨p1, p2, p3, p4⟩ := h.apart
  refine ⟨⟨by rw [heap_set h.blk]; rfl, own_keep h.ro hk2 (fun b hb => by simpa using (p1 b hb).2.2.2.1), own_keep h.ra hk2 (fun b hb => by simpa using (p2 b hb).2.2.2.1), own_keep h.rn hk2 (fun b hb => by simpa using (p3 b hb).2.2.2.1), own_keep h.rl hk2 (fun b hb => by simpa using (p4 b hb).2.2.2.1), h.ne⟩, ⟨hk2.os, hk2.tape, hk2.output, hk2.size, fun b _ hx => heap_set_other _ _ (Ne.symm hx)⟩⟩
/-! ### a line, as plain data -/
theorem line_err {d : DS} {st : PS} (h : DR d st) {l : List Tok} {e : Int × Nat} (hl : labelsV d l = .error e) : lineV st l = .error e := by
  match l, hl with
  | (x, p) :: r, hl =>
    simp only [labelsV] at hl
    unfold lineV
    rw [← h.labs]
    by_cases h1 : x.getLast? = some 58
    · rw [if_pos h1] at hl
      simp only [h1, if_true]
      cases hn : nameV x.dropLast with
      | false => rw [hn] at hl; simpa using hl
      | true =>
        rw [hn] at hl
        simp only [if_true] at hl ⊢
        by_cases h2 : lab d.labs x.dropLast = none
        · rw [if_pos h2] at hl; cases hl
        · rw [if_neg h2] at hl ⊢
          injection hl with hl
          rw [hl]
    · rw [if_neg h1] at hl; cases hl
theorem line_ok {d : DS} {st : PS} (h : DR d st) {l : List Tok} {d' : DS} {l' : List Tok} (hl : labelsV d l = .ok (d', l')) : ∃ st', DR d' st' ∧ lineV st l = instV st' l' ∧ d'.size = d.size ∧ d'.ops = d.ops ∧ d'.labs.length ≤ d.labs.length + 1 := by
  match l, hl with
  | [], hl =>
    simp only [labelsV, Except.ok.injEq, Prod.mk.injEq] at hl
    obtain ⟨rfl, rfl⟩ := hl
    exact ⟨st, h, rfl, rfl, rfl, by omega⟩
  | (x, p) :: r, hl =>
    simp only [labelsV] at hl
    by_cases h1 : x.getLast? = some 58
    · rw [if_pos h1] at hl
      cases hn : nameV x.dropLast with
      | false => rw [hn] at hl; simp at hl
      | true =>
        rw [hn] at hl
        simp only [if_true] at hl
        by_cases h2 : lab d.labs x.dropLast = none
        · rw [if_pos h2] at hl
          simp only [Except.ok.injEq, Prod.mk.injEq] at hl
          obtain ⟨rfl, rfl⟩ := hl
          refine ⟨_, h.lab x.dropLast, ?_, rfl, rfl, by simp⟩
          unfold lineV
          rw [← h.labs]
          simp only [h1, hn, h2, if_true]
        · rw [if_neg h2] at hl; cases hl
    · rw [if_neg h1] at hl
      simp only [Except.ok.injEq, Prod.mk.injEq] at hl
      obtain ⟨rfl, rfl⟩ := hl
      refine ⟨st, h, ?_, rfl, rfl, by omega⟩
      unfold lineV
      simp only [h1, if_false]
/-- A name that is none. -/
def nmO (t : Tok) : Option (List UInt8 × Nat) := if t.1 = [] then none else some t
theorem inst_opd (st : PS) {x : List UInt8} {p c : Nat} {r : List Tok} (hw : wordI x = some c) (hd : wdC c ≠ 0) : instV st ((x, p) :: r) = match odV c (x, p) r with
    | .error e => .error e
    | .ok (v, t) => moreV st p c v (nmO t) (r.drop 1) := by
  simp only [instV]
  rw [hw]
  simp only [if_neg hd]
  match r with
  | [] => rfl
  | (y, q) :: r2 =>
    unfold odV
    simp only
    cases hn : ldC c && nameV y with
    | true =>
      simp only [Bool.and_eq_true] at hn
      rw [name_num hn.2]
      simp only [if_true, List.drop_succ_cons, List.drop_zero, nmO, if_neg (name_ne hn.2)]
    | false =>
      cases numV y with
      | none => simp
      | some v =>
        by_cases hr : loC c ≤ v ∧ v ≤ hiC c
        · simp [hr, nmO]
        · simp [hr]
theorem inst_none (st : PS) {x : List UInt8} {p c : Nat} {r : List Tok} (hw : wordI x = some c) (hd : wdC c = 0) : instV st ((x, p) :: r) = moreV st p c 0 none r := by
  simp only [instV]
  rw [hw]
  simp only [hd, if_true]
theorem inst_no (st : PS) {x : List UInt8} {p : Nat} {r : List Tok} (hw : wordI x = none) : instV st ((x, p) :: r) = .error (9, p) := by
  simp only [instV]
  rw [hw]
theorem DR.add {d : DS} {st : PS} (h : DR d st) (c : Nat) (v : Int) (t : Tok) (ht : t = ([], 0) ∨ (t.1 ≠ [] ∧ ldC c = true)) : DR (addD d c v t) (addI st c v (nmO t)) := by
  rcases ht with rfl | ⟨h1, h2⟩
  · exact h.none c v
  · unfold nmO
    rw [if_neg h1]
    exact h.some c h2 v t.1 t.2 h1
theorem od_name {c : Nat} {x : Tok} {r : List Tok} {v : Int} {t : Tok} (h : odV c x r = .ok (v, t)) : t = ([], 0) ∨ (t.1 ≠ [] ∧ ldC c = true) := by
  match r, h with
  | (y, q) :: r2, h =>
    unfold odV at h
    simp only at h
    cases hn : numV y with
    | none =>
      rw [hn] at h
      simp only at h
      by_cases hc : (ldC c && nameV y) = true
      · rw [if_pos hc] at h
        simp only [Except.ok.injEq, Prod.mk.injEq] at h
        rw [← h.2]
        simp only [Bool.and_eq_true] at hc
        exact Or.inr ⟨name_ne hc.2, hc.1⟩
      · rw [if_neg hc] at h; cases h
    | some u =>
      rw [hn] at h
      simp only at h
      by_cases hr : loC c ≤ u ∧ u ≤ hiC c
      · rw [if_pos hr] at h
        simp only [Except.ok.injEq, Prod.mk.injEq] at h
        exact Or.inl h.2.symm
      · rw [if_neg hr] at h; cases h
end Go.Proofs.YtbjopdmchmekpaaDoor
