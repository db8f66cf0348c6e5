/- Small functions of the program's reader. -/
import Derived.Test.YtbjopdmchmekpaaDoorAsN
import Derived.Test.YtbjopdmchmekpaaDoorAsE
namespace Go.Proofs.YtbjopdmchmekpaaDoor
open Go.ChangeShapes Go.WideShapes Go.ChangeAt Go.RowKit

theorem parts_any (b : UInt8) (w : World) : Calls Tryd.prog 59 #[.int .u8 b.toNat] w fun e w' => e = .returned (.bool (isB b)) ∧ w' = w := by
  by_cases h1 : b = 32
  · subst h1
    go_enter Tryd.func59, Tryd.ntmps59
    go_wp2
    go_ret
    exact ⟨rfl, rfl⟩
  · by_cases h2 : b = 9
    · subst h2
      go_enter Tryd.func59, Tryd.ntmps59
      go_wp2
      go_ret
      exact ⟨rfl, rfl⟩
    · have e : isB b = false := by simp [isB, h1, h2]
      have n1 : ¬ (b.toNat : Int) = 32 := fun h => h1 (UInt8.toNat_inj.1 (by show b.toNat = 32; omega))
      have n2 : ¬ (b.toNat : Int) = 9 := fun h => h2 (UInt8.toNat_inj.1 (by show b.toNat = 9; omega))
      have d1 : ((b.toNat : Int) == 32) = false := by simp [n1]
      have d2 : ((b.toNat : Int) == 9) = false := by simp [n2]
      rw [e]
      generalize (b.toNat : Int) = z at *
      go_enter Tryd.func59, Tryd.ntmps59
      go_wp2
      go_ret
      exact ⟨rfl, rfl⟩
theorem digit_any (b : UInt8) (w : World) : Calls Tryd.prog 76 #[.int .u8 b.toNat] w fun e w' => e = .returned (.bool (isDg b)) ∧ w' = w := by
  unfold isDg
  have hb := b.toNat_lt
  generalize b.toNat = n at *
  by_cases h1 : 48 ≤ n
  · by_cases h2 : n ≤ 57
    · have e1 : (48 : Int) ≤ (n : Int) := by omega
      have e2 : (n : Int) ≤ 57 := by omega
      simp only [h1, h2, decide_true, Bool.true_and]
      go_enter Tryd.func76, Tryd.ntmps76
      go_wp2
      go_ret
      exact ⟨by first | rfl | simp [e2], rfl⟩
    · have e1 : (48 : Int) ≤ (n : Int) := by omega
      have e2 : ¬ (n : Int) ≤ 57 := by omega
      simp only [h1, h2, decide_true, decide_false, Bool.true_and]
      go_enter Tryd.func76, Tryd.ntmps76
      go_wp2
      go_ret
      exact ⟨by first | rfl | simp [e2], rfl⟩
  · have e1 : ¬ (48 : Int) ≤ (n : Int) := by omega
    simp only [h1, decide_false, Bool.false_and]
    go_enter Tryd.func76, Tryd.ntmps76
    go_wp2
    go_ret
    exact ⟨by first | rfl | simp [e1], rfl⟩
theorem letter_any (b : UInt8) (w : World) : Calls Tryd.prog 77 #[.int .u8 b.toNat] w fun e w' => e = .returned (.bool (isLt b)) ∧ w' = w := by
  have hb := b.toNat_lt
  have h95 : (b == 95) = decide (b.toNat = 95) := by
    by_cases h : b = 95
    · subst h; rfl
    · have : ¬ b.toNat = 95 := fun e => h (UInt8.toNat_inj.1 e)
      simp [h, this]
  unfold isLt
  rw [h95]
  generalize b.toNat = n at *
  clear h95
  have hc : (97 ≤ n ∧ n ≤ 122) ∨ (65 ≤ n ∧ n ≤ 90) ∨ n = 95 ∨ n < 65 ∨ (90 < n ∧ n < 95) ∨ n = 96 ∨ 122 < n := by omega
  rcases hc with h | h | h | h | h | h | h
  all_goals
    first
    | (have e : (decide (97 ≤ n) && decide (n ≤ 122) || decide (65 ≤ n) && decide (n ≤ 90) || decide (n = 95)) = true := by simp; omega
       rw [e])
    | (have e : (decide (97 ≤ n) && decide (n ≤ 122) || decide (65 ≤ n) && decide (n ≤ 90) || decide (n = 95)) = false := by simp; omega
       rw [e])
    clear e
  · have a1 : (97 : Int) ≤ (n : Int) := by omega
    have a2 : (n : Int) ≤ 122 := by omega
    go_enter Tryd.func77, Tryd.ntmps77
    go_wp2
    go_ret
    exact ⟨by first | rfl | simp; omega, rfl⟩
  · have a1 : ¬ (97 : Int) ≤ (n : Int) := by omega
    have a2 : (65 : Int) ≤ (n : Int) := by omega
    have a3 : (n : Int) ≤ 90 := by omega
    go_enter Tryd.func77, Tryd.ntmps77
    go_wp2
    go_ret
    exact ⟨by first | rfl | simp; omega, rfl⟩
  · subst h
    go_enter Tryd.func77, Tryd.ntmps77
    go_wp2
    go_ret
    exact ⟨by first | rfl | simp; omega, rfl⟩
  · have a1 : ¬ (97 : Int) ≤ (n : Int) := by omega
    have a2 : ¬ (65 : Int) ≤ (n : Int) := by omega
    have a3 : ¬ (n : Int) = 95 := by omega
    have a4 : ((n : Int) == 95) = false := by simp [a3]
    go_enter Tryd.func77, Tryd.ntmps77
    go_wp2
    go_ret
    exact ⟨by first | rfl | simp; omega, rfl⟩
  · have a1 : ¬ (97 : Int) ≤ (n : Int) := by omega
    have a2 : (65 : Int) ≤ (n : Int) := by omega
    have a5 : ¬ (n : Int) ≤ 90 := by omega
    have a3 : ¬ (n : Int) = 95 := by omega
    have a4 : ((n : Int) == 95) = false := by simp [a3]
    go_enter Tryd.func77, Tryd.ntmps77
    go_wp2
    go_ret
    exact ⟨by first | rfl | simp; omega, rfl⟩
  · subst h
    go_enter Tryd.func77, Tryd.ntmps77
    go_wp2
    go_ret
    exact ⟨by first | rfl | simp; omega, rfl⟩
  · have a1 : (97 : Int) ≤ (n : Int) := by omega
    have a6 : ¬ (n : Int) ≤ 122 := by omega
    have a2 : (65 : Int) ≤ (n : Int) := by omega
    have a5 : ¬ (n : Int) ≤ 90 := by omega
    have a3 : ¬ (n : Int) = 95 := by omega
    have a4 : ((n : Int) == 95) = false := by simp [a3]
    go_enter Tryd.func77, Tryd.ntmps77
    go_wp2
    go_ret
    exact ⟨by first | rfl | simp; omega, rfl⟩
theorem takesName_any (c : Nat) (w : World) : Calls Tryd.prog 78 #[.int .i64 (c : Int)] w fun e w' => e = .returned (.bool (ldC c)) ∧ w' = w := by
  unfold ldC
  by_cases h1 : c = 24
  · subst h1
    go_enter Tryd.func78, Tryd.ntmps78
    go_wp2
    go_ret
    exact ⟨rfl, rfl⟩
  · by_cases h2 : c = 25
    · subst h2
      go_enter Tryd.func78, Tryd.ntmps78
      go_wp2
      go_ret
      exact ⟨rfl, rfl⟩
    · by_cases h3 : c = 26
      · subst h3
        go_enter Tryd.func78, Tryd.ntmps78
        go_wp2
        go_ret
        exact ⟨rfl, rfl⟩
      · have e : decide (c = 24 ∨ c = 25 ∨ c = 26) = false := by simp; omega
        rw [e]
        have d1 : ((c : Int) == 24) = false := by simp; omega
        have d2 : ((c : Int) == 25) = false := by simp; omega
        have d3 : ((c : Int) == 26) = false := by simp; omega
        have f1 : ¬ (c : Int) = 24 := by omega
        have f2 : ¬ (c : Int) = 25 := by omega
        have f3 : ¬ (c : Int) = 26 := by omega
        generalize (c : Int) = ci at *
        go_enter Tryd.func78, Tryd.ntmps78
        go_wp2
        go_ret
        exact ⟨rfl, rfl⟩
/-- What a panic of the reader carries. -/
def flt (e p : Int) : List PanicEntry := [{ v := .iface 33 (.agg #[.int .i64 e, .int .i64 p]), recovered := false }]
theorem giveUp_any (e p : Int) (w : World) : Calls Tryd.prog 28 #[.int .i64 e, .int .i64 p] w fun r w' => r = .panicked (flt e p) ∧ Below w.heap.size w w' := by
  go_enter Tryd.func28, Tryd.ntmps28
  go_wp2
  exact ⟨rfl, rfl, Below.refl _ _⟩
theorem ba_at (s : ByteArray) (i : Nat) (h : i < s.size) : s.data.toList[i]? = some s[i] := by
  have h' : i < s.data.size := h
  rw [Array.getElem?_toList, Array.getElem?_eq_getElem h']
  rfl
theorem ba_len (s : ByteArray) : s.data.toList.length = s.size := rfl
theorem ba_empty (s : ByteArray) : s.toList.isEmpty = decide (s.size = 0) := by
  have h : s.toList = s.data.toList := by
    have := Lib.extract_toList s 0 s.size
    rw [ByteArray.extract_zero_size] at this
    rw [this, Nat.sub_zero, List.drop_zero, List.take_of_length_le (by rw [ba_len]; exact Nat.le_refl _)]
  rw [h, ← ba_len]
  cases s.data.toList <;> simp
theorem nameV_of (s : ByteArray) (h0 : 0 < s.size) : nameV s.data.toList = (decide (s.size ≤ 16) && !isDg s[0] && s.data.toList.all fun b => isLt b || isDg b) := by
  have h1 := ba_at s 0 h0
  have h2 := ba_len s
  cases ht : s.data.toList with
  | nil => rw [ht] at h1; cases h1
  | cons a r =>
    rw [ht] at h1 h2
    simp only [List.getElem?_cons_zero, Option.some.injEq] at h1
    unfold nameV
    simp only
    rw [h1, ← h2]
    simp
theorem name_any (s : ByteArray) (hs : s.size ≤ 9223372036854775807) (w : World) : Calls Tryd.prog 62 #[.string s] w fun e w' => e = .returned (.bool (nameV s.data.toList)) ∧ w' = w := by
  have HD : Hid (∀ (b : UInt8) w, Calls Tryd.prog 76 #[.int .u8 b.toNat] w fun e w' => e = .returned (.bool (isDg b)) ∧ w' = w) := digit_any
  have HL : Hid (∀ (b : UInt8) w, Calls Tryd.prog 77 #[.int .u8 b.toNat] w fun e w' => e = .returned (.bool (isLt b)) ∧ w' = w) := letter_any
  by_cases h0 : s.size = 0
  · have he : s.toList.isEmpty = true := by rw [ba_empty]; simp [h0]
    have hv : nameV s.data.toList = false := by
      have : s.data.toList = [] := List.length_eq_zero_iff.1 (by rw [ba_len]; exact h0)
      rw [this]; rfl
    rw [hv]
    clear h0 hv
    go_enter Tryd.func62, Tryd.ntmps62
    go_wp2
    go_ret
    exact ⟨rfl, rfl⟩
  · have he : s.toList.isEmpty = false := by rw [ba_empty]; simp [h0]
    have h0' : 0 < s.size := by omega
    rw [nameV_of s h0']
    by_cases h16 : 16 < s.size
    · have hd : decide ((16 : Int) < (s.size : Int)) = true := by simp; omega
      have hd2 : decide (s.size ≤ 16) = false := by simp; omega
      rw [hd2]
      simp only [Bool.false_and]
      go_enter Tryd.func62, Tryd.ntmps62
      go_wp2
      go_ret
      exact ⟨rfl, rfl⟩
    · have hd : decide ((16 : Int) < (s.size : Int)) = false := by simp; omega
      have hd2 : decide (s.size ≤ 16) = true := by simp; omega
      rw [hd2]
      obtain ⟨R, hR⟩ : ∃ R, (true && !isDg s[0] && s.data.toList.all fun b => isLt b || isDg b) = R := ⟨_, rfl⟩
      have HR : Hid ((true && !isDg s[0] && s.data.toList.all fun b => isLt b || isDg b) = R) := hR
      rw [hR]
      clear hR hd2
      go_enter Tryd.func62, Tryd.ntmps62
      go_wp2_with fail
      refine (HD.out _ _).mono ?_
      rintro e w1 ⟨rfl, rfl⟩
      cases hdg : isDg s[0] with
      | true =>
        have HR1 : Hid (R = false) := by rw [Hid, ← HR.out, hdg]; rfl
        go_wp2
        go_ret
        rw [HR1.out]
        exact ⟨rfl, rfl⟩
      | false =>
        have HR1 : Hid (R = s.data.toList.all fun b => isLt b || isDg b) := by rw [Hid, ← HR.out, hdg]; rfl
        clear HR hdg
        go_wp2
        go_loopw [18] (fun u wr => ∃ i : Nat, i ≤ s.size ∧ u = .int .i64 (i : Int) ∧ ((s.data.toList.take i).all fun b => isLt b || isDg b) = true ∧ wr = w1) (fun u _ => s.size - (intOf u).toNat)
        case atStart => exact ⟨0, by omega, rfl, by simp, rfl⟩
        case round =>
          obtain ⟨i, hi, rfl, hok, hwe⟩ := hrel
          have HW : Hid (wr = w1) := hwe
          clear hwe
          have HO : Hid (((s.data.toList.take i).all fun b => isLt b || isDg b) = true) := hok
          clear hok
          by_cases hlt : i < s.size
          · have hdd : decide ((i : Int) < (s.size : Int)) = true := by simp; omega
            have hat := ba_at s i hlt
            have HT : Hid (s.data.toList.take (i + 1) = s.data.toList.take i ++ [s[i]]) := by
              rw [Hid, List.take_add_one, hat]
              rfl
            have HI : Hid (i < s.size) := hlt
            have HDI := HD.out s[i]
            have HLI := HL.out s[i]
            have HDI' : Hid (∀ w, Calls Tryd.prog 76 #[.int .u8 s[i].toNat] w fun e w' => e = .returned (.bool (isDg s[i])) ∧ w' = w) := HDI
            have HLI' : Hid (∀ w, Calls Tryd.prog 77 #[.int .u8 s[i].toNat] w fun e w' => e = .returned (.bool (isLt s[i])) ∧ w' = w) := HLI
            have HAL : Hid (∀ b, (isLt s[i] || isDg s[i]) = b → (b = true → ((s.data.toList.take (i + 1)).all fun b => isLt b || isDg b) = true) ∧ (b = false → (s.data.toList.all fun b => isLt b || isDg b) = false)) := fun b hb => by
              constructor
              · intro hbt
                rw [HT.out, List.all_append, HO.out]
                simp only [List.all_cons, List.all_nil, Bool.and_true, Bool.true_and]
                rw [hbt] at hb
                exact hb
              · intro hbf
                rw [List.all_eq_false]
                refine ⟨s[i], List.mem_of_getElem? hat, ?_⟩
                rw [hbf] at hb
                exact Bool.not_eq_true _ ▸ hb
            have hwi : wrap64 ((i : Int) + 1) = (i : Int) + 1 := by unfold wrap64; omega
            clear hat HDI HLI HT
            generalize isDg s[i] = bd at *
            generalize isLt s[i] = bl at *
            go_wp2_with fail
            refine (HLI'.out _).mono ?_
            rintro e w2 ⟨rfl, hw2⟩
            obtain rfl : wr = w2 := hw2.symm
            clear hw2
            cases bl with
            | true =>
              have HG := (HAL.out true (by simp)).1 rfl
              have HG' : Hid (((s.data.toList.take (i + 1)).all fun b => isLt b || isDg b) = true) := HG
              clear HG HAL
              go_wp2
              go_roundw
              case rel => exact ⟨i + 1, HI.out, by go_num, HG'.out, HW.out⟩
              case measure => exact meas_i HI.out
            | false =>
              go_wp2_with fail
              refine (HDI'.out _).mono ?_
              rintro e w3 ⟨rfl, hw3⟩
              obtain rfl : wr = w3 := hw3.symm
              clear hw3
              cases bd with
              | true =>
                have HG := (HAL.out true (by simp)).1 rfl
                have HG' : Hid (((s.data.toList.take (i + 1)).all fun b => isLt b || isDg b) = true) := HG
                clear HG HAL
                go_wp2
                go_roundw
                case rel => exact ⟨i + 1, HI.out, by go_num, HG'.out, HW.out⟩
                case measure => exact meas_i HI.out
              | false =>
                have HG := (HAL.out false (by simp)).2 rfl
                have HG' : Hid (R = false) := by rw [Hid, HR1.out]; exact HG
                clear HG HAL
                go_wp2
                go_ret
                rw [HG'.out]
                exact ⟨rfl, HW.out⟩
          · obtain rfl : i = s.size := by omega
            have hdd : decide ((s.size : Int) < (s.size : Int)) = false := by simp
            have HG' : Hid (R = true) := by
              rw [Hid, HR1.out, ← HO.out, List.take_of_length_le (by rw [ba_len]; exact Nat.le_refl _)]
            go_wp2
            go_ret
            rw [HG'.out]
            exact ⟨rfl, HW.out⟩
end Go.Proofs.YtbjopdmchmekpaaDoor
