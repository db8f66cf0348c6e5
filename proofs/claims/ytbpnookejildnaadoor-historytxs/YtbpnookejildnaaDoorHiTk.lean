/- The document's: has an order each number just once. -/
import Derived.Test.YtbpnookejildnaaDoorHiQ
import Derived.Test.YtbpnookejildnaaDoorHiR
namespace Go.Proofs.YtbpnookejildnaaDoor.Hi
open Go.ChangeShapes Go.WideShapes Go.ChangeAt Go.RowKit
set_option linter.unusedVariables false
set_option maxRecDepth 100000

def cntI (o : List Int) (n : Nat) : Nat := o.countP fun x => decide (x = (n : Int))
def sumC (o : List Int) : Nat → Nat
  | 0 => 0
  | m + 1 => sumC o m + cntI o m
theorem sum_in (o : List Int) (m : Nat) : sumC o m = o.countP fun x => decide (0 ≤ x) && decide (x < (m : Int)) := by
  induction m with
  | zero =>
    show 0 = _
    symm
    rw [List.countP_eq_zero]
    intro x _
    simp
  | succ m ih =>
    show sumC o m + cntI o m = _
    rw [ih]
    unfold cntI
    clear ih
    induction o with
    | nil => rfl
    | cons x l ih =>
      simp only [List.countP_cons]
      have key : (if (decide (0 ≤ x) && decide (x < (m : Int))) = true then 1 else 0) + (if decide (x = (m : Int)) = true then 1 else 0) = (if (decide (0 ≤ x) && decide (x < ((m + 1 : Nat) : Int))) = true then 1 else (0 : Nat)) := by
        simp only [Bool.and_eq_true, decide_eq_true_eq]
        split <;> split <;> split <;> omega
      rw [← key, ← ih]
      omega
theorem sum_le {o : List Int} {m : Nat} (h : ∀ n, n < m → cntI o n ≤ 1) : sumC o m ≤ m := by
  induction m with
  | zero => exact Nat.le_refl _
  | succ m ih =>
    have := ih fun n hn => h n (by omega)
    have := h m (by omega)
    show sumC o m + cntI o m ≤ m + 1
    omega
theorem sum_ones {o : List Int} {m : Nat} (h : ∀ n, n < m → cntI o n ≤ 1) (hs : sumC o m = m) : ∀ n, n < m → cntI o n = 1 := by
  induction m with
  | zero => intro n hn; omega
  | succ m ih =>
    have h1 := sum_le (o := o) (m := m) fun n hn => h n (by omega)
    have h2 := h m (by omega)
    have h3 : sumC o m + cntI o m = m + 1 := hs
    intro n hn
    by_cases e : n = m
    · subst e; omega
    · exact ih (fun n hn => h n (by omega)) (by omega) n (by omega)
theorem sum_of_ones {o : List Int} {m : Nat} (h : ∀ n, n < m → cntI o n = 1) : sumC o m = m := by
  induction m with
  | zero => rfl
  | succ m ih =>
    have := ih fun n hn => h n (by omega)
    have := h m (by omega)
    show sumC o m + cntI o m = m + 1
    omega
theorem cntI_count (o : List Int) (n : Nat) : cntI o n = o.count (n : Int) := by
  unfold cntI List.count
  congr 1
theorem okOrd_takes (m : Nat) (o : List Int) : okOrd m o = true ↔ o.length = m ∧ ∀ n, n < m → cntI o n = 1 := by
  unfold okOrd
  simp only [Bool.and_eq_true, decide_eq_true_eq]
  constructor
  · rintro ⟨⟨h1, h2⟩, h3⟩
    refine ⟨h1, sum_ones (fun n _ => ?_) ?_⟩
    · rw [cntI_count]
      exact List.nodup_iff_count.1 h3 _
    · rw [sum_in, List.countP_eq_length.2 (fun x hx => (List.all_eq_true.1 h2) x hx), h1]
  · rintro ⟨h1, h2⟩
    have hs := sum_of_ones h2
    rw [sum_in, ← h1] at hs
    have hall := List.countP_eq_length.1 hs
    refine ⟨⟨h1, List.all_eq_true.2 fun x hx => by rw [← h1]; exact hall x hx⟩, List.nodup_iff_count.2 fun a => ?_⟩
    by_cases ha : a ∈ o
    · have := hall a ha
      simp at this
      obtain ⟨n, rfl⟩ : ∃ n : Nat, a = (n : Int) := ⟨a.toNat, by omega⟩
      rw [← cntI_count, h2 n (by omega)]
      exact Nat.le_refl _
    · rw [List.count_eq_zero.2 ha]
      exact Nat.zero_le _
theorem cntI_step {o : List Int} {j : Nat} (n : Nat) (hj : j < o.length) : cntI (o.take (j + 1)) n = cntI (o.take j) n + if ni o j = (n : Int) then 1 else 0 := by
  unfold cntI
  rw [take_ni hj, List.countP_append]
  by_cases h : ni o j = (n : Int) <;> simp [h]
theorem cntI_le (o : List Int) (n : Nat) : cntI o n ≤ o.length := List.countP_le_length
set_option maxHeartbeats 1600000 in
theorem takes_any {w : World} {v : Value} {o : List Int} (h : IL w v o) {m : Nat} (hm : m ≤ 925925926000) : Calls Tryd.prog 34 #[v, .int .i64 (m : Int)] w fun e w' => e = .returned (.bool (okOrd m o)) ∧ w' = w := by
  obtain ⟨a, cap, rfl, hl0, hcap, hcs, hca, hl⟩ := h
  have HL : Hid (o.length = 0 ∨ ∃ x, a = some x ∧ x.block < w.heap.size ∧ ∀ i, i < o.length → w.cell? (x.add i) = some (.int .i64 (ni o i))) := hl
  have HT := okOrd_takes m o
  have HTK : Hid (okOrd m o = true ↔ o.length = m ∧ ∀ n, n < m → cntI o n = 1) := HT
  have HM : Hid (m ≤ 925925926000) := hm
  clear hl hl0 hcap hcs hca HT hm
  generalize okOrd m o = y at *
  by_cases hlm : o.length = m
  case neg =>
    have hy : y = false := by
      cases y with
      | false => rfl
      | true => exact absurd (HTK.out.1 rfl).1 hlm
    subst hy
    have hd : ((o.length : Int) != (m : Int)) = true := by simp; omega
    clear HL HTK
    go_enter Tryd.func34, Tryd.ntmps34
    go_wp2_with fail
    go_ret
    exact ⟨rfl, rfl⟩
  subst hlm
  go_enter Tryd.func34, Tryd.ntmps34
  go_wp2_with fail
  go_loop [5] (fun nv => ∃ n : Nat, n ≤ o.length ∧ nv = .int .i64 (n : Int) ∧ Hid (∀ k, k < n → cntI o k = 1)) (fun nv => o.length - (intOf nv).toNat)
  case atStart => exact ⟨0, Nat.zero_le _, rfl, fun k hk => by omega⟩
  case round =>
    obtain ⟨n, hn, rfl, HK⟩ := hrel
    by_cases hlt : n < o.length
    · have hnd : decide ((n : Int) < (o.length : Int)) = true := by simp; omega
      have HNL : Hid (n < o.length) := hlt
      have hwn : Hid (wrap64 ((n : Int) + 1) = (n : Int) + 1) := inc_cast HM.out (Nat.le_of_lt hlt)
      have HMN : Hid (o.length - (n + 1) < o.length - n) := by rw [Hid]; omega
      clear hlt hn
      go_wp2_with fail
      go_loop [6, 7] (fun kv iv => ∃ i : Nat, i ≤ o.length ∧ iv = .int .i64 (i : Int) ∧ kv = .int .i64 (cntI (o.take i) n : Int)) (fun _ iv => o.length - (intOf iv).toNat)
      case atStart => exact ⟨0, Nat.zero_le _, rfl, rfl⟩
      case round =>
        obtain ⟨i, hi, rfl, rfl⟩ := hrel
        by_cases hlt : i < o.length
        · have hid : decide ((i : Int) < (o.length : Int)) = true := by simp; omega
          obtain ⟨x, rfl, hxb, hc⟩ := HL.out.resolve_left (by omega)
          have g := hc i hlt
          have HS := cntI_step n hlt
          have hw1 : Hid (wrap64 ((i : Int) + 1) = (i : Int) + 1) := inc_cast HM.out (Nat.le_of_lt hlt)
          have hw2 : Hid (wrap64 ((cntI (o.take i) n : Int) + 1) = (cntI (o.take i) n : Int) + 1) := inc_cast HM.out (Nat.le_trans (cntI_le _ _) (by simp; omega))
          have HMS : Hid (o.length - (i + 1) < o.length - i) := by rw [Hid]; omega
          have HIL : Hid (i < o.length) := hlt
          have hil : (i : Int) < (o.length : Int) := by omega
          have HSS : Hid (cntI (o.take (i + 1)) n = cntI (o.take i) n + if ni o i = (n : Int) then 1 else 0) := HS
          clear HS hc hlt hi
          generalize ni o i = z at *
          generalize cntI (o.take i) n = c at *
          by_cases hz : z = (n : Int)
          · have hdz : (z == (n : Int)) = true := by simpa using hz
            have HS2 : Hid (cntI (o.take (i + 1)) n = c + 1) := by rw [Hid, HSS.out, if_pos hz]
            clear HSS hz
            go_wp2_with fail
            go_round
            case rel => exact ⟨i + 1, HIL.out, by first | (rw [hw1.out]; go_num) | go_num, by rw [HS2.out]; first | (rw [hw2.out]; go_num) | go_num⟩
            case measure => first | (rw [hw1.out]; simpa [intOf] using HMS.out) | (simpa [intOf] using HMS.out)
          · have hdz : (z == (n : Int)) = false := by simpa using hz
            have HS2 : Hid (cntI (o.take (i + 1)) n = c) := by rw [Hid, HSS.out, if_neg hz, Nat.add_zero]
            clear HSS hz
            go_wp2_with fail
            go_round
            case rel => exact ⟨i + 1, HIL.out, by first | (rw [hw1.out]; go_num) | go_num, by rw [HS2.out]⟩
            case measure => first | (rw [hw1.out]; simpa [intOf] using HMS.out) | (simpa [intOf] using HMS.out)
        · obtain rfl : i = o.length := by omega
          have HKN : Hid (cntI (o.take o.length) n = cntI o n) := by rw [Hid, List.take_length]
          rw [HKN.out]
          clear HKN HL hi hlt
          generalize hc : cntI o n = c at *
          have HC : Hid (cntI o n = c) := hc
          clear hc
          by_cases h1 : c = 1
          · have hd1 : ((c : Int) != 1) = false := by simp; omega
            have HC1 : Hid (cntI o n = 1) := by rw [Hid, HC.out, h1]
            subst h1
            go_wp2_with fail
            go_round
            case rel => exact ⟨n + 1, HNL.out, by first | (rw [hwn.out]; go_num) | go_num, fun k hk => by
              by_cases e : k = n
              · subst e; exact HC1.out
              · exact HK.out k (by omega)⟩
            case measure => first | (rw [hwn.out]; simpa [intOf] using HMN.out) | (simpa [intOf] using HMN.out)
          · have hd1 : ((c : Int) != 1) = true := by simp; omega
            have hy : y = false := by
              cases y with
              | false => rfl
              | true => exact absurd (HC.out.symm.trans ((HTK.out.1 rfl).2 n HNL.out)) h1
            subst hy
            clear HTK
            go_wp2_with fail
            go_ret
            exact ⟨rfl, rfl⟩
    · obtain rfl : n = o.length := by omega
      have hy : y = true := by
        refine HTK.out.2 ?_
        first | exact ⟨trivial, HK.out⟩ | (simp; exact HK.out)
      subst hy
      clear HTK HL HK
      go_wp2_with fail
      go_ret
      exact ⟨rfl, rfl⟩
end Go.Proofs.YtbpnookejildnaaDoor.Hi
