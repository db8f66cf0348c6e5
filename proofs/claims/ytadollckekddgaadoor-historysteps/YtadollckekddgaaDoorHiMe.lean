/- A row of numbers: two rows merged in their place. -/
import Derived.Test.YtadollckekddgaaDoorHiSw
namespace Go.Proofs.YtadollckekddgaaDoor.Hi
open Go.ChangeShapes Go.WideShapes Go.ChangeAt Go.RowKit
set_option linter.unusedVariables false

set_option maxRecDepth 100000 in
set_option maxHeartbeats 6400000 in
theorem merge_one {w0 w : World} {g n cap : Nat} {cv : Value} {ky : Nat → Int} {f : Nat → Nat} (HC : CmpOk w0 g n cv ky) (hS : SAt w0 w g n f) {a m b : Nat} (ham : a + 1 = m) (hmb : m < b) (hb : b ≤ n) (hn : n ≤ 925925926000) (hcap : n ≤ cap)
    (hs2 : Srt ky f m b) (hsp : Sep f a m b) :
    Calls Tryd.prog 44 #[.slice (some ⟨g, 0, none⟩) n cap, .int .i64 (a : Int), .int .i64 (m : Int), .int .i64 (b : Int), .func (.func 14) #[] #[cv]] w fun e w' => e = .returned (.tuple #[]) ∧ ∃ f', SAt w0 w' g n f' ∧ PermOn f f' a b ∧ Srt ky f' a b := by
  obtain ⟨c, hc1, hc2⟩ := HC
  have HC1 : Hid (∀ i j, i < n → j < n → (c i j < 0 ↔ ky i < ky j)) := hc1
  have HC2 : Hid (∀ w, Keep [g] w0 w → ∀ i j, i < n → j < n → Calls Tryd.prog 14 #[.int .i64 (i : Int), .int .i64 (j : Int), cv] w fun e w' => e = .returned (.int .i64 (c i j)) ∧ Below w.heap.size w w') := hc2
  have HS0 : Hid (SAt w0 w g n f) := hS
  have HB0 : Hid (a + 1 = m ∧ m < b ∧ b ≤ n ∧ n ≤ 925925926000 ∧ n ≤ cap) := ⟨ham, hmb, hb, hn, hcap⟩
  have HDN : Hid (∀ i, m ≤ i → i ≤ b → (i = m ∨ ky (f (i - 1)) < ky (f a)) → (i = b ∨ ky (f a) ≤ ky (f i)) → PermOn f (sh f a (i - 1)) a b ∧ Srt ky (sh f a (i - 1)) a b) := fun i h1 h2 h3 h4 => by
    subst ham
    exact ⟨sh_perm f (Nat.le_refl _) _ (by omega) (by omega), sh_srt ⟨h1, h2⟩ hs2 hsp h3 (by rcases h4 with h | h; exact Or.inl h; exact Or.inr (by omega))⟩
  have hdm : ((m : Int) - (a : Int) == 1) = true := by simp; omega
  clear hc1 hc2 hS hs2 hsp
  go_enter Tryd.func44, Tryd.ntmps44
  go_wp2_with fail
  go_loopw [10, 11] (fun iv jv wr => ∃ i j : Nat, iv = .int .i64 (i : Int) ∧ jv = .int .i64 (j : Int) ∧ Hid (m ≤ i ∧ i ≤ j ∧ j ≤ b) ∧ Hid ((i = m ∨ ky (f (i - 1)) < ky (f a)) ∧ (j = b ∨ ky (f a) ≤ ky (f j))) ∧ Hid (SAt w0 wr g n f)) (fun iv jv _ => (intOf jv).toNat - (intOf iv).toNat)
  case atStart => exact ⟨m, b, rfl, rfl, ⟨Nat.le_refl _, Nat.le_of_lt hmb, Nat.le_refl _⟩, ⟨Or.inl rfl, Or.inl rfl⟩, HS0⟩
  case round =>
    obtain ⟨i, j, rfl, rfl, HI, HT, HS⟩ := hrel
    by_cases hlt : i < j
    · have hI := HI.out
      have hltz : (i : Int) < (j : Int) := by omega
      obtain ⟨h, hh⟩ : ∃ h, (i + j) / 2 = h := ⟨_, rfl⟩
      have hih : i ≤ h := by omega
      have hhj : h < j := by omega
      have hhn : h < n := by omega
      have han : a < n := by omega
      have hhz : (h : Int) < (n : Int) := by omega
      have haz : (a : Int) < (n : Int) := by omega
      have hmid : ((i : Int) + (j : Int)) / 2 = (h : Int) := by omega
      have HM1 : Hid (j - (h + 1) < j - i) := by rw [Hid]; omega
      have HM2 : Hid (h - i < j - i) := by rw [Hid]; omega
      have HI1 : Hid (m ≤ h + 1 ∧ h + 1 ≤ j ∧ j ≤ b) := by rw [Hid]; omega
      have HI2 : Hid (m ≤ i ∧ i ≤ h ∧ h ≤ b) := by rw [Hid]; omega
      have hib : i ≤ 925925926000 := by omega
      have hjb : j ≤ 925925926000 := by omega
      have HCL : Hid (∀ w', Below wr.heap.size wr w' → Calls Tryd.prog 14 #[.int .i64 (f h : Int), .int .i64 (f a : Int), cv] w' fun e w'' => e = .returned (.int .i64 (c (f h) (f a))) ∧ Below w'.heap.size w' w'') := fun w' hb => HC2.out w' (HS.out.later hb).keep _ _ (HS.out.lt h hhn) (HS.out.lt a han)
      have HR2 : Hid (c (f h) (f a) < 0 ↔ ky (f h) < ky (f a)) := HC1.out _ _ (HS.out.lt h hhn) (HS.out.lt a han)
      have HSF : Hid (∀ w', Below wr.heap.size wr w' → w'.cell? ⟨g, h, none⟩ = some (.int .i64 (f h : Int)) ∧ w'.cell? ⟨g, a, none⟩ = some (.int .i64 (f a : Int))) := fun w' hb => ⟨(HS.out.later hb).cell hhn, (HS.out.later hb).cell han⟩
      obtain ⟨s1, s2⟩ := HSF.out wr (Below.refl _ _)
      have HT1 : Hid (ky (f h) < ky (f a) → (h + 1 = m ∨ ky (f (h + 1 - 1)) < ky (f a)) ∧ (j = b ∨ ky (f a) ≤ ky (f j))) := fun hk => ⟨Or.inr hk, HT.out.2⟩
      have HT2 : Hid (¬ ky (f h) < ky (f a) → (i = m ∨ ky (f (i - 1)) < ky (f a)) ∧ (h = b ∨ ky (f a) ≤ ky (f h))) := fun hk => ⟨HT.out.1, Or.inr (by omega)⟩
      generalize hx : f h = x at HCL HR2 HSF s1
      generalize hy : f a = y at HCL HR2 HSF s2
      generalize c x y = r at *
      have HX : Hid (ky (f h) < ky (f a) ↔ ky x < ky y) := by rw [Hid, hx, hy]
      have HYE : Hid (f a = y) := hy
      clear hx hy hh hI hlt
      by_cases hkk : ky x < ky y
      · have hr0 : r < 0 := HR2.out.2 hkk
        have hrd : decide (r < 0) = true := by simpa using hr0
        have HTN := HT1.out (HX.out.2 hkk)
        have HTT : Hid ((h + 1 = m ∨ ky (f (h + 1 - 1)) < ky (f a)) ∧ (j = b ∨ ky (f a) ≤ ky (f j))) := HTN
        clear hkk HTN
        go_wp2_with fail
        go_region_held3 (fun w' => w'.cell? ⟨g, h, none⟩ = some (.int .i64 (x : Int)) ∧ w'.cell? ⟨g, a, none⟩ = some (.int .i64 (y : Int)))
          (first
            | go_keep
            | exact hS)
          (first
            | (go_at_call 14; refine (HCL.out _ (bl_drew1 _)).mono ?_; rintro e w3 ⟨rfl, hb3⟩; have hp3 := below_then (bl_drew1 _) hb3; have hS := HSF.out _ hp3))
        have HSZ : Hid (SAt w0 w3 g n f) := HS.out.later hp3
        obtain ⟨h1, hh1⟩ : ∃ h1, h + 1 = h1 := ⟨_, rfl⟩
        have hwh : (h : Int) + 1 = (h1 : Int) := by omega
        rw [hh1] at HM1 HI1 HTT
        clear hb3 hp3 s1 s2 hS hh1
        go_wp2_with fail
        go_roundw
        case rel => exact ⟨h1, j, by first | rfl | rw [hwh], rfl, HI1, by have := HTT.out; rw [HYE.out] at this; exact this, HSZ⟩
        case measure => first | (rw [hwh]; simpa [intOf] using HM1.out) | (simpa [intOf] using HM1.out)
      · have hr0 : ¬ r < 0 := fun h => hkk (HR2.out.1 h)
        have hrd : decide (r < 0) = false := by simpa using hr0
        have HTT : Hid ((i = m ∨ ky (f (i - 1)) < ky (f a)) ∧ (h = b ∨ ky (f a) ≤ ky (f h))) := HT2.out (fun h => hkk (HX.out.1 h))
        clear hkk
        go_wp2_with fail
        go_region_held3 (fun w' => w'.cell? ⟨g, h, none⟩ = some (.int .i64 (x : Int)) ∧ w'.cell? ⟨g, a, none⟩ = some (.int .i64 (y : Int)))
          (first
            | go_keep
            | exact hS)
          (first
            | (go_at_call 14; refine (HCL.out _ (bl_drew1 _)).mono ?_; rintro e w3 ⟨rfl, hb3⟩; have hp3 := below_then (bl_drew1 _) hb3; have hS := HSF.out _ hp3))
        have HSZ : Hid (SAt w0 w3 g n f) := HS.out.later hp3
        clear hb3 hp3 s1 s2 hS
        go_wp2_with fail
        go_roundw
        case rel => exact ⟨i, h, rfl, by first | rfl | rw [hmid], HI2, by have := HTT.out; rw [HYE.out] at this; exact this, HSZ⟩
        case measure => first | (rw [hmid]; simpa [intOf] using HM2.out) | (simpa [intOf] using HM2.out)
    · obtain rfl : i = j := by have := HI.out; omega
      have hI := HI.out
      have hN := HB0.out
      obtain ⟨e, he⟩ : ∃ e, e + 1 = i := ⟨i - 1, by omega⟩
      have hae : a ≤ e := by omega
      have hen : e < n := by omega
      have hez : (i : Int) - 1 = (e : Int) := by omega
      have HD := HDN.out i hI.1 hI.2.2 HT.out.1 HT.out.2
      rw [show i - 1 = e by omega] at HD
      have HD2 : Hid (PermOn f (sh f a e) a b ∧ Srt ky (sh f a e) a b) := HD
      have HST : Hid (SAt w0 wr g n (sh f a a)) := by rw [sh_zero]; exact HS
      have hlz : ¬ (i : Int) < (i : Int) := by omega
      have hib : i ≤ 925925926000 := by omega
      clear HD he hI hN hlt HDN HT HS
      go_wp2_with fail
      go_loopw [13] (fun kv wr => ∃ k : Nat, kv = .int .i64 (k : Int) ∧ Hid (a ≤ k ∧ k ≤ e) ∧ Hid (SAt w0 wr g n (sh f a k))) (fun kv _ => e - (intOf kv).toNat)
      case atStart => exact ⟨a, rfl, ⟨Nat.le_refl _, hae⟩, HST⟩
      case round =>
        obtain ⟨k, rfl, HK, HS⟩ := hrel
        by_cases hlt : k < e
        · obtain ⟨k1, hk1⟩ : ∃ k1, k + 1 = k1 := ⟨_, rfl⟩
          have hkz : (k : Int) < (e : Int) := by omega
          have hkn : k < n := by omega
          have hk1n : k1 < n := by omega
          have hknz : (k : Int) < (n : Int) := by omega
          have hk1z : (k1 : Int) < (n : Int) := by omega
          have hkk1 : (k : Int) + 1 = (k1 : Int) := by omega
          have hne1 : k ≠ k1 := by omega
          have hne2 : k1 ≠ k := by omega
          have HKI : Hid (a ≤ k1 ∧ k1 ≤ e) := by have := HK.out; rw [Hid]; omega
          have HMS : Hid (e - k1 < e - k) := by rw [Hid]; omega
          have HE : Hid (swp (sh f a k) k k1 = sh f a k1) := by rw [Hid, ← hk1]; exact sh_step f HK.out.1
          have c1 := HS.out.cell hkn
          have c2 := HS.out.cell hk1n
          have d1 := HS.out.frz k
          have d2 := HS.out.frz k1
          have HW := HS.out.swp hkn hk1n
          rw [HE.out] at HW
          have HW2 : Hid (SAt w0 ((wr.setCell ⟨g, k, none⟩ (.int .i64 (sh f a k k1 : Int))).setCell ⟨g, k1, none⟩ (.int .i64 (sh f a k k : Int))) g n (sh f a k1)) := HW
          have hk2 : k ≤ 925925926000 := by omega
          generalize sh f a k k1 = x at *
          generalize sh f a k k = y at *
          clear HW HE hk1 hlt HS hkn hk1n
          go_wp2_with fail
          go_region
          go_wp2_with fail
          go_roundw
          case rel => exact ⟨k1, by first | rfl | rw [hkk1], HKI, HW2.out.later (below_drawn (Below.refl _ _) 1)⟩
          case measure => first | (rw [hkk1]; simpa [intOf] using HMS.out) | (simpa [intOf] using HMS.out)
        · obtain rfl : k = e := by have := HK.out; omega
          have hkz : ¬ (k : Int) < (k : Int) := by omega
          have hkz2 : ¬ (k : Int) < (i : Int) - 1 := by omega
          have hkz3 : decide ((k : Int) < (i : Int) - 1) = false := by simp; omega
          go_wp2_with fail
          refine bodyPost_ret (results_none rfl _ _ _) rfl ?_
          exact ⟨rfl, _, HS.out, HD2.out.1, HD2.out.2⟩
set_option maxRecDepth 100000 in
set_option maxHeartbeats 6400000 in
theorem merge_last {w0 w : World} {g n cap : Nat} {cv : Value} {ky : Nat → Int} {f : Nat → Nat} (HC : CmpOk w0 g n cv ky) (hS : SAt w0 w g n f) {a m b : Nat} (ham : a + 2 ≤ m) (hmb : m + 1 = b) (hb : b ≤ n) (hn : n ≤ 925925926000) (hcap : n ≤ cap)
    (hs2 : Srt ky f a m) (hsp : Sep f a m b) :
    Calls Tryd.prog 44 #[.slice (some ⟨g, 0, none⟩) n cap, .int .i64 (a : Int), .int .i64 (m : Int), .int .i64 (b : Int), .func (.func 14) #[] #[cv]] w fun e w' => e = .returned (.tuple #[]) ∧ ∃ f', SAt w0 w' g n f' ∧ PermOn f f' a b ∧ Srt ky f' a b := by
  obtain ⟨c, hc1, hc2⟩ := HC
  have HC1 : Hid (∀ i j, i < n → j < n → (c i j < 0 ↔ ky i < ky j)) := hc1
  have HC2 : Hid (∀ w, Keep [g] w0 w → ∀ i j, i < n → j < n → Calls Tryd.prog 14 #[.int .i64 (i : Int), .int .i64 (j : Int), cv] w fun e w' => e = .returned (.int .i64 (c i j)) ∧ Below w.heap.size w w') := hc2
  have HS0 : Hid (SAt w0 w g n f) := hS
  have HB0 : Hid (a + 2 ≤ m ∧ m + 1 = b ∧ b ≤ n ∧ n ≤ 925925926000 ∧ n ≤ cap) := ⟨ham, hmb, hb, hn, hcap⟩
  have HDN : Hid (∀ i, a ≤ i → i ≤ m → (i = a ∨ ky (f (i - 1)) ≤ ky (f m)) → (i = m ∨ ky (f m) < ky (f i)) → PermOn f (sd f m i) a b ∧ Srt ky (sd f m i) a b) := fun i h1 h2 h3 h4 => by
    subst hmb
    exact ⟨sd_perm f (Nat.lt_succ_self _) (m - i) i (by omega) h1, sd_srt ⟨h1, h2⟩ hs2 hsp (by rcases h3 with h | h; exact Or.inl h; exact Or.inr (by omega)) h4⟩
  have hdm : ((m : Int) - (a : Int) == 1) = false := by simp; omega
  have hdb : ((b : Int) - (m : Int) == 1) = true := by simp; omega
  clear hc1 hc2 hS hs2 hsp
  go_enter Tryd.func44, Tryd.ntmps44
  go_wp2_with fail
  go_loopw [14, 15] (fun iv jv wr => ∃ i j : Nat, iv = .int .i64 (i : Int) ∧ jv = .int .i64 (j : Int) ∧ Hid (a ≤ i ∧ i ≤ j ∧ j ≤ m) ∧ Hid ((i = a ∨ ky (f (i - 1)) ≤ ky (f m)) ∧ (j = m ∨ ky (f m) < ky (f j))) ∧ Hid (SAt w0 wr g n f)) (fun iv jv _ => (intOf jv).toNat - (intOf iv).toNat)
  case atStart => exact ⟨a, m, rfl, rfl, ⟨Nat.le_refl _, by omega, Nat.le_refl _⟩, ⟨Or.inl rfl, Or.inl rfl⟩, HS0⟩
  case round =>
    obtain ⟨i, j, rfl, rfl, HI, HT, HS⟩ := hrel
    by_cases hlt : i < j
    · have hI := HI.out
      have hltz : (i : Int) < (j : Int) := by omega
      obtain ⟨h, hh⟩ : ∃ h, (i + j) / 2 = h := ⟨_, rfl⟩
      have hih : i ≤ h := by omega
      have hhj : h < j := by omega
      have hhn : h < n := by omega
      have han : m < n := by omega
      have hhz : (h : Int) < (n : Int) := by omega
      have haz : (m : Int) < (n : Int) := by omega
      have hmid : ((i : Int) + (j : Int)) / 2 = (h : Int) := by omega
      have HM1 : Hid (j - (h + 1) < j - i) := by rw [Hid]; omega
      have HM2 : Hid (h - i < j - i) := by rw [Hid]; omega
      have HI1 : Hid (a ≤ h + 1 ∧ h + 1 ≤ j ∧ j ≤ m) := by rw [Hid]; omega
      have HI2 : Hid (a ≤ i ∧ i ≤ h ∧ h ≤ m) := by rw [Hid]; omega
      have hib : i ≤ 925925926000 := by omega
      have hjb : j ≤ 925925926000 := by omega
      have HCL : Hid (∀ w', Below wr.heap.size wr w' → Calls Tryd.prog 14 #[.int .i64 (f m : Int), .int .i64 (f h : Int), cv] w' fun e w'' => e = .returned (.int .i64 (c (f m) (f h))) ∧ Below w'.heap.size w' w'') := fun w' hb => HC2.out w' (HS.out.later hb).keep _ _ (HS.out.lt m han) (HS.out.lt h hhn)
      have HR2 : Hid (c (f m) (f h) < 0 ↔ ky (f m) < ky (f h)) := HC1.out _ _ (HS.out.lt m han) (HS.out.lt h hhn)
      have HSF : Hid (∀ w', Below wr.heap.size wr w' → w'.cell? ⟨g, h, none⟩ = some (.int .i64 (f h : Int)) ∧ w'.cell? ⟨g, m, none⟩ = some (.int .i64 (f m : Int))) := fun w' hb => ⟨(HS.out.later hb).cell hhn, (HS.out.later hb).cell han⟩
      obtain ⟨s1, s2⟩ := HSF.out wr (Below.refl _ _)
      have HT1 : Hid (¬ ky (f m) < ky (f h) → (h + 1 = a ∨ ky (f (h + 1 - 1)) ≤ ky (f m)) ∧ (j = m ∨ ky (f m) < ky (f j))) := fun hk => ⟨Or.inr (by rw [Nat.add_sub_cancel]; omega), HT.out.2⟩
      have HT2 : Hid (ky (f m) < ky (f h) → (i = a ∨ ky (f (i - 1)) ≤ ky (f m)) ∧ (h = m ∨ ky (f m) < ky (f h))) := fun hk => ⟨HT.out.1, Or.inr hk⟩
      generalize hx : f h = x at HCL HR2 HSF s1
      generalize hy : f m = y at HCL HR2 HSF s2
      generalize c y x = r at *
      have HX : Hid (ky (f m) < ky (f h) ↔ ky y < ky x) := by rw [Hid, hx, hy]
      have HYE : Hid (f m = y) := hy
      clear hx hy hh hI hlt
      by_cases hkk : ky y < ky x
      · have hr0 : r < 0 := HR2.out.2 hkk
        have hrd : decide (r < 0) = true := by simpa using hr0
        have HTT : Hid ((i = a ∨ ky (f (i - 1)) ≤ ky (f m)) ∧ (h = m ∨ ky (f m) < ky (f h))) := HT2.out (HX.out.2 hkk)
        clear hkk
        go_wp2_with fail
        go_region_held3 (fun w' => w'.cell? ⟨g, h, none⟩ = some (.int .i64 (x : Int)) ∧ w'.cell? ⟨g, m, none⟩ = some (.int .i64 (y : Int)))
          (first
            | go_keep
            | exact hS)
          (first
            | (go_at_call 14; refine (HCL.out _ (bl_drew1 _)).mono ?_; rintro e w3 ⟨rfl, hb3⟩; have hp3 := below_then (bl_drew1 _) hb3; have hS := HSF.out _ hp3))
        have HSZ : Hid (SAt w0 w3 g n f) := HS.out.later hp3
        clear hb3 hp3 s1 s2 hS
        go_wp2_with fail
        go_roundw
        case rel => exact ⟨i, h, rfl, by first | rfl | rw [hmid], HI2, by have := HTT.out; rw [HYE.out] at this; exact this, HSZ⟩
        case measure => first | (rw [hmid]; simpa [intOf] using HM2.out) | (simpa [intOf] using HM2.out)
      · have hr0 : ¬ r < 0 := fun h => hkk (HR2.out.1 h)
        have hrd : decide (r < 0) = false := by simpa using hr0
        have HTT : Hid ((h + 1 = a ∨ ky (f (h + 1 - 1)) ≤ ky (f m)) ∧ (j = m ∨ ky (f m) < ky (f j))) := HT1.out (fun h => hkk (HX.out.1 h))
        clear hkk
        go_wp2_with fail
        go_region_held3 (fun w' => w'.cell? ⟨g, h, none⟩ = some (.int .i64 (x : Int)) ∧ w'.cell? ⟨g, m, none⟩ = some (.int .i64 (y : Int)))
          (first
            | go_keep
            | exact hS)
          (first
            | (go_at_call 14; refine (HCL.out _ (bl_drew1 _)).mono ?_; rintro e w3 ⟨rfl, hb3⟩; have hp3 := below_then (bl_drew1 _) hb3; have hS := HSF.out _ hp3))
        have HSZ : Hid (SAt w0 w3 g n f) := HS.out.later hp3
        obtain ⟨h1, hh1⟩ : ∃ h1, h + 1 = h1 := ⟨_, rfl⟩
        have hwh : (h : Int) + 1 = (h1 : Int) := by omega
        rw [hh1] at HM1 HI1 HTT
        clear hb3 hp3 s1 s2 hS hh1
        go_wp2_with fail
        go_roundw
        case rel => exact ⟨h1, j, by first | rfl | rw [hwh], rfl, HI1, by have := HTT.out; rw [HYE.out] at this; exact this, HSZ⟩
        case measure => first | (rw [hwh]; simpa [intOf] using HM1.out) | (simpa [intOf] using HM1.out)
    · obtain rfl : i = j := by have := HI.out; omega
      have hI := HI.out
      have hN := HB0.out
      have HD := HDN.out i hI.1 hI.2.2 HT.out.1 HT.out.2
      have HD2 : Hid (PermOn f (sd f m i) a b ∧ Srt ky (sd f m i) a b) := HD
      have HST : Hid (SAt w0 wr g n (sd f m m)) := by rw [sd_zero]; exact HS
      have HIM : Hid (i ≤ m) := hI.2.2
      have hlz : ¬ (i : Int) < (i : Int) := by omega
      have hib : i ≤ 925925926000 := by omega
      clear HD hI hN hlt HDN HT HS
      go_wp2_with fail
      go_loopw [17] (fun kv wr => ∃ k : Nat, kv = .int .i64 (k : Int) ∧ Hid (i ≤ k ∧ k ≤ m) ∧ Hid (SAt w0 wr g n (sd f m k))) (fun kv _ => (intOf kv).toNat)
      case atStart => exact ⟨m, rfl, ⟨HIM.out, Nat.le_refl _⟩, HST⟩
      case round =>
        obtain ⟨k, rfl, HK, HS⟩ := hrel
        by_cases hlt : i < k
        · obtain ⟨k1, hk1⟩ : ∃ k1, k1 + 1 = k := ⟨k - 1, by omega⟩
          have hkz : (i : Int) < (k : Int) := by omega
          have hkm := HK.out
          have hkn : k < n := by omega
          have hk1n : k1 < n := by omega
          have hknz : (k : Int) < (n : Int) := by omega
          have hk1z : (k1 : Int) < (n : Int) := by omega
          have hkk1 : (k : Int) - 1 = (k1 : Int) := by omega
          have hne1 : k ≠ k1 := by omega
          have hne2 : k1 ≠ k := by omega
          have HKI : Hid (i ≤ k1 ∧ k1 ≤ m) := by rw [Hid]; omega
          have HMS : Hid (k1 < k) := by rw [Hid]; omega
          have HE : Hid (swp (sd f m k) k k1 = sd f m k1) := by rw [Hid, ← hk1]; exact sd_step f (by omega)
          have c1 := HS.out.cell hkn
          have c2 := HS.out.cell hk1n
          have d1 := HS.out.frz k
          have d2 := HS.out.frz k1
          have HW := HS.out.swp hkn hk1n
          rw [HE.out] at HW
          have HW2 : Hid (SAt w0 ((wr.setCell ⟨g, k, none⟩ (.int .i64 (sd f m k k1 : Int))).setCell ⟨g, k1, none⟩ (.int .i64 (sd f m k k : Int))) g n (sd f m k1)) := HW
          have hk2 : k ≤ 925925926000 := by omega
          generalize sd f m k k1 = x at *
          generalize sd f m k k = y at *
          clear HW HE hk1 hlt HS hkn hk1n hkm
          go_wp2_with fail
          go_region
          go_wp2_with fail
          go_roundw
          case rel => exact ⟨k1, by first | rfl | rw [hkk1], HKI, HW2.out.later (below_drawn (Below.refl _ _) 1)⟩
          case measure => first | (rw [hkk1]; simpa [intOf] using HMS.out) | (simpa [intOf] using HMS.out)
        · obtain rfl : k = i := by have := HK.out; omega
          have hkz : ¬ (k : Int) < (k : Int) := by omega
          go_wp2_with fail
          refine bodyPost_ret (results_none rfl _ _ _) rfl ?_
          exact ⟨rfl, _, HS.out, HD2.out.1, HD2.out.2⟩
end Go.Proofs.YtadollckekddgaaDoor.Hi
