/- A row of numbers: two rows merged in their place. -/
import Derived.Test.YtadollckekddgaaDoorHiMe
import Derived.Deep.CutBlock
import Derived.Deep.DeepCutAuto
namespace Go.Proofs.YtadollckekddgaaDoor.Hi
open Go.ChangeShapes Go.WideShapes Go.ChangeAt Go.RowKit
set_option linter.unusedVariables false

theorem prt_right {ky : Nat → Int} {f f1 : Nat → Nat} {a m b mid s e : Nat} (h : Prt ky f a m b mid s e) (hp : PermOn (rot f s m e) f1 a mid) : Srt ky f1 mid e ∧ Srt ky f1 e b ∧ Sep f1 mid e b := by
  have hr := h.right
  have he := h.em
  have ho := fun k (hk : mid ≤ k) => hp.out (k := k) (Or.inr hk)
  exact ⟨hr.1.congr fun k h1 h2 => ho k h1, hr.2.1.congr fun k h1 h2 => ho k (by omega), fun i j h1 h2 h3 h4 => by rw [ho i h1, ho j (by omega)]; exact hr.2.2 i j h1 h2 h3 h4⟩
theorem prt_done {ky : Nat → Int} {f f1 : Nat → Nat} {a m b mid s e : Nat} (h : Prt ky f a m b mid s e) (hp : PermOn (rot f s m e) f1 a mid) (hs : Srt ky f1 a mid) : ∀ f2, PermOn f1 f2 mid b → Srt ky f2 mid b → PermOn f f2 a b ∧ Srt ky f2 a b := by
  intro f2 hp2 hs2
  have h1 := h.sa; have h2 := h.eb; have h3 := h.em; have h4 := h.sm; have h5 := h.smid; have h6 := h.am; have h7 := h.mb; have h8 := h.md
  refine ⟨((rot_perm f h1 h2 h4 h3.1).trans (hp.mono (Nat.le_refl _) (by omega))).trans (hp2.mono (by omega) (Nat.le_refl _)), srt_join (hs.congr fun k k1 k2 => hp2.out (Or.inl k2)) hs2 (cross_perm (cross_perm h.cross (Or.inl hp)) (Or.inr hp2))⟩
/-- What a merge does. -/
def MgQ (w0 : World) (g n cap : Nat) (cv : Value) (ky : Nat → Int) (d : Nat) : Prop := ∀ (w : World) (f : Nat → Nat) (a m b : Nat), SAt w0 w g n f → a < m → m < b → b ≤ n → b - a ≤ d → Srt ky f a m → Srt ky f m b → Sep f a m b →
  Calls Tryd.prog 44 #[.slice (some ⟨g, 0, none⟩) n cap, .int .i64 (a : Int), .int .i64 (m : Int), .int .i64 (b : Int), .func (.func 14) #[] #[cv]] w fun e w' => e = .returned (.tuple #[]) ∧ ∃ f', SAt w0 w' g n f' ∧ PermOn f f' a b ∧ Srt ky f' a b
/-- Where the parting is looked for. -/
def StQ0 (a m b mid s0 r0 : Nat) : Prop := a ≤ s0 ∧ s0 ≤ r0 ∧ r0 ≤ m ∧ r0 ≤ mid ∧ (s0 = a ∨ s0 + b = mid + m) ∧ (r0 = m ∨ r0 = mid) ∧ mid + m ≤ s0 + b
set_option maxRecDepth 100000 in
set_option maxHeartbeats 8000000 in
theorem merge_more {w0 w : World} {g n cap : Nat} {cv : Value} {ky : Nat → Int} {f : Nat → Nat} (HC : CmpOk w0 g n cv ky) (hS : SAt w0 w g n f) {a m b : Nat} (ham : a + 2 ≤ m) (hmb : m + 2 ≤ b) (hb : b ≤ n) (hn : n ≤ 925925926000) (hcap : n ≤ cap)
    (hs1 : Srt ky f a m) (hs2 : Srt ky f m b) (hsp : Sep f a m b) (hih : MgQ w0 g n cap cv ky (b - a - 1)) :
    Calls Tryd.prog 44 #[.slice (some ⟨g, 0, none⟩) n cap, .int .i64 (a : Int), .int .i64 (m : Int), .int .i64 (b : Int), .func (.func 14) #[] #[cv]] w fun e w' => e = .returned (.tuple #[]) ∧ ∃ f', SAt w0 w' g n f' ∧ PermOn f f' a b ∧ Srt ky f' a b := by
  obtain ⟨c, hc1, hc2⟩ := HC
  have HC1 : Hid (∀ i j, i < n → j < n → (c i j < 0 ↔ ky i < ky j)) := hc1
  have HC2 : Hid (∀ w, Keep [g] w0 w → ∀ i j, i < n → j < n → Calls Tryd.prog 14 #[.int .i64 (i : Int), .int .i64 (j : Int), cv] w fun e w' => e = .returned (.int .i64 (c i j)) ∧ Below w.heap.size w w') := hc2
  have HS0 : Hid (SAt w0 w g n f) := hS
  have HIH : Hid (MgQ w0 g n cap cv ky (b - a - 1)) := hih
  have HSO : Hid (Srt ky f a m ∧ Srt ky f m b ∧ Sep f a m b) := ⟨hs1, hs2, hsp⟩
  have HRO : Hid (∀ (w' : World) (s e : Nat), SAt w0 w' g n f → s < m → m < e → e ≤ n → Calls Tryd.prog 50 #[.slice (some ⟨g, 0, none⟩) n cap, .int .i64 (s : Int), .int .i64 (m : Int), .int .i64 (e : Int), .func (.func 14) #[] #[cv]] w' fun e' w'' => e' = .returned (.tuple #[]) ∧ SAt w0 w'' g n (rot f s m e)) := fun w' s e h1 h2 h3 h4 => rotate_any h1 h2 h3 h4 hn hcap
  obtain ⟨mid, hmid⟩ : ∃ mid, (a + b) / 2 = mid := ⟨_, rfl⟩
  obtain ⟨P, hP⟩ : ∃ P, P + 1 = mid + m := ⟨mid + m - 1, by omega⟩
  obtain ⟨nn, hnn⟩ : ∃ nn, mid + m = nn := ⟨_, rfl⟩
  have HM : Hid ((a + b) / 2 = mid ∧ P + 1 = mid + m ∧ mid + m = nn) := ⟨hmid, hP, hnn⟩
  have hm2 : ((a : Int) + (b : Int)) / 2 = (mid : Int) := by omega
  have hnz : (mid : Int) + (m : Int) = (nn : Int) := by omega
  have hPz : (nn : Int) - 1 = (P : Int) := by omega
  have hmb3 : mid < b := by omega
  have HB0 : Hid (a + 2 ≤ m ∧ m + 2 ≤ b ∧ b ≤ n ∧ n ≤ 925925926000 ∧ n ≤ cap) := ⟨ham, hmb, hb, hn, hcap⟩
  have hdm : ((m : Int) - (a : Int) == 1) = false := by simp; omega
  have hdb : ((b : Int) - (m : Int) == 1) = false := by simp; omega
  have hn1 : nn ≤ 1851851852000 := by omega
  clear hc1 hc2 hS hs1 hs2 hsp hih hmid hP hnn
  go_enter Tryd.func44, Tryd.ntmps44
  go_upto_if 140 with fail
  go_cut [20, 21] (fun sv rv wx => ∃ s0 r0 : Nat, sv = .int .i64 (s0 : Int) ∧ rv = .int .i64 (r0 : Int) ∧ Hid (StQ0 a m b mid s0 r0) ∧ wx = w)
  case first =>
    by_cases hmm : mid < m
    · have hd : decide ((mid : Int) < (m : Int)) = true := by simp; omega
      have hmz : (mid : Int) < (m : Int) := by omega
      obtain ⟨s0, hs0⟩ : ∃ s0, s0 + b = nn := ⟨nn - b, by have := HM.out; omega⟩
      have hsz : (nn : Int) - (b : Int) = (s0 : Int) := by omega
      have HQ : Hid (StQ0 a m b mid s0 mid) := by have := HM.out; rw [Hid]; unfold StQ0; omega
      have hs1 : s0 ≤ 1851851852000 := by omega
      clear hs0
      go_wp2_with fail
      go_meet
      exact ⟨s0, mid, by first | rfl | rw [hsz], rfl, HQ, rfl⟩
    · have hd : decide ((mid : Int) < (m : Int)) = false := by simp; omega
      have hmz : ¬ (mid : Int) < (m : Int) := by omega
      have HQ : Hid (StQ0 a m b mid a m) := by have := HM.out; rw [Hid]; unfold StQ0; omega
      go_wp2_with fail
      go_meet
      exact ⟨a, m, rfl, rfl, HQ, rfl⟩
  case rest =>
    obtain ⟨s0, r0, rfl, rfl, HQ, rfl⟩ := hcut
    go_wp2_with fail
    go_loopw [20, 21] (fun sv rv wr => ∃ s r : Nat, sv = .int .i64 (s : Int) ∧ rv = .int .i64 (r : Int) ∧ Hid (s0 ≤ s ∧ s ≤ r ∧ r ≤ r0) ∧ Hid ((s = s0 ∨ ky (f (s - 1)) ≤ ky (f (P - (s - 1)))) ∧ (r = r0 ∨ ky (f (P - r)) < ky (f r))) ∧ Hid (SAt w0 wr g n f)) (fun sv rv _ => (intOf rv).toNat - (intOf sv).toNat)
    case atStart => exact ⟨s0, r0, rfl, rfl, ⟨Nat.le_refl _, HQ.out.2.1, Nat.le_refl _⟩, ⟨Or.inl rfl, Or.inl rfl⟩, HS0⟩
    case round =>
      obtain ⟨i, j, rfl, rfl, HI, HT, HS⟩ := hrel
      by_cases hlt : i < j
      · have hI := HI.out
        have hM := HM.out
        have hQ := HQ.out
        unfold StQ0 at hQ
        have hltz : (i : Int) < (j : Int) := by omega
        obtain ⟨h, hh⟩ : ∃ h, (i + j) / 2 = h := ⟨_, rfl⟩
        have hih : i ≤ h := by omega
        have hhj : h < j := by omega
        obtain ⟨q, hq⟩ : ∃ q, h + q = P := ⟨P - h, by omega⟩
        have hhn : h < n := by omega
        have hqn : q < n := by omega
        have hhz : (h : Int) < (n : Int) := by omega
        have hqz : (q : Int) < (n : Int) := by omega
        have hmid : ((i : Int) + (j : Int)) / 2 = (h : Int) := by omega
        have hPh : (P : Int) - (h : Int) = (q : Int) := by omega
        have hPq : P - h = q := by omega
        have HM1 : Hid (j - (h + 1) < j - i) := by rw [Hid]; omega
        have HM2 : Hid (h - i < j - i) := by rw [Hid]; omega
        have HI1 : Hid (s0 ≤ h + 1 ∧ h + 1 ≤ j ∧ j ≤ r0) := by rw [Hid]; omega
        have HI2 : Hid (s0 ≤ i ∧ i ≤ h ∧ h ≤ r0) := by rw [Hid]; omega
        have hib : i ≤ 925925926000 := by omega
        have hjb : j ≤ 925925926000 := by omega
        have hPb : P ≤ 1851851852000 := by omega
        obtain ⟨h1, hh1⟩ : ∃ h1, h + 1 = h1 := ⟨_, rfl⟩
        have hwh : (h : Int) + 1 = (h1 : Int) := by omega
        have HW1 : Hid (wrap64 ((P : Int) - (h : Int)) = (q : Int)) := sub_wrapL hq hPb
        have HW2 : Hid (IntKind.i64.wrap ((P : Int) - (h : Int)) = (q : Int)) := by have h0 := HW1.out; unfold wrap64 at h0; rw [Hid, IntKind.wrap_i64]; exact h0
        have HCL : Hid (∀ w', Below wr.heap.size wr w' → Calls Tryd.prog 14 #[.int .i64 (f q : Int), .int .i64 (f h : Int), cv] w' fun e w'' => e = .returned (.int .i64 (c (f q) (f h))) ∧ Below w'.heap.size w' w'') := fun w' hb => HC2.out w' (HS.out.later hb).keep _ _ (HS.out.lt q hqn) (HS.out.lt h hhn)
        have HR2 : Hid (c (f q) (f h) < 0 ↔ ky (f q) < ky (f h)) := HC1.out _ _ (HS.out.lt q hqn) (HS.out.lt h hhn)
        have HSF : Hid (∀ w', Below wr.heap.size wr w' → w'.cell? ⟨g, q, none⟩ = some (.int .i64 (f q : Int)) ∧ w'.cell? ⟨g, h, none⟩ = some (.int .i64 (f h : Int))) := fun w' hb => ⟨(HS.out.later hb).cell hqn, (HS.out.later hb).cell hhn⟩
        obtain ⟨s1, s2⟩ := HSF.out wr (Below.refl _ _)
        have HT1 : Hid (¬ ky (f q) < ky (f h) → (h + 1 = s0 ∨ ky (f (h + 1 - 1)) ≤ ky (f (P - (h + 1 - 1)))) ∧ (j = r0 ∨ ky (f (P - j)) < ky (f j))) := fun hk => ⟨Or.inr (by rw [Nat.add_sub_cancel, hPq]; omega), HT.out.2⟩
        have HT2 : Hid (ky (f q) < ky (f h) → (i = s0 ∨ ky (f (i - 1)) ≤ ky (f (P - (i - 1)))) ∧ (h = r0 ∨ ky (f (P - h)) < ky (f h))) := fun hk => ⟨HT.out.1, Or.inr (by rw [hPq]; exact hk)⟩
        generalize hx : f q = x at HCL HR2 HSF s1
        generalize hy : f h = y at HCL HR2 HSF s2
        generalize c x y = r at *
        have HX : Hid (ky (f q) < ky (f h) ↔ ky x < ky y) := by rw [Hid, hx, hy]
        have HYE : Hid (f h = y ∧ f q = x) := ⟨hy, hx⟩
        have HH1 : Hid (h + 1 = h1) := hh1
        clear hx hy hh hI hlt hM hQ hq hPq hh1
        by_cases hkk : ky x < ky y
        · have hr0 : r < 0 := HR2.out.2 hkk
          have hrd : decide (r < 0) = true := by simpa using hr0
          have HTT : Hid ((i = s0 ∨ ky (f (i - 1)) ≤ ky (f (P - (i - 1)))) ∧ (h = r0 ∨ ky (f (P - h)) < ky (f h))) := HT2.out (HX.out.2 hkk)
          clear hkk
          clear hPh
          have hw1 := HW1.out
          have hw2 := HW2.out
          go_wp2_with fail
          go_region_held3 (fun w' => w'.cell? ⟨g, q, none⟩ = some (.int .i64 (x : Int)) ∧ w'.cell? ⟨g, h, none⟩ = some (.int .i64 (y : Int)))
            (first
              | go_keep
              | exact hS)
            (first
              | (go_at_call 14; refine (HCL.out _ (bl_drew1 _)).mono ?_; rintro e w3 ⟨rfl, hb3⟩; have hp3 := below_then (bl_drew1 _) hb3; have hS := HSF.out _ hp3))
          have HSZ : Hid (SAt w0 w3 g n f) := HS.out.later hp3
          clear hb3 hp3 s1 s2 hS
          go_wp2_with fail
          go_roundw
          case rel => exact ⟨i, h, rfl, by first | rfl | rw [hmid], HI2, HTT, HSZ⟩
          case measure => first | (rw [hmid]; simpa [intOf] using HM2.out) | (simpa [intOf] using HM2.out)
        · have hr0 : ¬ r < 0 := fun h => hkk (HR2.out.1 h)
          have hrd : decide (r < 0) = false := by simpa using hr0
          have HTT : Hid ((h + 1 = s0 ∨ ky (f (h + 1 - 1)) ≤ ky (f (P - (h + 1 - 1)))) ∧ (j = r0 ∨ ky (f (P - j)) < ky (f j))) := HT1.out (fun h => hkk (HX.out.1 h))
          clear hkk
          clear hPh
          have hw1 := HW1.out
          have hw2 := HW2.out
          go_wp2_with fail
          go_region_held3 (fun w' => w'.cell? ⟨g, q, none⟩ = some (.int .i64 (x : Int)) ∧ w'.cell? ⟨g, h, none⟩ = some (.int .i64 (y : Int)))
            (first
              | go_keep
              | exact hS)
            (first
              | (go_at_call 14; refine (HCL.out _ (bl_drew1 _)).mono ?_; rintro e w3 ⟨rfl, hb3⟩; have hp3 := below_then (bl_drew1 _) hb3; have hS := HSF.out _ hp3))
          have HSZ : Hid (SAt w0 w3 g n f) := HS.out.later hp3
          rw [HH1.out] at HM1 HI1 HTT
          clear hb3 hp3 s1 s2 hS
          go_wp2_with fail
          go_roundw
          case rel => exact ⟨h1, j, by first | rfl | rw [hwh], rfl, HI1, HTT, HSZ⟩
          case measure => first | (rw [hwh]; simpa [intOf] using HM1.out) | (simpa [intOf] using HM1.out)
      · obtain rfl : i = j := by have := HI.out; omega
        have hI := HI.out
        have hM := HM.out
        have hQ := HQ.out
        unfold StQ0 at hQ
        obtain ⟨E, hE⟩ : ∃ E, i + E = nn := ⟨nn - i, by omega⟩
        have HPR : Hid (Prt ky f a m b mid i E) := by
          refine ⟨by omega, by omega, hM.1.symm, by omega, by omega, by omega, by omega, by omega, HSO.out.1, HSO.out.2.1, HSO.out.2.2, ?_, ?_⟩
          · rcases HT.out.1 with h | h
            · rcases hQ.2.2.2.2.1 with h2 | h2
              · exact Or.inr (Or.inl (by omega))
              · exact Or.inl (by omega)
            · by_cases hia : i = a
              · exact Or.inr (Or.inl hia)
              · rw [show P - (i - 1) = E by omega] at h
                exact Or.inr (Or.inr (by omega))
          · rcases HT.out.2 with h | h
            · rcases hQ.2.2.2.2.2.1 with h2 | h2
              · exact Or.inr (Or.inl (by omega))
              · exact Or.inl (by omega)
            · rw [show P - i = E - 1 by omega] at h
              exact Or.inr (Or.inr h)
        have hez : (nn : Int) - (i : Int) = (E : Int) := by omega
        have hEb : E ≤ b := by omega
        have hib : i ≤ 925925926000 := by omega
        have hlz : ¬ (i : Int) < (i : Int) := by omega
        clear hI hM hQ hE hlt HT HQ HI HC1 HC2
        by_cases hc1 : i < m
        · by_cases hc2 : m < E
          · have d1 : decide ((i : Int) < (m : Int)) = true := by simp; omega
            have d2 : decide ((m : Int) < (E : Int)) = true := by simp; omega
            have d3 : (i : Int) < (m : Int) := by omega
            have d4 : (m : Int) < (E : Int) := by omega
            have HCA := HRO.out wr i E HS.out hc1 hc2 (by have := HB0.out; omega)
            go_wp2_with fail
            refine HCA.mono ?_
            rintro e w4 ⟨rfl, hs4⟩
            have HS4 : Hid (SAt w0 w4 g n (rot f i m E)) := hs4
            clear hs4 HCA d1 d2 d3 d4 hc1 hc2 HS
            by_cases hc1 : a < i
            · by_cases hc2 : i < mid
              · have e1 : decide ((a : Int) < (i : Int)) = true := by simp; omega
                have e2 : decide ((i : Int) < (mid : Int)) = true := by simp; omega
                have e3 : (a : Int) < (i : Int) := by omega
                have e4 : (i : Int) < (mid : Int) := by omega
                have HCA := HIH.out w4 _ a i mid HS4.out hc1 hc2 (by have := HB0.out; omega) (by have := HB0.out; omega) HPR.out.left.1 HPR.out.left.2.1 HPR.out.left.2.2
                go_wp2_with fail
                refine HCA.mono ?_
                rintro e w5 ⟨rfl, f1, hs5, hp5, hq5⟩
                have HS5 : Hid (SAt w0 w5 g n f1) := hs5
                have HP5 : Hid (PermOn (rot f i m E) f1 a mid ∧ Srt ky f1 a mid) := ⟨hp5, hq5⟩
                clear hs5 hp5 hq5 HCA e1 e2 e3 e4 hc1 hc2 HS4
                have HRT : Hid (Srt ky f1 mid E ∧ Srt ky f1 E b ∧ Sep f1 mid E b) := prt_right HPR.out HP5.out.1
                have HFN : Hid (∀ f2, PermOn f1 f2 mid b → Srt ky f2 mid b → PermOn f f2 a b ∧ Srt ky f2 a b) := prt_done HPR.out HP5.out.1 HP5.out.2
                by_cases hc1 : mid < E
                · by_cases hc2 : E < b
                  · have g1 : decide ((mid : Int) < (E : Int)) = true := by simp; omega
                    have g2 : decide ((E : Int) < (b : Int)) = true := by simp; omega
                    have g3 : (mid : Int) < (E : Int) := by omega
                    have g4 : (E : Int) < (b : Int) := by omega
                    have HCA := HIH.out _ _ mid E b HS5.out hc1 hc2 HB0.out.2.2.1 (by have := HB0.out; have := HPR.out.md; omega) HRT.out.1 HRT.out.2.1 HRT.out.2.2
                    go_wp2_with fail
                    refine HCA.mono ?_
                    rintro e w6 ⟨rfl, f2, hs6, hp6, hq6⟩
                    have HS6 : Hid (SAt w0 w6 g n f2) := hs6
                    have HF6 : Hid (PermOn f f2 a b ∧ Srt ky f2 a b) := HFN.out f2 hp6 hq6
                    clear hs6 hp6 hq6 HCA
                    go_wp2_with fail
                    all_goals first | go_end0 | refine bodyPost_ret (results_none rfl _ _ _) rfl ?_
                    all_goals exact ⟨rfl, f2, HS6.out, HF6.out.1, HF6.out.2⟩
                  · have g1 : decide ((mid : Int) < (E : Int)) = true := by simp; omega
                    have g2 : decide ((E : Int) < (b : Int)) = false := by simp; omega
                    have g3 : (mid : Int) < (E : Int) := by omega
                    have g4 : ¬ (E : Int) < (b : Int) := by omega
                    have HF6 : Hid (PermOn f f1 a b ∧ Srt ky f1 a b) := HFN.out f1 (PermOn.refl _ _ _) (by have h := HRT.out.1; rwa [show E = b by omega] at h)
                    go_wp2_with fail
                    all_goals first | go_end0 | refine bodyPost_ret (results_none rfl _ _ _) rfl ?_
                    all_goals exact ⟨rfl, f1, HS5.out, HF6.out.1, HF6.out.2⟩
                · have g1 : decide ((mid : Int) < (E : Int)) = false := by simp; omega
                  have g3 : ¬ (mid : Int) < (E : Int) := by omega
                  have HF6 : Hid (PermOn f f1 a b ∧ Srt ky f1 a b) := HFN.out f1 (PermOn.refl _ _ _) (by have h := HRT.out.2.1; rwa [show E = mid by have := HPR.out.em; omega] at h)
                  go_wp2_with fail
                  all_goals first | go_end0 | refine bodyPost_ret (results_none rfl _ _ _) rfl ?_
                  all_goals exact ⟨rfl, f1, HS5.out, HF6.out.1, HF6.out.2⟩
              · have e1 : decide ((a : Int) < (i : Int)) = true := by simp; omega
                have e2 : decide ((i : Int) < (mid : Int)) = false := by simp; omega
                have e3 : (a : Int) < (i : Int) := by omega
                have e4 : ¬ (i : Int) < (mid : Int) := by omega
                have HP5 : Hid (PermOn (rot f i m E) (rot f i m E) a mid ∧ Srt ky (rot f i m E) a mid) := ⟨PermOn.refl _ _ _, by have h := HPR.out.left.1; rwa [show i = mid by have := HPR.out.smid; omega] at h ⊢⟩
                have HS5 : Hid (SAt w0 w4 g n (rot f i m E)) := HS4
                obtain ⟨f1, hf1⟩ : ∃ f1, f1 = rot f i m E := ⟨_, rfl⟩
                have HP5' : Hid (PermOn (rot f i m E) f1 a mid ∧ Srt ky f1 a mid) := by rw [hf1]; exact HP5
                have HS5' : Hid (SAt w0 w4 g n f1) := by rw [hf1]; exact HS5
                clear HP5 HS5 hf1 HS4 hc1 hc2
                have HP5 := HP5'
                have HS5 := HS5'
                clear HP5' HS5'
                have HRT : Hid (Srt ky f1 mid E ∧ Srt ky f1 E b ∧ Sep f1 mid E b) := prt_right HPR.out HP5.out.1
                have HFN : Hid (∀ f2, PermOn f1 f2 mid b → Srt ky f2 mid b → PermOn f f2 a b ∧ Srt ky f2 a b) := prt_done HPR.out HP5.out.1 HP5.out.2
                by_cases hc1 : mid < E
                · by_cases hc2 : E < b
                  · have g1 : decide ((mid : Int) < (E : Int)) = true := by simp; omega
                    have g2 : decide ((E : Int) < (b : Int)) = true := by simp; omega
                    have g3 : (mid : Int) < (E : Int) := by omega
                    have g4 : (E : Int) < (b : Int) := by omega
                    have HCA := HIH.out _ _ mid E b HS5.out hc1 hc2 HB0.out.2.2.1 (by have := HB0.out; have := HPR.out.md; omega) HRT.out.1 HRT.out.2.1 HRT.out.2.2
                    go_wp2_with fail
                    refine HCA.mono ?_
                    rintro e w6 ⟨rfl, f2, hs6, hp6, hq6⟩
                    have HS6 : Hid (SAt w0 w6 g n f2) := hs6
                    have HF6 : Hid (PermOn f f2 a b ∧ Srt ky f2 a b) := HFN.out f2 hp6 hq6
                    clear hs6 hp6 hq6 HCA
                    go_wp2_with fail
                    all_goals first | go_end0 | refine bodyPost_ret (results_none rfl _ _ _) rfl ?_
                    all_goals exact ⟨rfl, f2, HS6.out, HF6.out.1, HF6.out.2⟩
                  · have g1 : decide ((mid : Int) < (E : Int)) = true := by simp; omega
                    have g2 : decide ((E : Int) < (b : Int)) = false := by simp; omega
                    have g3 : (mid : Int) < (E : Int) := by omega
                    have g4 : ¬ (E : Int) < (b : Int) := by omega
                    have HF6 : Hid (PermOn f f1 a b ∧ Srt ky f1 a b) := HFN.out f1 (PermOn.refl _ _ _) (by have h := HRT.out.1; rwa [show E = b by omega] at h)
                    go_wp2_with fail
                    all_goals first | go_end0 | refine bodyPost_ret (results_none rfl _ _ _) rfl ?_
                    all_goals exact ⟨rfl, f1, HS5.out, HF6.out.1, HF6.out.2⟩
                · have g1 : decide ((mid : Int) < (E : Int)) = false := by simp; omega
                  have g3 : ¬ (mid : Int) < (E : Int) := by omega
                  have HF6 : Hid (PermOn f f1 a b ∧ Srt ky f1 a b) := HFN.out f1 (PermOn.refl _ _ _) (by have h := HRT.out.2.1; rwa [show E = mid by have := HPR.out.em; omega] at h)
                  go_wp2_with fail
                  all_goals first | go_end0 | refine bodyPost_ret (results_none rfl _ _ _) rfl ?_
                  all_goals exact ⟨rfl, f1, HS5.out, HF6.out.1, HF6.out.2⟩
            · have e1 : decide ((a : Int) < (i : Int)) = false := by simp; omega
              have e3 : ¬ (a : Int) < (i : Int) := by omega
              have HP5 : Hid (PermOn (rot f i m E) (rot f i m E) a mid ∧ Srt ky (rot f i m E) a mid) := ⟨PermOn.refl _ _ _, by have h := HPR.out.left.2.1; rwa [show i = a by have := HPR.out.sa; omega] at h ⊢⟩
              have HS5 : Hid (SAt w0 w4 g n (rot f i m E)) := HS4
              obtain ⟨f1, hf1⟩ : ∃ f1, f1 = rot f i m E := ⟨_, rfl⟩
              have HP5' : Hid (PermOn (rot f i m E) f1 a mid ∧ Srt ky f1 a mid) := by rw [hf1]; exact HP5
              have HS5' : Hid (SAt w0 w4 g n f1) := by rw [hf1]; exact HS5
              clear HP5 HS5 hf1 HS4 hc1
              have HP5 := HP5'
              have HS5 := HS5'
              clear HP5' HS5'
              have HRT : Hid (Srt ky f1 mid E ∧ Srt ky f1 E b ∧ Sep f1 mid E b) := prt_right HPR.out HP5.out.1
              have HFN : Hid (∀ f2, PermOn f1 f2 mid b → Srt ky f2 mid b → PermOn f f2 a b ∧ Srt ky f2 a b) := prt_done HPR.out HP5.out.1 HP5.out.2
              by_cases hc1 : mid < E
              · by_cases hc2 : E < b
                · have g1 : decide ((mid : Int) < (E : Int)) = true := by simp; omega
                  have g2 : decide ((E : Int) < (b : Int)) = true := by simp; omega
                  have g3 : (mid : Int) < (E : Int) := by omega
                  have g4 : (E : Int) < (b : Int) := by omega
                  have HCA := HIH.out _ _ mid E b HS5.out hc1 hc2 HB0.out.2.2.1 (by have := HB0.out; have := HPR.out.md; omega) HRT.out.1 HRT.out.2.1 HRT.out.2.2
                  go_wp2_with fail
                  refine HCA.mono ?_
                  rintro e w6 ⟨rfl, f2, hs6, hp6, hq6⟩
                  have HS6 : Hid (SAt w0 w6 g n f2) := hs6
                  have HF6 : Hid (PermOn f f2 a b ∧ Srt ky f2 a b) := HFN.out f2 hp6 hq6
                  clear hs6 hp6 hq6 HCA
                  go_wp2_with fail
                  all_goals first | go_end0 | refine bodyPost_ret (results_none rfl _ _ _) rfl ?_
                  all_goals exact ⟨rfl, f2, HS6.out, HF6.out.1, HF6.out.2⟩
                · have g1 : decide ((mid : Int) < (E : Int)) = true := by simp; omega
                  have g2 : decide ((E : Int) < (b : Int)) = false := by simp; omega
                  have g3 : (mid : Int) < (E : Int) := by omega
                  have g4 : ¬ (E : Int) < (b : Int) := by omega
                  have HF6 : Hid (PermOn f f1 a b ∧ Srt ky f1 a b) := HFN.out f1 (PermOn.refl _ _ _) (by have h := HRT.out.1; rwa [show E = b by omega] at h)
                  go_wp2_with fail
                  all_goals first | go_end0 | refine bodyPost_ret (results_none rfl _ _ _) rfl ?_
                  all_goals exact ⟨rfl, f1, HS5.out, HF6.out.1, HF6.out.2⟩
              · have g1 : decide ((mid : Int) < (E : Int)) = false := by simp; omega
                have g3 : ¬ (mid : Int) < (E : Int) := by omega
                have HF6 : Hid (PermOn f f1 a b ∧ Srt ky f1 a b) := HFN.out f1 (PermOn.refl _ _ _) (by have h := HRT.out.2.1; rwa [show E = mid by have := HPR.out.em; omega] at h)
                go_wp2_with fail
                all_goals first | go_end0 | refine bodyPost_ret (results_none rfl _ _ _) rfl ?_
                all_goals exact ⟨rfl, f1, HS5.out, HF6.out.1, HF6.out.2⟩
          · have d1 : decide ((i : Int) < (m : Int)) = true := by simp; omega
            have d2 : decide ((m : Int) < (E : Int)) = false := by simp; omega
            have d3 : (i : Int) < (m : Int) := by omega
            have d4 : ¬ (m : Int) < (E : Int) := by omega
            have HS4 : Hid (SAt w0 wr g n (rot f i m E)) := by rw [Hid, show E = m by have := HPR.out.em; omega, rot_right f i m HPR.out.sm]; exact HS.out
            obtain ⟨w4, rfl⟩ : ∃ w4, w4 = wr := ⟨_, rfl⟩
            clear hc1 hc2 HS
            by_cases hc1 : a < i
            · by_cases hc2 : i < mid
              · have e1 : decide ((a : Int) < (i : Int)) = true := by simp; omega
                have e2 : decide ((i : Int) < (mid : Int)) = true := by simp; omega
                have e3 : (a : Int) < (i : Int) := by omega
                have e4 : (i : Int) < (mid : Int) := by omega
                have HCA := HIH.out w4 _ a i mid HS4.out hc1 hc2 (by have := HB0.out; omega) (by have := HB0.out; omega) HPR.out.left.1 HPR.out.left.2.1 HPR.out.left.2.2
                go_wp2_with fail
                refine HCA.mono ?_
                rintro e w5 ⟨rfl, f1, hs5, hp5, hq5⟩
                have HS5 : Hid (SAt w0 w5 g n f1) := hs5
                have HP5 : Hid (PermOn (rot f i m E) f1 a mid ∧ Srt ky f1 a mid) := ⟨hp5, hq5⟩
                clear hs5 hp5 hq5 HCA e1 e2 e3 e4 hc1 hc2 HS4
                have HRT : Hid (Srt ky f1 mid E ∧ Srt ky f1 E b ∧ Sep f1 mid E b) := prt_right HPR.out HP5.out.1
                have HFN : Hid (∀ f2, PermOn f1 f2 mid b → Srt ky f2 mid b → PermOn f f2 a b ∧ Srt ky f2 a b) := prt_done HPR.out HP5.out.1 HP5.out.2
                by_cases hc1 : mid < E
                · by_cases hc2 : E < b
                  · have g1 : decide ((mid : Int) < (E : Int)) = true := by simp; omega
                    have g2 : decide ((E : Int) < (b : Int)) = true := by simp; omega
                    have g3 : (mid : Int) < (E : Int) := by omega
                    have g4 : (E : Int) < (b : Int) := by omega
                    have HCA := HIH.out _ _ mid E b HS5.out hc1 hc2 HB0.out.2.2.1 (by have := HB0.out; have := HPR.out.md; omega) HRT.out.1 HRT.out.2.1 HRT.out.2.2
                    go_wp2_with fail
                    refine HCA.mono ?_
                    rintro e w6 ⟨rfl, f2, hs6, hp6, hq6⟩
                    have HS6 : Hid (SAt w0 w6 g n f2) := hs6
                    have HF6 : Hid (PermOn f f2 a b ∧ Srt ky f2 a b) := HFN.out f2 hp6 hq6
                    clear hs6 hp6 hq6 HCA
                    go_wp2_with fail
                    all_goals first | go_end0 | refine bodyPost_ret (results_none rfl _ _ _) rfl ?_
                    all_goals exact ⟨rfl, f2, HS6.out, HF6.out.1, HF6.out.2⟩
                  · have g1 : decide ((mid : Int) < (E : Int)) = true := by simp; omega
                    have g2 : decide ((E : Int) < (b : Int)) = false := by simp; omega
                    have g3 : (mid : Int) < (E : Int) := by omega
                    have g4 : ¬ (E : Int) < (b : Int) := by omega
                    have HF6 : Hid (PermOn f f1 a b ∧ Srt ky f1 a b) := HFN.out f1 (PermOn.refl _ _ _) (by have h := HRT.out.1; rwa [show E = b by omega] at h)
                    go_wp2_with fail
                    all_goals first | go_end0 | refine bodyPost_ret (results_none rfl _ _ _) rfl ?_
                    all_goals exact ⟨rfl, f1, HS5.out, HF6.out.1, HF6.out.2⟩
                · have g1 : decide ((mid : Int) < (E : Int)) = false := by simp; omega
                  have g3 : ¬ (mid : Int) < (E : Int) := by omega
                  have HF6 : Hid (PermOn f f1 a b ∧ Srt ky f1 a b) := HFN.out f1 (PermOn.refl _ _ _) (by have h := HRT.out.2.1; rwa [show E = mid by have := HPR.out.em; omega] at h)
                  go_wp2_with fail
                  all_goals first | go_end0 | refine bodyPost_ret (results_none rfl _ _ _) rfl ?_
                  all_goals exact ⟨rfl, f1, HS5.out, HF6.out.1, HF6.out.2⟩
              · have e1 : decide ((a : Int) < (i : Int)) = true := by simp; omega
                have e2 : decide ((i : Int) < (mid : Int)) = false := by simp; omega
                have e3 : (a : Int) < (i : Int) := by omega
                have e4 : ¬ (i : Int) < (mid : Int) := by omega
                have HP5 : Hid (PermOn (rot f i m E) (rot f i m E) a mid ∧ Srt ky (rot f i m E) a mid) := ⟨PermOn.refl _ _ _, by have h := HPR.out.left.1; rwa [show i = mid by have := HPR.out.smid; omega] at h ⊢⟩
                have HS5 : Hid (SAt w0 w4 g n (rot f i m E)) := HS4
                obtain ⟨f1, hf1⟩ : ∃ f1, f1 = rot f i m E := ⟨_, rfl⟩
                have HP5' : Hid (PermOn (rot f i m E) f1 a mid ∧ Srt ky f1 a mid) := by rw [hf1]; exact HP5
                have HS5' : Hid (SAt w0 w4 g n f1) := by rw [hf1]; exact HS5
                clear HP5 HS5 hf1 HS4 hc1 hc2
                have HP5 := HP5'
                have HS5 := HS5'
                clear HP5' HS5'
                have HRT : Hid (Srt ky f1 mid E ∧ Srt ky f1 E b ∧ Sep f1 mid E b) := prt_right HPR.out HP5.out.1
                have HFN : Hid (∀ f2, PermOn f1 f2 mid b → Srt ky f2 mid b → PermOn f f2 a b ∧ Srt ky f2 a b) := prt_done HPR.out HP5.out.1 HP5.out.2
                by_cases hc1 : mid < E
                · by_cases hc2 : E < b
                  · have g1 : decide ((mid : Int) < (E : Int)) = true := by simp; omega
                    have g2 : decide ((E : Int) < (b : Int)) = true := by simp; omega
                    have g3 : (mid : Int) < (E : Int) := by omega
                    have g4 : (E : Int) < (b : Int) := by omega
                    have HCA := HIH.out _ _ mid E b HS5.out hc1 hc2 HB0.out.2.2.1 (by have := HB0.out; have := HPR.out.md; omega) HRT.out.1 HRT.out.2.1 HRT.out.2.2
                    go_wp2_with fail
                    refine HCA.mono ?_
                    rintro e w6 ⟨rfl, f2, hs6, hp6, hq6⟩
                    have HS6 : Hid (SAt w0 w6 g n f2) := hs6
                    have HF6 : Hid (PermOn f f2 a b ∧ Srt ky f2 a b) := HFN.out f2 hp6 hq6
                    clear hs6 hp6 hq6 HCA
                    go_wp2_with fail
                    all_goals first | go_end0 | refine bodyPost_ret (results_none rfl _ _ _) rfl ?_
                    all_goals exact ⟨rfl, f2, HS6.out, HF6.out.1, HF6.out.2⟩
                  · have g1 : decide ((mid : Int) < (E : Int)) = true := by simp; omega
                    have g2 : decide ((E : Int) < (b : Int)) = false := by simp; omega
                    have g3 : (mid : Int) < (E : Int) := by omega
                    have g4 : ¬ (E : Int) < (b : Int) := by omega
                    have HF6 : Hid (PermOn f f1 a b ∧ Srt ky f1 a b) := HFN.out f1 (PermOn.refl _ _ _) (by have h := HRT.out.1; rwa [show E = b by omega] at h)
                    go_wp2_with fail
                    all_goals first | go_end0 | refine bodyPost_ret (results_none rfl _ _ _) rfl ?_
                    all_goals exact ⟨rfl, f1, HS5.out, HF6.out.1, HF6.out.2⟩
                · have g1 : decide ((mid : Int) < (E : Int)) = false := by simp; omega
                  have g3 : ¬ (mid : Int) < (E : Int) := by omega
                  have HF6 : Hid (PermOn f f1 a b ∧ Srt ky f1 a b) := HFN.out f1 (PermOn.refl _ _ _) (by have h := HRT.out.2.1; rwa [show E = mid by have := HPR.out.em; omega] at h)
                  go_wp2_with fail
                  all_goals first | go_end0 | refine bodyPost_ret (results_none rfl _ _ _) rfl ?_
                  all_goals exact ⟨rfl, f1, HS5.out, HF6.out.1, HF6.out.2⟩
            · have e1 : decide ((a : Int) < (i : Int)) = false := by simp; omega
              have e3 : ¬ (a : Int) < (i : Int) := by omega
              have HP5 : Hid (PermOn (rot f i m E) (rot f i m E) a mid ∧ Srt ky (rot f i m E) a mid) := ⟨PermOn.refl _ _ _, by have h := HPR.out.left.2.1; rwa [show i = a by have := HPR.out.sa; omega] at h ⊢⟩
              have HS5 : Hid (SAt w0 w4 g n (rot f i m E)) := HS4
              obtain ⟨f1, hf1⟩ : ∃ f1, f1 = rot f i m E := ⟨_, rfl⟩
              have HP5' : Hid (PermOn (rot f i m E) f1 a mid ∧ Srt ky f1 a mid) := by rw [hf1]; exact HP5
              have HS5' : Hid (SAt w0 w4 g n f1) := by rw [hf1]; exact HS5
              clear HP5 HS5 hf1 HS4 hc1
              have HP5 := HP5'
              have HS5 := HS5'
              clear HP5' HS5'
              have HRT : Hid (Srt ky f1 mid E ∧ Srt ky f1 E b ∧ Sep f1 mid E b) := prt_right HPR.out HP5.out.1
              have HFN : Hid (∀ f2, PermOn f1 f2 mid b → Srt ky f2 mid b → PermOn f f2 a b ∧ Srt ky f2 a b) := prt_done HPR.out HP5.out.1 HP5.out.2
              by_cases hc1 : mid < E
              · by_cases hc2 : E < b
                · have g1 : decide ((mid : Int) < (E : Int)) = true := by simp; omega
                  have g2 : decide ((E : Int) < (b : Int)) = true := by simp; omega
                  have g3 : (mid : Int) < (E : Int) := by omega
                  have g4 : (E : Int) < (b : Int) := by omega
                  have HCA := HIH.out _ _ mid E b HS5.out hc1 hc2 HB0.out.2.2.1 (by have := HB0.out; have := HPR.out.md; omega) HRT.out.1 HRT.out.2.1 HRT.out.2.2
                  go_wp2_with fail
                  refine HCA.mono ?_
                  rintro e w6 ⟨rfl, f2, hs6, hp6, hq6⟩
                  have HS6 : Hid (SAt w0 w6 g n f2) := hs6
                  have HF6 : Hid (PermOn f f2 a b ∧ Srt ky f2 a b) := HFN.out f2 hp6 hq6
                  clear hs6 hp6 hq6 HCA
                  go_wp2_with fail
                  all_goals first | go_end0 | refine bodyPost_ret (results_none rfl _ _ _) rfl ?_
                  all_goals exact ⟨rfl, f2, HS6.out, HF6.out.1, HF6.out.2⟩
                · have g1 : decide ((mid : Int) < (E : Int)) = true := by simp; omega
                  have g2 : decide ((E : Int) < (b : Int)) = false := by simp; omega
                  have g3 : (mid : Int) < (E : Int) := by omega
                  have g4 : ¬ (E : Int) < (b : Int) := by omega
                  have HF6 : Hid (PermOn f f1 a b ∧ Srt ky f1 a b) := HFN.out f1 (PermOn.refl _ _ _) (by have h := HRT.out.1; rwa [show E = b by omega] at h)
                  go_wp2_with fail
                  all_goals first | go_end0 | refine bodyPost_ret (results_none rfl _ _ _) rfl ?_
                  all_goals exact ⟨rfl, f1, HS5.out, HF6.out.1, HF6.out.2⟩
              · have g1 : decide ((mid : Int) < (E : Int)) = false := by simp; omega
                have g3 : ¬ (mid : Int) < (E : Int) := by omega
                have HF6 : Hid (PermOn f f1 a b ∧ Srt ky f1 a b) := HFN.out f1 (PermOn.refl _ _ _) (by have h := HRT.out.2.1; rwa [show E = mid by have := HPR.out.em; omega] at h)
                go_wp2_with fail
                all_goals first | go_end0 | refine bodyPost_ret (results_none rfl _ _ _) rfl ?_
                all_goals exact ⟨rfl, f1, HS5.out, HF6.out.1, HF6.out.2⟩
        · have d1 : decide ((i : Int) < (m : Int)) = false := by simp; omega
          have d3 : ¬ (i : Int) < (m : Int) := by omega
          have HS4 : Hid (SAt w0 wr g n (rot f i m E)) := by rw [Hid, show i = m by have := HPR.out.sm; omega, rot_left f m E HPR.out.em.1]; exact HS.out
          obtain ⟨w4, rfl⟩ : ∃ w4, w4 = wr := ⟨_, rfl⟩
          clear hc1 HS
          by_cases hc1 : a < i
          · by_cases hc2 : i < mid
            · have e1 : decide ((a : Int) < (i : Int)) = true := by simp; omega
              have e2 : decide ((i : Int) < (mid : Int)) = true := by simp; omega
              have e3 : (a : Int) < (i : Int) := by omega
              have e4 : (i : Int) < (mid : Int) := by omega
              have HCA := HIH.out w4 _ a i mid HS4.out hc1 hc2 (by have := HB0.out; omega) (by have := HB0.out; omega) HPR.out.left.1 HPR.out.left.2.1 HPR.out.left.2.2
              go_wp2_with fail
              refine HCA.mono ?_
              rintro e w5 ⟨rfl, f1, hs5, hp5, hq5⟩
              have HS5 : Hid (SAt w0 w5 g n f1) := hs5
              have HP5 : Hid (PermOn (rot f i m E) f1 a mid ∧ Srt ky f1 a mid) := ⟨hp5, hq5⟩
              clear hs5 hp5 hq5 HCA e1 e2 e3 e4 hc1 hc2 HS4
              have HRT : Hid (Srt ky f1 mid E ∧ Srt ky f1 E b ∧ Sep f1 mid E b) := prt_right HPR.out HP5.out.1
              have HFN : Hid (∀ f2, PermOn f1 f2 mid b → Srt ky f2 mid b → PermOn f f2 a b ∧ Srt ky f2 a b) := prt_done HPR.out HP5.out.1 HP5.out.2
              by_cases hc1 : mid < E
              · by_cases hc2 : E < b
                · have g1 : decide ((mid : Int) < (E : Int)) = true := by simp; omega
                  have g2 : decide ((E : Int) < (b : Int)) = true := by simp; omega
                  have g3 : (mid : Int) < (E : Int) := by omega
                  have g4 : (E : Int) < (b : Int) := by omega
                  have HCA := HIH.out _ _ mid E b HS5.out hc1 hc2 HB0.out.2.2.1 (by have := HB0.out; have := HPR.out.md; omega) HRT.out.1 HRT.out.2.1 HRT.out.2.2
                  go_wp2_with fail
                  refine HCA.mono ?_
                  rintro e w6 ⟨rfl, f2, hs6, hp6, hq6⟩
                  have HS6 : Hid (SAt w0 w6 g n f2) := hs6
                  have HF6 : Hid (PermOn f f2 a b ∧ Srt ky f2 a b) := HFN.out f2 hp6 hq6
                  clear hs6 hp6 hq6 HCA
                  go_wp2_with fail
                  all_goals first | go_end0 | refine bodyPost_ret (results_none rfl _ _ _) rfl ?_
                  all_goals exact ⟨rfl, f2, HS6.out, HF6.out.1, HF6.out.2⟩
                · have g1 : decide ((mid : Int) < (E : Int)) = true := by simp; omega
                  have g2 : decide ((E : Int) < (b : Int)) = false := by simp; omega
                  have g3 : (mid : Int) < (E : Int) := by omega
                  have g4 : ¬ (E : Int) < (b : Int) := by omega
                  have HF6 : Hid (PermOn f f1 a b ∧ Srt ky f1 a b) := HFN.out f1 (PermOn.refl _ _ _) (by have h := HRT.out.1; rwa [show E = b by omega] at h)
                  go_wp2_with fail
                  all_goals first | go_end0 | refine bodyPost_ret (results_none rfl _ _ _) rfl ?_
                  all_goals exact ⟨rfl, f1, HS5.out, HF6.out.1, HF6.out.2⟩
              · have g1 : decide ((mid : Int) < (E : Int)) = false := by simp; omega
                have g3 : ¬ (mid : Int) < (E : Int) := by omega
                have HF6 : Hid (PermOn f f1 a b ∧ Srt ky f1 a b) := HFN.out f1 (PermOn.refl _ _ _) (by have h := HRT.out.2.1; rwa [show E = mid by have := HPR.out.em; omega] at h)
                go_wp2_with fail
                all_goals first | go_end0 | refine bodyPost_ret (results_none rfl _ _ _) rfl ?_
                all_goals exact ⟨rfl, f1, HS5.out, HF6.out.1, HF6.out.2⟩
            · have e1 : decide ((a : Int) < (i : Int)) = true := by simp; omega
              have e2 : decide ((i : Int) < (mid : Int)) = false := by simp; omega
              have e3 : (a : Int) < (i : Int) := by omega
              have e4 : ¬ (i : Int) < (mid : Int) := by omega
              have HP5 : Hid (PermOn (rot f i m E) (rot f i m E) a mid ∧ Srt ky (rot f i m E) a mid) := ⟨PermOn.refl _ _ _, by have h := HPR.out.left.1; rwa [show i = mid by have := HPR.out.smid; omega] at h ⊢⟩
              have HS5 : Hid (SAt w0 w4 g n (rot f i m E)) := HS4
              obtain ⟨f1, hf1⟩ : ∃ f1, f1 = rot f i m E := ⟨_, rfl⟩
              have HP5' : Hid (PermOn (rot f i m E) f1 a mid ∧ Srt ky f1 a mid) := by rw [hf1]; exact HP5
              have HS5' : Hid (SAt w0 w4 g n f1) := by rw [hf1]; exact HS5
              clear HP5 HS5 hf1 HS4 hc1 hc2
              have HP5 := HP5'
              have HS5 := HS5'
              clear HP5' HS5'
              have HRT : Hid (Srt ky f1 mid E ∧ Srt ky f1 E b ∧ Sep f1 mid E b) := prt_right HPR.out HP5.out.1
              have HFN : Hid (∀ f2, PermOn f1 f2 mid b → Srt ky f2 mid b → PermOn f f2 a b ∧ Srt ky f2 a b) := prt_done HPR.out HP5.out.1 HP5.out.2
              by_cases hc1 : mid < E
              · by_cases hc2 : E < b
                · have g1 : decide ((mid : Int) < (E : Int)) = true := by simp; omega
                  have g2 : decide ((E : Int) < (b : Int)) = true := by simp; omega
                  have g3 : (mid : Int) < (E : Int) := by omega
                  have g4 : (E : Int) < (b : Int) := by omega
                  have HCA := HIH.out _ _ mid E b HS5.out hc1 hc2 HB0.out.2.2.1 (by have := HB0.out; have := HPR.out.md; omega) HRT.out.1 HRT.out.2.1 HRT.out.2.2
                  go_wp2_with fail
                  refine HCA.mono ?_
                  rintro e w6 ⟨rfl, f2, hs6, hp6, hq6⟩
                  have HS6 : Hid (SAt w0 w6 g n f2) := hs6
                  have HF6 : Hid (PermOn f f2 a b ∧ Srt ky f2 a b) := HFN.out f2 hp6 hq6
                  clear hs6 hp6 hq6 HCA
                  go_wp2_with fail
                  all_goals first | go_end0 | refine bodyPost_ret (results_none rfl _ _ _) rfl ?_
                  all_goals exact ⟨rfl, f2, HS6.out, HF6.out.1, HF6.out.2⟩
                · have g1 : decide ((mid : Int) < (E : Int)) = true := by simp; omega
                  have g2 : decide ((E : Int) < (b : Int)) = false := by simp; omega
                  have g3 : (mid : Int) < (E : Int) := by omega
                  have g4 : ¬ (E : Int) < (b : Int) := by omega
                  have HF6 : Hid (PermOn f f1 a b ∧ Srt ky f1 a b) := HFN.out f1 (PermOn.refl _ _ _) (by have h := HRT.out.1; rwa [show E = b by omega] at h)
                  go_wp2_with fail
                  all_goals first | go_end0 | refine bodyPost_ret (results_none rfl _ _ _) rfl ?_
                  all_goals exact ⟨rfl, f1, HS5.out, HF6.out.1, HF6.out.2⟩
              · have g1 : decide ((mid : Int) < (E : Int)) = false := by simp; omega
                have g3 : ¬ (mid : Int) < (E : Int) := by omega
                have HF6 : Hid (PermOn f f1 a b ∧ Srt ky f1 a b) := HFN.out f1 (PermOn.refl _ _ _) (by have h := HRT.out.2.1; rwa [show E = mid by have := HPR.out.em; omega] at h)
                go_wp2_with fail
                all_goals first | go_end0 | refine bodyPost_ret (results_none rfl _ _ _) rfl ?_
                all_goals exact ⟨rfl, f1, HS5.out, HF6.out.1, HF6.out.2⟩
          · have e1 : decide ((a : Int) < (i : Int)) = false := by simp; omega
            have e3 : ¬ (a : Int) < (i : Int) := by omega
            have HP5 : Hid (PermOn (rot f i m E) (rot f i m E) a mid ∧ Srt ky (rot f i m E) a mid) := ⟨PermOn.refl _ _ _, by have h := HPR.out.left.2.1; rwa [show i = a by have := HPR.out.sa; omega] at h ⊢⟩
            have HS5 : Hid (SAt w0 w4 g n (rot f i m E)) := HS4
            obtain ⟨f1, hf1⟩ : ∃ f1, f1 = rot f i m E := ⟨_, rfl⟩
            have HP5' : Hid (PermOn (rot f i m E) f1 a mid ∧ Srt ky f1 a mid) := by rw [hf1]; exact HP5
            have HS5' : Hid (SAt w0 w4 g n f1) := by rw [hf1]; exact HS5
            clear HP5 HS5 hf1 HS4 hc1
            have HP5 := HP5'
            have HS5 := HS5'
            clear HP5' HS5'
            have HRT : Hid (Srt ky f1 mid E ∧ Srt ky f1 E b ∧ Sep f1 mid E b) := prt_right HPR.out HP5.out.1
            have HFN : Hid (∀ f2, PermOn f1 f2 mid b → Srt ky f2 mid b → PermOn f f2 a b ∧ Srt ky f2 a b) := prt_done HPR.out HP5.out.1 HP5.out.2
            by_cases hc1 : mid < E
            · by_cases hc2 : E < b
              · have g1 : decide ((mid : Int) < (E : Int)) = true := by simp; omega
                have g2 : decide ((E : Int) < (b : Int)) = true := by simp; omega
                have g3 : (mid : Int) < (E : Int) := by omega
                have g4 : (E : Int) < (b : Int) := by omega
                have HCA := HIH.out _ _ mid E b HS5.out hc1 hc2 HB0.out.2.2.1 (by have := HB0.out; have := HPR.out.md; omega) HRT.out.1 HRT.out.2.1 HRT.out.2.2
                go_wp2_with fail
                refine HCA.mono ?_
                rintro e w6 ⟨rfl, f2, hs6, hp6, hq6⟩
                have HS6 : Hid (SAt w0 w6 g n f2) := hs6
                have HF6 : Hid (PermOn f f2 a b ∧ Srt ky f2 a b) := HFN.out f2 hp6 hq6
                clear hs6 hp6 hq6 HCA
                go_wp2_with fail
                all_goals first | go_end0 | refine bodyPost_ret (results_none rfl _ _ _) rfl ?_
                all_goals exact ⟨rfl, f2, HS6.out, HF6.out.1, HF6.out.2⟩
              · have g1 : decide ((mid : Int) < (E : Int)) = true := by simp; omega
                have g2 : decide ((E : Int) < (b : Int)) = false := by simp; omega
                have g3 : (mid : Int) < (E : Int) := by omega
                have g4 : ¬ (E : Int) < (b : Int) := by omega
                have HF6 : Hid (PermOn f f1 a b ∧ Srt ky f1 a b) := HFN.out f1 (PermOn.refl _ _ _) (by have h := HRT.out.1; rwa [show E = b by omega] at h)
                go_wp2_with fail
                all_goals first | go_end0 | refine bodyPost_ret (results_none rfl _ _ _) rfl ?_
                all_goals exact ⟨rfl, f1, HS5.out, HF6.out.1, HF6.out.2⟩
            · have g1 : decide ((mid : Int) < (E : Int)) = false := by simp; omega
              have g3 : ¬ (mid : Int) < (E : Int) := by omega
              have HF6 : Hid (PermOn f f1 a b ∧ Srt ky f1 a b) := HFN.out f1 (PermOn.refl _ _ _) (by have h := HRT.out.2.1; rwa [show E = mid by have := HPR.out.em; omega] at h)
              go_wp2_with fail
              all_goals first | go_end0 | refine bodyPost_ret (results_none rfl _ _ _) rfl ?_
              all_goals exact ⟨rfl, f1, HS5.out, HF6.out.1, HF6.out.2⟩

theorem merge_any {w0 : World} {g n cap : Nat} {cv : Value} {ky : Nat → Int} (HC : CmpOk w0 g n cv ky) (hn : n ≤ 925925926000) (hcap : n ≤ cap) : ∀ d, MgQ w0 g n cap cv ky d
  | 0 => fun w f a m b hS h1 h2 h3 h4 _ _ _ => by omega
  | d + 1 => fun w f a m b hS h1 h2 h3 h4 hs1 hs2 hsp => by
    by_cases hm : a + 1 = m
    · exact merge_one HC hS hm h2 h3 hn hcap hs2 hsp
    · by_cases hb : m + 1 = b
      · subst hb
        exact merge_last HC hS (by omega) rfl h3 hn hcap hs1 hsp
      · exact merge_more HC hS (by omega) (by omega) h3 hn hcap hs1 hs2 hsp (fun w' f' a' m' b' k1 k2 k3 k4 k5 => merge_any HC hn hcap d w' f' a' m' b' k1 k2 k3 k4 (by omega))
end Go.Proofs.YtadollckekddgaaDoor.Hi
