/- A row of numbers that is sorted: insertion. -/
import Derived.Test.YtadollckekddgaaDoorHiSm
import Derived.Test.YtadollckekddgaaDoorHiSo
import Derived.BigRegion
namespace Go.Proofs.YtadollckekddgaaDoor.Hi
open Go.ChangeShapes Go.WideShapes Go.ChangeAt Go.RowKit
set_option linter.unusedVariables false

/-- The row that is sorted, as it lies; all else stays. -/
structure SAt (w0 w : World) (g n : Nat) (f : Nat → Nat) : Prop where
  row : w.heap[g]? = some (.cells (fC f n) 3 (0, 0))
  keep : Keep [g] w0 w
  lt : ∀ k, k < n → f k < n
theorem SAt.later {w0 w w' : World} {g n : Nat} {f : Nat → Nat} (h : SAt w0 w g n f) (hb : Below w.heap.size w w') : SAt w0 w' g n f :=
  ⟨by rw [hb.block g (heap_lt h.row)]; exact h.row, h.keep.trans (Keep.of_below hb []) (by simp), h.lt⟩
theorem SAt.cell {w0 w : World} {g n : Nat} {f : Nat → Nat} (h : SAt w0 w g n f) {i : Nat} (hi : i < n) : w.cell? ⟨g, i, none⟩ = some (.int .i64 (f i : Int)) := by
  rw [cell_at h.row]; exact fC_get f hi
theorem SAt.frz {w0 w : World} {g n : Nat} {f : Nat → Nat} (h : SAt w0 w g n f) (i : Nat) : w.frozen? ⟨g, i, none⟩ = false := frozen_at h.row i
theorem SAt.set {w0 w : World} {g n : Nat} {f : Nat → Nat} (h : SAt w0 w g n f) {i v : Nat} (hi : i < n) (hv : v < n) : SAt w0 (w.setCell ⟨g, i, none⟩ (.int .i64 (v : Int))) g n (upF f i v) :=
  ⟨by rw [heap_set h.row, fC_set f v hi], h.keep.setCell _ _ (Or.inl (by simp)), fun k hk => by
    unfold upF; split
    · exact hv
    · exact h.lt k hk⟩
theorem SAt.swp {w0 w : World} {g n : Nat} {f : Nat → Nat} (h : SAt w0 w g n f) {i j : Nat} (hi : i < n) (hj : j < n) : SAt w0 ((w.setCell ⟨g, i, none⟩ (.int .i64 (f j : Int))).setCell ⟨g, j, none⟩ (.int .i64 (f i : Int))) g n (Hi.swp f i j) := by
  rw [← swp_up]
  exact (h.set hi (h.lt j hj)).set hj (h.lt i hi)
/-- Whom the sort asks. -/
def CmpOk (w0 : World) (g n : Nat) (cv : Value) (ky : Nat → Int) : Prop := ∃ c : Nat → Nat → Int, (∀ i j, i < n → j < n → (c i j < 0 ↔ ky i < ky j)) ∧
  ∀ w, Keep [g] w0 w → ∀ i j, i < n → j < n → Calls Tryd.prog 14 #[.int .i64 (i : Int), .int .i64 (j : Int), cv] w fun e w' => e = .returned (.int .i64 (c i j)) ∧ Below w.heap.size w w'
theorem dec_wrap1 {j k : Nat} (h : j = k + 1) (hj : j ≤ 925925926000) : wrap64 ((j : Int) - 1) = (k : Int) := by
  unfold wrap64; omega
theorem inc_wrap1 {j : Nat} (hj : j ≤ 925925926001) : wrap64 ((j : Int) + 1) = ((j + 1 : Nat) : Int) := by
  unfold wrap64; omega
set_option maxRecDepth 100000 in
set_option maxHeartbeats 6400000 in
theorem ins_any {w0 w : World} {g n cap : Nat} {cv : Value} {ky : Nat → Int} {f : Nat → Nat} (HC : CmpOk w0 g n cv ky) (hS : SAt w0 w g n f) {a b : Nat} (hab : a ≤ b) (hb : b ≤ n) (hn : n ≤ 925925926000) (hcap : n ≤ cap) (hr : Ris f a b) :
    Calls Tryd.prog 43 #[.slice (some ⟨g, 0, none⟩) n cap, .int .i64 (a : Int), .int .i64 (b : Int), .func (.func 14) #[] #[cv]] w fun e w' => e = .returned (.tuple #[]) ∧ ∃ f', SAt w0 w' g n f' ∧ PermOn f f' a b ∧ Srt ky f' a b := by
  obtain ⟨c, hc1, hc2⟩ := HC
  have HC1 : Hid (∀ i j, i < n → j < n → (c i j < 0 ↔ ky i < ky j)) := hc1
  have HC2 : Hid (∀ w, Keep [g] w0 w → ∀ i j, i < n → j < n → Calls Tryd.prog 14 #[.int .i64 (i : Int), .int .i64 (j : Int), cv] w fun e w' => e = .returned (.int .i64 (c i j)) ∧ Below w.heap.size w w') := hc2
  have HS0 : Hid (SAt w0 w g n f) := hS
  have HAB : Hid (a ≤ b) := hab
  have HBN : Hid (b ≤ n) := hb
  have HNN : Hid (n ≤ 925925926000) := hn
  have HR : Hid (Ris f a b) := hr
  have hwa : wrap64 ((a : Int) + 1) = ((a + 1 : Nat) : Int) := inc_wrap1 (by omega)
  have HST : Hid (Srt ky f a (a + 1)) := Srt.one ky f (by omega)
  clear hc1 hc2 hS hr
  go_enter Tryd.func43, Tryd.ntmps43
  go_wp2_with fail
  go_loopw [8] (fun vi wr => ∃ (i : Nat) (f1 : Nat → Nat), vi = .int .i64 (i : Int) ∧ Hid (a < i ∧ (i ≤ b ∨ i = a + 1)) ∧ Hid (SAt w0 wr g n f1) ∧ Hid (PermOn f f1 a i ∧ Srt ky f1 a i ∧ (i ≤ b ∨ f1 = f))) (fun vi _ => (n + 1 - (intOf vi).toNat))
  case atStart => exact ⟨a + 1, f, by first | rw [hwa] | rfl, ⟨by omega, Or.inr rfl⟩, HS0, ⟨PermOn.refl _ _ _, HST.out, Or.inr rfl⟩⟩
  case round =>
    obtain ⟨i, f1, rfl, HI, HS1, HP1⟩ := hrel
    clear hwa
    by_cases hlt : i < b
    · have hltz : (i : Int) < (b : Int) := by omega
      have HIB : Hid (a < i ∧ i < b) := ⟨HI.out.1, hlt⟩
      have HIN : Hid (Ins ky f1 f1 a i i) := Ins.start (Nat.le_of_lt HI.out.1) hlt HR.out HP1.out.1 HP1.out.2.1
      have HMS : Hid (n + 1 - (i + 1) < n + 1 - i) := by rw [Hid]; omega
      have hwi : Hid (wrap64 ((i : Int) + 1) = ((i + 1 : Nat) : Int)) := inc_wrap1 (by omega)
      go_wp2_with fail
      go_loopw [9] (fun vj wr => ∃ (j : Nat) (f2 : Nat → Nat), vj = .int .i64 (j : Int) ∧ Hid (a ≤ j ∧ j ≤ i) ∧ Hid (SAt w0 wr g n f2) ∧ Hid (Ins ky f1 f2 a i j)) (fun vj _ => ((intOf vj).toNat))
      case atStart => exact ⟨i, f1, rfl, ⟨Nat.le_of_lt HIB.out.1, Nat.le_refl _⟩, HS1, HIN⟩
      clear HIN HS1
      case round =>
        obtain ⟨j, f2, rfl, HJ, HS2, HIN⟩ := hrel
        by_cases hja : a < j
        · obtain ⟨k, hk⟩ : ∃ k, j = k + 1 := ⟨j - 1, by omega⟩
          have hjn : j < n := by have := HJ.out; have := HIB.out; have := HBN.out; omega
          have hkn : k < n := by omega
          have hwj : wrap64 ((j : Int) - 1) = (k : Int) := dec_wrap1 hk (by have := HNN.out; omega)
          have hwj2 : IntKind.i64.wrap ((j : Int) - 1) = (k : Int) := by rw [IntKind.wrap_i64]; have := HNN.out; omega
          have hjd : decide ((a : Int) < (j : Int)) = true := by simp; omega
          have hjz : (j : Int) < (n : Int) := by omega
          have hkz : (k : Int) < (n : Int) := by omega
          have HCL : Hid (∀ w', Below wr.heap.size wr w' → Calls Tryd.prog 14 #[.int .i64 (f2 j : Int), .int .i64 (f2 k : Int), cv] w' fun e w'' => e = .returned (.int .i64 (c (f2 j) (f2 k))) ∧ Below w'.heap.size w' w'') := fun w' hb => HC2.out w' (HS2.out.later hb).keep _ _ (HS2.out.lt j hjn) (HS2.out.lt k hkn)
          have HR2 : Hid (c (f2 j) (f2 k) < 0 ↔ ky (f2 j) < ky (f2 k)) := HC1.out _ _ (HS2.out.lt j hjn) (HS2.out.lt k hkn)
          have HSF : Hid (∀ w', Below wr.heap.size wr w' → w'.cell? ⟨g, j, none⟩ = some (.int .i64 (f2 j : Int)) ∧ w'.cell? ⟨g, k, none⟩ = some (.int .i64 (f2 k : Int))) := fun w' hb => ⟨(HS2.out.later hb).cell hjn, (HS2.out.later hb).cell hkn⟩
          have HSW : Hid (∀ w', Below wr.heap.size wr w' → SAt w0 ((w'.setCell ⟨g, j, none⟩ (.int .i64 (f2 k : Int))).setCell ⟨g, k, none⟩ (.int .i64 (f2 j : Int))) g n (swp f2 j k)) := fun w' hb => (HS2.out.later hb).swp hjn hkn
          have HSL : Hid (∀ w', Below wr.heap.size wr w' → SAt w0 w' g n f2 ∧ (∀ o, w'.frozen? ⟨g, o, none⟩ = false)) := fun w' hb => ⟨HS2.out.later hb, (HS2.out.later hb).frz⟩
          have HNX : Hid (ky (f2 j) < ky (f2 k) → Ins ky f1 (swp f2 j k) a i k) := fun hh => by
            have hj' := HJ.out
            have e := hk
            have h2 := HIN.out
            subst e
            exact h2.step (by omega) (by omega) hh
          have HDN : Hid (¬ ky (f2 j) < ky (f2 k) → PermOn f f1 a i → PermOn f f2 a (i + 1) ∧ Srt ky f2 a (i + 1)) := fun hh hp => ⟨(hp.mono (Nat.le_refl _) (by omega)).trans HIN.out.p, HIN.out.done HJ.out.1 HJ.out.2 (Or.inr (by rw [hk, Nat.add_sub_cancel]; rw [hk] at hh; exact hh))⟩
          obtain ⟨s1, s2⟩ := HSF.out wr (Below.refl _ _)
          generalize swp f2 j k = f3 at *
          generalize f2 j = x at *
          generalize f2 k = y at *
          generalize c x y = r at *
          by_cases hkk : ky x < ky y
          · have hr0 : r < 0 := HR2.out.2 hkk
            have HJK : Hid (j ≠ k) := by rw [Hid]; omega
            have HKL : Hid (k < j) := by rw [Hid]; omega
            have hkk' : Hid (ky x < ky y) := hkk
            have HKJ : Hid (a ≤ k ∧ k ≤ i) := by have := HJ.out; rw [Hid]; omega
            have hrd : decide (r < 0) = true := by simpa using hr0
            clear hkk hk
            go_wp2_with fail

            go_region_held3 (fun w' => w'.cell? ⟨g, j, none⟩ = some (.int .i64 (x : Int)) ∧ w'.cell? ⟨g, k, none⟩ = some (.int .i64 (y : Int)))
              (first
                | go_keep
                | exact hS)
              (first
                | (go_at_call 14; refine (HCL.out _ (bl_drew1 _)).mono ?_; rintro e w3 ⟨rfl, hb3⟩; have hp3 := below_then (bl_drew1 _) hb3; have hS := HSF.out _ hp3))
            obtain ⟨d1, d2⟩ := hS
            have d3 : w3.frozen? ⟨g, j, none⟩ = false := (HSL.out _ hp3).2 j
            have d4 : w3.frozen? ⟨g, k, none⟩ = false := (HSL.out _ hp3).2 k
            have HW3 : Hid (SAt w0 ((w3.setCell ⟨g, j, none⟩ (.int .i64 (y : Int))).setCell ⟨g, k, none⟩ (.int .i64 (x : Int))) g n f3) := HSW.out _ hp3
            have HKI : Hid (a ≤ k ∧ k ≤ i) := HKJ
            have HN3 : Hid (Ins ky f1 f3 a i k) := HNX.out hkk'.out
            have hjk : j ≠ k := HJK.out
            have hkj : k ≠ j := fun e => HJK.out e.symm
            clear hb3 hp3 s1 s2
            go_wp2_with fail
            go_region
            go_wp2_with fail
            go_roundw
            case rel => exact ⟨k, f3, by first | rfl | rw [hwj], HKI, HW3.out.later (bl_drew1 _), HN3⟩
            case measure => simpa [intOf] using HKL.out
          · have hr0 : ¬ r < 0 := fun h => hkk (HR2.out.1 h)
            have hrd : decide (r < 0) = false := by simpa using hr0
            have HD3 : Hid (PermOn f f2 a (i + 1) ∧ Srt ky f2 a (i + 1)) := HDN.out hkk HP1.out.1
            clear hkk hk hr0
            go_wp2_with fail
            go_region_held3 (fun w' => w'.cell? ⟨g, j, none⟩ = some (.int .i64 (x : Int)) ∧ w'.cell? ⟨g, k, none⟩ = some (.int .i64 (y : Int)))
              (first
                | go_keep
                | exact hS)
              (first
                | (go_at_call 14; refine (HCL.out _ (bl_drew1 _)).mono ?_; rintro e w3 ⟨rfl, hb3⟩; have hp3 := below_then (bl_drew1 _) hb3; have hS := HSF.out _ hp3))
            have HSZ : Hid (SAt w0 w3 g n f2) := (HSL.out _ hp3).1
            clear hb3 hp3 s1 s2 hS
            go_wp2_with fail
            go_roundw
            case rel => exact ⟨i + 1, f2, by first | rfl | rw [hwi.out], ⟨by have := HIB.out; omega, Or.inl HIB.out.2⟩, HSZ, ⟨HD3.out.1, HD3.out.2, Or.inl HIB.out.2⟩⟩
            case measure => first | (rw [hwi.out]; simpa [intOf] using HMS.out) | (simpa [intOf] using HMS.out)
        · obtain rfl : j = a := by have := HJ.out; omega
          have hjd : decide ((j : Int) < (j : Int)) = false := by simp
          have HD3 : Hid (PermOn f f2 j (i + 1) ∧ Srt ky f2 j (i + 1)) := ⟨(HP1.out.1.mono (Nat.le_refl _) (by omega)).trans HIN.out.p, HIN.out.done HJ.out.1 HJ.out.2 (Or.inl rfl)⟩
          clear hja
          go_wp2_with fail
          go_quiet (fail)
          go_wp2_with fail
          go_roundw
          case rel => exact ⟨i + 1, f2, by first | rfl | rw [hwi.out], ⟨by have := HIB.out; omega, Or.inl HIB.out.2⟩, HS2.out.later (below_drawn (Below.refl _ _) _), ⟨HD3.out.1, HD3.out.2, Or.inl HIB.out.2⟩⟩
          case measure => first | (rw [hwi.out]; simpa [intOf] using HMS.out) | (simpa [intOf] using HMS.out)
    · have hltz : ¬ (i : Int) < (b : Int) := by omega
      have HE : Hid (PermOn f f1 a b ∧ Srt ky f1 a b) := by
        have h1 := HI.out
        by_cases hib : i = b
        · subst hib; exact ⟨HP1.out.1, HP1.out.2.1⟩
        · rcases HP1.out.2.2 with h | h
          · omega
          · rw [h]
            exact ⟨PermOn.refl _ _ _, Srt.one ky f (by omega)⟩
      go_wp2_with fail
      go_end0
      exact ⟨rfl, f1, HS1.out, HE.out.1, HE.out.2⟩
end Go.Proofs.YtadollckekddgaaDoor.Hi
