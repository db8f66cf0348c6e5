/- CodeEncodes, CodeBack, CodeThere, walked. -/
import Derived.Test.YtfkbpmahedmbhaaDoorCodH
import Derived.Test.YtfkbpmahedmbhaaDoorCodE
namespace Go.Proofs.YtfkbpmahedmbhaaDoor
open Go.ChangeShapes Go.WideShapes Go.ChangeAt Go.RowKit

theorem wencodes {w : World} (v : Value) (l : List (Int × Int)) (hv : OLst w v l) (hT : Tab w) :
    Calls Tryd.prog 4 #[v] w fun e w' => e = .returned (.bool true) ∧ Below w.heap.size w w' := by
  have HA : Hid (Calls Tryd.prog 11 #[v] w fun e w' => e = .returned (.tuple #[.string (strOfNums (encV l).1), .int .i64 (encV l).2.1, .int .i64 (encV l).2.2]) ∧ Below w.heap.size w w') := enc_any hT hv
  have HB : Hid (∀ w1, Below w.heap.size w w1 → Calls Tryd.prog 12 #[v] w1 fun e w' => e = .returned (.tuple #[.string (strOfNums (encV l).1), .int .i64 (encV l).2.1, .int .i64 (encV l).2.2]) ∧ Below w1.heap.size w1 w') := fun w1 hb => renc_any (hv.later hb (Nat.le_refl _))
  obtain ⟨a, cap, rfl, _, _⟩ := hv
  generalize strOfNums (encV l).1 = s at *
  generalize (encV l).2.1 = e1 at *
  generalize (encV l).2.2 = e2 at *
  generalize l.length = L at *
  clear hT
  go_enter Tryd.func4, Tryd.ntmps4
  go_wp2_with fail
  refine HA.out.mono ?_
  rintro e w1 ⟨rfl, hb1⟩
  go_wp2_with fail
  refine (HB.out _ hb1).mono ?_
  rintro e w2 ⟨rfl, hb2⟩
  go_wp2
  go_ret
  exact ⟨rfl, below_then hb1 hb2⟩
theorem same_yes {w : World} {u v : Value} {l : List (Int × Int)} (hu : OLst w u l) (hv : OLst w v l) : Calls Tryd.prog 15 #[u, v] w fun e w' => e = .returned (.bool true) ∧ Below w.heap.size w w' := by
  have := same_any hu hv
  simpa using this
theorem wback {w : World} (v : Value) (l : List (Int × Int)) (hv : OLst w v l) (hT : Tab w) :
    Calls Tryd.prog 6 #[v] w fun e w' => e = .returned (.bool true) ∧ Below w.heap.size w w' := by
  have HA : Hid (Calls Tryd.prog 11 #[v] w fun e w' => e = .returned (.tuple #[.string (strOfNums (encV l).1), .int .i64 (encV l).2.1, .int .i64 (encV l).2.2]) ∧ Below w.heap.size w w') := enc_any hT hv
  have HB : Hid (∀ w1, Below w.heap.size w w1 → Calls Tryd.prog 12 #[v] w1 fun e w' => e = .returned (.tuple #[.string (strOfNums (encV l).1), .int .i64 (encV l).2.1, .int .i64 (encV l).2.2]) ∧ Below w1.heap.size w1 w') := fun w1 hb => renc_any (hv.later hb (Nat.le_refl _))
  have HD : Hid (∀ w1, Below w.heap.size w w1 → Calls Tryd.prog 13 #[.string (strOfNums (encV l).1)] w1 fun e w' => ∃ v, e = .returned (.tuple #[v, .int .i64 (decV (strOfNums (encV l).1)).2.1, .int .i64 (decV (strOfNums (encV l).1)).2.2]) ∧ w'.ownsRow w1.heap.size 23 2 v (decV (strOfNums (encV l).1)).1.length (opsC (decV (strOfNums (encV l).1)).1) ∧ Below w1.heap.size w1 w') := fun w1 hb => dec_any _ (by
    rw [strOfNums_size]
    have := encV_len l
    omega) (hT.later hb)
  have HV : Hid (OLst w v l) := hv
  obtain ⟨a, cap, rfl, _, _⟩ := hv
  have HX : Hid ((encV l).2.1 = 0 → decV (strOfNums (encV l).1) = (l, 0, 0)) := fun h => (dec_enc h).1
  obtain ⟨s, hs⟩ : ∃ s, strOfNums (encV l).1 = s := ⟨_, rfl⟩
  rw [hs] at HA HB HD HX
  clear hs hT
  generalize (encV l).2.1 = e1 at *
  generalize (encV l).2.2 = e2 at *
  by_cases h0 : e1 = 0
  · have hd := HX.out h0
    subst h0
    rw [hd] at HD
    simp only at HD
    clear hd HX HB
    go_enter Tryd.func6, Tryd.ntmps6
    go_wp2_with fail
    refine HA.out.mono ?_
    rintro e w1 ⟨rfl, hb1⟩
    go_wp2_with fail
    refine (HD.out _ hb1).mono ?_
    rintro e w2 ⟨v2, rfl, ho2, hb2⟩
    have hS : Hid (Calls Tryd.prog 15 #[v2, .slice a l.length cap] w2 fun e w' => e = .returned (.bool true) ∧ Below w2.heap.size w2 w') := same_yes (OLst.of_own ho2 (by obtain ⟨_, _, _, h, _⟩ := HV.out; exact h)) (HV.out.later (below_then hb1 hb2) (Nat.le_refl _))
    obtain ⟨a2, k2, rfl⟩ := own_slice ho2
    have hbb : Hid (Below w.heap.size w w2) := below_then hb1 hb2
    clear hb1 hb2 ho2 HA HD HV
    go_wp2_with fail
    refine hS.out.mono ?_
    rintro e w3 ⟨rfl, hb3⟩
    go_wp2
    go_ret
    exact ⟨rfl, below_then hbb.out hb3⟩
  · have he : (e1 == 0) = false := by simp [h0]
    clear HX HD h0
    go_enter Tryd.func6, Tryd.ntmps6
    go_wp2_with fail
    refine HA.out.mono ?_
    rintro e w1 ⟨rfl, hb1⟩
    go_wp2_with fail
    refine (HB.out _ hb1).mono ?_
    rintro e w2 ⟨rfl, hb2⟩
    go_wp2
    go_ret
    exact ⟨rfl, below_then hb1 hb2⟩
theorem wthere (s : ByteArray) (hs : s.size ≤ maxLen) {w : World} (hT : Tab w) :
    Calls Tryd.prog 7 #[.string s] w fun e w' => e = .returned (.bool true) ∧ Below w.heap.size w w' := by
  have hs' : s.size ≤ 9223372036854775807 := by unfold maxLen at hs; omega
  have HA : Hid (Calls Tryd.prog 13 #[.string s] w fun e w' => ∃ v, e = .returned (.tuple #[v, .int .i64 (decV s).2.1, .int .i64 (decV s).2.2]) ∧ w'.ownsRow w.heap.size 23 2 v (decV s).1.length (opsC (decV s).1) ∧ Below w.heap.size w w') := dec_any s hs' hT
  have HB : Hid (∀ w, Calls Tryd.prog 14 #[.string s] w fun e w' => ∃ v, e = .returned (.tuple #[v, .int .i64 (decV s).2.1, .int .i64 (decV s).2.2]) ∧ w'.ownsRow w.heap.size 23 2 v (decV s).1.length (opsC (decV s).1) ∧ Below w.heap.size w w') := fun w => rdec_any s hs' (w := w)
  have HL : Hid ((decV s).1.length ≤ 512) := decV_len s
  have HE : Hid (∀ w1 v1, Below w.heap.size w w1 → OLst w1 v1 (decV s).1 → Calls Tryd.prog 11 #[v1] w1 fun e w' => e = .returned (.tuple #[.string (strOfNums (encV (decV s).1).1), .int .i64 (encV (decV s).1).2.1, .int .i64 (encV (decV s).1).2.2]) ∧ Below w1.heap.size w1 w') := fun w1 v1 hb ho => enc_any (hT.later hb) ho
  have HX : Hid ((decV s).2.1 = 0 → encV (decV s).1 = (bl s, 0, 0)) := fun h => (enc_dec h).1
  have HS : Hid (strOfNums (bl s) = s) := str_bl s
  generalize (decV s).1 = l at *
  generalize (decV s).2.1 = e1 at *
  generalize (decV s).2.2 = e2 at *
  clear hT hs hs'
  by_cases h0 : e1 = 0
  · have hd := HX.out h0
    subst h0
    rw [hd] at HE
    simp only [HS.out] at HE
    clear hd HX HB HS
    go_enter Tryd.func7, Tryd.ntmps7
    go_wp2_with fail
    refine HA.out.mono ?_
    rintro e w1 ⟨v1, rfl, ho1, hb1⟩
    have hE := HE.out w1 v1 hb1 (OLst.of_own ho1 (by have := HL.out; omega))
    have hEE : Hid (Calls Tryd.prog 11 #[v1] w1 fun e w' => e = .returned (.tuple #[.string s, .int .i64 0, .int .i64 0]) ∧ Below w1.heap.size w1 w') := hE
    obtain ⟨a1, k1, rfl⟩ := own_slice ho1
    clear hE HE HA ho1 HL
    go_wp2_with fail
    refine hEE.out.mono ?_
    rintro e w2 ⟨rfl, hb2⟩
    go_wp2
    go_ret
    exact ⟨rfl, below_then hb1 hb2⟩
  · have he : (e1 == 0) = false := by simp [h0]
    clear HX HE h0 HS
    go_enter Tryd.func7, Tryd.ntmps7
    go_wp2_with fail
    refine HA.out.mono ?_
    rintro e w1 ⟨v1, rfl, ho1, hb1⟩
    obtain ⟨a1, k1, rfl⟩ := own_slice ho1
    clear ho1
    go_wp2_with fail
    refine (HB.out _).mono ?_
    rintro e w2 ⟨v2, rfl, ho2, hb2⟩
    obtain ⟨a2, k2, rfl⟩ := own_slice ho2
    go_wp2
    go_ret
    exact ⟨rfl, below_then hb1 hb2⟩
end Go.Proofs.YtfkbpmahedmbhaaDoor
