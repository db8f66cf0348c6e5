/- The document's Print, whatever it is given; AsmPrints, walked. -/
import Derived.Test.YtimffcliomeaaaaDoorAsF
namespace Go.Proofs.YtimffcliomeaaaaDoor
open Go.ChangeShapes Go.WideShapes Go.ChangeAt Go.RowKit

theorem rprint_no (s : ByteArray) (hs : s.size ≤ 9223372036854775807) (h : (decV s).2.1 ≠ 0) {w : World} : Calls Tryd.prog 12 #[.string s] w fun e w' => e = .returned (.tuple #[.string (S []), .int .i64 (decV s).2.1]) ∧ Below w.heap.size w w' := by
  have HD : Hid (Calls Tryd.prog 13 #[.string s] w fun e w' => ∃ v, e = .returned (.tuple #[v, .int .i64 (decV s).2.1, .int .i64 (decV s).2.2]) ∧ Below w.heap.size w w') := (rdec_any s hs).mono (fun e w' ⟨v, h1, _, h2⟩ => ⟨v, h1, h2⟩)
  have hne : ((decV s).2.1 == 0) = false := by simp [h]
  have hbn : ((decV s).2.1 != 0) = true := by simp [h]
  have hS : S [] = ByteArray.empty := rfl
  rw [hS]
  generalize (decV s).2.1 = z at *
  generalize (decV s).2.2 = z2 at *
  clear hS
  go_enter Tryd.func12, Tryd.ntmps12
  go_wp2_with fail
  refine HD.out.mono ?_
  rintro e w1 ⟨v, rfl, hb1⟩
  go_wp2
  go_ret2
  exact ⟨rfl, hb1⟩
theorem rprint_any (s : ByteArray) (hs : s.size ≤ 9223372036854775807) {w : World} (hT : TabS w) : Calls Tryd.prog 12 #[.string s] w fun e w' => e = .returned (.tuple #[.string (S (prV s).1), .int .i64 (prV s).2]) ∧ Below w.heap.size w w' := by
  unfold prV
  by_cases h : (decV s).2.1 = 0
  · rw [if_pos h]
    exact rprint_yes (prg_of h) hT
  · rw [if_neg h]
    exact rprint_no s hs h
theorem wprints (s : ByteArray) (hs : s.size ≤ maxLen) {w : World} (hT : TabS w) : Calls Tryd.prog 4 #[.string s] w fun e w' => e = .returned (.bool true) ∧ Below w.heap.size w w' := by
  have hs' : s.size ≤ 9223372036854775807 := by unfold maxLen at hs; omega
  have H1 : Hid (Calls Tryd.prog 11 #[.string s] w fun e w' => e = .returned (.tuple #[.string (S (prV s).1), .int .i64 (prV s).2]) ∧ Below w.heap.size w w') := print_any s hs' hT
  have H2 : Hid (∀ w', Below w.heap.size w w' → Calls Tryd.prog 12 #[.string s] w' fun e w'' => e = .returned (.tuple #[.string (S (prV s).1), .int .i64 (prV s).2]) ∧ Below w'.heap.size w' w'') := fun w' hb => rprint_any s hs' (hT.later hb)
  generalize S (prV s).1 = T at *
  generalize (prV s).2 = e at *
  clear hs hT hs'
  go_enter Tryd.func4, Tryd.ntmps4
  go_wp2_with fail
  refine H1.out.mono ?_
  rintro e w1 ⟨rfl, hb1⟩
  go_wp2_with fail
  refine (H2.out _ hb1).mono ?_
  rintro e w2 ⟨rfl, hb2⟩
  go_wp2
  go_ret
  exact ⟨by simp, below_then hb1 hb2⟩
end Go.Proofs.YtimffcliomeaaaaDoor
