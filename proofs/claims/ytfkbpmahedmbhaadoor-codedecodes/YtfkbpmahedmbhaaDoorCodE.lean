/- CodeDecodes, walked. -/
import Derived.Test.YtfkbpmahedmbhaaDoorCodD
namespace Go.Proofs.YtfkbpmahedmbhaaDoor
open Go.ChangeShapes Go.WideShapes Go.ChangeAt Go.RowKit

theorem wdecodes (s : ByteArray) (hs : s.size ≤ maxLen) {w : World} (hT : Tab w) :
    Calls Tryd.prog 5 #[.string s] w fun e w' => e = .returned (.bool true) ∧ Below w.heap.size w w' := by
  have hs' : s.size ≤ 9223372036854775807 := by unfold maxLen at hs; omega
  have HA : Hid (Calls Tryd.prog 13 #[.string s] w fun e w' => ∃ v, e = .returned (.tuple #[v, .int .i64 (decV s).2.1, .int .i64 (decV s).2.2]) ∧ w'.ownsRow w.heap.size 23 2 v (decV s).1.length (opsC (decV s).1) ∧ Below w.heap.size w w') := dec_any s hs' hT
  have HB : Hid (∀ w, Calls Tryd.prog 14 #[.string s] w fun e w' => ∃ v, e = .returned (.tuple #[v, .int .i64 (decV s).2.1, .int .i64 (decV s).2.2]) ∧ w'.ownsRow w.heap.size 23 2 v (decV s).1.length (opsC (decV s).1) ∧ Below w.heap.size w w') := fun w => rdec_any s hs' (w := w)
  have HL : Hid ((decV s).1.length ≤ 512) := decV_len s
  generalize (decV s).1 = l at *
  generalize (decV s).2.1 = e1 at *
  generalize (decV s).2.2 = e2 at *
  clear hT hs hs'
  go_enter Tryd.func5, Tryd.ntmps5
  go_wp2_with fail
  refine HA.out.mono ?_
  rintro e w1 ⟨v1, rfl, ho1, hb1⟩
  obtain ⟨a1, k1, rfl⟩ := own_slice ho1
  go_wp2_with fail
  refine (HB.out _).mono ?_
  rintro e w2 ⟨v2, rfl, ho2, hb2⟩
  obtain ⟨a2, k2, rfl⟩ := own_slice ho2
  have hS : Hid (∀ w3, Below w2.heap.size w2 w3 → Calls Tryd.prog 15 #[.slice a1 l.length k1, .slice a2 l.length k2] w3 fun e w' => e = .returned (.bool true) ∧ Below w3.heap.size w3 w') := fun w3 hb3 => by
    have h1 : OLst w2 (.slice a1 l.length k1) l := (OLst.of_own ho1 (by have := HL.out; omega)).later hb2 (Nat.le_refl _)
    have h2 : OLst w2 (.slice a2 l.length k2) l := OLst.of_own ho2 (by have := HL.out; omega)
    have := same_any (h1.later hb3 (Nat.le_refl _)) (h2.later hb3 (Nat.le_refl _))
    simpa using this
  have hbb : Hid (Below w.heap.size w w2) := below_then hb1 hb2
  clear hb1 hb2 ho1 ho2 HA HB HL
  generalize l.length = L at *
  go_wp2_with fail
  refine (hS.out _ (Below.refl _ _)).mono ?_
  rintro e w3 ⟨rfl, hb3⟩
  go_wp2
  go_ret
  exact ⟨rfl, below_then hbb.out hb3⟩
end Go.Proofs.YtfkbpmahedmbhaaDoor
