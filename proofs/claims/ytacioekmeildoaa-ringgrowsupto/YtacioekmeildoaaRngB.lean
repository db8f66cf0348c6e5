/- The document's examples of layer 4, as the statements show them at their head. -/
import Derived.Test.YtacioekmeildoaaRngA
namespace Go.Proofs.Ytacioekmeildoaa
open Go.ChangeShapes Go.WideShapes Go.ChangeAt Go.RowKit

theorem ringShown_any (w : World) : Calls Try.prog 7 #[] w fun e w' => e = .returned (.bool true) ∧ w' = w := by
  go_enter Try.func7, Try.ntmps7
  go_wp2_with fail
  refine (slot_any _ _ _).mono ?_
  rintro e w' ⟨rfl, rfl⟩
  go_wp2_with fail
  refine (over_any _ _ _).mono ?_
  rintro e w' ⟨rfl, rfl⟩
  go_wp2_with fail
  refine (over_any _ _ _).mono ?_
  rintro e w' ⟨rfl, rfl⟩
  go_wp2_with fail
  refine (laid_any _ _ _).mono ?_
  rintro e w' ⟨rfl, rfl⟩
  go_wp2_with fail
  refine (free_any _ _ _ (by decide) (by decide) _).mono ?_
  rintro e w' ⟨rfl, rfl⟩
  go_wp2_with fail
  refine (free_any _ _ _ (by decide) (by decide) _).mono ?_
  rintro e w' ⟨rfl, rfl⟩
  rw [show slotV (-1) 16 = 15 by decide, show overV 11 5 = true by decide, show overV 10 5 = false by decide, show laidV 10 5 = true by decide, show freeV 10 9 4 = false by decide, show freeV 11 9 4 = true by decide]
  go_wp2
  go_ret
  exact ⟨rfl, rfl⟩
end Go.Proofs.Ytacioekmeildoaa
