/- The document's: does a transaction's place stand ahead of another one's. -/
import Derived.Test.YtbpnookejildnaaDoorHiLg
import Derived.Test.YtbpnookejildnaaDoorHiPl
namespace Go.Proofs.YtbpnookejildnaaDoor.Hi
open Go.ChangeShapes Go.WideShapes Go.ChangeAt Go.RowKit
set_option linter.unusedVariables false
set_option maxRecDepth 100000

set_option maxHeartbeats 1600000 in
theorem ahead_any (w : World) (a b : Tr) : Calls Tryd.prog 31 #[txV a, txV b] w fun e w' => e = .returned (.bool (aheadD a b)) ∧ Below w.heap.size w w' := by
  obtain ⟨ath, abg, aen, ast, asn, aer, asg, aac⟩ := a
  obtain ⟨bth, bbg, ben, bst, bsn, ber, bsg, bac⟩ := b
  unfold txV aheadD plA plB
  dsimp only
  have HB : Hid (∀ o1 o2, Below w.heap.size w ((w.alloc o1).alloc o2)) := fun o1 o2 => below_two (Below.refl _ _) (Nat.le_refl _) o1 o2
  by_cases h1 : 0 < ast
  · by_cases h2 : 0 < bst
    ·
      have d1 : decide (0 < ast) = true := by simpa using h1
      have d2 : decide (0 < bst) = true := by simpa using h2
      simp only [if_pos h1, if_pos h2]
      clear h1 h2
      by_cases h3 : ast < bst
      · have d3 : decide (ast < bst) = true := by simpa using h3
        clear h3
        rw [d3]
        go_enter Tryd.func31, Tryd.ntmps31
        go_wp2_with fail
        go_ret
        exact ⟨rfl, HB.out _ _⟩
      · have d3 : decide (ast < bst) = false := by simpa using h3
        rw [d3]
        by_cases h4 : ast = bst
        · have d4 : (ast == bst) = true := by simpa using h4
          rw [decide_eq_true h4]
          clear h3 h4
          go_enter Tryd.func31, Tryd.ntmps31
          go_wp2_with fail
          go_ret
          exact ⟨rfl, HB.out _ _⟩
        · have d4 : (ast == bst) = false := by simpa using h4
          rw [decide_eq_false h4]
          clear h3 h4
          go_enter Tryd.func31, Tryd.ntmps31
          go_wp2_with fail
          go_ret
          exact ⟨rfl, HB.out _ _⟩
    ·
      have d1 : decide (0 < ast) = true := by simpa using h1
      have d2 : decide (0 < bst) = false := by simpa using h2
      simp only [if_pos h1, if_neg h2]
      clear h1 h2
      by_cases h3 : ast < bsn
      · have d3 : decide (ast < bsn) = true := by simpa using h3
        clear h3
        rw [d3]
        go_enter Tryd.func31, Tryd.ntmps31
        go_wp2_with fail
        go_ret
        exact ⟨rfl, HB.out _ _⟩
      · have d3 : decide (ast < bsn) = false := by simpa using h3
        rw [d3]
        by_cases h4 : ast = bsn
        · have d4 : (ast == bsn) = true := by simpa using h4
          rw [decide_eq_true h4]
          clear h3 h4
          go_enter Tryd.func31, Tryd.ntmps31
          go_wp2_with fail
          go_ret
          exact ⟨rfl, HB.out _ _⟩
        · have d4 : (ast == bsn) = false := by simpa using h4
          rw [decide_eq_false h4]
          clear h3 h4
          go_enter Tryd.func31, Tryd.ntmps31
          go_wp2_with fail
          go_ret
          exact ⟨rfl, HB.out _ _⟩
  · by_cases h2 : 0 < bst
    ·
      have d1 : decide (0 < ast) = false := by simpa using h1
      have d2 : decide (0 < bst) = true := by simpa using h2
      simp only [if_neg h1, if_pos h2]
      clear h1 h2
      by_cases h3 : asn < bst
      · have d3 : decide (asn < bst) = true := by simpa using h3
        clear h3
        rw [d3]
        go_enter Tryd.func31, Tryd.ntmps31
        go_wp2_with fail
        go_ret
        exact ⟨rfl, HB.out _ _⟩
      · have d3 : decide (asn < bst) = false := by simpa using h3
        rw [d3]
        by_cases h4 : asn = bst
        · have d4 : (asn == bst) = true := by simpa using h4
          rw [decide_eq_true h4]
          clear h3 h4
          go_enter Tryd.func31, Tryd.ntmps31
          go_wp2_with fail
          go_ret
          exact ⟨rfl, HB.out _ _⟩
        · have d4 : (asn == bst) = false := by simpa using h4
          rw [decide_eq_false h4]
          clear h3 h4
          go_enter Tryd.func31, Tryd.ntmps31
          go_wp2_with fail
          go_ret
          exact ⟨rfl, HB.out _ _⟩
    ·
      have d1 : decide (0 < ast) = false := by simpa using h1
      have d2 : decide (0 < bst) = false := by simpa using h2
      simp only [if_neg h1, if_neg h2]
      clear h1 h2
      by_cases h3 : asn < bsn
      · have d3 : decide (asn < bsn) = true := by simpa using h3
        clear h3
        rw [d3]
        go_enter Tryd.func31, Tryd.ntmps31
        go_wp2_with fail
        go_ret
        exact ⟨rfl, HB.out _ _⟩
      · have d3 : decide (asn < bsn) = false := by simpa using h3
        rw [d3]
        by_cases h4 : asn = bsn
        · have d4 : (asn == bsn) = true := by simpa using h4
          rw [decide_eq_true h4]
          clear h3 h4
          go_enter Tryd.func31, Tryd.ntmps31
          go_wp2_with fail
          go_ret
          exact ⟨rfl, HB.out _ _⟩
        · have d4 : (asn == bsn) = false := by simpa using h4
          rw [decide_eq_false h4]
          clear h3 h4
          go_enter Tryd.func31, Tryd.ntmps31
          go_wp2_with fail
          go_ret
          exact ⟨rfl, HB.out _ _⟩
end Go.Proofs.YtbpnookejildnaaDoor.Hi
