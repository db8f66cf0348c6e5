/- The document's dict (layer 17): Size, Arity, First, Find. -/
import Derived.Test.YtbajgbknjmbimabDiB
import Derived.Test.YtbajgbknjmbimabCoR
import Derived.Deep.CutBlock
import Derived.Deep.DeepCutAuto
namespace Go.Proofs.Ytbajgbknjmbimab.Di
open Go.ChangeShapes Go.WideShapes Go.ChangeAt Go.RowKit
attribute [local go_sem ↓] Go.wp_at_zero Go.wp_at_succ

theorem rsize_any (w : World) (m : Int) : Calls Try.prog 26 #[.int .i64 m] w fun e w' => e = .returned (.int .i64 (sizeV m)) ∧ w' = w := by
  have HC : Hid (∀ w : World, Calls Try.prog 25 #[.int .i64 m] w fun e w' => e = .returned (.bool (decide (0 ≤ m) && decide (m ≤ 16))) ∧ w' = w) := fun w => rright_any w m
  by_cases hm : 0 ≤ m ∧ m ≤ 16
  · have e1 : (decide (0 ≤ m) && decide (m ≤ 16)) = true := by simp [hm]
    rw [e1] at HC
    have HV : Hid (sizeV m = 3 * m + 1) := by unfold sizeV; rw [if_pos hm]; exact rfl
    have h3 : wrap64 (3 * m) = 3 * m := by unfold wrap64; omega
    have hw : wrap64 (3 * m + 1) = 3 * m + 1 := by unfold wrap64; omega
    clear hm e1
    go_enter Try.func26, Try.ntmps26
    go_wp2_with fail
    refine (HC.out _).mono ?_
    rintro e w1 ⟨rfl, rfl⟩
    go_wp2_with fail
    go_ret
    exact ⟨by rw [HV.out]; show Ending.returned (.int .i64 (wrap64 (3 * m + 1))) = _; rw [hw], rfl⟩
  · have e1 : (decide (0 ≤ m) && decide (m ≤ 16)) = false := by
      rw [Bool.eq_false_iff]
      intro h
      simp only [Bool.and_eq_true, decide_eq_true_eq] at h
      exact hm h
    rw [e1] at HC
    have HV : Hid (sizeV m = 0) := by unfold sizeV; rw [if_neg hm]; exact rfl
    clear hm e1
    go_enter Try.func26, Try.ntmps26
    go_wp2_with fail
    refine (HC.out _).mono ?_
    rintro e w1 ⟨rfl, rfl⟩
    go_wp2_with fail
    go_ret
    exact ⟨by rw [HV.out]; rfl, rfl⟩
theorem rarity_any (w : World) (c : Int) : Calls Try.prog 11 #[.int .i64 c] w fun e w' => e = .returned (.int .i64 (arV c)) ∧ w' = w := by
  by_cases h1 : c = 3
  · subst h1
    go_enter Try.func11, Try.ntmps11
    go_wp2
    go_ret
    exact ⟨rfl, rfl⟩
  · by_cases h2 : c = 2
    · subst h2
      go_enter Try.func11, Try.ntmps11
      go_wp2
      go_ret
      exact ⟨rfl, rfl⟩
    · by_cases h4 : c = 4
      · subst h4
        go_enter Try.func11, Try.ntmps11
        go_wp2
        go_ret
        exact ⟨rfl, rfl⟩
      · by_cases h3 : c = 5
        · subst h3
          go_enter Try.func11, Try.ntmps11
          go_wp2
          go_ret
          exact ⟨rfl, rfl⟩
        · have HE : Hid (arV c = -1) := by unfold arV; rw [if_neg h1, if_neg h2, if_neg h4, if_neg h3]; exact rfl
          have e1 : (c == 3) = false := by simpa using h1
          have e2 : (c == 2) = false := by simpa using h2
          have e4 : (c == 4) = false := by simpa using h4
          have e3 : (c == 5) = false := by simpa using h3
          clear h1 h2 h3 h4
          go_enter Try.func11, Try.ntmps11
          go_wp2
          go_ret
          exact ⟨by rw [HE.out]; rfl, rfl⟩
theorem rfirst_any (w : World) (k n : Int) (hn : 0 ≤ n ∧ n ≤ 16) : Calls Try.prog 38 #[.int .i64 k, .int .i64 n] w fun e w' => e = .returned (.int .i64 (firV k n)) ∧ w' = w := by
  have HF : Hid (wrap64 (IntKind.u64.wrap (IntKind.u64.wrap (IntKind.u64.wrap k * 11400714819323198485) / 4294967296 * n) / 4294967296) = firV k n) := fir_math k n hn
  go_enter Try.func38, Try.ntmps38
  go_wp2
  go_ret
  exact ⟨by rw [← HF.out]; rfl, rfl⟩
/-- A function whose answer's variable is laid. -/
def Mid (w w2 : World) : Prop := Below (w.alloc (.cells z4 24)).heap.size (w.alloc (.cells z4 24)) w2
theorem Mid.on {w w2 w3 : World} (h : Mid w w2) (hb : Below w2.heap.size w2 w3) : Mid w w3 := h.trans (hb.mono h.size)
theorem Mid.first (w : World) : Mid w (w.alloc (.cells z4 24)) := Below.refl _ _
/-- The answer is laid into its variable. -/
theorem Mid.lay {w w4 : World} (h : Mid w w4) {x : Wn} {cs : Array Value} (hcs : Hid (wnC x = cs)) : ∃ w5, (storeCells ⟨w.heap.size, 0, none⟩ cs.toList 0).run Try.prog w4 = .ok () w5 ∧ Hid (w5.heap[w.heap.size]? = some (.cells cs 24 (0, 0)) ∧ Below w.heap.size w w5) := by
  have hr := row_next h
  have hb := below_next h
  rw [← hcs.out]
  exact ⟨w4.setRow w.heap.size (wnC x), store_wn hr rfl rfl (wnC_one x), setRow_heap _ _ _ _ _ _ hr, below_row hb _ (Nat.le_refl _) _⟩
/-- The slot of a way, step by step. -/
theorem way_next {f j n : Int} (hn : 0 < n) (hf : 0 ≤ f) (hj : 0 ≤ j) : (f + (j + 1)).tmod n = nxtV n ((f + j).tmod n) := by
  rw [Int.tmod_eq_emod_of_nonneg (by omega), Int.tmod_eq_emod_of_nonneg (by omega)]
  have h1 := Int.emod_nonneg (f + j) (show n ≠ 0 by omega)
  have h2 := Int.emod_lt_of_pos (f + j) hn
  have h3 : (f + (j + 1)) % n = ((f + j) % n + 1) % n := by rw [← Int.add_assoc, Int.emod_add_emod]
  rw [h3]
  unfold nxtV
  generalize (f + j) % n = x at *
  split
  · rename_i h; rw [h]; exact Int.emod_self
  · exact Int.emod_eq_of_lt (by omega) (by omega)
theorem alloc2_at (w : World) (a b : Obj) : ((w.alloc a).alloc b).heap[w.heap.size + 1]? = some b := by
  have := heap_alloc_new (w.alloc a) b
  simpa using this
end Go.Proofs.Ytbajgbknjmbimab.Di
