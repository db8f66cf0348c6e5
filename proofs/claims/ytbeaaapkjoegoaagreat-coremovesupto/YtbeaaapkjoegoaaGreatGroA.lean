/- carouselgrow: Pick and fit. -/
import Derived.Test.YtbeaaapkjoegoaaGreatGroM
import Derived.Test.YtbeaaapkjoegoaaGreatJSigRSigF
import Derived.Test.YtbeaaapkjoegoaaGreatJMemCAns
import Derived.Test.YtbeaaapkjoegoaaGreatJMemIMemN
namespace Go.Proofs.YtbeaaapkjoegoaaGreat
open Go.ChangeShapes Go.WideShapes Go.ChangeAt Go.RowKit
attribute [local go_sem ↓] Go.wp_at_zero Go.wp_at_succ

theorem gpick_any (x n : Int) (h0 : 0 < n) (h1 : n ≤ 1024) (w : World) : Calls Tryz.prog 13 #[.int .i64 x, .int .i64 n] w fun e w' => e = .returned (.int .i64 (x % n)) ∧ w' = w := by
  by_cases ht : x.tmod n < 0
  · have ⟨_, _, e⟩ := tmod_low x n (by omega) ht
    have hm1 := Int.emod_nonneg x (show n ≠ 0 by omega)
    have hm2 := Int.emod_lt_of_pos x (show 0 < n by omega)
    have HE : Hid (wrap64 (x.tmod n + n) = x % n) := by unfold wrap64; rw [Hid, e]; omega
    have hd : decide (x.tmod n < 0) = true := decide_eq_true ht
    have hz : ¬ n = 0 := by omega
    rw [← HE.out]
    clear e hm1 hm2 HE ht h0 h1
    go_enter Tryz.func13, Tryz.ntmps13
    go_wp2
    go_ret
    exact ⟨rfl, rfl⟩
  · have e := tmod_high x n (by omega) (by omega)
    have hd : decide (x.tmod n < 0) = false := decide_eq_false ht
    have hz : ¬ n = 0 := by omega
    rw [← e]
    clear e ht h0 h1
    go_enter Tryz.func13, Tryz.ntmps13
    go_wp2
    go_ret
    exact ⟨rfl, rfl⟩
/-- A list of writes lies behind a slice. -/
def WLst (w : World) (v : Value) (S : List Wt) : Prop := ∃ a cap, v = .slice a S.length cap ∧ S.length ≤ 1048576 ∧ (S = [] ∨ ∃ x, a = some x ∧ x.block < w.heap.size ∧ ∀ i, i < S.length → w.cell? (x.add (i * 2)) = some (.int .i64 (S.getD i noWt).c) ∧ w.cell? ((x.add (i * 2)).add 1) = some (.int .i64 (S.getD i noWt).v))
theorem WLst.later {w w' : World} {v : Value} {S : List Wt} {B : Nat} (h : WLst w v S) (hb : Below B w w') (hB : B = w.heap.size) : WLst w' v S := by
  subst hB
  obtain ⟨a, cap, hv, hm, h⟩ := h
  refine ⟨a, cap, hv, hm, ?_⟩
  rcases h with h | ⟨x, h1, h2, h3⟩
  · exact Or.inl h
  · exact Or.inr ⟨x, h1, Nat.lt_of_lt_of_le h2 hb.size, fun i hi => ⟨cell_later hb (by rw [add_block]; exact h2) (h3 i hi).1, cell_later hb (by rw [add_block, add_block]; exact h2) (h3 i hi).2⟩⟩
theorem info_wr : (Tryz.prog.info? 96).map (fun i => (i.zero, i.size, i.bytes)) = some (some (.agg #[.int .i64 0, .int .i64 0]), 2, 16) := by kernel_rfl