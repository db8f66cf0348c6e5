/- carouselgrow: Pick and fit. -/
import Derived.Test.YtgjahjnomfijfaaGreatGroM
import Derived.Test.YtgjahjnomfijfaaGreatJSigRSigF
import Derived.Test.YtgjahjnomfijfaaGreatJMemCAns
import Derived.Test.YtgjahjnomfijfaaGreatJMemIMemN
namespace Go.Proofs.YtgjahjnomfijfaaGreat
open Go.ChangeShapes Go.WideShapes Go.ChangeAt Go.RowKit
attribute [local go_sem ↓] Go.wp_at_zero Go.wp_at_succ
theorem gpick_any (x n : Int) (h0 : 0 < n) (h1 : n ≤ 1024) (w : World) : Calls Tryz.prog 9 #[.int .i64 x, .int .i64 n] w fun e w' => e = .returned (.int .i64 (x % n)) ∧ w' = w := by
 by_cases ht : x.tmod n < 0
 ·have ⟨_, _, e⟩ := tmod_low x n (by omega) ht
  have hm1 := Int.emod_nonneg x (show n ≠ 0 by omega)
  have hm2 := Int.emod_lt_of_pos x (show 0 < n by omega)
  have HE : Hid (wrap64 (x.tmod n + n) = x % n) := by unfold wrap64; rw [Hid, e]; omega
  have hd : decide (x.tmod n < 0) = true := decide_eq_true ht
  have hz : ¬ n = 0 := by omega
  rw [← HE.out]
  clear e hm1 hm2 HE ht h0 h1
  go_enter Tryz.func9, Tryz.ntmps9
  go_wp2
  go_ret
  exact ⟨rfl, rfl⟩
 ·have e := tmod_high x n (by omega) (by omega)
  have hd : decide (x.tmod n < 0) = false := decide_eq_false ht
  have hz : ¬ n = 0 := by omega
  rw [← e]
  clear e ht h0 h1
  go_enter Tryz.func9, Tryz.ntmps9
  go_wp2
  go_ret
  exact ⟨rfl, rfl⟩
def WLst (w : World) (v : Value) (S : List Wt) : Prop := ∃ a cap, v = .slice a S.length cap ∧ S.length ≤ 1048576 ∧ (S = [] ∨ ∃ x, a = some x ∧ x.block < w.heap.size ∧ ∀ i, i < S.length → w.cell? (x.add (i * 2)) = some (.int .i64 (S.getD i noWt).c) ∧ w.cell? ((x.add (i * 2)).add 1) = some (.int .i64 (S.getD i noWt).v))
theorem info_wr : (Tryz.prog.info? 60).map (fun i => (i.zero, i.size, i.bytes)) = some (some (.agg #[.int .i64 0, .int .i64 0]), 2, 16) := by kernel_rfl
