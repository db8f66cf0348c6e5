/- The example at the head of layer 12's statements, as plain data. -/
import Derived.Test.YtgjahjnomfijfaaGreatJTxVTxN
import Derived.KernelRfl
namespace Go.Proofs.YtgjahjnomfijfaaGreat
open Go.RowKit (wrap64)
def oA : Out := doX 4 4 (newX 4 9 false 2) [] 1 ⟨1, 0, 0, 0⟩
def oB : Out := doX 4 4 oA.x oA.L 1 ⟨3, 3, 7, 0⟩
def oC : Out := doX 4 4 oB.x oB.L 1 ⟨2, 3, 0, 0⟩
def oD : Out := doX 4 4 oC.x oC.L 1 ⟨4, 0, 0, 0⟩
def oS : Nat → Out
 | 0 => oD
 | n + 1 => stepX 4 4 (oS n).x (oS n).L 1
theorem oA_k : oA.k = 3 := by kernel_rfl
theorem oB_k : oB.k = 3 := by kernel_rfl
theorem oC_v : oC.v = 7 := by kernel_rfl
theorem oD_k : oD.k = 2 := by kernel_rfl
theorem oD_p : oD.x.phase = 4 := by kernel_rfl
theorem oS_12 : (oS 12).x.phase = 0 := by kernel_rfl
theorem oS_w : wordOf (oS 12).L ⟨4, 3, 0⟩ = 7 := by kernel_rfl
theorem wd_nil : Wd [] := fun a => by rw [wordOf_nil]; unfold W64 first; split <;> omega
theorem sh_a : XOk oA.x ∧ Wd oA.L ∧ oA.L.length ≤ 1 ∧ oA.x.ev.length ≤ 2 := by
 obtain ⟨a, b, c, d⟩ := xok_do (c := 4) (r := 4) (t := 1) (a := ⟨1, 0, 0, 0⟩) (xok_new (s := 4) (m := 2) (n := 9) (mu := false) (by omega) (by omega) (by omega) (by omega) (by omega) (by omega)) wd_nil (by omega) (by unfold W64; decide)
 exact ⟨a, b, c, d⟩
theorem sh_b : XOk oB.x ∧ Wd oB.L ∧ oB.L.length ≤ 2 ∧ oB.x.ev.length ≤ 4 := by
 obtain ⟨h1, h2, h3, h4⟩ := sh_a
 obtain ⟨a, b, c, d⟩ := xok_do (c := 4) (r := 4) (t := 1) (a := ⟨3, 3, 7, 0⟩) h1 h2 (by omega) (by unfold W64; decide)
 exact ⟨a, b, Nat.le_trans c (by omega), Nat.le_trans d (by omega)⟩
theorem sh_c : XOk oC.x ∧ Wd oC.L ∧ oC.L.length ≤ 3 ∧ oC.x.ev.length ≤ 6 := by
 obtain ⟨h1, h2, h3, h4⟩ := sh_b
 obtain ⟨a, b, c, d⟩ := xok_do (c := 4) (r := 4) (t := 1) (a := ⟨2, 3, 0, 0⟩) h1 h2 (by omega) (by unfold W64; decide)
 exact ⟨a, b, Nat.le_trans c (by omega), Nat.le_trans d (by omega)⟩
theorem sh_s (n : Nat) : XOk (oS n).x ∧ Wd (oS n).L ∧ (oS n).L.length ≤ 4 + n ∧ (oS n).x.ev.length ≤ 8 + n := by
 induction n with
 | zero =>
  obtain ⟨h1, h2, h3, h4⟩ := sh_c
  obtain ⟨a, b, c, d⟩ := xok_do (c := 4) (r := 4) (t := 1) (a := ⟨4, 0, 0, 0⟩) h1 h2 (by omega) (by unfold W64; decide)
  exact ⟨a, b, Nat.le_trans c (by omega), Nat.le_trans d (by omega)⟩
 | succ n ih =>
  obtain ⟨h1, h2, h3, h4⟩ := ih
  obtain ⟨a, b, c, d⟩ := xok_step (c := 4) (r := 4) (t := 1) h1 h2
  exact ⟨a, b, Nat.le_trans c (by omega), Nat.le_trans d (by omega)⟩
end Go.Proofs.YtgjahjnomfijfaaGreat
