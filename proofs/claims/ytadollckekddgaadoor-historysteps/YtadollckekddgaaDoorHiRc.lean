/- Data: how many events of a kind. -/
import Derived.Test.YtadollckekddgaaDoorHiA
namespace Go.Proofs.YtadollckekddgaaDoor.Hi
open Go.ChangeShapes Go.WideShapes Go.ChangeAt Go.RowKit
set_option linter.unusedVariables false

def hitB (kind tx : Int) (e : Ev) : Bool := decide (e.kd = kind) && (decide (tx < 0) || decide (e.tx = tx))
def cntD (H : List Ev) (to : Nat) (kind tx : Int) : Nat := (H.take to).countP (hitB kind tx)
theorem cnt_zero (H : List Ev) (kind tx : Int) : cntD H 0 kind tx = 0 := by simp [cntD]
theorem cnt_step {H : List Ev} {j : Nat} (hj : j < H.length) (kind tx : Int) : cntD H (j + 1) kind tx = cntD H j kind tx + if hitB kind tx (ne H j) = true then 1 else 0 := by
  unfold cntD
  rw [take_ne hj, List.countP_append]
  simp [List.countP_cons]
theorem cnt_le (H : List Ev) (to : Nat) (kind tx : Int) : cntD H to kind tx ≤ to := by
  unfold cntD
  exact Nat.le_trans List.countP_le_length (List.length_take_le _ _)
theorem hit_no {kind tx : Int} {e : Ev} (h : e.kd ≠ kind ∨ (0 ≤ tx ∧ e.tx ≠ tx)) : hitB kind tx e = false := by
  unfold hitB
  rcases h with h | ⟨h1, h2⟩
  · simp [h]
  · simp [h2, show ¬ tx < 0 by omega]
theorem hit_yes {kind tx : Int} {e : Ev} (h : e.kd = kind) (h2 : tx < 0 ∨ e.tx = tx) : hitB kind tx e = true := by
  unfold hitB
  rcases h2 with h2 | h2 <;> simp [h, h2]
theorem inc_cast {a b : Nat} (h : b ≤ 925925926000) (hab : a ≤ b) : wrap64 ((a : Int) + 1) = (a : Int) + 1 := by
  have h1 : (a : Int) ≤ 925925926000 := by omega
  unfold wrap64
  omega
/-- The cells of an event's kind and transaction. -/
theorem evl_kt {w : World} {x : Addr} {H : List Ev} {i : Nat} (hc : ∀ j, j < 19 → w.cell? ((x.add (i * 19)).add j) = (evC (ne H i))[j]?) : w.cell? ⟨(x.add (i * 19)).block, (x.add (i * 19)).off + 3, none⟩ = some (.int .i64 (ne H i).kd) ∧ w.cell? ⟨(x.add (i * 19)).block, (x.add (i * 19)).off + 2, none⟩ = some (.int .i64 (ne H i).tx) :=
  ⟨by rw [(evl_cells hc).2 3 (by decide) (by decide)]; rfl, by rw [(evl_cells hc).2 2 (by decide) (by decide)]; rfl⟩
end Go.Proofs.YtadollckekddgaaDoor.Hi
