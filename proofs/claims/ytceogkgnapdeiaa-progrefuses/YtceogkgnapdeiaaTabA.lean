/- The program's table as it lies in its block: size, first, cellIn, Len. -/
import Derived.Test.YtceogkgnapdeiaaTabM
namespace Go.Proofs.Ytceogkgnapdeiaa
open Go.ChangeShapes Go.WideShapes Go.ChangeAt Go.RowKit

/-- A table lies in a block. -/
def TabAt (w : World) (B : Nat) (s : Tb) : Prop := w.heap[B]? = some (.cells (tabC s) 86 (0, 0))
theorem TabAt.cell {w : World} {B : Nat} {s : Tb} (h : TabAt w B s) (i : Nat) (hi : i < 115) : w.cell? ⟨B, i, none⟩ = some (.int .i64 (tf s i)) := by
  rw [cell_at h]; exact cellsOf_get _ _ hi
theorem TabAt.keep {w w' : World} {B : Nat} {s : Tb} {F : List Nat} (h : TabAt w B s) (k : Keep F w w') (hB : B ∉ F) : TabAt w' B s := by
  unfold TabAt; rw [k.block _ (heap_lt h) hB]; exact h
theorem TabAt.below {w w' : World} {B : Nat} {s : Tb} (h : TabAt w B s) (k : Below w.heap.size w w') : TabAt w' B s := h.keep (Keep.of_below k []) (by simp)
theorem TabAt.k {w : World} {B : Nat} {s : Tb} (h : TabAt w B s) : w.cell? ⟨B, 1, none⟩ = some (.int .i64 (s.k : Int)) := h.cell 1 (by decide)
theorem TabAt.m {w : World} {B : Nat} {s : Tb} (h : TabAt w B s) : w.cell? ⟨B, 0, none⟩ = some (.int .i64 (s.m : Int)) := h.cell 0 (by decide)
theorem TabAt.n {w : World} {B : Nat} {s : Tb} (h : TabAt w B s) : w.cell? ⟨B, 2, none⟩ = some (.int .i64 (s.R.length : Int)) := h.cell 2 (by decide)
theorem TabAt.c {w : World} {B : Nat} {s : Tb} (h : TabAt w B s) (i : Nat) (hi : i < 24) : w.cell? ⟨B, 3 + i * 2, none⟩ = some (.int .i64 (s.R.getD i noWr).c) := by rw [← tf_c s i hi]; exact h.cell _ (by omega)
theorem TabAt.v {w : World} {B : Nat} {s : Tb} (h : TabAt w B s) (i : Nat) (hi : i < 24) : w.cell? ⟨B, 3 + i * 2 + 1, none⟩ = some (.int .i64 (s.R.getD i noWr).v) := by rw [← tf_v s i hi]; exact h.cell _ (by omega)
theorem TabAt.p {w : World} {B : Nat} {s : Tb} (h : TabAt w B s) (q : Nat) (hq : q < 64) : w.cell? ⟨B, 51 + q, none⟩ = some (.int .i64 (s.P q : Int)) := by rw [← tf_p s q]; exact h.cell _ (by omega)

theorem pow_eq {k : Nat} (hk : k ≤ 6) : wrap64 (2 ^ k) = ((2 ^ k : Nat) : Int) := by
  have h1 := pw_64 hk
  have h2 : (2 : Int) ^ k = ((2 ^ k : Nat) : Int) := by simp
  rw [h2]
  generalize 2 ^ k = n at *
  unfold wrap64
  omega
theorem first_eq {k : Nat} (hk : k ≤ 6) (c : Int) : wrap64 (IntKind.u64.wrap (IntKind.u64.wrap c * 11400714819323198485) / 2 ^ (64 - k)) = (fst k c : Int) := by
  have h1 : IntKind.u64.wrap (IntKind.u64.wrap c * 11400714819323198485) = c * 11400714819323198485 % 18446744073709551616 := by
    rw [IntKind.wrap_u64, IntKind.wrap_u64, Int.mul_emod, Int.emod_emod_of_dvd _ (Int.dvd_refl _), ← Int.mul_emod]
  have h2 : (((c * 11400714819323198485 % 18446744073709551616).toNat : Nat) : Int) = c * 11400714819323198485 % 18446744073709551616 := Int.toNat_of_nonneg (Int.emod_nonneg _ (by decide))
  have h3 : c * 11400714819323198485 % 18446744073709551616 / 2 ^ (64 - k) = (fst k c : Int) := by
    unfold fst
    generalize c * 11400714819323198485 % 18446744073709551616 = x at *
    rw [Int.natCast_ediv, h2]
    congr 1
  rw [h1, h3]
  have h4 := fst_lt k (by omega) c
  have h5 := pw_64 hk
  generalize fst k c = f at *
  generalize 2 ^ k = n at *
  unfold wrap64
  omega
