/- What the program does with bits of signatures: bitAt, With, Has, and the place of a word's lowest bit. -/
import Derived.Test.YtfbbcjlbelnfaaaSigB
namespace Go.Proofs.Ytfbbcjlbelnfaaa.Sg
open Go.ChangeShapes Go.WideShapes Go.ChangeAt Go.RowKit

theorem nat_ne (n : Nat) : (((n : Nat) : Int) != 0) = (n != 0) := by cases n <;> rfl

theorem tab_at (t : Nat) (ht : t < 64) : ∃ i : Nat, i < 64 ∧ IntKind.u64.wrap (((2 ^ t : Nat) : Int) * 285870213051353865) / 288230376151711744 = (i : Int) ∧ tabZ.getD i 0 = (t : Int) := by
  have h : ∀ t : Fin 64, ((2 ^ t.val : Nat) * 285870213051353865 % 18446744073709551616 / 288230376151711744 < 64 ∧ tabZ.getD ((2 ^ t.val : Nat) * 285870213051353865 % 18446744073709551616 / 288230376151711744) 0 = (t.val : Int)) := by decide +kernel
  obtain ⟨h1, h2⟩ := h ⟨t, ht⟩
  refine ⟨_, h1, ?_, h2⟩
  rw [IntKind.wrap_u64]
  simp

theorem low_alone (x t m : Nat) (hx : x < 18446744073709551616) (h : x = 2 ^ t * (2 * m + 1)) : bits .and .u64 (x : Int) (IntKind.u64.wrap (-(x : Int))) = ((2 ^ t : Nat) : Int) := by
  have ht := low_lt x t m h hx
  have h0 : 0 < x := by
    rw [h]
    exact Nat.mul_pos (Nat.two_pow_pos t) (by omega)
  have e : IntKind.u64.wrap (-(x : Int)) = ((18446744073709551616 - x : Nat) : Int) := by rw [IntKind.wrap_u64]; omega
  rw [e, bits_and_u64_nat _ _ hx (by omega)]
  subst h
  rw [low_one t m ht hx]
