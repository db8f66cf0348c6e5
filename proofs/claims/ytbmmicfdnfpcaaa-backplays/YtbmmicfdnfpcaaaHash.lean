/- What Mix and SigHash do, in the program and in the document's answer, call by call. -/
import Derived.Test.YtbmmicfdnfpcaaaRows
import Derived.Test.YtbmmicfdnfpcaaaMath
import Derived.WalkKit
import Derived.ProofKit
import Derived.OpenShut
import Derived.ShutString
import Derived.WalkSpells
import Derived.WalkLawsBesides
import Derived.Laws.BytesArg
import Derived.Deep.QuietTactic
import Derived.BigQuiet
import Derived.ChangeOld
import Derived.Below
import Derived.WalkSmall
import Derived.Laws.Rows
import Derived.Laws.Tables
namespace Go.Proofs.Ytbmmicfdnfpcaaa.Sg
open Go.ChangeShapes Go.WideShapes Go.ChangeAt Go.RowKit

theorem mix_any (x : Int) (w : World) : Calls Try.prog 60 #[.int .u64 x] w fun e w' => e = .returned (.int .u64 (mixV x)) ∧ w' = w := by
  go_enter Try.func60, Try.ntmps60
  go_wp2
  go_ret
  exact ⟨rfl, rfl⟩

theorem down_any (x : Int) (k : Nat) (hk : k ≤ 1000) (h0 : 0 ≤ x) (h1 : x ≤ 18446744073709551615) (w : World) : Calls Try.prog 67 #[.int .u64 x, .int .i64 k] w fun e w' => e = .returned (.int .u64 (shrV x k)) ∧ w' = w := by
  go_enter Try.func67, Try.ntmps67
  go_wp2
  go_loop [0, 5] (fun v i => ∃ j : Nat, j ≤ k ∧ i = .int .i64 j ∧ v = .int .u64 (shrV x j)) (fun _ i => k - (intOf i).toNat)
  case atStart => exact ⟨0, Nat.zero_le _, rfl, by rw [shr_zero]⟩
  case round =>
    obtain ⟨j, hj, rfl, rfl⟩ := hrel
    have hb := shr_lo x j h0
    have hb' := shr_hi x j h0 h1
    by_cases hlt : j < k
    · go_wp2
      go_round
      case rel => exact ⟨j + 1, by omega, by go_num, by rw [shr_succ]⟩
      case measure => simp [intOf]; omega
    · have e : j = k := by omega
      subst e
      go_wp2
      go_ret
      exact ⟨rfl, rfl⟩

theorem times_any (x y : Int) (h0 : 0 ≤ x) (h1 : x ≤ 18446744073709551615) (h2 : 0 ≤ y) (h3 : y ≤ 18446744073709551615) (w : World) : Calls Try.prog 75 #[.int .u64 x, .int .u64 y] w fun e w' => e = .returned (.int .u64 (IntKind.u64.wrap (x * y))) ∧ w' = w := by
  go_enter Try.func75, Try.ntmps75
  go_wp2
  go_loop [0, 1, 5, 6] (fun u v o i => ∃ j : Nat, j ≤ 64 ∧ i = .int .i64 j ∧ u = .int .u64 (txV x j) ∧ v = .int .u64 (tyV y j) ∧ o = .int .u64 (toV x y j)) (fun _ _ _ i => 64 - (intOf i).toNat)
  case atStart => exact ⟨0, by omega, rfl, by rw [tx_zero x h0 (by omega)], by rw [ty_zero], by rw [to_zero]⟩
  case round =>
    obtain ⟨j, hj, rfl, rfl, rfl, rfl⟩ := hrel
    have hx := tx_bd x j
    have hy := ty_bd y j h2
    have hy' := ty_le y j h2 h3
    have ho := to_bd x y j
    by_cases hlt : j < 64
    · by_cases hodd : tyV y j % 2 = 1
      · have H : Hid (tyV y j % 2 = 1) := hodd
        have hb : (tyV y j % 2 == 1) = true := by simp [hodd]
        clear hodd
        go_wp2
        go_round
        case rel => exact ⟨j + 1, by omega, by go_num, by rw [tx_succ], by rw [ty_succ], by rw [to_odd x y j H.out]⟩
        case measure => simp [intOf]; omega
      · have H : Hid (¬ tyV y j % 2 = 1) := hodd
        have hb : (tyV y j % 2 == 1) = false := by simp [hodd]
        clear hodd
        go_wp2
        go_round
        case rel => exact ⟨j + 1, by omega, by go_num, by rw [tx_succ], by rw [ty_succ], by rw [to_even x y j H.out]⟩
        case measure => simp [intOf]; omega
    · have e : j = 64 := by omega
      subst e
      go_wp2
      go_ret
      exact ⟨by simp [to_end x y h2 (by omega)], rfl⟩

theorem down33 (x : Int) (h0 : 0 ≤ x) (h1 : x ≤ 18446744073709551615) (w : World) : Calls Try.prog 67 #[.int .u64 x, .int .i64 33] w fun e w' => e = .returned (.int .u64 (x / 8589934592)) ∧ w' = w :=
  down_any x 33 (by decide) h0 h1 w

theorem down55 (x : Int) (h0 : 0 ≤ x) (h1 : x ≤ 18446744073709551615) (w : World) : Calls Try.prog 67 #[.int .u64 x, .int .i64 55] w fun e w' => e = .returned (.int .u64 (x / 36028797018963968)) ∧ w' = w :=
  down_any x 55 (by decide) h0 h1 w

theorem rmix_any (x : Int) (h0 : 0 ≤ x) (h1 : x ≤ 18446744073709551615) (w : World) : Calls Try.prog 66 #[.int .u64 x] w fun e w' => e = .returned (.int .u64 (mixV x)) ∧ w' = w := by
  go_enter Try.func66, Try.ntmps66
  go_wp2_with fail
  refine (down33 _ h0 h1 _).mono ?_
  rintro e w' ⟨rfl, rfl⟩
  go_wp2_with fail
  refine (times_any _ _ (fold_bd x).1 (fold_bd x).2 (by decide) (by decide) _).mono ?_
  rintro e w' ⟨rfl, rfl⟩
  go_wp2_with fail
  refine (down33 _ (wrap_bd _).1 (wrap_bd _).2 _).mono ?_
  rintro e w' ⟨rfl, rfl⟩
  go_wp2_with fail
  refine (times_any _ _ (fold_bd _).1 (fold_bd _).2 (by decide) (by decide) _).mono ?_
  rintro e w' ⟨rfl, rfl⟩
  go_wp2_with fail
  refine (down33 _ (wrap_bd _).1 (wrap_bd _).2 _).mono ?_
  rintro e w' ⟨rfl, rfl⟩
  go_wp2
  go_ret
  exact ⟨rfl, rfl⟩

/-- The bit of a cell. -/
def sigV (c : Int) : Int := wrap64 (mixV (IntKind.u64.wrap c) / 36028797018963968)

theorem sig_bd (c : Int) : 0 ≤ sigV c ∧ sigV c < 512 := by
  have h := mix_bd (IntKind.u64.wrap c)
  unfold sigV wrap64
  omega

theorem sighash_any (c : Int) (w : World) : Calls Try.prog 45 #[.int .i64 c] w fun e w' => e = .returned (.int .i64 (sigV c)) ∧ w' = w := by
  go_enter Try.func45, Try.ntmps45
  go_wp2_with fail
  refine (mix_any _ _).mono ?_
  rintro e w' ⟨rfl, rfl⟩
  go_wp2
  go_ret
  exact ⟨rfl, rfl⟩

theorem rsighash_any (c : Int) (w : World) : Calls Try.prog 49 #[.int .i64 c] w fun e w' => e = .returned (.int .i64 (sigV c)) ∧ w' = w := by
  go_enter Try.func49, Try.ntmps49
  go_wp2_with fail
  refine (rmix_any _ (wrap_bd _).1 (wrap_bd _).2 _).mono ?_
  rintro e w' ⟨rfl, rfl⟩
  go_wp2_with fail
  refine (down55 _ (mix_bd _).1 (mix_bd _).2 _).mono ?_
  rintro e w' ⟨rfl, rfl⟩
  go_wp2
  go_ret
  exact ⟨rfl, rfl⟩

end Go.Proofs.Ytbmmicfdnfpcaaa.Sg