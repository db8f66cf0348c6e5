/- What each small function of the program and of the document's answer does, call by call: the contracts that the statements' walks are made of. -/
import Derived.Test.YtdegladjmbllbaaRows
import Derived.Test.YtdegladjmbllbaaMath
import Derived.WalkKit
import Derived.ProofKit
import Derived.OpenShut
import Derived.ShutString
import Derived.WalkSpells
import Derived.WalkLawsBesides
import Derived.Laws.BytesArg
namespace Go.Proofs.Ytdegladjmbllbaa
open Go.ChangeShapes Go.WideShapes Go.ChangeAt Go.RowKit

/-! ### shift -/
theorem mix_any (x : Int) (w : World) : Calls Try.prog 10 #[.int .u64 x] w fun e w' => e = .returned (.int .u64 (mixV x)) ∧ w' = w := by
  go_enter Try.func10, Try.ntmps10
  go_wp2
  go_ret
  exact ⟨rfl, rfl⟩

theorem head_any (x : Int) (d : Bool) (w : World) : Calls Try.prog 16 #[.int .i64 x, .bool d] w fun e w' => e = .returned (.int .i64 (headV x d)) ∧ w' = w := by
  have h1 := or1 x
  cases d
  all_goals
    go_enter Try.func16, Try.ntmps16
    go_wp2
    go_ret
    exact ⟨by simp [headV], rfl⟩

theorem stamp_any (x : Int) (w : World) : Calls Try.prog 18 #[.int .i64 x] w fun e w' => e = .returned (.int .i64 (x / 2)) ∧ w' = w := by
  go_enter Try.func18, Try.ntmps18
  go_wp2
  go_ret
  exact ⟨rfl, rfl⟩

theorem done_any (x : Int) (w : World) : Calls Try.prog 20 #[.int .i64 x] w fun e w' => e = .returned (.bool (x % 2 == 1)) ∧ w' = w := by
  have h1 := and1 x
  go_enter Try.func20, Try.ntmps20
  go_wp2
  go_ret
  exact ⟨rfl, rfl⟩

theorem rhead_any (x : Int) (d : Bool) (w : World) : Calls Try.prog 17 #[.int .i64 x, .bool d] w fun e w' => e = .returned (.int .i64 (headV x d)) ∧ w' = w := by
  cases d
  · go_enter Try.func17, Try.ntmps17
    go_wp2
    go_ret
    exact ⟨by simp [headV, head_dbl], rfl⟩
  · go_enter Try.func17, Try.ntmps17
    go_wp2
    go_ret
    exact ⟨by simp [headV, head_one], rfl⟩

theorem rstamp_any (x : Int) (h0 : -9223372036854775808 ≤ x) (h1 : x ≤ 9223372036854775807) (w : World) : Calls Try.prog 19 #[.int .i64 x] w fun e w' => e = .returned (.int .i64 (x / 2)) ∧ w' = w := by
  by_cases h : x.tmod 2 < 0
  · have H : Hid (wrap64 ((wrap64 (x - 1)).tdiv 2) = x / 2) := stamp_neg x h0 h1 h
    clear h0 h1
    go_enter Try.func19, Try.ntmps19
    go_wp2
    go_ret
    exact ⟨by simp [H.out], rfl⟩
  · have h' : 0 ≤ x.tmod 2 := by omega
    have H : Hid (wrap64 ((wrap64 (x - x.tmod 2)).tdiv 2) = x / 2) := stamp_pos x h0 h1 h'
    clear h h0 h1
    go_enter Try.func19, Try.ntmps19
    go_wp2
    go_ret
    exact ⟨by simp [H.out], rfl⟩

theorem rdone_any (x : Int) (w : World) : Calls Try.prog 21 #[.int .i64 x] w fun e w' => e = .returned (.bool (x % 2 == 1)) ∧ w' = w := by
  go_enter Try.func21, Try.ntmps21
  go_wp2
  go_ret
  exact ⟨by simp [← done_eq], rfl⟩

/-- 'string(b)' of a row that was just made. -/
theorem conv_new (w : World) (xs : List Int) (n : Nat) (hn : xs.length = n) (c : Array Value) (hc : c = (xs.map (Value.int .u8)).toArray) :
    (convert 57 9 (.slice (some ⟨w.heap.size, 0, none⟩) n n)).run Try.prog (w.alloc (.cells c 5)) = .ok (.string (strOfNums xs)) (w.alloc (.cells c 5)) := by
  subst hc
  refine run_convert_bytes_arg _ 57 5 Try.underlying57 Try.underlying5 w.heap.size 0 n n xs hn (fun i hi => ?_) 9 Try.underlying9
  have hi' : i < xs.length := by omega
  simp [hi']

theorem lay_two (x : Int) (w : World) : Calls Try.prog 30 #[.int .i64 x, .int .i64 2] w fun e w' => e = .returned (.tuple #[.string (strOfNums [x % 256, x / 256 % 256]), .int .i64 0]) ∧ Grown w w' := by
  have hmk : ∀ w, (Instr.makeSlice 57 (.int .i64 2) (.int .i64 2)).run Try.prog w = .ok (.slice (some ⟨w.heap.size, 0, none⟩) 2 2) (w.alloc (.cells #[.int .u8 0, .int .u8 0] 5)) := fun _ => by kernel_rfl
  have hcv := fun w : World => conv_new w [x % 256, x / 256 % 256] 2 rfl #[.int .u8 (x % 256), .int .u8 (x / 256 % 256)] rfl
  go_enter Try.func30, Try.ntmps30
  go_wp2
  refine wp_loop_rounds 3 ?_
  rw [rounds_succ]
  go_wp2
  rw [rounds_succ]
  go_wp2
  rw [rounds_succ]
  go_wp2
  go_ret2
  exact ⟨rfl, (Grown.refl _).alloc _ _⟩

theorem shown_any (w : World) : Calls Try.prog 9 #[] w fun e w' => e = .returned (.bool true) ∧ Grown w w' := by
  have hm : (mixV 1 == 12994781566227106604) = true := by decide +kernel
  have hh : (headV 5 true == 11) = true := by decide +kernel
  have hs : ((strOfNums [2, 1]).toList == [2, 1]) = true := by decide +kernel
  go_enter Try.func9, Try.ntmps9
  go_wp2_with fail
  refine (mix_any _ _).mono ?_
  rintro e w' ⟨rfl, rfl⟩
  go_wp2_with fail
  refine (head_any _ _ _).mono ?_
  rintro e w' ⟨rfl, rfl⟩
  go_wp2_with fail
  refine (stamp_any _ _).mono ?_
  rintro e w' ⟨rfl, rfl⟩
  go_wp2_with fail
  refine (lay_two _ _).mono ?_
  rintro e w' ⟨rfl, hg⟩
  go_wp2
  go_ret
  exact ⟨rfl, hg⟩

/-! ### the document's answer: loops -/
theorem down_any (x : Int) (k : Nat) (hk : k ≤ 1000) (h0 : 0 ≤ x) (h1 : x ≤ 18446744073709551615) (w : World) : Calls Try.prog 34 #[.int .u64 x, .int .i64 k] w fun e w' => e = .returned (.int .u64 (shrV x k)) ∧ w' = w := by
  go_enter Try.func34, Try.ntmps34
  go_wp2
  go_loop [0, 5] (fun v i => ∃ j : Nat, j ≤ k ∧ i = .int .i64 j ∧ v = .int .u64 (shrV x j)) (fun _ i => k - (intOf i).toNat)
  case atStart => exact ⟨0, Nat.zero_le _, rfl, by rw [shr_zero]⟩
  case round =>
    obtain ⟨j, hj, rfl, rfl⟩ := hrel
    have hb := shr_lo x j h0
    have hb' := shr_hi x j h0 h1
    by_cases hlt : j < k
    · go_wp2
      go_round
      case rel => exact ⟨j + 1, by omega, by go_num, by rw [shr_succ]⟩
      case measure => simp [intOf]; omega
    · have e : j = k := by omega
      subst e
      go_wp2
      go_ret
      exact ⟨rfl, rfl⟩

theorem times_any (x y : Int) (h0 : 0 ≤ x) (h1 : x ≤ 18446744073709551615) (h2 : 0 ≤ y) (h3 : y ≤ 18446744073709551615) (w : World) : Calls Try.prog 35 #[.int .u64 x, .int .u64 y] w fun e w' => e = .returned (.int .u64 (IntKind.u64.wrap (x * y))) ∧ w' = w := by
  go_enter Try.func35, Try.ntmps35
  go_wp2
  go_loop [0, 1, 5, 6] (fun u v o i => ∃ j : Nat, j ≤ 64 ∧ i = .int .i64 j ∧ u = .int .u64 (txV x j) ∧ v = .int .u64 (tyV y j) ∧ o = .int .u64 (toV x y j)) (fun _ _ _ i => 64 - (intOf i).toNat)
  case atStart => exact ⟨0, by omega, rfl, by rw [tx_zero x h0 (by omega)], by rw [ty_zero], by rw [to_zero]⟩
  case round =>
    obtain ⟨j, hj, rfl, rfl, rfl, rfl⟩ := hrel
    have hx := tx_bd x j
    have hy := ty_bd y j h2
    have hy' := ty_le y j h2 h3
    have ho := to_bd x y j
    by_cases hlt : j < 64
    · by_cases hodd : tyV y j % 2 = 1
      · have H : Hid (tyV y j % 2 = 1) := hodd
        have hb : (tyV y j % 2 == 1) = true := by simp [hodd]
        clear hodd
        go_wp2
        go_round
        case rel => exact ⟨j + 1, by omega, by go_num, by rw [tx_succ], by rw [ty_succ], by rw [to_odd x y j H.out]⟩
        case measure => simp [intOf]; omega
      · have H : Hid (¬ tyV y j % 2 = 1) := hodd
        have hb : (tyV y j % 2 == 1) = false := by simp [hodd]
        clear hodd
        go_wp2
        go_round
        case rel => exact ⟨j + 1, by omega, by go_num, by rw [tx_succ], by rw [ty_succ], by rw [to_even x y j H.out]⟩
        case measure => simp [intOf]; omega
    · have e : j = 64 := by omega
      subst e
      go_wp2
      go_ret
      exact ⟨by simp [to_end x y h2 (by omega)], rfl⟩
end Go.Proofs.Ytdegladjmbllbaa
