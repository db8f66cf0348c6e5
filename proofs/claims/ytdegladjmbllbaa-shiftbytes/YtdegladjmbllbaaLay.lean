/- Contracts of Lay, in the program and in the document's answer, size by size: the bytes, and a world in which nothing old has turned. -/
import Derived.Test.YtdegladjmbllbaaNar
namespace Go.Proofs.Ytdegladjmbllbaa
open Go.ChangeShapes Go.WideShapes Go.ChangeAt Go.RowKit

/-! ### the bytes of a number -/
def xb (x : Int) (j : Nat) : Int := x / 256 ^ j
def layN (x : Int) (n : Nat) : List Int := (List.range n).map fun j => xb x j % 256

theorem pow256 (j : Nat) : (0 : Int) < 256 ^ j := Int.pow_pos (by decide)
theorem xb_zero (x : Int) : xb x 0 = x := by unfold xb; simp
theorem xb_succ (x : Int) (j : Nat) : xb x j / 256 = xb x (j + 1) := by
  unfold xb
  rw [Int.ediv_ediv_of_nonneg (Int.le_of_lt (pow256 j)), Int.pow_succ]
theorem xb_bd (x : Int) (j : Nat) (h0 : -9223372036854775808 ≤ x) (h1 : x ≤ 9223372036854775807) : -9223372036854775808 ≤ xb x j ∧ xb x j ≤ 9223372036854775807 := by
  induction j with
  | zero => rw [xb_zero]; exact ⟨h0, h1⟩
  | succ j ih => rw [← xb_succ]; omega
theorem lay_succ (x : Int) (n : Nat) : layN x (n + 1) = layN x n ++ [xb x n % 256] := by
  unfold layN
  rw [List.range_succ, List.map_append]
  rfl
theorem lay_len (x : Int) (n : Nat) : (layN x n).length = n := by unfold layN; simp
theorem xb_step (x : Int) : (x - x % 256).tdiv 256 = x / 256 := by
  have e : x - x % 256 = 256 * (x / 256) := by omega
  rw [e, Int.mul_tdiv_cancel_left _ (by decide)]

/-- 'string(b)' of a row that the call owns. -/
theorem conv_own (w : World) (base : Nat) (v : Value) (n : Nat) (xs : List Int) (hown : w.ownsRow base 5 1 v n (xs.map (Value.int .u8))) :
    (convert 57 9 v).run Try.prog w = .ok (.string (strOfNums xs)) w := by
  obtain ⟨hl, h⟩ := hown
  have hl' : xs.length = n := by simpa using hl
  rcases h with ⟨rfl, rfl⟩ | ⟨g, cap, cur, rfl, _, hb, hn, _, hc, ht⟩
  · have : xs = [] := List.length_eq_zero_iff.1 hl'
    subst this
    rw [run_convert_bytes_nil w 57 5 Try.underlying57 Try.underlying5 0 0 9 Try.underlying9]
    rfl
  · refine run_convert_bytes_arg _ 57 5 Try.underlying57 Try.underlying5 g 0 n cap xs hl' (fun i hi => ?_) 9 Try.underlying9
    have hi' : i < xs.length := by omega
    have e1 : (cur.toList.take (n * 1))[i]? = some (Value.int .u8 (xs.getD i 0)) := by
      rw [ht]
      simp [List.getElem?_eq_getElem hi', List.getD]
    rw [List.getElem?_take] at e1
    split at e1
    · simp only [World.cell?, hb, Nat.zero_add]
      simpa using e1
    · cases e1

theorem sized_any (n : Int) (w : World) (h : n = 1 ∨ n = 2 ∨ n = 4 ∨ n = 8) : Calls Try.prog 41 #[.int .i64 n] w fun e w' => e = .returned (.bool true) ∧ w' = w := by
  rcases h with rfl | rfl | rfl | rfl
  all_goals
    go_enter Try.func41, Try.ntmps41
    go_wp2
    go_ret
    exact ⟨rfl, rfl⟩
theorem sized_not (n : Int) (w : World) (h : ¬ (n = 1 ∨ n = 2 ∨ n = 4 ∨ n = 8)) : Calls Try.prog 41 #[.int .i64 n] w fun e w' => e = .returned (.bool false) ∧ w' = w := by
  have h1 : (n == 1) = false := by simp; omega
  have h2 : (n == 2) = false := by simp; omega
  have h4 : (n == 4) = false := by simp; omega
  have h8 : (n == 8) = false := by simp; omega
  clear h
  go_enter Try.func41, Try.ntmps41
  go_wp2
  go_ret
  exact ⟨rfl, rfl⟩
theorem isSize_any (n : Int) (w : World) (h : n = 1 ∨ n = 2 ∨ n = 4 ∨ n = 8) : Calls Try.prog 39 #[.int .i64 n] w fun e w' => e = .returned (.bool true) ∧ w' = w := by
  rcases h with rfl | rfl | rfl | rfl
  all_goals
    go_enter Try.func39, Try.ntmps39
    go_wp2
    go_ret
    exact ⟨rfl, rfl⟩
theorem isSize_not (n : Int) (w : World) (h : ¬ (n = 1 ∨ n = 2 ∨ n = 4 ∨ n = 8)) : Calls Try.prog 39 #[.int .i64 n] w fun e w' => e = .returned (.bool false) ∧ w' = w := by
  have h1 : (n == 1) = false := by simp; omega
  have h2 : (n == 2) = false := by simp; omega
  have h4 : (n == 4) = false := by simp; omega
  have h8 : (n == 8) = false := by simp; omega
  clear h
  go_enter Try.func39, Try.ntmps39
  go_wp2
  go_ret
  exact ⟨rfl, rfl⟩

theorem rlay_not (x n : Int) (w : World) (h : ¬ (n = 1 ∨ n = 2 ∨ n = 4 ∨ n = 8)) : Calls Try.prog 31 #[.int .i64 x, .int .i64 n] w fun e w' => e = .returned (.tuple #[.string ByteArray.empty, .int .i64 1]) ∧ w' = w := by
  have HS : Hid (∀ w, Calls Try.prog 41 #[.int .i64 n] w fun e w' => e = .returned (.bool false) ∧ w' = w) := fun w => sized_not n w h
  clear h
  go_enter Try.func31, Try.ntmps31
  go_wp2_with fail
  refine (HS.out _).mono ?_
  rintro e w' ⟨rfl, rfl⟩
  go_wp2
  go_ret2
  exact ⟨rfl, rfl⟩
theorem lay_not (x n : Int) (w : World) (h : ¬ (n = 1 ∨ n = 2 ∨ n = 4 ∨ n = 8)) : Calls Try.prog 30 #[.int .i64 x, .int .i64 n] w fun e w' => e = .returned (.tuple #[.string ByteArray.empty, .int .i64 1]) ∧ w' = w := by
  have HS : Hid (∀ w, Calls Try.prog 39 #[.int .i64 n] w fun e w' => e = .returned (.bool false) ∧ w' = w) := fun w => isSize_not n w h
  clear h
  go_enter Try.func30, Try.ntmps30
  go_wp2_with fail
  refine (HS.out _).mono ?_
  rintro e w' ⟨rfl, rfl⟩
  go_wp2
  go_ret2
  exact ⟨rfl, rfl⟩

theorem Try.info5 : (Try.prog.info? 5).map (fun i => (i.zero, i.size, i.bytes)) = some (some (.int .u8 0), 1, 1) := by kernel_rfl

theorem own_block {w : World} {base : Nat} {e : TypeId} {size : Nat} {v : Value} {n : Nat} {xs : List Value} (h : w.ownsRow base e size v n xs) : ∀ k, v.ownBlock = some k → base ≤ k := by
  obtain ⟨_, h⟩ := h
  intro k hk
  rcases h with ⟨rfl, _⟩ | ⟨g, cap, cur, rfl, hg, _⟩
  · cases hk
  · simp [Value.ownBlock] at hk
    omega

theorem rlay_any (x : Int) (n : Nat) (h0 : -9223372036854775808 ≤ x) (h1 : x ≤ 9223372036854775807) (hn : (n : Int) = 1 ∨ (n : Int) = 2 ∨ (n : Int) = 4 ∨ (n : Int) = 8) (w : World) : Calls Try.prog 31 #[.int .i64 x, .int .i64 n] w fun e w' => e = .returned (.tuple #[.string (strOfNums (layN x n)), .int .i64 0]) ∧ Below w.heap.size w w' := by
  have HS : Hid (∀ w, Calls Try.prog 41 #[.int .i64 n] w fun e w' => e = .returned (.bool true) ∧ w' = w) := fun w => sized_any n w hn
  have hn8 : n ≤ 8 := by omega
  clear hn
  obtain ⟨i0, hi, hz0, hz1, hz2⟩ := info_parts Try.info5
  go_enter Try.func31, Try.ntmps31
  go_wp2_with fail
  refine (HS.out _).mono ?_
  rintro e w' ⟨rfl, rfl⟩
  go_wp2
  go_loopw [0, 7, 8] (fun u v i wr => ∃ j : Nat, j ≤ n ∧ i = .int .i64 j ∧ u = .int .i64 (xb x j) ∧ wr.ownsRow w'.heap.size 5 1 v j ((layN x j).map (Value.int .u8)) ∧ Below w'.heap.size w' wr) (fun _ _ i _ => n - (intOf i).toNat)
  case atStart => exact ⟨0, Nat.zero_le _, rfl, by rw [xb_zero], World.ownsRow_nil _ _ _ _, Below.refl _ _⟩
  case round =>
    obtain ⟨j, hj, rfl, rfl, hown, hbel⟩ := hrel
    have hb := xb_bd x j h0 h1
    by_cases hjn : j < n
    · go_wp2_with fail
      refine (least8 _ _).mono ?_
      rintro e w1 ⟨rfl, rfl⟩
      have hbel1 : w'.heap.size ≤ w1.heap.size := hbel.size
      go_wp2_with (at_builtin; refine wpList_append_own _ rfl _ _ 57 rfl w'.heap.size 5 i0 (.int .u8 0) 1 1 Try.underlying57 hi hz0 hz1 hz2 rfl (by decide) _ _ _ rfl (hown.alloc _) ⟨w1.heap.size, 0, none⟩ 1 1 [.int .u8 (xb x j % 256)] rfl rfl ?c1 ?c2 ?c3 ?c4 ?c5 ?_)
      case c1 => exact cell_one_new _ _ _
      case c2 => intro u hu; simp at hu; subst hu; rfl
      case c3 => unfold maxLen; omega
      case c4 => omega
      case c5 => simp; omega
      intro v' w2 hown' hgrow _
      go_wp2
      go_roundw
      case rel => exact ⟨j + 1, by omega, by go_num, by rw [← xb_succ, ← xb_step], by rw [lay_succ, List.map_append]; exact hown', (hbel.alloc hbel1 _).grown hgrow (by simp; omega) (own_block hown)⟩
      case measure => simp [intOf]; omega
    · have e : j = n := by omega
      subst e
      have hcv := conv_own _ _ _ _ _ hown
      go_wp2
      go_ret2
      exact ⟨rfl, hbel⟩
end Go.Proofs.Ytdegladjmbllbaa
