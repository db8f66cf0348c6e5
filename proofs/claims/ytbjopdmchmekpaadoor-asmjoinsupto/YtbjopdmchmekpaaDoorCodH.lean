/- The document's Bytes and Encode. -/
import Derived.Test.YtbjopdmchmekpaaDoorCodG
import Derived.Test.YtbjopdmchmekpaaDoorCodS
namespace Go.Proofs.YtbjopdmchmekpaaDoor
open Go.ChangeShapes Go.WideShapes Go.ChangeAt Go.RowKit

theorem xb_u64 (x : Int) (j : Nat) (hj : j < 8) : xb (x % 18446744073709551616) j % 256 = xb x j % 256 := by
  have e : x = x % 18446744073709551616 + (x / 18446744073709551616) * (256 ^ (8 - j) * 256 ^ j) := by
    rw [← pow_split j 8 (by omega)]
    have : (256 : Int) ^ 8 = 18446744073709551616 := by decide
    rw [this]
    omega
  conv => rhs; rw [e]
  unfold xb
  rw [add_mul_byte _ _ _ _ (by omega)]
theorem xb_nn (x : Int) (j : Nat) (h : 0 ≤ x) (h1 : x < 18446744073709551616) : 0 ≤ xb x j ∧ xb x j < 18446744073709551616 := by
  induction j with
  | zero => rw [xb_zero]; exact ⟨h, h1⟩
  | succ j ih => rw [← xb_succ]; omega
theorem rbytes_any (c : Nat) (hc : c ≤ 40) (x : Int) (w : World) : Calls Tryd.prog 18 #[.agg #[.int .i64 (c : Int), .int .i64 x]] w fun e w' => e = .returned (.string (strOfNums (bytesI c x))) ∧ Below w.heap.size w w' := by
  have HW : Hid (∀ w, Calls Tryd.prog 32 #[.int .i64 (c : Int)] w fun e w' => e = .returned (.int .i64 (wdC c : Int)) ∧ w' = w) := fun w => rwidth_any c hc w
  have hw8 : wdC c ≤ 8 := by have := wd_cases c; omega
  have hu8 : IntKind.u8.wrap (c : Int) = (c : Int) := by rw [IntKind.wrap_u8]; omega
  have hy : 0 ≤ x % 18446744073709551616 ∧ x % 18446744073709551616 < 18446744073709551616 := by omega
  have HX : Hid (∀ j, j < 8 → xb (x % 18446744073709551616) j % 256 = xb x j % 256) := fun j hj => xb_u64 x j hj
  have HN : Hid (∀ j, 0 ≤ xb (x % 18446744073709551616) j ∧ xb (x % 18446744073709551616) j < 18446744073709551616) := fun j => xb_nn _ j hy.1 hy.2
  have HBI : Hid (bytesI c x = (c : Int) :: layN x (wdC c)) := rfl
  have hx64 : IntKind.u64.wrap x = x % 18446744073709551616 := IntKind.wrap_u64 x
  obtain ⟨y, hyy⟩ : ∃ y, x % 18446744073709551616 = y := ⟨_, rfl⟩
  rw [hyy] at HX HN hx64
  clear hy hyy
  generalize wdC c = n at *
  obtain ⟨i0, hi, hz0, hz1, hz2⟩ := info_parts info_u8
  go_enter Tryd.func18, Tryd.ntmps18
  go_wp2_with fail
  refine (HW.out _).mono ?_
  rintro e w' ⟨rfl, rfl⟩
  go_wp2
  go_loopw [3, 4, 6] (fun v u i wr => ∃ j : Nat, j ≤ n ∧ i = .int .i64 (j : Int) ∧ u = .int .u64 (xb y j) ∧ wr.ownsRow (w.heap.size + 1) 5 1 v (j + 1) (((c : Int) :: layN x j).map (Value.int .u8)) ∧ Below w.heap.size w wr ∧ w.heap.size + 1 ≤ wr.heap.size) (fun _ _ i _ => n - (intOf i).toNat)
  case atStart =>
    refine ⟨0, by omega, rfl, by rw [xb_zero], ⟨by simp [layN], Or.inr ⟨_, _, #[.int .u8 (c : Int)], rfl, Nat.le_refl _, heap_alloc2_new _ _ _, Nat.le_refl _, by decide, rfl, rfl⟩⟩, below_alloc (below_a1 _ _) _, by simp⟩
  case round =>
    obtain ⟨j, hj, rfl, rfl, hown, hbel, hsz⟩ := hrel
    have HO : Hid (wr.ownsRow (w.heap.size + 1) 5 1 u3 (j + 1) (((c : Int) :: layN x j).map (Value.int .u8))) := hown
    have HB : Hid (Below w.heap.size w wr) := hbel
    clear hown hbel
    by_cases hlt : j < n
    · have hjd : decide ((j : Int) < (n : Int)) = true := by simp; omega
      have HXJ : Hid (xb y j % 256 = xb x j % 256) := HX.out j (by omega)
      obtain ⟨hn1, hn2⟩ := HN.out j
      have HS : Hid (xb y j / 256 = xb y (j + 1)) := xb_succ y j
      have hby : IntKind.u8.wrap (xb y j) = xb y j % 256 := IntKind.wrap_u8 _
      have HM : Hid (((c : Int) :: layN x (j + 1)).map (Value.int .u8) = ((c : Int) :: layN x j).map (Value.int .u8) ++ [.int .u8 (xb x j % 256)]) := by rw [Hid, lay_succ]; simp
      obtain ⟨q, hq⟩ : ∃ q, xb y j = q := ⟨_, rfl⟩
      rw [hq] at hn1 hn2 hby ⊢
      have HQ : Hid (xb y j = q) := hq
      clear hq
      go_wp2_with (at_builtin; refine wpList_append_own _ rfl _ _ 61 rfl (w.heap.size + 1) 5 i0 (.int .u8 0) 1 1 Tryd.underlying61 hi hz0 hz1 hz2 rfl (by decide) _ _ _ rfl (HO.out.alloc _) ⟨wr.heap.size, 0, none⟩ 1 1 [.int .u8 (q % 256)] rfl rfl ?c1 ?c2 ?c3 ?c4 ?c5 ?_)
      case c1 => exact cell_one_new _ _ _
      case c2 => intro u hu; simp at hu; subst hu; rfl
      case c3 => unfold maxLen; omega
      case c4 => omega
      case c5 => simp; omega
      intro v' w2 hown' hgrow _
      have HO2 : Hid (w2.ownsRow (w.heap.size + 1) 5 1 v' (j + 1 + 1) (((c : Int) :: layN x (j + 1)).map (Value.int .u8))) := by
        rw [Hid, HM.out, ← HXJ.out, HQ.out]; exact hown'
      have HB2 : Hid (Below w.heap.size w w2) := (below_alloc HB.out _).grown hgrow (by simp; omega) (fun b hb => by have := own_block HO.out b hb; omega)
      have hsz2 : w.heap.size + 1 ≤ w2.heap.size := by have := hgrow.size; simp at this; omega
      clear hown' hgrow
      go_wp2
      go_roundw
      case rel => exact ⟨j + 1, by omega, by go_num, by rw [← HS.out, HQ.out], HO2.out, HB2.out, hsz2⟩
      case measure => simp [intOf]; omega
    · obtain rfl : j = n := by omega
      have hcv := conv_own _ _ _ _ _ HO.out
      clear hi hz0 hz1 hz2
      go_wp2
      go_ret
      exact ⟨by rw [HBI.out]; rfl, HB.out⟩
theorem rrange_bad (c : Int) (hc : ¬ (0 ≤ c ∧ c ≤ 40)) (w : World) : Calls Tryd.prog 41 #[.int .i64 c] w fun e w' => e = .returned (.tuple #[.int .i64 0, .int .i64 0]) ∧ w' = w := by
  have HW : Hid (∀ w, Calls Tryd.prog 32 #[.int .i64 c] w fun e w' => e = .returned (.int .i64 (-1)) ∧ w' = w) := fun w => rwidth_no c hc w
  have h1 : (c == 1) = false := by simp; omega
  have h2 : (c == 2) = false := by simp; omega
  have h3 : (c == 24) = false := by simp; omega
  have h4 : (c == 25) = false := by simp; omega
  have h5 : (c == 3) = false := by simp; omega
  have h6 : (c == 23) = false := by simp; omega
  have h7 : (c == 26) = false := by simp; omega
  clear hc
  go_enter Tryd.func41, Tryd.ntmps41
  go_wp2_with fail
  refine (HW.out _).mono ?_
  rintro e w' ⟨rfl, rfl⟩
  go_wp2
  go_ret2
  exact ⟨rfl, rfl⟩
theorem wr_one (a : Nat) (h : a ≤ 1000) : wrap64 ((a : Int) + 1) = (a : Int) + 1 := by unfold wrap64; omega
theorem wr_two (a b : Nat) (h : a ≤ 1000) (h1 : b ≤ 8) : wrap64 ((a : Int) + 1 + (b : Int)) = (a : Int) + 1 + (b : Int) := by unfold wrap64; omega
theorem gt_yes (a n : Nat) (S : Nat) (hz : S = a) (h : 512 < a + (1 + n)) : decide ((512 : Int) < (S : Int) + 1 + (n : Int)) = true := by simp; omega
theorem gt_no (a n : Nat) (S : Nat) (hz : S = a) (h : ¬ 512 < a + (1 + n)) : decide ((512 : Int) < (S : Int) + 1 + (n : Int)) = false := by simp; omega
theorem lt_no (a b : Int) (h : a ≤ b) : decide (b < a) = false := by simp; omega