/- The document's Bytes and Encode. -/
import Derived.Test.YtfkbpmahedmbhaaDoorCodG
import Derived.Test.YtfkbpmahedmbhaaDoorCodS
namespace Go.Proofs.YtfkbpmahedmbhaaDoor
open Go.ChangeShapes Go.WideShapes Go.ChangeAt Go.RowKit

theorem xb_u64 (x : Int) (j : Nat) (hj : j < 8) : xb (x % 18446744073709551616) j % 256 = xb x j % 256 := by
  have e : x = x % 18446744073709551616 + (x / 18446744073709551616) * (256 ^ (8 - j) * 256 ^ j) := by
    rw [← pow_split j 8 (by omega)]
    have : (256 : Int) ^ 8 = 18446744073709551616 := by decide
    rw [this]
    omega
  conv => rhs; rw [e]
  unfold xb
  rw [add_mul_byte _ _ _ _ (by omega)]
theorem xb_nn (x : Int) (j : Nat) (h : 0 ≤ x) (h1 : x < 18446744073709551616) : 0 ≤ xb x j ∧ xb x j < 18446744073709551616 := by
  induction j with
  | zero => rw [xb_zero]; exact ⟨h, h1⟩
  | succ j ih => rw [← xb_succ]; omega
theorem rbytes_any (c : Nat) (hc : c ≤ 40) (x : Int) (w : World) : Calls Tryd.prog 22 #[.agg #[.int .i64 (c : Int), .int .i64 x]] w fun e w' => e = .returned (.string (strOfNums (bytesI c x))) ∧ Below w.heap.size w w' := by
  have HW : Hid (∀ w, Calls Tryd.prog 18 #[.int .i64 (c : Int)] w fun e w' => e = .returned (.int .i64 (wdC c : Int)) ∧ w' = w) := fun w => rwidth_any c hc w
  have hw8 : wdC c ≤ 8 := by have := wd_cases c; omega
  have hu8 : IntKind.u8.wrap (c : Int) = (c : Int) := by rw [IntKind.wrap_u8]; omega
  have hy : 0 ≤ x % 18446744073709551616 ∧ x % 18446744073709551616 < 18446744073709551616 := by omega
  have HX : Hid (∀ j, j < 8 → xb (x % 18446744073709551616) j % 256 = xb x j % 256) := fun j hj => xb_u64 x j hj
  have HN : Hid (∀ j, 0 ≤ xb (x % 18446744073709551616) j ∧ xb (x % 18446744073709551616) j < 18446744073709551616) := fun j => xb_nn _ j hy.1 hy.2
  have HBI : Hid (bytesI c x = (c : Int) :: layN x (wdC c)) := rfl
  have hx64 : IntKind.u64.wrap x = x % 18446744073709551616 := IntKind.wrap_u64 x
  obtain ⟨y, hyy⟩ : ∃ y, x % 18446744073709551616 = y := ⟨_, rfl⟩
  rw [hyy] at HX HN hx64
  clear hy hyy
  generalize wdC c = n at *
  obtain ⟨i0, hi, hz0, hz1, hz2⟩ := info_parts info_u8
  go_enter Tryd.func22, Tryd.ntmps22
  go_wp2_with fail
  refine (HW.out _).mono ?_
  rintro e w' ⟨rfl, rfl⟩
  go_wp2
  go_loopw [3, 4, 6] (fun v u i wr => ∃ j : Nat, j ≤ n ∧ i = .int .i64 (j : Int) ∧ u = .int .u64 (xb y j) ∧ wr.ownsRow (w.heap.size + 1) 5 1 v (j + 1) (((c : Int) :: layN x j).map (Value.int .u8)) ∧ Below w.heap.size w wr ∧ w.heap.size + 1 ≤ wr.heap.size) (fun _ _ i _ => n - (intOf i).toNat)
  case atStart =>
    refine ⟨0, by omega, rfl, by rw [xb_zero], ⟨by simp [layN], Or.inr ⟨_, _, #[.int .u8 (c : Int)], rfl, Nat.le_refl _, heap_alloc2_new _ _ _, Nat.le_refl _, by decide, rfl, rfl⟩⟩, below_alloc (below_a1 _ _) _, by simp⟩
  case round =>
    obtain ⟨j, hj, rfl, rfl, hown, hbel, hsz⟩ := hrel
    have HO : Hid (wr.ownsRow (w.heap.size + 1) 5 1 u3 (j + 1) (((c : Int) :: layN x j).map (Value.int .u8))) := hown
    have HB : Hid (Below w.heap.size w wr) := hbel
    clear hown hbel
    by_cases hlt : j < n
    · have hjd : decide ((j : Int) < (n : Int)) = true := by simp; omega
      have HXJ : Hid (xb y j % 256 = xb x j % 256) := HX.out j (by omega)
      obtain ⟨hn1, hn2⟩ := HN.out j
      have HS : Hid (xb y j / 256 = xb y (j + 1)) := xb_succ y j
      have hby : IntKind.u8.wrap (xb y j) = xb y j % 256 := IntKind.wrap_u8 _
      have HM : Hid (((c : Int) :: layN x (j + 1)).map (Value.int .u8) = ((c : Int) :: layN x j).map (Value.int .u8) ++ [.int .u8 (xb x j % 256)]) := by rw [Hid, lay_succ]; simp
      obtain ⟨q, hq⟩ : ∃ q, xb y j = q := ⟨_, rfl⟩
      rw [hq] at hn1 hn2 hby ⊢
      have HQ : Hid (xb y j = q) := hq
      clear hq
      go_wp2_with (at_builtin; refine wpList_append_own _ rfl _ _ 49 rfl (w.heap.size + 1) 5 i0 (.int .u8 0) 1 1 Tryd.underlying49 hi hz0 hz1 hz2 rfl (by decide) _ _ _ rfl (HO.out.alloc _) ⟨wr.heap.size, 0, none⟩ 1 1 [.int .u8 (q % 256)] rfl rfl ?c1 ?c2 ?c3 ?c4 ?c5 ?_)
      case c1 => exact cell_one_new _ _ _
      case c2 => intro u hu; simp at hu; subst hu; rfl
      case c3 => unfold maxLen; omega
      case c4 => omega
      case c5 => simp; omega
      intro v' w2 hown' hgrow _
      have HO2 : Hid (w2.ownsRow (w.heap.size + 1) 5 1 v' (j + 1 + 1) (((c : Int) :: layN x (j + 1)).map (Value.int .u8))) := by
        rw [Hid, HM.out, ← HXJ.out, HQ.out]; exact hown'
      have HB2 : Hid (Below w.heap.size w w2) := (below_alloc HB.out _).grown hgrow (by simp; omega) (fun b hb => by have := own_block HO.out b hb; omega)
      have hsz2 : w.heap.size + 1 ≤ w2.heap.size := by have := hgrow.size; simp at this; omega
      clear hown' hgrow
      go_wp2
      go_roundw
      case rel => exact ⟨j + 1, by omega, by go_num, by rw [← HS.out, HQ.out], HO2.out, HB2.out, hsz2⟩
      case measure => simp [intOf]; omega
    · obtain rfl : j = n := by omega
      have hcv := conv_own _ _ _ _ _ HO.out
      clear hi hz0 hz1 hz2
      go_wp2
      go_ret
      exact ⟨by rw [HBI.out]; rfl, HB.out⟩
theorem rrange_bad (c : Int) (hc : ¬ (0 ≤ c ∧ c ≤ 40)) (w : World) : Calls Tryd.prog 20 #[.int .i64 c] w fun e w' => e = .returned (.tuple #[.int .i64 0, .int .i64 0]) ∧ w' = w := by
  have HW : Hid (∀ w, Calls Tryd.prog 18 #[.int .i64 c] w fun e w' => e = .returned (.int .i64 (-1)) ∧ w' = w) := fun w => rwidth_no c hc w
  have h1 : (c == 1) = false := by simp; omega
  have h2 : (c == 2) = false := by simp; omega
  have h3 : (c == 24) = false := by simp; omega
  have h4 : (c == 25) = false := by simp; omega
  have h5 : (c == 3) = false := by simp; omega
  have h6 : (c == 23) = false := by simp; omega
  have h7 : (c == 26) = false := by simp; omega
  clear hc
  go_enter Tryd.func20, Tryd.ntmps20
  go_wp2_with fail
  refine (HW.out _).mono ?_
  rintro e w' ⟨rfl, rfl⟩
  go_wp2
  go_ret2
  exact ⟨rfl, rfl⟩
theorem wr_one (a : Nat) (h : a ≤ 1000) : wrap64 ((a : Int) + 1) = (a : Int) + 1 := by unfold wrap64; omega
theorem wr_two (a b : Nat) (h : a ≤ 1000) (h1 : b ≤ 8) : wrap64 ((a : Int) + 1 + (b : Int)) = (a : Int) + 1 + (b : Int) := by unfold wrap64; omega
theorem gt_yes (a n : Nat) (S : Nat) (hz : S = a) (h : 512 < a + (1 + n)) : decide ((512 : Int) < (S : Int) + 1 + (n : Int)) = true := by simp; omega
theorem gt_no (a n : Nat) (S : Nat) (hz : S = a) (h : ¬ 512 < a + (1 + n)) : decide ((512 : Int) < (S : Int) + 1 + (n : Int)) = false := by simp; omega
theorem lt_no (a b : Int) (h : a ≤ b) : decide (b < a) = false := by simp; omega
set_option maxHeartbeats 1000000 in
theorem renc_any {w : World} {v : Value} {l : List (Int × Int)} (hv : OLst w v l) : Calls Tryd.prog 12 #[v] w fun e w' => e = .returned (.tuple #[.string (strOfNums (encV l).1), .int .i64 (encV l).2.1, .int .i64 (encV l).2.2]) ∧ Below w.heap.size w w' := by
  obtain ⟨a, cap, rfl, hlen, hl⟩ := hv
  have HL : Hid (l.length = 0 ∨ ∃ x, a = some x ∧ x.block < w.heap.size ∧ ∀ i, i < l.length → w.cell? (x.add (i * 2)) = some (.int .i64 (l.getD i (0, 0)).1) ∧ w.cell? ⟨(x.add (i * 2)).block, (x.add (i * 2)).off + 1, none⟩ = some (.int .i64 (l.getD i (0, 0)).2)) := hl
  clear hl
  go_enter Tryd.func12, Tryd.ntmps12
  go_wp2
  go_loopw [5, 6] (fun u i wr => ∃ (j : Nat) (bs : List Int), j ≤ l.length ∧ i = .int .i64 (j : Int) ∧ u = .string (strOfNums bs) ∧ bs.length ≤ 512 ∧ encV l = encG (l.drop j) j bs ∧ Below w.heap.size w wr) (fun _ i _ => l.length - (intOf i).toNat)
  case atStart => exact ⟨0, [], by omega, rfl, rfl, by simp, rfl, Below.refl _ _⟩
  case round =>
    obtain ⟨j, bs, hj, rfl, rfl, hbs, henc, hbel⟩ := hrel
    have HE : Hid (encV l = encG (l.drop j) j bs) := henc
    have HB : Hid (Below w.heap.size w wr) := hbel
    clear henc hbel
    have hz := strOfNums_size bs
    have HBS : Hid (∃ b, strOfNums bs = b) := ⟨_, rfl⟩
    by_cases hlt : j < l.length
    · have hjd : decide ((j : Int) < (l.length : Int)) = true := by simp; omega
      obtain ⟨x, rfl, hxb, hxc⟩ := HL.out.resolve_left (by omega)
      obtain ⟨x1, x2⟩ := hxc j hlt
      have z1 : wr.cell? (x.add (j * 2)) = some (.int .i64 (l.getD j (0, 0)).1) := cell_later HB.out (by rw [add_block]; exact hxb) x1
      have z2 : wr.cell? ⟨(x.add (j * 2)).block, (x.add (j * 2)).off + 1, none⟩ = some (.int .i64 (l.getD j (0, 0)).2) := cell_later (a := ⟨(x.add (j * 2)).block, (x.add (j * 2)).off + 1, none⟩) HB.out (show (x.add (j * 2)).block < _ by rw [add_block]; exact hxb) x2
      have HS : Hid (encV l = encG ((l.getD j (0, 0)) :: l.drop (j + 1)) j bs) := by rw [Hid, HE.out, enc_step l j hlt]
      obtain ⟨c, hc⟩ : ∃ c, (l.getD j (0, 0)).1 = c := ⟨_, rfl⟩
      obtain ⟨y, hy⟩ : ∃ y, (l.getD j (0, 0)).2 = y := ⟨_, rfl⟩
      have hcy : l.getD j (0, 0) = (c, y) := by rw [← hc, ← hy]
      rw [hc] at z1
      rw [hy] at z2
      have HCY : Hid (l.getD j (0, 0) = (c, y)) := hcy
      obtain ⟨S, hS⟩ : ∃ S, strOfNums bs = S := ⟨_, rfl⟩
      have HSS : Hid (strOfNums bs = S) := hS
      rw [hS] at hz ⊢
      clear hc hy hcy hxc x1 x2 HE hS HBS
      by_cases hc : 0 ≤ c ∧ c ≤ 40
      · obtain ⟨k, rfl⟩ := Int.eq_ofNat_of_zero_le hc.1
        have hk : k ≤ 40 := by omega
        have hw8 : wdC k ≤ 8 := by have := wd_cases k; omega
        have HW : Hid (∀ w, Calls Tryd.prog 18 #[.int .i64 (k : Int)] w fun e w' => e = .returned (.int .i64 (wdC k : Int)) ∧ w' = w) := fun w => rwidth_any k hk w
        have HR : Hid (∀ w, Calls Tryd.prog 20 #[.int .i64 (k : Int)] w fun e w' => e = .returned (.tuple #[.int .i64 (loC k), .int .i64 (hiC k)]) ∧ w' = w) := fun w => rrange_any k hk w
        have HY : Hid (∀ w, Calls Tryd.prog 22 #[.agg #[.int .i64 (k : Int), .int .i64 y]] w fun e w' => e = .returned (.string (strOfNums (bytesI k y))) ∧ Below w.heap.size w w') := fun w => rbytes_any k hk y w
        have HS2 : Hid (encV l = if ¬ (loC k ≤ y ∧ y ≤ hiC k) then ([], 12, (j : Int)) else if 512 < bs.length + (1 + wdC k) then ([], 2, (j : Int)) else encG (l.drop (j + 1)) (j + 1) (bs ++ bytesI k y)) := by
          rw [Hid, HS.out, HCY.out]
          conv => lhs; unfold encG
          rw [if_neg (by omega), Int.toNat_natCast]
        have hn0 : decide ((wdC k : Int) < 0) = false := by simp
        have HLB : Hid ((bs ++ bytesI k y).length = bs.length + (1 + wdC k)) := by rw [Hid, List.length_append, bytesI_len]
        have hadd : bs.length ≤ 512 → ∀ w, (Op.stringOp .add S (strOfNums (bytesI k y))).run Tryd.prog w = .ok (.string (strOfNums (bs ++ bytesI k y))) w := fun h5 w => by
          have := run_string_add_sum (P := Tryd.prog) w S (strOfNums (bytesI k y)) (by rw [hz, strOfNums_size, bytesI_len]; omega)
          rw [← HSS.out, str_app] at this
          rw [← HSS.out]
          exact this
        clear HS hc
        by_cases hy1 : loC k ≤ y ∧ y ≤ hiC k
        · have hlo := lt_no _ _ hy1.1
          have hhi := lt_no _ _ hy1.2
          have hws1 := wr_one S.size (by rw [hz]; exact Nat.le_trans hbs (by decide))
          have hws2 := wr_two S.size (wdC k) (by rw [hz]; exact Nat.le_trans hbs (by decide)) hw8
          by_cases hful : 512 < bs.length + (1 + wdC k)
          · have HF : Hid (encV l = ([], 2, (j : Int))) := by rw [Hid, HS2.out, if_neg (Classical.not_not.2 hy1), if_pos hful]
            have hsd := gt_yes _ _ _ hz hful
            clear HS2 hy1 hadd HLB
            generalize wdC k = n at *
            generalize loC k = lo at *
            generalize hiC k = hi at *
            go_wp2_with fail
            refine (HW.out _).mono ?_
            rintro e w' ⟨rfl, rfl⟩
            go_wp2_with fail
            refine (HR.out _).mono ?_
            rintro e w' ⟨rfl, rfl⟩
            go_wp2
            go_ret3
            rw [HF.out]
            exact ⟨rfl, HB.out⟩
          · have HF : Hid (encV l = encG (l.drop (j + 1)) (j + 1) (bs ++ bytesI k y)) := by rw [Hid, HS2.out, if_neg (Classical.not_not.2 hy1), if_neg hful]
            have hsd := gt_no _ _ _ hz hful
            have hadd2 := hadd hbs
            have HLN : Hid ((bs ++ bytesI k y).length ≤ 512) := by rw [Hid, HLB.out]; exact Nat.le_of_not_lt hful
            clear HS2 hy1 hadd HLB
            generalize wdC k = n at *
            generalize loC k = lo at *
            generalize hiC k = hi at *
            generalize bs ++ bytesI k y = bs' at *
            obtain ⟨S', hS'⟩ : ∃ S', strOfNums bs' = S' := ⟨_, rfl⟩
            rw [hS'] at hadd2
            have HS' : Hid (strOfNums bs' = S') := hS'
            clear hS'
            generalize strOfNums (bytesI k y) = S2 at *
            go_wp2_with fail
            refine (HW.out _).mono ?_
            rintro e w' ⟨rfl, rfl⟩
            go_wp2_with fail
            refine (HR.out _).mono ?_
            rintro e w' ⟨rfl, rfl⟩
            go_wp2_with fail
            refine (HY.out _).mono ?_
            rintro e w1 ⟨rfl, hb1⟩
            go_wp2
            go_roundw
            case rel => exact ⟨j + 1, bs', by omega, by go_num, by rw [HS'.out], HLN.out, HF.out, below_then HB.out hb1⟩
            case measure => simp [intOf]; omega
        · have HF : Hid (encV l = ([], 12, (j : Int))) := by rw [Hid, HS2.out, if_pos hy1]
          clear HS2 hadd HLB
          generalize wdC k = n at *
          generalize loC k = lo at *
          generalize hiC k = hi at *
          by_cases hlo : y < lo
          · clear hy1
            go_wp2_with fail
            refine (HW.out _).mono ?_
            rintro e w' ⟨rfl, rfl⟩
            go_wp2_with fail
            refine (HR.out _).mono ?_
            rintro e w' ⟨rfl, rfl⟩
            go_wp2
            go_ret3
            rw [HF.out]
            exact ⟨rfl, HB.out⟩
          · have hlo' : decide (y < lo) = false := by simp [hlo]
            have hhi : decide (hi < y) = true := by simp; omega
            clear hy1 hlo
            go_wp2_with fail
            refine (HW.out _).mono ?_
            rintro e w' ⟨rfl, rfl⟩
            go_wp2_with fail
            refine (HR.out _).mono ?_
            rintro e w' ⟨rfl, rfl⟩
            go_wp2
            go_ret3
            rw [HF.out]
            exact ⟨rfl, HB.out⟩
      · have HW : Hid (∀ w, Calls Tryd.prog 18 #[.int .i64 c] w fun e w' => e = .returned (.int .i64 (-1)) ∧ w' = w) := fun w => rwidth_no c hc w
        have HR : Hid (∀ w, Calls Tryd.prog 20 #[.int .i64 c] w fun e w' => e = .returned (.tuple #[.int .i64 0, .int .i64 0]) ∧ w' = w) := fun w => rrange_bad c hc w
        have HF : Hid (encV l = ([], 10, (j : Int))) := by
          rw [Hid, HS.out, HCY.out]; unfold encG; rw [if_pos hc]
        clear hc HS
        go_wp2_with fail
        refine (HW.out _).mono ?_
        rintro e w' ⟨rfl, rfl⟩
        go_wp2_with fail
        refine (HR.out _).mono ?_
        rintro e w' ⟨rfl, rfl⟩
        go_wp2
        go_ret3
        rw [HF.out]
        exact ⟨rfl, HB.out⟩
    · obtain rfl : j = l.length := by omega
      have HF : Hid (encV l = (bs, 0, 0)) := by rw [Hid, HE.out, List.drop_length]; rfl
      clear HE
      generalize l.length = L at *
      go_wp2
      go_ret3
      rw [HF.out]
      exact ⟨rfl, HB.out⟩
end Go.Proofs.YtfkbpmahedmbhaaDoor
