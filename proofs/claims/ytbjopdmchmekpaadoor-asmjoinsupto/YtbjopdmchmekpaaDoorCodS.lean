/- The document's At. -/
import Derived.Test.YtbjopdmchmekpaaDoorCodR
namespace Go.Proofs.YtbjopdmchmekpaaDoor
open Go.ChangeShapes Go.WideShapes Go.ChangeAt Go.RowKit

theorem p256 (k : Nat) (hk : k ≤ 8) : (256 : Int) ^ k ≤ 18446744073709551616 := by
  have h : (256 : Nat) ^ k ≤ 256 ^ 8 := Nat.pow_le_pow_right (by decide) hk
  have e : ((256 ^ k : Nat) : Int) = (256 : Int) ^ k := by simp
  omega
theorem op_fin (c : Nat) (s : ByteArray) (hn : s.size = wdC c) (hw : s.size = 1 ∨ s.size = 2 ∨ s.size = 8) :
    (loC c < 0 ∧ s.size < 8 ∧ 128 ≤ byt s (s.size - 1) → wrap64 (wrap64 (leF (byt s) s.size) - wrap64 (2 ^ (8 * s.size))) = opF c (byt s)) ∧
    (¬ (loC c < 0 ∧ s.size < 8 ∧ 128 ≤ byt s (s.size - 1)) → wrap64 (leF (byt s) s.size) = opF c (byt s)) := by
  have hf := byt_lt s
  have hl := le_bd hf s.size
  have ht := take_top hf s.size (by omega)
  have h8 := take_is8 hf
  unfold opF takeF at *
  rw [← hn]
  generalize byt s = f at *
  generalize s.size = n at *
  rcases hw with rfl | rfl | rfl
  · simp only [Nat.sub_self, Int.pow_zero, Int.mul_one] at ht
    have e1 : (256 : Int) ^ 1 = 256 := by decide
    have e2 : wrap64 (2 ^ (8 * 1)) = 256 := by simp [wrap64]
    rw [e1] at hl ⊢
    rw [e2]
    simp only [Nat.sub_self, Int.pow_zero, Int.mul_one]
    have hx : ∀ x : Int, 0 ≤ x → x < 512 → wrap64 x = x := fun x _ _ => by unfold wrap64; omega
    refine ⟨fun ⟨h1, _, h3⟩ => ?_, fun h => ?_⟩
    · rw [if_pos h1, if_pos (by omega), hx _ hl.1 (by omega)]
      unfold wrap64; omega
    · rw [hx _ hl.1 (by omega)]
      split
      · rename_i hlo
        rw [if_neg]
        intro h5
        exact h ⟨hlo, by decide, by omega⟩
      · rfl
  · have e0 : 128 * (256 : Int) ^ (2 - 1) = 32768 := by decide
    have e1 : (256 : Int) ^ 2 = 65536 := by decide
    have e2 : wrap64 (2 ^ (8 * 2)) = 65536 := by simp [wrap64]
    rw [e0] at ht ⊢
    rw [e1] at hl ⊢
    rw [e2]
    have hx : ∀ x : Int, 0 ≤ x → x < 131072 → wrap64 x = x := fun x _ _ => by unfold wrap64; omega
    simp only [Nat.reduceSub] at ht ⊢
    refine ⟨fun ⟨h1, _, h3⟩ => ?_, fun h => ?_⟩
    · rw [if_pos h1, if_pos (by omega), hx _ hl.1 (by omega)]
      unfold wrap64; omega
    · rw [hx _ hl.1 (by omega)]
      split
      · rename_i hlo
        rw [if_neg]
        intro h5
        exact h ⟨hlo, by decide, by omega⟩
      · rfl
  · refine ⟨fun h => by omega, fun _ => ?_⟩
    have hc : c = 3 := by
      unfold wdC at hn
      repeat' split at hn
      all_goals omega
    rw [h8, if_pos (show loC c < 0 by rw [hc]; decide)]
theorem he_step {f : Nat → Nat} (hf : ∀ i, f i < 256) (n k : Nat) (hk : k < 8) : (256 * heF f n k % 18446744073709551616 + (f (n - 1 - k) : Int)) % 18446744073709551616 = heF f n (k + 1) := by
  have h1 := he_bd hf n k
  have h2 := he_bd hf n (k + 1)
  have h3 := p256 (k + 1) (by omega)
  have h4 : heF f n (k + 1) = 256 * heF f n k + (f (n - 1 - k) : Int) := rfl
  have := hf (n - 1 - k)
  omega
theorem roperand_any (c : Nat) (hc : c ≤ 40) (s : ByteArray) (hn : s.size = wdC c) (h0 : 0 < s.size) (w : World) : Calls Tryd.prog 40 #[.int .i64 (c : Int), .string s] w fun e w' => e = .returned (.int .i64 (opF c (byt s))) ∧ w' = w := by
  have HR : Hid (∀ w, Calls Tryd.prog 41 #[.int .i64 (c : Int)] w fun e w' => e = .returned (.tuple #[.int .i64 (loC c), .int .i64 (hiC c)]) ∧ w' = w) := fun w => rrange_any c hc w
  have hw := wd_cases c
  rw [← hn] at hw
  have HF : Hid (∀ i, byt s i < 256) := byt_lt s
  have hs8 : s.size ≤ 8 := by omega
  have HO := op_fin c s hn (by omega)
  replace HO : Hid _ := HO
  have HIX : Hid (∀ w, (Instr.index 9 (.string s) (.int .i64 ((s.size : Int) - 1))).run Tryd.prog w = .ok (.int .u8 (byt s (s.size - 1) : Int)) w) := fun w => by
    have hlt : s.size - 1 < s.size := Nat.sub_lt h0 (by decide)
    have e : (s.size : Int) - 1 = ((s.size - 1 : Nat) : Int) := by omega
    rw [byt_at s _ hlt, e]
    have hg : s[s.size - 1]? = some s[s.size - 1] := getElem?_pos s (s.size - 1) hlt
    simp [Instr.index, run_underlying Tryd.underlying9, asIntOf, hg]
  clear hw hn hc
  generalize loC c = lo at *
  generalize hiC c = hi at *
  generalize opF c (byt s) = x at *
  go_enter Tryd.func40, Tryd.ntmps40
  go_wp2
  go_loop [5, 6] (fun u i => ∃ k q : Nat, k + q = s.size ∧ i = .int .i64 ((q : Int) - 1) ∧ u = .int .u64 (heF (byt s) s.size k)) (fun _ i => (intOf i + 1).toNat)
  case atStart => exact ⟨0, s.size, by omega, rfl, rfl⟩
  case round =>
    obtain ⟨k, q, hk, rfl, rfl⟩ := hrel
    rcases q with _ | q
    · obtain rfl : k = s.size := by omega
      have he := he_all (byt s) s.size
      rw [he]
      have hle := le_bd HF.out s.size
      have hp := p256 s.size hs8
      generalize leF (byt s) s.size = y at *
      have hix := HIX.out
      have hbt := HF.out (s.size - 1)
      have hO := HO.out
      clear HIX HF HO he
      generalize byt s (s.size - 1) = b at *
      by_cases c1 : lo < 0
      · by_cases c2 : s.size < 8
        · have d2 : decide ((s.size : Int) < 8) = true := by simp; omega
          by_cases c3 : 128 ≤ b
          · have HX : Hid _ := hO.1 ⟨c1, c2, c3⟩
            have d3 : decide ((128 : Int) ≤ (b : Int)) = true := by simp; omega
            clear hO
            go_wp2_with fail
            refine (HR.out _).mono ?_
            rintro e w' ⟨rfl, rfl⟩
            go_wp2
            go_ret
            exact ⟨by rw [← HX.out]; rfl, rfl⟩
          · have HX : Hid _ := hO.2 (fun h => c3 h.2.2)
            have d3 : decide ((128 : Int) ≤ (b : Int)) = false := by simp; omega
            clear hO
            go_wp2_with fail
            refine (HR.out _).mono ?_
            rintro e w' ⟨rfl, rfl⟩
            go_wp2
            go_ret
            exact ⟨by rw [← HX.out]; rfl, rfl⟩
        · have d2 : decide ((s.size : Int) < 8) = false := by simp; omega
          have HX : Hid _ := hO.2 (fun h => c2 h.2.1)
          clear hO
          go_wp2_with fail
          refine (HR.out _).mono ?_
          rintro e w' ⟨rfl, rfl⟩
          go_wp2
          go_ret
          exact ⟨by rw [← HX.out]; rfl, rfl⟩
      · have HX : Hid _ := hO.2 (fun h => c1 h.1)
        clear hO
        go_wp2_with fail
        refine (HR.out _).mono ?_
        rintro e w' ⟨rfl, rfl⟩
        go_wp2
        go_ret
        exact ⟨by rw [← HX.out]; rfl, rfl⟩
    · have e : ((q + 1 : Nat) : Int) - 1 = (q : Int) := by omega
      rw [e]
      have hqs : q < s.size := by omega
      have hb := byte_bd s q hqs
      have HE : Hid ((256 * heF (byt s) s.size k % 18446744073709551616 + (s[q].toNat : Int)) % 18446744073709551616 = heF (byt s) s.size (k + 1)) := by
        have := he_step HF.out s.size k (by omega)
        rw [show s.size - 1 - k = q by omega, byt_at s q hqs] at this
        exact this
      have hy := he_bd HF.out s.size k
      generalize heF (byt s) s.size k = y at *
      clear HO HR HIX
      go_wp2
      go_round
      case rel => exact ⟨k + 1, q, by omega, by go_num, by rw [← HE.out, IntKind.wrap_u64, IntKind.wrap_u64]⟩
      case measure => simp [intOf]
/-! ### At -/
theorem rat_out (s : ByteArray) (a : Int) (ha : a < 0 ∨ (s.size : Int) ≤ a) (w : World) :
    Calls Tryd.prog 24 #[.string s, .int .i64 a] w fun e w' => e = .returned (.tuple #[.agg #[.int .i64 0, .int .i64 0], .int .i64 0, .int .i64 10]) ∧ Below w.heap.size w w' := by
  rcases ha with h | h
  · go_enter Tryd.func24, Tryd.ntmps24
    go_wp2
    refine ret_o3 rfl rfl (heap_alloc_new _ _) rfl rfl ⟨rfl, below_a1 _ _⟩
  · have h2 : 0 ≤ a := by omega
    go_enter Tryd.func24, Tryd.ntmps24
    go_wp2
    refine ret_o3 rfl rfl (heap_alloc_new _ _) rfl rfl ⟨rfl, below_a1 _ _⟩
theorem rat_no (s : ByteArray) (p : Nat) (hp : p < s.size) (n : Int) (h1 : n ≤ 8) (hn : n < 0 ∨ ((s.size - (p + 1) : Nat) : Int) < n) {w : World}
    (HW : Hid (∀ w, Calls Tryd.prog 32 #[.int .i64 (s[p].toNat : Int)] w fun e w' => e = .returned (.int .i64 n) ∧ w' = w)) :
    Calls Tryd.prog 24 #[.string s, .int .i64 (p : Int)] w fun e w' => e = .returned (.tuple #[.agg #[.int .i64 0, .int .i64 0], .int .i64 0, .int .i64 10]) ∧ Below w.heap.size w w' := by
  have hbb := byte_bd s p hp
  rcases Int.lt_or_le n 0 with h | h
  · clear hn
    go_enter Tryd.func24, Tryd.ntmps24
    go_wp2_with fail
    refine (HW.out _).mono ?_
    rintro e w' ⟨rfl, rfl⟩
    go_wp2
    refine ret_o3 rfl rfl (heap_alloc_new _ _) rfl rfl ⟨rfl, below_a1 _ _⟩
  · have h3 : (s.size : Int) - (p : Int) - 1 < n := by omega
    clear hn
    go_enter Tryd.func24, Tryd.ntmps24
    go_wp2_with fail
    refine (HW.out _).mono ?_
    rintro e w' ⟨rfl, rfl⟩
    go_wp2
    refine ret_o3 rfl rfl (heap_alloc_new _ _) rfl rfl ⟨rfl, below_a1 _ _⟩
theorem rat_0 (s : ByteArray) (hs : s.size ≤ 9223372036854775807) (p : Nat) (hp : p < s.size) {w : World}
    (HW : Hid (∀ w, Calls Tryd.prog 32 #[.int .i64 (s[p].toNat : Int)] w fun e w' => e = .returned (.int .i64 0) ∧ w' = w)) :
    Calls Tryd.prog 24 #[.string s, .int .i64 (p : Int)] w fun e w' => e = .returned (.tuple #[.agg #[.int .i64 (s[p].toNat : Int), .int .i64 0], .int .i64 1, .int .i64 0]) ∧ Below w.heap.size w w' := by
  have hbb := byte_bd s p hp
  have h3 : 0 ≤ (s.size : Int) - (p : Int) - 1 := by omega
  go_enter Tryd.func24, Tryd.ntmps24
  go_wp2_with fail
  refine (HW.out _).mono ?_
  rintro e w' ⟨rfl, rfl⟩
  go_wp2
  refine ret_o3 rfl rfl (heap_alloc_new _ _) rfl rfl ⟨rfl, below_a1 _ _⟩
theorem rat_x (s : ByteArray) (hs : s.size ≤ 9223372036854775807) (p : Nat) (hp : p < s.size) {w : World} (n : Nat) (h0 : 0 < n) (hn8 : n ≤ 8) (hn : p + 1 + n ≤ s.size) (X : ByteArray) (hX : s.extract (p + 1) (p + 1 + n) = X) (lo hi y : Int)
    (HW : Hid (∀ w, Calls Tryd.prog 32 #[.int .i64 (s[p].toNat : Int)] w fun e w' => e = .returned (.int .i64 (n : Int)) ∧ w' = w))
    (HO : Hid (∀ w, Calls Tryd.prog 40 #[.int .i64 (s[p].toNat : Int), .string X] w fun e w' => e = .returned (.int .i64 y) ∧ w' = w))
    (HR : Hid (∀ w, Calls Tryd.prog 41 #[.int .i64 (s[p].toNat : Int)] w fun e w' => e = .returned (.tuple #[.int .i64 lo, .int .i64 hi]) ∧ w' = w)) :
    Calls Tryd.prog 24 #[.string s, .int .i64 (p : Int)] w fun e w' => e = .returned (if y ≤ hi then .tuple #[.agg #[.int .i64 (s[p].toNat : Int), .int .i64 y], .int .i64 (1 + (n : Int)), .int .i64 0] else .tuple #[.agg #[.int .i64 0, .int .i64 0], .int .i64 0, .int .i64 10]) ∧ Below w.heap.size w w' := by
  have hbb := byte_bd s p hp
  have h3 : (n : Int) ≤ (s.size : Int) - (p : Int) - 1 := by omega
  have hwr : wrap64 ((p : Int) + 1) = (p : Int) + 1 := by unfold wrap64; omega
  have hwr2 : wrap64 ((p : Int) + 1 + (n : Int)) = (p : Int) + 1 + (n : Int) := by unfold wrap64; omega
  have hsl : ∀ w, (Instr.slice 9 (.string s) (some (.int .i64 ((p : Int) + 1))) (some (.int .i64 ((p : Int) + 1 + (n : Int)))) none).run Tryd.prog w = .ok (.string X) w := fun w => by
    rw [run_slice_string w 9 s .i64 .i64 ((p : Int) + 1) ((p : Int) + 1 + (n : Int)) Tryd.underlying9 (by omega) (by omega) (by omega), show ((p : Int) + 1).toNat = p + 1 by omega, show ((p : Int) + 1 + (n : Int)).toNat = p + 1 + n by omega, hX]
  clear hX
  by_cases hy : y ≤ hi
  · rw [if_pos hy]
    have hd : decide (hi < y) = false := by simp; omega
    go_enter Tryd.func24, Tryd.ntmps24
    go_wp2_with fail
    refine (HW.out _).mono ?_
    rintro e w' ⟨rfl, rfl⟩
    go_wp2_with fail
    refine (HO.out _).mono ?_
    rintro e w' ⟨rfl, rfl⟩
    go_wp2_with fail
    refine (HR.out _).mono ?_
    rintro e w' ⟨rfl, rfl⟩
    go_wp2
    refine ret_o3 rfl rfl (heap_alloc_new _ _) rfl rfl ⟨rfl, below_a1 _ _⟩
  · rw [if_neg hy]
    have hd : decide (hi < y) = true := by simp; omega
    go_enter Tryd.func24, Tryd.ntmps24
    go_wp2_with fail
    refine (HW.out _).mono ?_
    rintro e w' ⟨rfl, rfl⟩
    go_wp2_with fail
    refine (HO.out _).mono ?_
    rintro e w' ⟨rfl, rfl⟩
    go_wp2_with fail
    refine (HR.out _).mono ?_
    rintro e w' ⟨rfl, rfl⟩
    go_wp2
    refine ret_o3 rfl rfl (heap_alloc_new _ _) rfl rfl ⟨rfl, below_a1 _ _⟩
theorem byt_extract2 (s : ByteArray) (p e i : Nat) (h : p + i < e) (he : e ≤ s.size) : byt (s.extract p e) i = byt s (p + i) := by
  rw [byt_at _ _ (by rw [ByteArray.size_extract]; omega), byt_at _ _ (by omega), ByteArray.getElem_extract]
/-- What the document's At answers. -/
theorem rat_any (s : ByteArray) (hs : s.size ≤ 9223372036854775807) (a : Int) (w : World) : Calls Tryd.prog 24 #[.string s, .int .i64 a] w fun e w' => e = .returned (ansA (atS s a)) ∧ Below w.heap.size w w' := by
  by_cases ha : a < 0 ∨ (s.size : Int) ≤ a
  · have e : atS s a = none := by
      unfold atS
      rcases ha with h | h
      · rw [if_pos h]
      · rw [if_neg (by omega)]
        unfold atV
        rw [if_pos (Or.inl (by omega))]
    rw [e]
    exact rat_out s a ha w
  · obtain ⟨p, rfl⟩ := Int.eq_ofNat_of_zero_le (show 0 ≤ a by omega)
    have hp : p < s.size := by omega
    have hb := byt_at s p hp
    have hf0 : fr s p 0 = byt s p := rfl
    have e : atS s (p : Int) = atV (fr s p) (s.size - p) := by
      unfold atS
      rw [if_neg (by omega), Int.toNat_natCast]
    rw [e]
    by_cases hc : byt s p ≤ 40
    · have hw8 : wdC (byt s p) ≤ 8 := by have := wd_cases (byt s p); omega
      have HW : Hid (∀ w, Calls Tryd.prog 32 #[.int .i64 (s[p].toNat : Int)] w fun e w' => e = .returned (.int .i64 (wdC (byt s p) : Int)) ∧ w' = w) := fun w => by
        rw [← hb]; exact rwidth_any _ hc w
      by_cases hsh : s.size - (p + 1) < wdC (byt s p)
      · have e2 : atV (fr s p) (s.size - p) = none := by
          unfold atV
          rw [if_pos (by rw [hf0]; omega)]
        rw [e2]
        exact rat_no s p hp _ (by omega) (by omega) HW
      · by_cases h0 : wdC (byt s p) = 0
        · have h3 : opF (byt s p) (fun i => fr s p (i + 1)) = 0 := by
            have hl := le_bd (fun i => fr_lt s p (i + 1)) 0
            have hlo : ¬ loC (byt s p) < 0 := by
              intro h
              unfold loC at h
              unfold wdC at h0
              repeat' split at h
              all_goals (repeat' split at h0)
              all_goals omega
            unfold opF
            rw [if_neg hlo, h0]
            rfl
          have h4 : (0 : Int) ≤ hiC (byt s p) := by
            unfold hiC
            repeat' split
            all_goals decide
          have e2 : atV (fr s p) (s.size - p) = some (byt s p, 0) := by
            unfold atV
            rw [hf0, if_neg (by omega), h3, if_pos h4]
          rw [e2]
          rw [h0] at HW
          refine (rat_0 s hs p hp HW).mono fun e w' h => ?_
          rw [← hb] at h
          refine ⟨h.1.trans ?_, h.2⟩
          simp [ansA, h0]
        · have hz : (s.extract (p + 1) (p + 1 + wdC (byt s p))).size = wdC (byt s p) := by rw [ByteArray.size_extract]; omega
          have ho : opF (byt s p) (byt (s.extract (p + 1) (p + 1 + wdC (byt s p)))) = opF (byt s p) (fun i => fr s p (i + 1)) := opF_congr fun i hi => by
            rw [byt_extract2 _ _ _ _ (by omega) (by omega)]
            unfold fr
            congr 1
            omega
          have HO : Hid (∀ w, Calls Tryd.prog 40 #[.int .i64 (s[p].toNat : Int), .string (s.extract (p + 1) (p + 1 + wdC (byt s p)))] w fun e w' => e = .returned (.int .i64 (opF (byt s p) (fun i => fr s p (i + 1)))) ∧ w' = w) := fun w => by
            rw [← hb, ← ho]
            exact roperand_any _ hc _ hz (by omega) w
          have HR : Hid (∀ w, Calls Tryd.prog 41 #[.int .i64 (s[p].toNat : Int)] w fun e w' => e = .returned (.tuple #[.int .i64 (loC (byt s p)), .int .i64 (hiC (byt s p))]) ∧ w' = w) := fun w => by
            rw [← hb]
            exact rrange_any _ hc w
          have e2 : atV (fr s p) (s.size - p) = if opF (byt s p) (fun i => fr s p (i + 1)) ≤ hiC (byt s p) then some (byt s p, opF (byt s p) (fun i => fr s p (i + 1))) else none := by
            unfold atV
            rw [hf0, if_neg (by omega)]
          rw [e2]
          refine (rat_x s hs p hp (wdC (byt s p)) (by omega) hw8 (by omega) _ rfl _ _ _ HW HO HR).mono fun e w' h => ?_
          refine ⟨h.1.trans ?_, h.2⟩
          rw [← hb]
          by_cases h5 : opF (byt s p) (fun i => fr s p (i + 1)) ≤ hiC (byt s p)
          · rw [if_pos h5, if_pos h5]
            simp [ansA]
          · rw [if_neg h5, if_neg h5]
            rfl
    · have e2 : atV (fr s p) (s.size - p) = none := by
        unfold atV
        rw [if_pos (by rw [hf0]; omega)]
      rw [e2]
      exact rat_no s p hp (-1) (by decide) (Or.inl (by decide)) fun w => by
        rw [← hb]
        exact rwidth_no _ (by omega) w
end Go.Proofs.YtbjopdmchmekpaaDoor
