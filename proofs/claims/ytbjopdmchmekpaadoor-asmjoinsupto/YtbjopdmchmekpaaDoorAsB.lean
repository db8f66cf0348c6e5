/- labelAt, operandText of the program. -/
import Derived.Test.YtbjopdmchmekpaaDoorAsA
import Derived.Test.YtbjopdmchmekpaaDoorCodD
namespace Go.Proofs.YtbjopdmchmekpaaDoor
open Go.ChangeShapes Go.WideShapes Go.ChangeAt Go.RowKit

theorem add_S (a b : List UInt8) (h : a.length + b.length ≤ 1000000) (w : World) : (Op.stringOp .add (S a) (S b)).run Tryd.prog w = .ok (.string (S (a ++ b))) w := by
  rw [← S_app]
  exact run_string_add_sum w _ _ (by rw [S_size, S_size]; omega)
theorem labelAt_any (p : Nat) (hp : p ≤ 1000) {w : World} (hT : TabS w) : Calls Tryd.prog 21 #[.int .i64 (p : Int)] w fun e w' => e = .returned (.string (S (labT p))) ∧ Below w.heap.size w w' := by
  have HI : Hid (Calls Tryd.prog 36 #[.int .i64 (p : Int)] w fun e w' => e = .returned (.string (S (Lib.itoa p))) ∧ Below w.heap.size w w') := itoa_any _ (by omega) (by omega) hT
  have hl := itoa_len (p : Int) (by omega) (by omega)
  have hadd : ∀ w, (Op.stringOp .add ⟨#[76]⟩ (S (Lib.itoa (p : Int)))).run Tryd.prog w = .ok (.string (S (labT p))) w := add_S [76] (Lib.itoa p) (by simp; omega)
  generalize S (labT p) = R at *
  generalize S (Lib.itoa (p : Int)) = R1 at *
  clear hl
  go_enter Tryd.func21, Tryd.ntmps21
  go_wp2_with fail
  refine HI.out.mono ?_
  rintro e w' ⟨rfl, hb⟩
  go_wp2
  go_ret
  exact ⟨rfl, hb⟩
theorem optext_go (c : Nat) (x : Int) (b : Nat) (f : Nat → Bool) (T : ByteArray) (o : Option Int) {w : World} (w2 : World)
    (hw2 : (w.alloc (.cells #[.int .i64 (c : Int), .int .i64 x] 53)).alloc (.cells (plC f) 59) = w2)
    (HT : Hid (∀ w, Calls Tryd.prog 34 #[.agg #[.int .i64 (c : Int), .int .i64 x], .int .i64 (b : Int)] w fun e w' => e = .returned (tgA o) ∧ Below w.heap.size w w'))
    (HP : Hid (∀ z, o = some z → (hasP f z = true → ∃ k : Nat, z = (k : Int) ∧ ∀ w', Below w2.heap.size w2 w' → Calls Tryd.prog 21 #[.int .i64 (k : Int)] w' fun e w'' => e = .returned (.string T) ∧ Below w'.heap.size w' w'')))
    (HF : Hid ((∀ z, o = some z → hasP f z = false) → ∀ w', Below w2.heap.size w2 w' → Calls Tryd.prog 39 #[.int .i64 x, .int .i64 10] w' fun e w'' => e = .returned (.string T) ∧ Below w'.heap.size w' w'')) :
    Calls Tryd.prog 23 #[.agg #[.int .i64 (c : Int), .int .i64 x], .int .i64 (b : Int), .agg (plC f)] w fun e w' => e = .returned (.string T) ∧ Below w.heap.size w w' := by
  have hsz := plC_size f
  have hne := plC_ne f
  have hB : PlAt w2 (w.heap.size + 1) f := by
    rw [← hw2]
    exact heap_alloc2_new _ _ _
  have HB : Hid (PlAt w2 (w.heap.size + 1) f) := hB
  have hbw : Below w.heap.size w w2 := by rw [← hw2]; exact below_alloc (below_a1 _ _) _
  have HBW : Hid (Below w.heap.size w w2) := hbw
  have hc0 : w2.cell? ⟨w.heap.size, 0, none⟩ = some (.int .i64 (c : Int)) := by
    rw [← hw2, World.cell?_alloc_past _ _ _ (by simp)]
    exact cell_at (heap_alloc_new _ _) 0
  have hc1 : w2.cell? ⟨w.heap.size, 1, none⟩ = some (.int .i64 x) := by
    rw [← hw2, World.cell?_alloc_past _ _ _ (by simp)]
    exact cell_at (heap_alloc_new _ _) 1
  have HC : Hid (∀ w', Below w2.heap.size w2 w' → w'.cell? ⟨w.heap.size, 0, none⟩ = some (.int .i64 (c : Int)) ∧ w'.cell? ⟨w.heap.size, 1, none⟩ = some (.int .i64 x)) := fun w' hb =>
    ⟨by rw [hb.cell (p := ⟨w.heap.size, 0, none⟩) (World.block_lt_of_cell? _ _ hc0)]; exact hc0, by rw [hb.cell (p := ⟨w.heap.size, 1, none⟩) (World.block_lt_of_cell? _ _ hc1)]; exact hc1⟩
  have HW2 : Hid ((w.alloc (.cells #[.int .i64 (c : Int), .int .i64 x] 53)).alloc (.cells (plC f) 59) = w2) := hw2
  clear hB hbw hc0 hc1 hw2
  go_enter Tryd.func23, Tryd.ntmps23
  go_wp2_with fail
  rw [HW2.out]
  refine (HT.out _).mono ?_
  rintro e w3 ⟨rfl, hb3⟩
  have HB3 : Hid (Below w2.heap.size w2 w3) := hb3
  obtain ⟨hc0, hc1⟩ := HC.out w3 hb3
  have HBX : Hid (PlAt w3 (w.heap.size + 1) f) := HB.out.later hb3
  clear hb3
  cases o with
  | none =>
    simp only [tgA]
    go_wp2_with fail
    refine (HF.out (fun z h => by cases h) _ HB3.out).mono ?_
    rintro e w4 ⟨rfl, hb4⟩
    go_wp2
    go_ret
    exact ⟨rfl, below_then HBW.out (below_then HB3.out hb4)⟩
  | some z =>
    simp only [tgA]
    have HH : Hid (Calls Tryd.prog 35 #[.pointer (some ⟨w.heap.size + 1, 0, none⟩), .int .i64 z] w3 fun e w' => e = .returned (.bool (hasP f z)) ∧ Below w3.heap.size w3 w') := has_pl HBX.out z
    cases hh : hasP f z with
    | true =>
      obtain ⟨k, rfl, hk⟩ := HP.out z rfl hh
      rw [hh] at HH
      have HK : Hid (∀ w', Below w2.heap.size w2 w' → Calls Tryd.prog 21 #[.int .i64 (k : Int)] w' fun e w'' => e = .returned (.string T) ∧ Below w'.heap.size w' w'') := hk
      clear hk HP HF HC
      go_wp2_with fail
      refine HH.out.mono ?_
      rintro e w4 ⟨rfl, hb4⟩
      have HB4 : Hid (Below w2.heap.size w2 w4) := below_then HB3.out hb4
      clear hb4
      go_wp2_with fail
      refine (HK.out _ HB4.out).mono ?_
      rintro e w5 ⟨rfl, hb5⟩
      go_wp2
      go_ret
      exact ⟨rfl, below_then HBW.out (below_then HB4.out hb5)⟩
    | false =>
      rw [hh] at HH
      have HK := HF.out (fun z' h => by cases h; exact hh)
      clear HP HF
      go_wp2_with fail
      refine HH.out.mono ?_
      rintro e w4 ⟨rfl, hb4⟩
      have HB4 : Hid (Below w2.heap.size w2 w4) := below_then HB3.out hb4
      clear hb4 hc0 hc1
      obtain ⟨hc0, hc1⟩ := HC.out w4 HB4.out
      go_wp2_with fail
      refine (HK _ HB4.out).mono ?_
      rintro e w5 ⟨rfl, hb5⟩
      go_wp2
      go_ret
      exact ⟨rfl, below_then HBW.out (below_then HB4.out hb5)⟩
/-- The operand of the i-th instruction, as text. -/
theorem optext_any {s : ByteArray} {l : List (Int × Int)} (h : Prg s l) (i : Nat) (hi : i < l.length) {w : World} (hT : TabS w) :
    Calls Tryd.prog 23 #[.agg #[.int .i64 (cd l i : Int), .int .i64 (opd l i)], .int .i64 (pos l (i + 1) : Int), .agg (plC (mkd l l.length))] w fun e w' => e = .returned (.string (S (opT l i))) ∧ Below w.heap.size w w' := by
  obtain ⟨q1, q2, q3, q4⟩ := h.cd_ok i hi
  have hp := (h.pos_le (i + 1) (by omega)).1
  have hsm := h.small
  have hlo : -9223372036854775808 ≤ opd l i ∧ opd l i ≤ 9223372036854775807 := by
    generalize cd l i = c at *
    unfold loC at q3
    unfold hiC at q4
    constructor
    · repeat' split at q3
      all_goals omega
    · repeat' split at q4
      all_goals omega
  have hw2 : TabS ((w.alloc (.cells #[.int .i64 (cd l i : Int), .int .i64 (opd l i)] 53)).alloc (.cells (plC (mkd l l.length)) 59)) := hT.later (below_alloc (below_a1 _ _) _)
  have hiff : ∀ z, tg l i = some z → hasP (mkd l l.length) z = isPos l z := fun z hz => by
    have := mkd_led hi hz
    unfold hasP
    rw [← this]
    by_cases h0 : 0 ≤ z
    · simp only [h0, decide_true, Bool.true_and]
      cases hm : mkd l l.length z.toNat with
      | false => simp
      | true =>
        obtain ⟨k, hk, hkz⟩ := (isPos_iff l _).1 (mkd_pos hm)
        have := (h.pos_le k hk).1
        simp
        omega
    · simp [h0]
  refine optext_go (cd l i) (opd l i) (pos l (i + 1)) (mkd l l.length) (S (opT l i)) (tg l i) _ rfl ?_ ?_ ?_
  · intro w
    refine target_any _ _ _ (by omega) (fun hc => ?_) w
    rcases hc with hc | hc <;> rw [hc] at q3 q4 <;> simp [loC, hiC] at q3 q4 <;> omega
  · intro z hz hh
    rw [hiff z hz] at hh
    obtain ⟨k, hk, hkz⟩ := (isPos_iff l z).1 hh
    refine ⟨pos l k, hkz.symm, fun w' hb => ?_⟩
    have e : opT l i = labT (pos l k) := by
      unfold opT
      rw [led_of hz hh, ← hkz, Int.toNat_natCast]
    rw [e]
    exact labelAt_any _ (by have := (h.pos_le k hk).1; omega) (hw2.later hb)
  · intro hno w' hb
    have e : opT l i = Lib.itoa (opd l i) := by
      unfold opT
      cases hz : tg l i with
      | none => rw [led_none hz]
      | some z => rw [led_no hz (by rw [← hiff z hz]; exact hno z hz)]
    rw [e]
    exact fmt_any _ hlo.1 hlo.2 (hw2.later hb)
end Go.Proofs.YtbjopdmchmekpaaDoor
