/- The example of layer 11's statements. -/
import Derived.Test.YtbmmicfdnfpcaaaBkS
namespace Go.Proofs.Ytbmmicfdnfpcaaa
open Go.ChangeShapes Go.WideShapes Go.ChangeAt Go.RowKit
attribute [local go_sem ↓] Go.wp_at_zero Go.wp_at_succ

def shP : Bp := ⟨4, 1, [⟨2, 9⟩], sgOf [⟨2, 9⟩]⟩
theorem shP_ok : BpOk shP := ⟨by decide, by decide, by decide, by decide, by decide, fun x hx => by
  simp [shP] at hx
  subst hx
  exact ⟨by decide, by decide, by unfold W64; decide⟩, rfl⟩
def shB (i : Nat) : Bk := if i < 8 then ⟨1, i, 0, true, 0⟩ else if i = 8 then ⟨2, 8, 0, true, 0⟩ else if i = 9 then ⟨6, 8, 0, true, 0⟩ else ⟨8, 8, 0, true, 1⟩
theorem shB_zero : shB 0 = bkNew shP false := rfl
theorem sh_goes (i : Nat) : goesB 4 4 shP (shB i) = true := by
  rw [goesB_iff]
  refine ⟨?_, rfl, fun x hx => ?_⟩
  · unfold shB; split
    · simp
    · split
      · simp
      · split <;> simp
  · simp [shP] at hx
    subst hx
    decide
theorem sh_wait (i : Nat) (v : Int) : waitB shP (shB i) v = false := by
  unfold waitB shB
  split
  · simp
  · split
    · simp
    · split <;> simp
theorem sh_next (i : Nat) (hi : i < 10) (L : List Ac) : nextBk 4 4 shP (shB i) L = shB (i + 1) ∧ ansBk 4 4 shP (shB i) L = 2 := by
  unfold nextBk ansBk
  rw [if_pos (sh_goes i), if_pos (sh_goes i), if_neg (by rw [sh_wait]; simp)]
  unfold stepB
  rw [if_neg (by rw [sh_wait]; simp)]
  have hc : i < 7 ∨ i = 7 ∨ i = 8 ∨ i = 9 := by omega
  rcases hc with h | rfl | rfl | rfl
  · have e1 : shB i = ⟨1, i, 0, true, 0⟩ := by unfold shB; rw [if_pos (by omega)]
    have e2 : shB (i + 1) = ⟨1, i + 1, 0, true, 0⟩ := by unfold shB; rw [if_pos (by omega)]
    rw [e1, e2]
    simp
    omega
  · exact ⟨rfl, rfl⟩
  · exact ⟨rfl, rfl⟩
  · exact ⟨rfl, rfl⟩
theorem sh_last (L : List Ac) : nextBk 4 4 shP (shB 10) L = ⟨0, 8, 0, true, 1⟩ ∧ ansBk 4 4 shP (shB 10) L = 3 := by
  unfold nextBk ansBk
  rw [if_pos (sh_goes 10), if_pos (sh_goes 10), if_neg (by rw [sh_wait]; simp)]
  unfold stepB
  rw [if_neg (by rw [sh_wait]; simp)]
  exact ⟨rfl, rfl⟩
theorem sh_ok : ∀ i, i ≤ 10 → BkOk shP (shB i)
  | 0, _ => by rw [shB_zero]; exact bk_new shP_ok false
  | i + 1, h => by
    rw [← (sh_next i (by omega) []).1]
    exact bk_next (sh_ok i (by omega)) 4 4 []
theorem sh_word9 (L : List Ac) (t : Int) : wordOf (nextBL 4 4 shP (shB 9) L t) ⟨4, 2, 0⟩ = 9 := by
  rw [nextBL_word (sh_ok 9 (by omega)), if_pos ⟨sh_goes 9, rfl⟩]
  exact upd_same _ _ _
theorem sh_word10 (L : List Ac) (t : Int) (h : wordOf L ⟨4, 2, 0⟩ = 9) : wordOf (nextBL 4 4 shP (shB 10) L t) ⟨4, 2, 0⟩ = 9 ∧ wordOf (nextBL 4 4 shP (shB 10) L t) ⟨2, 1, 0⟩ = 3 := by
  rw [nextBL_word (sh_ok 10 (by omega)), if_pos ⟨sh_goes 10, rfl⟩]
  have e : adB shP (shB 10) = ⟨2, 1, 0⟩ := rfl
  have e2 : valB shP (shB 10) = 3 := rfl
  rw [e, e2]
  exact ⟨by rw [upd_other (by simp)]; exact h, upd_same _ _ _⟩
set_option maxRecDepth 10000 in
set_option maxHeartbeats 3200000 in
theorem bshown_any (w : World) : Calls Try.prog 6 #[] w fun e w' => e = .returned (.bool true) ∧ Below w.heap.size w w' := by
  have HN : Hid (∀ w : World, Calls Try.prog 10 #[.int .i64 4, .int .i64 4] w fun e w' => ∃ p F, e = .returned (.tuple #[p, .int .i64 0]) ∧ p ≠ .pointer none ∧ MemAt w' w.heap.size p 4 4 [] F ∧ Below w.heap.size w w') := fun w => new_yes w 4 4 (by decide) (by decide)
  have HF : Hid (∀ (w : World) lv, WL w lv [⟨2, 9⟩] → Calls Try.prog 7 #[.agg #[.int .i64 0, .int .i64 4, .int .i64 0, .int .i64 0, .bool false, .int .i64 0, .slice none 0 0], .int .i64 1, lv] w fun e w' => ∃ Z u, e = .returned (.tuple #[.pointer (some ⟨Z, 0, none⟩), .int .i64 0]) ∧ w.heap.size ≤ Z ∧ BRow w' Z shP (shB 0) u ∧ w'.ownsRow w.heap.size 36 2 u shP.W.length (wtC shP.W) ∧ (∀ k, u.ownBlock = some k → k ≠ Z) ∧ Below w.heap.size w w') := fun w lv hl => by
    refine (bnew_any w 0 0 0 false 0 (.slice none 0 0) (P := shP) hl (by decide) (by decide) (by decide) (by decide) (by decide)).mono ?_
    rintro e w' ⟨hb, hh⟩
    rw [if_pos (by rfl)] at hh
    obtain ⟨Z, u, rfl, h1, h2, h3, h4⟩ := hh
    exact ⟨Z, u, rfl, h1, h2, h3, h4, hb⟩
  have HG : Hid (∀ w : World, Calls Try.prog 7 #[.agg #[.int .i64 0, .int .i64 4, .int .i64 0, .int .i64 0, .bool false, .int .i64 0, .slice none 0 0], .int .i64 0, .slice none 0 0] w fun e w' => e = .returned (.tuple #[.pointer none, .int .i64 1]) ∧ Below w.heap.size w w') := fun w => bnew_bad w 0 4 0 0 false 0 (.slice none 0 0) 0 (W := []) ⟨none, 0, rfl, by simp, Or.inl rfl⟩ (by decide)
  go_enter Try.func6, Try.ntmps6
  go_wp2_with fail
  refine (HN.out _).mono ?_
  rintro e w1 ⟨p, F1, rfl, _, hm1, hb1⟩
  obtain ⟨M, rfl⟩ := hm1.ptr
  have HM1 : Hid (MemAt w1 w.heap.size (.pointer (some ⟨M, 0, none⟩)) 4 4 [] F1 ∧ Below w.heap.size w w1) := ⟨hm1, hb1⟩
  clear hm1 hb1
  go_wp2_with fail
  have HWL : Hid (WL (w1.alloc (.cells #[.int .i64 2, .int .i64 9] 36)) (.slice (some ⟨w1.heap.size, 0, none⟩) 1 1) [⟨2, 9⟩]) := ⟨_, 1, rfl, by simp, Or.inr ⟨_, rfl, by simp, fun i hi => by
    have h0 : i = 0 := by simpa using hi
    subst h0
    have hn := heap_alloc_new w1 (.cells #[.int .i64 2, .int .i64 9] 36)
    rw [Sg.add_at, add_pos' _ _ (by decide)]
    exact ⟨by rw [cell_at hn]; rfl, by rw [cell_at hn]; rfl⟩⟩⟩
  refine (HF.out _ _ HWL.out).mono ?_
  rintro e w3 ⟨Z, u, rfl, hZ3, hr3, ho3, hne3, hb3⟩
  have HS3 : Hid (BW w w3 w.heap.size (.pointer (some ⟨M, 0, none⟩)) 4 4 [] Z shP (shB 0) u []) := bw_new (bs_new1 (HM1.out.1.below (below_a1 _ _)) (Nat.le_trans HM1.out.2.size (by simp)) hZ3 hr3 ho3 hne3 hb3) (below_then (below_then HM1.out.2 (below_a1 _ _)) hb3) (Nat.le_refl _) (Nat.le_trans HM1.out.2.size (Nat.le_trans (by simp) hb3.size))
  clear hZ3 hr3 ho3 hne3 hb3 HM1 HWL
  go_wp2_with fail
  refine (HG.out _).mono ?_
  rintro e w5 ⟨rfl, hb5⟩
  have HS5 : Hid (BW w w5 w.heap.size (.pointer (some ⟨M, 0, none⟩)) 4 4 [] Z shP (shB 0) u []) := HS3.out.later hb5
  clear hb5 HS3
  go_wp2
  go_loopw [7, 8] (fun nv iv wr => ∃ (i : Nat) (L : List Ac), i ≤ 10 ∧ nv = .int .i64 i ∧ iv = .int .i64 i ∧ L.length ≤ i ∧ (i = 10 → wordOf L ⟨4, 2, 0⟩ = 9) ∧ BW w wr w.heap.size (.pointer (some ⟨M, 0, none⟩)) 4 4 L Z shP (shB i) u []) (fun _ iv _ => 10 - (intOf iv).toNat)
  case atStart => exact ⟨0, [], by omega, rfl, rfl, by simp, by omega, HS5.out⟩
  case round =>
    obtain ⟨i, L, hi, rfl, rfl, hl, hw, hbw⟩ := hrel
    have HBW : Hid (BW w wr w.heap.size (.pointer (some ⟨M, 0, none⟩)) 4 4 L Z shP (shB i) u []) := hbw
    have HWD : Hid (L.length ≤ i ∧ (i = 10 → wordOf L ⟨4, 2, 0⟩ = 9)) := ⟨hl, hw⟩
    clear hbw hw hl
    by_cases hlt : i < 10
    · have d1 : decide ((i : Int) < 10) = true := decide_eq_true (by omega)
      have hlt' : (i : Int) < 10 := by omega
      have HT : Hid (Calls Try.prog 15 #[.pointer (some ⟨Z, 0, none⟩), (.pointer (some ⟨M, 0, none⟩)), .int .i64 5] wr fun e w' => e = .returned (.agg #[.int .i64 2, .int .i64 0, .int .i64 0, .bool true]) ∧ BW w w' w.heap.size (.pointer (some ⟨M, 0, none⟩)) 4 4 (nextBL 4 4 shP (shB i) L 5) Z shP (shB (i + 1)) u []) := by
        have := bw_step HBW.out (by have := HWD.out.1; omega) (sh_ok i hi) 5
        rw [(sh_next i hlt L).1, (sh_next i hlt L).2, sh_goes] at this
        exact this
      have HL2 : Hid ((nextBL 4 4 shP (shB i) L 5).length ≤ i + 1 ∧ (i + 1 = 10 → wordOf (nextBL 4 4 shP (shB i) L 5) ⟨4, 2, 0⟩ = 9)) := ⟨Nat.le_trans nextBL_len (by have := HWD.out.1; omega), fun e => by
        obtain rfl : i = 9 := by omega
        exact sh_word9 L 5⟩
      generalize nextBL 4 4 shP (shB i) L 5 = L' at *
      clear HBW HWD
      go_wp2_with fail
      refine HT.out.mono ?_
      rintro e w7 ⟨rfl, h7⟩
      have HW7 : Hid (BW w (w7.alloc (.cells #[.int .i64 2, .int .i64 0, .int .i64 0, .bool true] 52)) w.heap.size (.pointer (some ⟨M, 0, none⟩)) 4 4 L' Z shP (shB (i + 1)) u []) := h7.later (below_a1 _ _)
      clear h7 HT
      go_wp2
      go_roundw
      case rel => exact ⟨i + 1, L', by omega, by go_num, by go_num, HL2.out.1, HL2.out.2, HW7.out⟩
      case measure => simp [intOf]; omega
    · obtain rfl : i = 10 := by omega
      have HT : Hid (∀ w', BW w w' w.heap.size (.pointer (some ⟨M, 0, none⟩)) 4 4 L Z shP (shB 10) u [] → Calls Try.prog 15 #[.pointer (some ⟨Z, 0, none⟩), (.pointer (some ⟨M, 0, none⟩)), .int .i64 5] w' fun e w'' => e = .returned (.agg #[.int .i64 3, .int .i64 0, .int .i64 0, .bool true]) ∧ BW w w'' w.heap.size (.pointer (some ⟨M, 0, none⟩)) 4 4 (nextBL 4 4 shP (shB 10) L 5) Z shP ⟨0, 8, 0, true, 1⟩ u []) := fun w' hh => by
        have := bw_step hh (by have := HWD.out.1; omega) (sh_ok 10 hi) 5
        rw [(sh_last L).1, (sh_last L).2, sh_goes] at this
        exact this
      have HLF : Hid (∀ w', BW w w' w.heap.size (.pointer (some ⟨M, 0, none⟩)) 4 4 L Z shP (shB 10) u [] → Calls Try.prog 18 #[.pointer (some ⟨Z, 0, none⟩)] w' fun e w'' => e = .returned (.int .i64 0) ∧ BW w w'' w.heap.size (.pointer (some ⟨M, 0, none⟩)) 4 4 L Z shP (shB 10) u []) := fun w' hh => bw_left hh (sh_ok 10 hi)
      have HWW := sh_word10 L 5 (HWD.out.2 rfl)
      generalize nextBL 4 4 shP (shB 10) L 5 = L' at *
      have HP1 : Hid (∀ w' R, BW w w' w.heap.size (.pointer (some ⟨M, 0, none⟩)) 4 4 L' Z shP ⟨0, 8, 0, true, 1⟩ u R → Calls Try.prog 23 #[(.pointer (some ⟨M, 0, none⟩)), .agg #[.int .i64 4, .int .i64 2, .int .i64 0]] w' fun e w'' => e = .returned (.tuple #[.int .i64 9, .int .i64 0]) ∧ BW w w'' w.heap.size (.pointer (some ⟨M, 0, none⟩)) 4 4 L' Z shP ⟨0, 8, 0, true, 1⟩ u R) := fun w' R hh => by
        have := bw_peek hh ⟨4, 2, 0⟩ rfl
        rw [HWW.1] at this
        exact this
      have HP2 : Hid (∀ w' R, BW w w' w.heap.size (.pointer (some ⟨M, 0, none⟩)) 4 4 L' Z shP ⟨0, 8, 0, true, 1⟩ u R → Calls Try.prog 23 #[(.pointer (some ⟨M, 0, none⟩)), .agg #[.int .i64 2, .int .i64 1, .int .i64 0]] w' fun e w'' => e = .returned (.tuple #[.int .i64 3, .int .i64 0]) ∧ BW w w'' w.heap.size (.pointer (some ⟨M, 0, none⟩)) 4 4 L' Z shP ⟨0, 8, 0, true, 1⟩ u R) := fun w' R hh => by
        have := bw_peek hh ⟨2, 1, 0⟩ rfl
        rw [HWW.2] at this
        exact this
      clear HWW
      go_wp2_with fail
      refine (HLF.out _ HBW.out).mono ?_
      rintro e w6 ⟨rfl, h6⟩
      have HB6 : Hid (BW w w6 w.heap.size (.pointer (some ⟨M, 0, none⟩)) 4 4 L Z shP (shB 10) u []) := h6
      clear h6 HBW HLF
      go_wp2_with fail
      refine (HT.out _ HB6.out).mono ?_
      rintro e w7 ⟨rfl, h7⟩
      have HB7 : Hid (BW w (w7.alloc (.cells #[.int .i64 3, .int .i64 0, .int .i64 0, .bool true] 52)) w.heap.size (.pointer (some ⟨M, 0, none⟩)) 4 4 L' Z shP ⟨0, 8, 0, true, 1⟩ u ((w7.heap.size, ansO 3 true) :: [])) := h7.more _
      clear h7 HT HB6
      go_wp2_with fail
      refine (HP1.out _ _ HB7.out).mono ?_
      rintro e w8 ⟨rfl, h8⟩
      have HB8 : Hid (BW w w8 w.heap.size (.pointer (some ⟨M, 0, none⟩)) 4 4 L' Z shP ⟨0, 8, 0, true, 1⟩ u ((w7.heap.size, ansO 3 true) :: [])) := h8
      clear h8 HB7 HP1
      go_wp2_with fail
      refine (HP2.out _ _ HB8.out).mono ?_
      rintro e w9 ⟨rfl, h9⟩
      have HB9 : Hid (Below w.heap.size w w9) := h9.bel
      obtain ⟨⟨a0, _, _, _⟩, _⟩ := ans_cells (k := 3) (y := true) (h9.row (B := w7.heap.size) (o := ansO 3 true) (by simp))
      clear h9 HB8 HP2
      go_wp2
      go_ret
      exact ⟨rfl, HB9.out⟩
end Go.Proofs.Ytbmmicfdnfpcaaa
