/- DictAgain, walked: keys come and go, and a dict holds just as many. -/
import Derived.Test.YtbajgbknjmbimabDiCn
import Derived.Test.YtbajgbknjmbimabCoB
namespace Go.Proofs.Ytbajgbknjmbimab.Di
open Go.ChangeShapes Go.WideShapes Go.ChangeAt Go.RowKit
attribute [local go_sem ↓] Go.wp_at_zero Go.wp_at_succ

theorem nth_zero (k j : Nat) : nth (List.replicate k (0 : Int)) j = 0 := by
  unfold nth
  rw [List.getD_eq_getElem?_getD, List.getElem?_replicate]
  split <;> rfl
theorem pr_zero (k : Nat) : ∀ j, prS (List.replicate k (0 : Int)) j = []
  | 0 => rfl
  | j + 1 => by
    have h : stV (List.replicate k (0 : Int)) (j : Int) = 0 := nth_zero _ _
    simp only [prS]
    rw [h, if_neg (by decide), pr_zero k j]
theorem DInv.zero {n : Nat} (hn : n ≤ 16) : DInv n (List.replicate (3 * n + 1) 0) [] := by
  refine ⟨hn, by simp, all_of n (fun i _ => ?_), nth_zero _ _, by rw [pr_zero], fun x hx => ?_⟩
  · have h : stV (List.replicate (3 * n + 1) (0 : Int)) (i : Int) = 0 := nth_zero _ _
    exact gd_of (by rw [h]; decide) (fun h1 => by rw [h] at h1; cases h1)
  · rw [List.eq_of_mem_replicate hx]
    exact ⟨by decide, by decide⟩
/-- Those that are put in the end. -/
def agP (r : Int) (i : Nat) : List (Int × Int) := (List.range i).map (fun j : Nat => (r * 17 + (j : Int), 1))
theorem ag_len (r : Int) (i : Nat) : (agP r i).length = i := by simp [agP]
theorem ag_new (r : Int) (i : Nat) : ∀ p ∈ agP r i, p.1 ≠ r * 17 + (i : Int) := fun p hp => by
  simp only [agP, List.mem_map, List.mem_range] at hp
  obtain ⟨j, hj, rfl⟩ := hp
  simp only
  omega
theorem ag_succ (r : Int) (i : Nat) : agP r (i + 1) = agP r i ++ [(r * 17 + (i : Int), 1)] := by simp [agP, List.range_succ]
/-- The cells as they lie. -/
structure YM (w0 wr : World) (n gc : Nat) (C : List Int) : Prop where
  bel : Below w0.heap.size w0 wr
  rc : wr.ownsRow w0.heap.size 2 1 (.slice (some ⟨gc, 0, none⟩) (3 * n + 1) (3 * n + 1)) (3 * n + 1) (numC C)
theorem YM.later {w0 wr w' : World} {n gc : Nat} {C : List Int} (h : YM w0 wr n gc C) (hb : Below wr.heap.size wr w') : YM w0 w' n gc C :=
  ⟨h.bel.trans (hb.mono h.bel.size), own_keep h.rc (Keep.of_below hb []) (by simp)⟩
theorem YM.done {w0 wr w4 : World} {n gc : Nat} {C C' : List Int} (h : YM w0 wr n gc C) (hk : Keep [gc] wr w4) (hr : w4.ownsRow w0.heap.size 2 1 (.slice (some ⟨gc, 0, none⟩) (3 * n + 1) (3 * n + 1)) (3 * n + 1) (numC C')) : YM w0 w4 n gc C' :=
  ⟨h.bel.trans (hk.below h.bel.size (by simpa using (own_block h.rc gc rfl).1)), hr⟩
theorem ry_of {m : Nat} {c : Int} {n : Nat} (hm : m ≤ 16) (h : arV c = n) : rightV 0 m c n = true := by
  unfold rightV takesV
  simp only [Bool.and_eq_true, decide_eq_true_eq]
  omega
theorem Nl.two {w : World} {x : Addr} {a b : Int} (h0 : w.cell? x = some (.int .i64 a)) (h1 : w.cell? ⟨x.block, x.off + 1, none⟩ = some (.int .i64 b)) (ha : Sx a) (hb : Sx b) (hx : x.block < w.heap.size) : Nl w (.slice (some x) 2 2) [a, b] := by
  refine ⟨some x, 2, rfl, by simp, by simp, ⟨by decide, fun h => by cases h⟩, fun y hy => ?_, Or.inr ⟨x, rfl, hx, fun i hi => ?_⟩⟩
  · simp at hy
    rcases hy with rfl | rfl
    · exact ha
    · exact hb
  · match i, hi with
    | 0, _ => rw [add_zero']; exact h0
    | 1, _ => rw [add_pos' _ 1 (by omega)]; exact h1
theorem Nl.one {w : World} {x : Addr} {a : Int} (h0 : w.cell? x = some (.int .i64 a)) (ha : Sx a) (hx : x.block < w.heap.size) : Nl w (.slice (some x) 1 1) [a] := by
  refine ⟨some x, 1, rfl, by simp, by simp, ⟨by decide, fun h => by cases h⟩, fun y hy => ?_, Or.inr ⟨x, rfl, hx, fun i hi => ?_⟩⟩
  · simp at hy
    subst hy
    exact ha
  · match i, hi with
    | 0, _ => rw [add_zero']; exact h0
theorem lit_two (w : World) (a b : Int) (ha : Sx a) (hb : Sx b) : Nl (w.alloc (.cells #[.int .i64 a, .int .i64 b] 2)) (.slice (some ⟨w.heap.size, 0, none⟩) 2 2) [a, b] :=
  Nl.two (by rw [cell_at (heap_alloc_new _ _)]; rfl) (by rw [cell_at (heap_alloc_new _ _)]; rfl) ha hb (by simp)
theorem lit_one (w : World) (a : Int) (ha : Sx a) : Nl (w.alloc (.cells #[.int .i64 a] 2)) (.slice (some ⟨w.heap.size, 0, none⟩) 1 1) [a] :=
  Nl.one (by rw [cell_at (heap_alloc_new _ _)]; rfl) ha (by simp)
/-- A put of a new key, as it is called. -/
theorem put_any {w0 wr : World} {n gc : Nat} {C : List Int} {P : List (Int × Int)} {va : Value} {k v : Int} (hq : YM w0 wr n gc C) (hi : DInv n C P) (hn : ∀ p ∈ P, p.1 ≠ k) (hl : P.length < n) (ha : Nl wr va [k, v]) : Calls Try.prog 12 #[.slice (some ⟨gc, 0, none⟩) (3 * n + 1) (3 * n + 1), .int .i64 0, .int .i64 (n : Int), .int .i64 3, va] wr fun e w'' => e = .returned (.tuple #[.int .i64 0, .int .i64 0, .bool true]) ∧ ∃ C', YM w0 w'' n gc C' ∧ DInv n C' (P ++ [(k, v)]) := by
  obtain ⟨C', h1, h2⟩ := hi.add (A := [k, v]) hn hl (ha.w64 k (by simp)) (ha.w64 v (by simp))
  refine (done_run 0 (n : Int) 3 ha (ry_of hi.n16 rfl) hq.rc).mono ?_
  rintro e w'' ⟨e1, e2, e3⟩
  rw [h1] at e1 e2
  exact ⟨e1, C', hq.done e3 e2, h2⟩
theorem full_any {w0 wr : World} {n gc : Nat} {C : List Int} {P : List (Int × Int)} {va : Value} {k v : Int} (hq : YM w0 wr n gc C) (hi : DInv n C P) (hn : ∀ p ∈ P, p.1 ≠ k) (hl : n ≤ P.length) (ha : Nl wr va [k, v]) : Calls Try.prog 12 #[.slice (some ⟨gc, 0, none⟩) (3 * n + 1) (3 * n + 1), .int .i64 0, .int .i64 (n : Int), .int .i64 3, va] wr fun e w'' => e = .returned (.tuple #[.int .i64 0, .int .i64 2, .bool true]) ∧ YM w0 w'' n gc C := by
  have h1 := hi.full (A := [k, v]) hn hl
  refine (done_run 0 (n : Int) 3 ha (ry_of hi.n16 rfl) hq.rc).mono ?_
  rintro e w'' ⟨e1, e2, e3⟩
  rw [h1] at e1 e2
  exact ⟨e1, hq.done e3 e2⟩
theorem del_any {w0 wr : World} {n gc : Nat} {C : List Int} {va : Value} {k v : Int} (hq : YM w0 wr n gc C) (hi : DInv n C [(k, v)]) (ha : Nl wr va [k]) : Calls Try.prog 12 #[.slice (some ⟨gc, 0, none⟩) (3 * n + 1) (3 * n + 1), .int .i64 0, .int .i64 (n : Int), .int .i64 4, va] wr fun e w'' => e = .returned (.tuple #[.int .i64 0, .int .i64 0, .bool true]) ∧ ∃ C', YM w0 w'' n gc C' ∧ DInv n C' [] := by
  obtain ⟨C', h1, h2⟩ := hi.del (A := [k]) (v := v) (Q := []) (by simp [nth]) (by simp [nth])
  refine (done_run 0 (n : Int) 4 ha (ry_of hi.n16 rfl) hq.rc).mono ?_
  rintro e w'' ⟨e1, e2, e3⟩
  rw [h1] at e1 e2
  exact ⟨e1, C', hq.done e3 e2, h2⟩
theorem ya_wrap {n : Nat} (h : n ≤ 16) : wrap64 (3 * (n : Int)) = 3 * (n : Int) ∧ wrap64 (3 * (n : Int) + 1) = 3 * (n : Int) + 1 := by
  unfold wrap64
  omega
theorem ya_i {i : Nat} (h : i < 400) : wrap64 ((i : Int) + 1) = ((i + 1 : Nat) : Int) ∧ wrap64 (i : Int) = (i : Int) := by
  unfold wrap64
  omega
theorem ya_s {i : Nat} (h : i < 400) : Sx (i : Int) := by unfold Sx; omega
theorem ya_less {i : Nat} (h : i < 400) : 400 - (i + 1) < 400 - i := by omega
theorem yb_wrap {r i n : Nat} (hr : r ≤ 40) (hi : i ≤ n) (hn : n ≤ 16) : wrap64 ((r : Int) * 17) = (r : Int) * 17 ∧ wrap64 ((r : Int) * 17 + (i : Int)) = (r : Int) * 17 + (i : Int) ∧ wrap64 ((i : Int) + 1) = ((i + 1 : Nat) : Int) := by
  unfold wrap64
  omega
theorem yb_s {r i n : Nat} (hr : r ≤ 40) (hi : i ≤ n) (hn : n ≤ 16) : Sx ((r : Int) * 17 + (i : Int)) ∧ Sx 1 := by
  unfold Sx
  omega
theorem yb_less {i n : Nat} (h : i ≤ n) : n + 1 - (i + 1) < n + 1 - i := by omega
set_option maxRecDepth 100000 in
set_option maxHeartbeats 4000000 in
theorem again_yes {w : World} (n r : Nat) (hn1 : 1 ≤ n) (hn16 : n ≤ 16) (hr : r ≤ 40) {vk : Value} {K : List Int} (hk : Nl w vk K) : Calls Try.prog 5 #[.int .i64 (n : Int), vk, .int .i64 (r : Int)] w fun e w' => e = .returned (.bool true) ∧ Below w.heap.size w w' := by
  have HK : Hid (∀ w' : World, Below w.heap.size w w' → Nl w' vk K) := fun w' hb => hk.later hb (Nat.le_refl _)
  obtain ⟨ka, kcap, rfl⟩ := nl_slice hk
  clear hk
  have d1 : decide ((n : Int) < 1) = false := by simp; omega
  have d2 : decide ((16 : Int) < (n : Int)) = false := by simp; omega
  have d3 : decide ((r : Int) < 0) = false := by simp
  have d4 : decide ((40 : Int) < (r : Int)) = false := by simp; omega
  obtain ⟨hw1, hw2⟩ := ya_wrap hn16
  obtain ⟨w1, hm1, ho1, hb1, hlt1⟩ := make_nums w (3 * n + 1) (by omega)
  rw [show ((3 * n + 1 : Nat) : Int) = 3 * (n : Int) + 1 from by omega] at hm1
  have HY1 : Hid (YM w w1 n w.heap.size (List.replicate (3 * n + 1) 0)) := ⟨hb1, ho1⟩
  have HZ : Hid (DInv n (List.replicate (3 * n + 1) 0) []) := DInv.zero hn16
  generalize List.replicate (3 * n + 1) (0 : Int) = C0 at *
  clear ho1 hb1 hlt1
  go_enter Try.func5, Try.ntmps5
  go_upto_block 0 with fail
  obtain ⟨gc, hgc⟩ : ∃ gc, gc = w.heap.size := ⟨_, rfl⟩
  rw [← hgc] at HY1 ⊢
  clear hgc hm1 hw1 hw2 d1 d2 d3 d4
  go_cut [8] (fun _ wx => ∃ C, YM w wx n gc C ∧ DInv n C [])
  case first =>
    go_wp2_with fail
    go_loopg [8] 400 (fun gh iv wr => ∃ (i : Nat) (C : List Int), 400 - i = gh ∧ i ≤ 400 ∧ iv = .int .i64 (i : Int) ∧ YM w wr n gc C ∧ DInv n C [])
    case atStart => exact ⟨0, C0, rfl, by decide, rfl, HY1.out, HZ.out⟩
    case round =>
      obtain ⟨i, C, rfl, hi, rfl, hym, hin⟩ := hrel
      have HYM : Hid (YM w wr n gc C) := hym
      have HIN : Hid (DInv n C []) := hin
      clear hym hin HY1 HZ
      by_cases h1 : i < K.length
      · have d1 : decide ((i : Int) < (K.length : Int)) = true := by simpa using h1
        by_cases h2 : i < 400
        · have d2 : decide ((i : Int) < 400) = true := by simp; omega
          obtain ⟨_, _, hnc⟩ := nl_cells (HK.out wr HYM.out.bel)
          obtain ⟨xk, rfl, hxb, x0⟩ := hnc i h1
          have HK2 : Hid (∀ w' : World, Below w.heap.size w w' → w'.cell? (xk.add i) = some (.int .i64 (nth K i)) ∧ Sx (nth K i)) := fun w' hb => by
            obtain ⟨_, _, hnc⟩ := nl_cells (HK.out w' hb)
            obtain ⟨x', e, _, x1⟩ := hnc i h1
            injection e with e
            subst e
            exact ⟨x1, nl_w64 (HK.out w' hb).w64 i⟩
          obtain ⟨hw1, hw2⟩ := ya_i h2
          generalize nth K i = key at *
          clear hnc hxb
          have HDP : Hid (∀ (w' : World) (va : Value), YM w w' n gc C → Nl w' va [key, (i : Int)] → Calls Try.prog 12 #[.slice (some ⟨gc, 0, none⟩) (3 * n + 1) (3 * n + 1), .int .i64 0, .int .i64 (n : Int), .int .i64 3, va] w' fun e w'' => e = .returned (.tuple #[.int .i64 0, .int .i64 0, .bool true]) ∧ ∃ C', YM w w'' n gc C' ∧ DInv n C' [(key, (i : Int))]) := fun w' va hq ha => put_any hq HIN.out (by simp) (by simp; omega) ha
          go_wp2_with fail
          have hsi : Sx (i : Int) := ya_s h2
          refine (HDP.out _ _ (HYM.out.later (below_a1 _ _)) (lit_two wr key (i : Int) (HK2.out wr HYM.out.bel).2 hsi)).mono ?_
          rintro e w2 ⟨rfl, C2, hq2, hi2⟩
          have HQ2 : Hid (YM w w2 n gc C2) := hq2
          have HI2 : Hid (DInv n C2 [(key, (i : Int))]) := hi2
          obtain ⟨x2, hsk⟩ := HK2.out w2 hq2.bel
          have HD2 : Hid (∀ (w' : World) (va : Value), YM w w' n gc C2 → Nl w' va [key] → Calls Try.prog 12 #[.slice (some ⟨gc, 0, none⟩) (3 * n + 1) (3 * n + 1), .int .i64 0, .int .i64 (n : Int), .int .i64 4, va] w' fun e w'' => e = .returned (.tuple #[.int .i64 0, .int .i64 0, .bool true]) ∧ ∃ C', YM w w'' n gc C' ∧ DInv n C' []) := fun w' va hq ha => del_any hq HI2.out ha
          clear hq2 hi2 HDP HYM HIN x0
          go_wp2_with fail
          refine (HD2.out _ _ (HQ2.out.later (below_a1 _ _)) (lit_one w2 key hsk)).mono ?_
          rintro e w3 ⟨rfl, C3, hq3, hi3⟩
          have HQ3 : Hid (YM w w3 n gc C3) := hq3
          have HI3 : Hid (DInv n C3 []) := hi3
          clear hq3 hi3 HQ2 HI2 HD2 x2
          go_wp2_with fail
          go_roundg (400 - (i + 1))
          case rel => exact ⟨i + 1, C3, rfl, h2, by first | rw [hw1] | go_num, HQ3.out, HI3.out⟩
          case measure => exact ya_less h2
        · have d2 : decide ((i : Int) < 400) = false := by simp; omega
          go_wp2_with fail
          go_meet
          exact ⟨C, HYM.out, HIN.out⟩
      · have d1 : decide ((i : Int) < (K.length : Int)) = false := by simpa using h1
        go_wp2_with fail
        go_meet
        exact ⟨C, HYM.out, HIN.out⟩
  case rest =>
    obtain ⟨C, hym, hin⟩ := hcut
    have HYM : Hid (YM w wc n gc C) := hym
    have HIN : Hid (DInv n C (agP (r : Int) 0)) := hin
    clear hym hin HY1 HZ HK
    go_wp2_with fail
    go_loopg [12] (n + 1) (fun gh iv wr => ∃ (i : Nat) (C : List Int), n + 1 - i = gh ∧ i ≤ n + 1 ∧ iv = .int .i64 (i : Int) ∧ YM w wr n gc C ∧ (i ≤ n → DInv n C (agP (r : Int) i)))
    case atStart => exact ⟨0, C, rfl, Nat.zero_le _, rfl, HYM.out, fun _ => HIN.out⟩
    case round =>
      obtain ⟨i, C1, rfl, hi, rfl, hym, hin⟩ := hrel
      have HY : Hid (YM w wr n gc C1) := hym
      have HI : Hid (i ≤ n → DInv n C1 (agP (r : Int) i)) := hin
      clear hym hin HYM HIN
      by_cases h1 : i ≤ n
      · have d1 : decide ((i : Int) ≤ (n : Int)) = true := by simpa using h1
        obtain ⟨hw1, hw2, hw3⟩ := yb_wrap hr h1 hn16
        have hsx : Hid (Sx ((r : Int) * 17 + (i : Int)) ∧ Sx 1) := yb_s hr h1 hn16
        by_cases h2 : i < n
        · have d2 : ((i : Int) == (n : Int)) = false := by simp; omega
          have HDP : Hid (∀ (w' : World) (va : Value), YM w w' n gc C1 → Nl w' va [(r : Int) * 17 + (i : Int), 1] → Calls Try.prog 12 #[.slice (some ⟨gc, 0, none⟩) (3 * n + 1) (3 * n + 1), .int .i64 0, .int .i64 (n : Int), .int .i64 3, va] w' fun e w'' => e = .returned (.tuple #[.int .i64 0, .int .i64 0, .bool true]) ∧ ∃ C', YM w w'' n gc C' ∧ DInv n C' (agP (r : Int) (i + 1))) := fun w' va hq ha => by rw [ag_succ]; exact put_any hq (HI.out h1) (ag_new _ _) (by rw [ag_len]; exact h2) ha
          go_wp2_with fail
          refine (HDP.out _ _ (HY.out.later (below_a1 _ _)) (lit_two wr _ _ hsx.out.1 hsx.out.2)).mono ?_
          rintro e w2 ⟨rfl, C2, hq2, hi2⟩
          have HQ2 : Hid (YM w w2 n gc C2) := hq2
          have HI2 : Hid (DInv n C2 (agP (r : Int) (i + 1))) := hi2
          clear hq2 hi2 HDP HY HI
          go_wp2_with fail
          go_roundg (n + 1 - (i + 1))
          case rel => exact ⟨i + 1, C2, rfl, Nat.succ_le_succ h1, by first | rw [hw3] | go_num, HQ2.out, fun _ => HI2.out⟩
          case measure => exact yb_less h1
        · obtain rfl : i = n := by omega
          have d2 : ((i : Int) == (i : Int)) = true := by simp
          have HDP : Hid (∀ (w' : World) (va : Value), YM w w' i gc C1 → Nl w' va [(r : Int) * 17 + (i : Int), 1] → Calls Try.prog 12 #[.slice (some ⟨gc, 0, none⟩) (3 * i + 1) (3 * i + 1), .int .i64 0, .int .i64 (i : Int), .int .i64 3, va] w' fun e w'' => e = .returned (.tuple #[.int .i64 0, .int .i64 2, .bool true]) ∧ YM w w'' i gc C1) := fun w' va hq ha => full_any hq (HI.out h1) (ag_new _ _) (by rw [ag_len]; exact Nat.le_refl _) ha
          go_wp2_with fail
          refine (HDP.out _ _ (HY.out.later (below_a1 _ _)) (lit_two wr _ _ hsx.out.1 hsx.out.2)).mono ?_
          rintro e w2 ⟨rfl, hq2⟩
          have HQ2 : Hid (YM w w2 i gc C1) := hq2
          clear hq2 HDP HY HI
          go_wp2_with fail
          go_roundg (i + 1 - (i + 1))
          case rel => exact ⟨i + 1, C1, rfl, Nat.le_refl _, by first | rw [hw3] | go_num, HQ2.out, fun h => absurd h (Nat.not_succ_le_self i)⟩
          case measure => exact yb_less h1
      · have d1 : decide ((i : Int) ≤ (n : Int)) = false := by simpa using h1
        go_wp2_with fail
        go_ret
        exact ⟨rfl, HY.out.bel⟩
set_option maxRecDepth 100000 in
set_option maxHeartbeats 4000000 in
theorem again_no {w : World} (m r : Int) {vk : Value} {K : List Int} (hk : Nl w vk K) (h : m < 1 ∨ 16 < m ∨ r < 0 ∨ 40 < r) : Calls Try.prog 5 #[.int .i64 m, vk, .int .i64 r] w fun e w' => e = .returned (.bool true) ∧ Below w.heap.size w w' := by
  obtain ⟨ka, kcap, rfl⟩ := nl_slice hk
  clear hk
  by_cases h1 : m < 1
  · have d1 : decide (m < 1) = true := by simpa using h1
    clear h
    go_enter Try.func5, Try.ntmps5
    go_wp2_with fail
    go_ret
    exact ⟨rfl, Below.refl _ _⟩
  · have d1 : decide (m < 1) = false := by simpa using h1
    by_cases h2 : 16 < m
    · have d2 : decide (16 < m) = true := by simpa using h2
      clear h
      go_enter Try.func5, Try.ntmps5
      go_wp2_with fail
      go_ret
      exact ⟨rfl, Below.refl _ _⟩
    · have d2 : decide (16 < m) = false := by simpa using h2
      by_cases h3 : r < 0
      · have d3 : decide (r < 0) = true := by simpa using h3
        clear h
        go_enter Try.func5, Try.ntmps5
        go_wp2_with fail
        go_ret
        exact ⟨rfl, Below.refl _ _⟩
      · have d3 : decide (r < 0) = false := by simpa using h3
        have h4 : 40 < r := by omega
        have d4 : decide (40 < r) = true := by simpa using h4
        clear h
        go_enter Try.func5, Try.ntmps5
        go_wp2_with fail
        go_ret
        exact ⟨rfl, Below.refl _ _⟩
theorem again_walk {w : World} (m : Int) {vk : Value} {K : List Int} (hk : Nl w vk K) (r : Int) : Calls Try.prog 5 #[.int .i64 m, vk, .int .i64 r] w fun e w' => e = .returned (.bool true) ∧ Below w.heap.size w w' := by
  by_cases h : m < 1 ∨ 16 < m ∨ r < 0 ∨ 40 < r
  · exact again_no m r hk h
  · obtain ⟨n, rfl⟩ := Int.eq_ofNat_of_zero_le (a := m) (by omega)
    obtain ⟨s, rfl⟩ := Int.eq_ofNat_of_zero_le (a := r) (by omega)
    exact again_yes n s (by omega) (by omega) (by omega) hk
end Go.Proofs.Ytbajgbknjmbimab.Di
