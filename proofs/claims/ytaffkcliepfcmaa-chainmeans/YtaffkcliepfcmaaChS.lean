/- The document's chain (layer 18): Size, Arity, and its calls behind their ways, whatever was read. -/
import Derived.Test.YtaffkcliepfcmaaChR
import Derived.Deep.LoopGhost
namespace Go.Proofs.Ytaffkcliepfcmaa.Ch
open Go.ChangeShapes Go.WideShapes Go.ChangeAt Go.RowKit
attribute [local go_sem ↓] Go.wp_at_zero Go.wp_at_succ

theorem rsize_any (w : World) (m : Int) : Calls Try.prog 28 #[.int .i64 m] w fun e w' => e = .returned (.int .i64 (sizeV m)) ∧ w' = w := by
  have HC : Hid (∀ w : World, Calls Try.prog 27 #[.int .i64 m] w fun e w' => e = .returned (.bool (decide (0 ≤ m) && decide (m ≤ 16))) ∧ w' = w) := fun w => rright_any w m
  by_cases hm : 0 ≤ m ∧ m ≤ 16
  · have e1 : (decide (0 ≤ m) && decide (m ≤ 16)) = true := by simp [hm]
    rw [e1] at HC
    have HV : Hid (sizeV m = 2 * m + 3) := by unfold sizeV; rw [if_pos hm]; exact rfl
    have h3 : wrap64 (2 * m) = 2 * m := by unfold wrap64; omega
    have hw : wrap64 (2 * m + 3) = 2 * m + 3 := by unfold wrap64; omega
    clear hm e1
    go_enter Try.func28, Try.ntmps28
    go_wp2_with fail
    refine (HC.out _).mono ?_
    rintro e w1 ⟨rfl, rfl⟩
    go_wp2_with fail
    go_ret
    exact ⟨by rw [HV.out]; show Ending.returned (.int .i64 (wrap64 (2 * m + 3))) = _; rw [hw], rfl⟩
  · have e1 : (decide (0 ≤ m) && decide (m ≤ 16)) = false := by
      rw [Bool.eq_false_iff]
      intro h
      simp only [Bool.and_eq_true, decide_eq_true_eq] at h
      exact hm h
    rw [e1] at HC
    have HV : Hid (sizeV m = 0) := by unfold sizeV; rw [if_neg hm]; exact rfl
    clear hm e1
    go_enter Try.func28, Try.ntmps28
    go_wp2_with fail
    refine (HC.out _).mono ?_
    rintro e w1 ⟨rfl, rfl⟩
    go_wp2_with fail
    go_ret
    exact ⟨by rw [HV.out]; rfl, rfl⟩
theorem rarity_any (w : World) (c : Int) : Calls Try.prog 11 #[.int .i64 c] w fun e w' => e = .returned (.int .i64 (arV c)) ∧ w' = w := by
  by_cases hc : c = 1 ∨ c = 4 ∨ c = 6 ∨ c = 8 ∨ c = 7 ∨ c = 5
  · rcases hc with rfl | rfl | rfl | rfl | rfl | rfl <;> (go_enter Try.func11, Try.ntmps11; go_wp2; go_ret; exact ⟨rfl, rfl⟩)
  · have HE : Hid (arV c = -1) := by have : arV c = -1 := (by unfold arV; rw [if_neg (by omega), if_neg (by omega), if_neg (by omega), if_neg (by omega), if_neg (by omega), if_neg (by omega)]); exact this
    have e1 : (c == 1) = false := by simp; omega
    have e4 : (c == 4) = false := by simp; omega
    have e6 : (c == 6) = false := by simp; omega
    have e8 : (c == 8) = false := by simp; omega
    have e7 : (c == 7) = false := by simp; omega
    have e5 : (c == 5) = false := by simp; omega
    clear hc
    go_enter Try.func11, Try.ntmps11
    go_wp2
    go_ret
    exact ⟨by rw [HE.out]; rfl, rfl⟩
/-- A list behind a slice, by its first two. -/
theorem nl_0 {w : World} {v : Value} (h : Nl w v []) : ∃ a cap, v = .slice a 0 cap := by
  obtain ⟨a, cap, rfl, _⟩ := h
  exact ⟨a, cap, rfl⟩
theorem nl_1 {w : World} {v : Value} {f : Int} (h : Nl w v [f]) : ∃ xa cap, v = .slice (some xa) 1 cap ∧ xa.block < w.heap.size ∧ w.cell? xa = some (.int .i64 f) := by
  obtain ⟨a, cap, rfl, _, _, _, _, hl⟩ := h
  obtain ⟨x, rfl, hx, hc⟩ := hl.resolve_left (by simp)
  have h0 := hc 0 (by simp)
  rw [add_zero'] at h0
  exact ⟨x, cap, rfl, hx, h0⟩
theorem nl_2 {w : World} {v : Value} {f u : Int} {l : List Int} (h : Nl w v (f :: u :: l)) : ∃ xa cap m, v = .slice (some xa) m cap ∧ 1 < m ∧ xa.block < w.heap.size ∧ w.cell? xa = some (.int .i64 f) ∧ w.cell? ⟨xa.block, xa.off + 1, none⟩ = some (.int .i64 u) := by
  obtain ⟨a, cap, rfl, _, _, _, _, hl⟩ := h
  obtain ⟨x, rfl, hx, hc⟩ := hl.resolve_left (by simp)
  have h0 := hc 0 (by simp)
  have h1 := hc 1 (by simp)
  rw [add_zero'] at h0
  rw [add_pos' _ _ (by decide)] at h1
  exact ⟨x, cap, _, rfl, by simp, hx, h0, h1⟩
theorem rleast_any (w : World) {b n : Int} {vr : Value} {R : List Int} (hr : Nl w vr R) (hb : 0 ≤ b ∧ b ≤ 1024) (hn : 0 ≤ n ∧ n ≤ 16) : Calls Try.prog 64 #[.int .i64 b, .int .i64 n, vr] w (Tl (leastV b n R) w) := by
  match R, hr with
  | [], hr =>
    obtain ⟨a, cap, rfl⟩ := nl_0 hr
    have := rleast_0 w (b := b) (n := n) (a := a) (cap := cap)
    simpa [leastV] using this
  | [f], hr =>
    obtain ⟨xa, cap, rfl, hx, h0⟩ := nl_1 hr
    by_cases hl : leadV f n = 0
    · have := rleast_no1 w (b := b) (n := n) (cap := cap) hl hx h0
      simpa [leastV, kbV, hl] using this
    · have := rleast_key1 w (cap := cap) hb hn hl hx h0
      simpa [leastV, kbV, hl] using this
  | f :: u :: l, hr =>
    obtain ⟨xa, cap, m, rfl, hm, hx, h0, h1⟩ := nl_2 hr
    by_cases hl : leadV f n = 0
    · have := rleast_no2 w (b := b) (n := n) (cap := cap) hl hm hx h0 h1
      simpa [leastV, kbV, hl] using this
    · have := rleast_val2 w (b := b) (n := n) (cap := cap) hl hm hx h0 h1
      simpa [leastV, kbV, hl] using this
/-- The document's way beside the program's. -/
def gOf (x : Wy) (k : Int) (r : Nat) : Wg := ⟨x.cell, x.link, x.node, wyAt x k, x.key, r, true, 0⟩
/-- What is so of a way that is over. -/
structure WdOk (n : Int) (x : Wy) : Prop where
  w : WyOk n x
  z : x.stop = false → x.node = 0
theorem rnxt_any (w : World) {b n k : Int} {vr : Value} {l : List Int} {x : Wy} {r : Nat} (hr : Nl w vr l) (hx : WdOk n x) (hb : 0 ≤ b ∧ b ≤ 1024) (hn : 0 ≤ n ∧ n ≤ 16) : Calls Try.prog 70 #[.int .i64 b, .int .i64 n, .agg (wgC (gOf x k r)), vr] w (Tl (nextV b n k x l) w) := by
  by_cases hs : x.stop = true
  · have hnode := hx.w.s hs
    have h1 : (gOf x k r).node ≠ 0 := by simp only [gOf]; omega
    by_cases ha : wyAt x k = true
    · have h2 : (gOf x k r).at_ = true := ha
      match l, hr with
      | [], hr =>
        obtain ⟨a, cap, rfl⟩ := nl_0 hr
        have := rnxt_link w (b := b) (n := n) (g := gOf x k r) (a := a) (cap := cap) h1 h2 hb (by simp only [gOf]; omega)
        simpa [nextV, hs, ha, gOf] using this
      | [f], hr =>
        obtain ⟨xa, cap, rfl, hx, h0⟩ := nl_1 hr
        by_cases hl : leadV f n = 0
        · have := rnxt_no1 w (b := b) (n := n) (g := gOf x k r) (cap := cap) h1 h2 hl hx h0
          simpa [nextV, hs, ha, kbV, hl] using this
        · have := rnxt_key1 w (g := gOf x k r) (cap := cap) h1 h2 hb hn hl hx h0
          simpa [nextV, hs, ha, kbV, hl] using this
      | f :: u :: l, hr =>
        obtain ⟨xa, cap, m, rfl, hm, hx, h0, h3⟩ := nl_2 hr
        by_cases hl : leadV f n = 0
        · have := rnxt_no2 w (b := b) (n := n) (g := gOf x k r) (cap := cap) h1 h2 hl hm hx h0 h3
          simpa [nextV, hs, ha, kbV, hl] using this
        · have := rnxt_val2 w (b := b) (n := n) (g := gOf x k r) (cap := cap) h1 h2 hl hm hx h0 h3
          simpa [nextV, hs, ha, kbV, hl] using this
    · have h2 : (gOf x k r).at_ = false := by simpa [gOf] using ha
      match l, hr with
      | [], hr =>
        obtain ⟨a, cap, rfl⟩ := nl_0 hr
        have := rnxt_stop0 w (b := b) (n := n) (g := gOf x k r) (a := a) (cap := cap) h1 h2
        simpa [nextV, hs, ha, gOf] using this
      | [f], hr =>
        obtain ⟨xa, cap, rfl, hx, h0⟩ := nl_1 hr
        have := rnxt_stop1 w (b := b) (n := n) (g := gOf x k r) (cap := cap) h1 h2 hx h0
        simpa [nextV, hs, ha, gOf] using this
      | f :: u :: l, hr =>
        obtain ⟨xa, cap, m, rfl, hm, hx, h0, h3⟩ := nl_2 hr
        have := rnxt_stop2 w (b := b) (n := n) (g := gOf x k r) (cap := cap) h1 h2 hm hx h0 h3
        simpa [nextV, hs, ha, gOf] using this
  · have hs' : x.stop = false := by simpa using hs
    have h1 : (gOf x k r).node = 0 := hx.z hs'
    match l, hr with
    | [], hr =>
      obtain ⟨a, cap, rfl⟩ := nl_0 hr
      have := rnxt_none0 w (b := b) (n := n) (g := gOf x k r) (a := a) (cap := cap) h1
      simpa [nextV, hs'] using this
    | [f], hr =>
      obtain ⟨xa, cap, rfl, hx, h0⟩ := nl_1 hr
      have := rnxt_none1 w (b := b) (n := n) (g := gOf x k r) (cap := cap) h1 hx h0
      simpa [nextV, hs'] using this
    | f :: u :: l, hr =>
      obtain ⟨xa, cap, m, rfl, hm, hx, h0, h3⟩ := nl_2 hr
      have := rnxt_none2 w (b := b) (n := n) (g := gOf x k r) (cap := cap) h1 hm hx h0 h3
      simpa [nextV, hs'] using this
/-- How many writes are told, by how much was read: so much the document needs. -/
theorem rdels_any (w : World) {b n k wr : Int} {vr : Value} {l : List Int} {x : Wy} {r : Nat} (hr : Nl w vr l) (hx : WdOk n x) (hb : 0 ≤ b ∧ b ≤ 1024) (hn : 0 ≤ n ∧ n ≤ 16) : Calls Try.prog 69 #[.int .i64 b, .agg (wgC (gOf x k r)), vr, .int .i64 wr] w (Tl (delsV b k x l wr) w) := by
  have hc := hx.w.c
  by_cases ha : wyAt x k = true
  · have h2 : (gOf x k r).at_ = true := ha
    have hnode := hx.w.s (at_stop ha).1
    have h3 : 0 ≤ (gOf x k r).node ∧ (gOf x k r).node ≤ 16 := by simp only [gOf]; omega
    have h4 : 0 ≤ (gOf x k r).link ∧ (gOf x k r).link ≤ 100 := by simp only [gOf]; omega
    match l, hr with
    | [], hr =>
      obtain ⟨a, cap, rfl⟩ := nl_0 hr
      have := rdels_0 w (wr := wr) (a := a) (cap := cap) h2 hb h3
      simpa [delsV, ha, gOf] using this
    | [f], hr =>
      obtain ⟨xa, cap, rfl, hx, h0⟩ := nl_1 hr
      by_cases hw : wr = 0
      · have := rdels_put1 w (cap := cap) h2 hb h4 hw hx h0
        simpa [delsV, ha, gOf, hw] using this
      · have := rdels_free w (cap := cap) h2 hb hw hx h0
        simpa [delsV, ha, gOf, hw] using this
    | f :: u :: l, hr =>
      obtain ⟨xa, cap, m, rfl, hm, hx, h0, h5⟩ := nl_2 hr
      by_cases hw : wr = 0
      · have := rdels_put2 w (cap := cap) h2 hb h4 hw hm hx h0 h5
        simpa [delsV, ha, gOf, hw] using this
      · by_cases hw1 : wr = 1
        · have := rdels_next w (cap := cap) h2 hb h3 hw1 hm hx h0 h5
          simpa [delsV, ha, gOf, hw1] using this
        · by_cases hw2 : wr = 2
          · have := rdels_free2 w (cap := cap) h2 hb hw2 hm hx h0 h5
            simpa [delsV, ha, gOf, hw2] using this
          · have := rdels_end w (b := b) (cap := cap) h2 hw hw1 hw2 hm hx h0 h5
            simpa [delsV, ha, gOf, hw, hw1, hw2] using this
  · have h2 : (gOf x k r).at_ = false := by simpa [gOf] using ha
    match l, hr with
    | [], hr =>
      obtain ⟨a, cap, rfl⟩ := nl_0 hr
      have := rdels_none0 w (b := b) (wr := wr) (a := a) (cap := cap) h2
      simpa [delsV, ha] using this
    | [f], hr =>
      obtain ⟨xa, cap, rfl, hx, h0⟩ := nl_1 hr
      have := rdels_none1 w (b := b) (wr := wr) (cap := cap) h2 hx h0
      simpa [delsV, ha] using this
    | f :: u :: l, hr =>
      obtain ⟨xa, cap, m, rfl, hm, hx, h0, h5⟩ := nl_2 hr
      have := rdels_none2 w (b := b) (wr := wr) (cap := cap) h2 hm hx h0 h5
      simpa [delsV, ha] using this
theorem radds_any (w : World) {b n k wr : Int} {vr : Value} {l : List Int} {x : Wy} {r : Nat} (hr : Nl w vr l) (hx : WdOk n x) (hb : 0 ≤ b ∧ b ≤ 1024) (hn : 0 ≤ n ∧ n ≤ 16) : Calls Try.prog 68 #[.int .i64 b, .int .i64 n, .int .i64 k, .agg (wgC (gOf x k r)), vr, .int .i64 wr] w (Tl (addsV b n k x l wr) w) := by
  have hc := hx.w.c
  by_cases ha : wyAt x k = true
  · have h2 : (gOf x k r).at_ = true := ha
    match l, hr with
    | [], hr =>
      obtain ⟨a, cap, rfl⟩ := nl_0 hr
      have := radds_there0 w (b := b) (n := n) (k := k) (wr := wr) (a := a) (cap := cap) h2
      simpa [addsV, ha] using this
    | [f], hr =>
      obtain ⟨xa, cap, rfl, hx, h0⟩ := nl_1 hr
      have := radds_there1 w (b := b) (n := n) (k := k) (wr := wr) (cap := cap) h2 hx h0
      simpa [addsV, ha] using this
    | f :: u :: l, hr =>
      obtain ⟨xa, cap, m, rfl, hm, hx, h0, h5⟩ := nl_2 hr
      have := radds_there2 w (b := b) (n := n) (k := k) (wr := wr) (cap := cap) h2 hm hx h0 h5
      simpa [addsV, ha] using this
  · have h2 : (gOf x k r).at_ = false := by simpa [gOf] using ha
    have h4 : 0 ≤ (gOf x k r).link ∧ (gOf x k r).link ≤ 100 := by simp only [gOf]; omega
    match l, hr with
    | [], hr =>
      obtain ⟨a, cap, rfl⟩ := nl_0 hr
      have := radds_0 w (n := n) (k := k) (wr := wr) (a := a) (cap := cap) h2 hb
      simpa [addsV, ha] using this
    | [f], hr =>
      obtain ⟨xa, cap, rfl, hx, h0⟩ := nl_1 hr
      by_cases hl : leadV f n = 0
      · have := radds_used w (k := k) (wr := wr) (cap := cap) h2 hb hl hx h0
        simpa [addsV, ha, hl] using this
      · have := radds_next w (k := k) (wr := wr) (cap := cap) h2 hb hn hl hx h0
        simpa [addsV, ha, hl] using this
    | f :: u :: l, hr =>
      obtain ⟨xa, cap, m, rfl, hm, hx, h0, h5⟩ := nl_2 hr
      have hw : wr = 0 ∨ wr = 1 ∨ wr = 2 ∨ wr = 3 ∨ (wr ≠ 0 ∧ wr ≠ 1 ∧ wr ≠ 2 ∧ wr ≠ 3) := by omega
      by_cases hl : leadV f n = 0
      · by_cases hu : u < 0 ∨ n ≤ u
        · have := radds_full w (b := b) (k := k) (wr := wr) (cap := cap) h2 hl hu hm hx h0 h5
          simpa [addsV, ha, hl, hu] using this
        · rcases hw with hw | hw | hw | hw | hw
          · have := radds_unused_0 w (k := k) (cap := cap) h2 hb hn hl hu h4 hw hm hx h0 h5
            simpa [addsV, ha, hl, hu, putsV, hw, gOf] using this
          · have := radds_unused_1 w (k := k) (cap := cap) h2 hb hn hl hu h4 hw hm hx h0 h5
            simpa [addsV, ha, hl, hu, putsV, hw, gOf] using this
          · have := radds_unused_2 w (k := k) (cap := cap) h2 hb hn hl hu h4 hw hm hx h0 h5
            simpa [addsV, ha, hl, hu, putsV, hw, gOf] using this
          · have := radds_unused_3 w (k := k) (cap := cap) h2 hb hn hl hu h4 hw hm hx h0 h5
            simpa [addsV, ha, hl, hu, putsV, hw, gOf] using this
          · have := radds_unused_e w (k := k) (cap := cap) h2 hb hn hl hu h4 hw hm hx h0 h5
            have e0 : wr ≠ 0 := by omega
            have e1 : wr ≠ 1 := by omega
            have e2 : wr ≠ 2 := by omega
            have e3 : wr ≠ 3 := by omega
            simpa [addsV, ha, hl, hu, putsV, e0, e1, e2, e3, gOf] using this
      · rcases hw with hw | hw | hw | hw | hw
        · have := radds_free_0 w (k := k) (cap := cap) h2 hb hn hl h4 hw hm hx h0 h5
          simpa [addsV, ha, hl, putsV, hw, gOf] using this
        · have := radds_free_1 w (k := k) (cap := cap) h2 hb hn hl h4 hw hm hx h0 h5
          simpa [addsV, ha, hl, putsV, hw, gOf] using this
        · have := radds_free_2 w (k := k) (cap := cap) h2 hb hn hl h4 hw hm hx h0 h5
          simpa [addsV, ha, hl, putsV, hw, gOf] using this
        · have := radds_free_3 w (k := k) (cap := cap) h2 hb hn hl h4 hw hm hx h0 h5
          simpa [addsV, ha, hl, putsV, hw, gOf] using this
        · have := radds_free_e w (k := k) (cap := cap) h2 hb hn hl h4 hw hm hx h0 h5
          have e0 : wr ≠ 0 := by omega
          have e1 : wr ≠ 1 := by omega
          have e2 : wr ≠ 2 := by omega
          have e3 : wr ≠ 3 := by omega
          simpa [addsV, ha, hl, putsV, e0, e1, e2, e3, gOf] using this
theorem lx_end {b n c i : Int} {f j : Nat} {R : List Int} (h : j = R.length) : lenX b n f c i (R.drop j) = readW (b + c) := by
  rw [drop_end h]
  cases f <;> rfl
theorem lx_stop {b n c i : Int} {f j : Nat} {R : List Int} (h : j < R.length) (hs : leadV (nth R j) n = 0 ∨ f = 0) : lenX b n f c i (R.drop j) = endW i 0 := by
  rw [drop_cons h]
  cases f with
  | zero => rfl
  | succ f => simp [lenX, hs.resolve_right (by omega)]
theorem lx_on {b n c i : Int} {f j : Nat} {R : List Int} (h : j < R.length) (hs : leadV (nth R j) n ≠ 0) : lenX b n (f + 1) c i (R.drop j) = lenX b n f (nxtV (leadV (nth R j) n)) (i + 1) (R.drop (j + 1)) := by
  rw [drop_cons h]
  simp [lenX, hs]
set_option maxRecDepth 10000 in
set_option maxHeartbeats 4000000 in
theorem rlen_any (w : World) {b n : Int} {vr : Value} {R : List Int} (hr : Nl w vr R) (hb : 0 ≤ b ∧ b ≤ 1024) (hn : 0 ≤ n ∧ n ≤ 16) : Calls Try.prog 65 #[.int .i64 b, .int .i64 n, vr] w (Tl (lenX b n n.toNat 0 0 R) w) := by
  have HLA : Hid (∀ (w : World) (p : Int), Calls Try.prog 44 #[.int .i64 p, .int .i64 n] w fun e w' => e = .returned (.int .i64 (leadV p n)) ∧ w' = w) := fun w p => rleads_any w p n
  have HNA : Hid (∀ (w : World) (i : Int), 0 ≤ i ∧ i ≤ 100 → Calls Try.prog 45 #[.int .i64 i] w fun e w' => e = .returned (.int .i64 (nxtV i)) ∧ w' = w) := fun w i h => rlink_any w h
  have HR : Hid (∀ (w : World) c, Calls Try.prog 67 #[.int .i64 c] w (Tl (readW c) w)) := fun w c => (rread_any w c).mono tl_of
  have HE : Hid (∀ (w : World) v c, Calls Try.prog 71 #[.int .i64 v, .int .i64 c] w (Tl (endW v c) w)) := fun w v c => (rend_any w v c).mono tl_of
  obtain ⟨ra, rcap, rfl⟩ := nl_slice hr
  obtain ⟨_, hR, hcell⟩ := nl_cells hr
  have HCL : Hid (∀ i, i < R.length → ∃ x, ra = some x ∧ x.block < w.heap.size ∧ w.cell? (x.add i) = some (.int .i64 (nth R i))) := hcell
  obtain ⟨y, hy⟩ : ∃ y, lenX b n n.toNat 0 0 R = y := ⟨_, rfl⟩
  rw [hy]
  have HY : Hid (lenX b n n.toNat 0 0 (R.drop 0) = y) := hy
  have HN : Hid ((0 ≤ n ∧ n ≤ 16) ∧ 0 ≤ b ∧ b ≤ 1024) := ⟨hn, hb⟩
  clear hr hcell hy hn hb
  go_enter Try.func65, Try.ntmps65
  go_wp2_with fail
  obtain ⟨w2, hw2⟩ : ∃ w2, w2 = w.alloc (.cells #[.int .i64 0, .int .i64 0, .int .i64 0, .int .i64 0] 51) := ⟨_, rfl⟩
  have HB2 : Hid (Below w.heap.size w w2) := by rw [hw2]; exact below_a1 _ _
  have HG2 : Hid (w2.heap[w.heap.size]? = some (.cells #[.int .i64 0, .int .i64 0, .int .i64 0, .int .i64 0] 51 (0, 0))) := by rw [hw2]; exact heap_alloc_new _ _
  rw [← hw2]
  clear hw2
  go_loopg [7, 8] (R.length + 1) (fun gh cv jv wr => ∃ (j f : Nat) (c : Int), gh = R.length + 1 - j ∧ j ≤ R.length ∧ (j : Int) + f = n ∧ jv = .int .i64 (j : Int) ∧ cv = .int .i64 c ∧ (0 ≤ c ∧ c ≤ 100) ∧ wr = w2 ∧ lenX b n f c (j : Int) (R.drop j) = y)
  case atStart => exact ⟨0, n.toNat, 0, by omega, by omega, by have := HN.out; omega, rfl, rfl, by omega, rfl, HY.out⟩
  case round =>
    obtain ⟨j, f, c, rfl, hj, hjf, rfl, rfl, hc, rfl, hres⟩ := hrel
    have hwc : wrap64 (b + c) = b + c := by have := HN.out; unfold wrap64; omega
    by_cases hjR : j = R.length
    · have HRE : Hid (readW (b + c) = y) := by rw [Hid, ← hres, lx_end hjR]
      have dA : ((j : Int) == (R.length : Int)) = true := by simp [hjR]
      clear hj hjf hc hres hjR HLA HNA HCL
      go_wp2_with fail
      refine (HR.out _ _).mono ?_
      rintro e w4 h4
      obtain ⟨cs, w5, rfl, hz, hst, hr, _, _⟩ := tl_put (w := w) (R := w.heap.size) h4 HG2.out rfl HB2.out (by omega)
      clear h4
      go_wp2_with fail
      refine ret_wn rfl rfl hr.out.1 hz rfl ?_
      rw [← HRE.out]
      exact hr.out.2
    · have hlt : j < R.length := lt_of_ne_le hj hjR
      have dA : ((j : Int) == (R.length : Int)) = false := eq_no0 hjR
      obtain ⟨x, rfl, hxb, hxc⟩ := HCL.out j hlt
      have x1 : wr.cell? (x.add j) = some (.int .i64 (nth R j)) := cell_later HB2.out (by rw [add_block]; exact hxb) hxc
      have HL : Hid (∀ w : World, Calls Try.prog 44 #[.int .i64 (nth R j), .int .i64 n] w fun e w' => e = .returned (.int .i64 (leadV (nth R j) n)) ∧ w' = w) := fun w => HLA.out w _
      by_cases hl : leadV (nth R j) n = 0
      · have HRE : Hid (endW (j : Int) 0 = y) := by rw [Hid, ← hres, lx_stop hlt (Or.inl hl)]
        rw [hl] at HL
        clear hj hjf hc hres hjR HLA HNA HCL hl
        go_wp2_with fail
        refine (HL.out _).mono ?_
        rintro e wa ⟨rfl, hwa⟩
        obtain rfl := hwa.symm
        clear hwa
        go_wp2_with fail
        refine (HE.out _ _ _).mono ?_
        rintro e w4 h4
        obtain ⟨cs, w5, rfl, hz, hst, hr, _, _⟩ := tl_put (w := w) (R := w.heap.size) h4 HG2.out rfl HB2.out (by omega)
        clear h4
        go_wp2_with fail
        refine ret_wn rfl rfl hr.out.1 hz rfl ?_
        rw [← HRE.out]
        exact hr.out.2
      · have hl0 : (leadV (nth R j) n == 0) = false := by simpa using hl
        cases f with
        | zero =>
          have HRE : Hid (endW (j : Int) 0 = y) := by rw [Hid, ← hres, lx_stop hlt (Or.inr rfl)]
          have djn : ((j : Int) == n) = true := by simp; omega
          clear hj hjf hc hres hjR HLA HNA HCL hl
          generalize leadV (nth R j) n = d at *
          go_wp2_with fail
          refine (HL.out _).mono ?_
          rintro e wa ⟨rfl, hwa⟩
          obtain rfl := hwa.symm
          clear hwa
          go_wp2_with fail
          refine (HE.out _ _ _).mono ?_
          rintro e w4 h4
          obtain ⟨cs, w5, rfl, hz, hst, hr, _, _⟩ := tl_put (w := w) (R := w.heap.size) h4 HG2.out rfl HB2.out (by omega)
          clear h4
          go_wp2_with fail
          refine ret_wn rfl rfl hr.out.1 hz rfl ?_
          rw [← HRE.out]
          exact hr.out.2
        | succ f =>
          have HRE : Hid (lenX b n f (nxtV (leadV (nth R j) n)) ((j + 1 : Nat) : Int) (R.drop (j + 1)) = y) := by rw [Hid, ← hres, lx_on hlt hl]; rfl
          have djn : ((j : Int) == n) = false := by simp; omega
          have hd : 0 ≤ leadV (nth R j) n ∧ leadV (nth R j) n ≤ 16 := by obtain ⟨e1, e2⟩ := lead_of hl; have := HN.out; omega
          have HNX : Hid (∀ w : World, Calls Try.prog 45 #[.int .i64 (leadV (nth R j) n)] w fun e w' => e = .returned (.int .i64 (nxtV (leadV (nth R j) n))) ∧ w' = w) := fun w => HNA.out w _ (by omega)
          have HCC : Hid (0 ≤ nxtV (leadV (nth R j) n) ∧ nxtV (leadV (nth R j) n) ≤ 100) := by have : 0 ≤ nxtV (leadV (nth R j) n) ∧ nxtV (leadV (nth R j) n) ≤ 100 := (by unfold nxtV keyV; omega); exact this
          have HJF : Hid (((j + 1 : Nat) : Int) + (f : Int) = n) := by have : ((j + 1 : Nat) : Int) + (f : Int) = n := (by omega); exact this
          have HJW : Hid (wrap64 ((j : Int) + 1) = ((j + 1 : Nat) : Int)) := by have : wrap64 ((j : Int) + 1) = ((j + 1 : Nat) : Int) := (by have := HN.out; unfold wrap64; omega); exact this
          have HLT : Hid (j < R.length) := hlt
          clear hj hjf hc hres hjR HLA HNA HCL hl hd
          generalize leadV (nth R j) n = d at *
          generalize nxtV d = y1 at *
          go_wp2_with fail
          refine (HL.out _).mono ?_
          rintro e wa ⟨rfl, hwa⟩
          obtain rfl := hwa.symm
          clear hwa
          go_wp2_with fail
          refine (HNX.out _).mono ?_
          rintro e wa ⟨rfl, hwa⟩
          obtain rfl := hwa.symm
          clear hwa
          go_wp2_with fail
          go_roundg (R.length + 1 - (j + 1))
          case rel => exact ⟨j + 1, f, y1, rfl, HLT.out, HJF.out, by first | rw [HJW.out] | go_num, rfl, HCC.out, rfl, HRE.out⟩
          case measure => have := HLT.out; omega
end Go.Proofs.Ytaffkcliepfcmaa.Ch
