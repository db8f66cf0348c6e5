/- The document's chain (layer 18): Next (printed by tools/chk18.py). -/
import Derived.Test.YtbbcfimgnbdpeaaChS
namespace Go.Proofs.Ytbbcfimgnbdpeaa.Ch
open Go.ChangeShapes Go.WideShapes Go.ChangeAt Go.RowKit
attribute [local go_sem ↓] Go.wp_at_zero Go.wp_at_succ

theorem beq_dec (a b : Int) : (a == b) = decide (a = b) := by by_cases h : a = b <;> simp [h]
theorem gx_gw {n k : Int} (hn : 0 ≤ n ∧ n ≤ 16) : ∀ (f : Nat) (c p : Int) (r : Nat) (l : List Int), 0 ≤ c ∧ c < 2 * n + 3 →
    (∃ c', goX n k f c (p :: l) = .more c' ∧ (goW n k f c p r l).over = false ∧ (goW n k f c p r l).cell = c' ∧ 0 ≤ c' ∧ c' ≤ 100) ∨
    (∃ x r', goX n k f c (p :: l) = .over x (l.drop (r' - r)) ∧ goW n k f c p r l = gOf x k r' ∧ r ≤ r' ∧ r' ≤ r + l.length ∧ WdOk n x) := by
  intro f
  induction f with
  | zero =>
    intro c p r l hc
    exact Or.inr ⟨⟨c, p, false, 0, 0⟩, r, by simp [goX], by simp [goW, gOf, wyAt], Nat.le_refl _, by omega, ⟨hc, by simp⟩, fun _ => rfl⟩
  | succ f ih =>
    intro c p r l hc
    by_cases hl : leadV p n = 0
    · refine Or.inr ⟨⟨c, p, false, 0, 0⟩, r, ?_, ?_, Nat.le_refl _, by omega, ⟨hc, by simp⟩, fun _ => rfl⟩
      · cases l <;> simp [goX, hl]
      · rw [gw_none hl]; simp [gOf, wyAt]
    · obtain ⟨h1, h2⟩ := lead_of hl
      match l with
      | [] => exact Or.inl ⟨keyV (leadV p n), by simp [goX, hl], by simp [goW, hl], by simp [goW, hl], by unfold keyV; omega, by unfold keyV; omega⟩
      | [v] =>
        by_cases hk : k ≤ v
        · refine Or.inr ⟨⟨c, p, true, leadV p n, v⟩, r + 1, by simp [goX, hl, hk], ?_, by omega, by simp, ⟨hc, fun _ => ?_⟩, by simp⟩
          · simp only [goW, hl, hk, if_true, if_false, gOf, wyAt, Bool.true_and, beq_dec]
          · simp only; omega
        · exact Or.inl ⟨nxtV (leadV p n), by simp [goX, hl, hk], by simp [goW, hl, hk], by simp [goW, hl, hk], by unfold nxtV keyV; omega, by unfold nxtV keyV; omega⟩
      | v :: q :: l =>
        by_cases hk : k ≤ v
        · refine Or.inr ⟨⟨c, p, true, leadV p n, v⟩, r + 1, by simp [goX, hl, hk], ?_, by omega, by simp, ⟨hc, fun _ => ?_⟩, by simp⟩
          · simp only [goW, hl, hk, if_true, if_false, gOf, wyAt, Bool.true_and, beq_dec]
          · simp only; omega
        · have e1 : goX n k (f + 1) c (p :: v :: q :: l) = goX n k f (nxtV (leadV p n)) (q :: l) := by simp [goX, hl, hk]
          have e2 : goW n k (f + 1) c p r (v :: q :: l) = goW n k f (nxtV (leadV p n)) q (r + 2) l := by simp [goW, hl, hk]
          rw [e1, e2]
          rcases ih (nxtV (leadV p n)) q (r + 2) l (nxt_own (by rw [h1]; exact h2)) with h | ⟨x, r', h3, h4, h5, h6, h7⟩
          · exact Or.inl h
          · refine Or.inr ⟨x, r', ?_, h4, by omega, by simp only [List.length_cons]; omega, h7⟩
            rw [h3]
            have : r' - r = (r' - (r + 2)) + 2 := by omega
            rw [this]
            simp
theorem gx_gv {n k : Int} (hn : 0 ≤ n ∧ n ≤ 16) (R : List Int) :
    (∃ c', goX n k n.toNat 0 R = .more c' ∧ (goV k n R).over = false ∧ (goV k n R).cell = c' ∧ 0 ≤ c' ∧ c' ≤ 100) ∨
    (∃ x r', goX n k n.toNat 0 R = .over x (R.drop r') ∧ goV k n R = gOf x k r' ∧ r' ≤ R.length ∧ WdOk n x) := by
  cases R with
  | nil => exact Or.inl ⟨0, by cases n.toNat <;> rfl, rfl, rfl, by omega, by omega⟩
  | cons p l =>
    have e : goV k n (p :: l) = goW n k n.toNat 0 p 1 l := by simp [goV, nth]
    rw [e]
    rcases gx_gw (k := k) hn n.toNat 0 p 1 l (by omega) with h | ⟨x, r', h3, h4, h5, h6, h7⟩
    · exact Or.inl h
    · refine Or.inr ⟨x, r', ?_, h4, by simp only [List.length_cons]; omega, h7⟩
      rw [h3]
      have : r' = (r' - 1) + 1 := by omega
      rw [this]
      simp
theorem nl_drop {w : World} {a : Option Addr} {cap r : Nat} {R : List Int} (h : Nl w (.slice a R.length cap) R) (hr : r ≤ R.length) : Nl w (.slice (if cap = r then a else a.map (·.add (r * 1))) (R.length - r) (cap - r)) (R.drop r) := by
  obtain ⟨a', cap', hv, hm, hc1, ⟨hc2, hc3⟩, hs, hl⟩ := h
  injection hv with e1 _ e3
  subst e1 e3
  refine ⟨_, _, by rw [List.length_drop], by rw [List.length_drop]; omega, by rw [List.length_drop]; omega, ⟨by omega, fun e => ?_⟩, fun x hx => hs x (List.mem_of_mem_drop hx), ?_⟩
  · by_cases h1 : cap = r
    · omega
    · rw [if_neg h1] at e
      have : a = none := by cases a; rfl; cases e
      have := hc3 this
      omega
  · by_cases h0 : R.length - r = 0
    · exact Or.inl (by rw [List.length_drop]; exact h0)
    · right
      obtain ⟨x, hx, hxb, hc⟩ := hl.resolve_left (by omega)
      subst hx
      refine ⟨x.add r, by rw [if_neg (by omega), Nat.mul_one]; rfl, by rw [add_block]; exact hxb, fun i hi => ?_⟩
      rw [List.length_drop] at hi
      have e1 : nth (R.drop r) i = nth R (r + i) := by simp [nth]
      rw [e1, ← hc (r + i) (by omega)]
      congr 1
      by_cases hr0 : r = 0
      · subst hr0; rw [add_zero', Nat.zero_add]
      · by_cases hi0 : i = 0
        · subst hi0; rw [add_zero', Nat.add_zero]
        · rw [add_pos' _ _ (by omega), add_pos' _ _ (by omega), add_pos' _ _ (by omega)]
          simp [Nat.add_assoc]
set_option maxRecDepth 10000 in
theorem rnext_least (w : World) {b m k : Int} {va vr : Value} {A R : List Int} (ha : Nl w va A) (hr : Nl w vr R) (hb : 0 ≤ b ∧ b ≤ 1024) (hm : 0 ≤ m ∧ m ≤ 16) : Calls Try.prog 28 #[.int .i64 b, .int .i64 m, .int .i64 7, va, vr, .int .i64 k] w (Tl (leastV b m R) w) := by
  have HL : Hid (∀ w' : World, Below w.heap.size w w' → Calls Try.prog 44 #[.int .i64 b, .int .i64 m, vr] w' (Tl (leastV b m R) w')) := fun w' hb' => rleast_any w' (hr.later hb' (Nat.le_refl _)) hb hm
  obtain ⟨ra, rcap, rfl⟩ := nl_slice hr
  obtain ⟨aa, acap, rfl⟩ := nl_slice ha
  clear ha hr hb hm
  go_enter Try.func28, Try.ntmps28
  go_wp2_with fail
  refine (HL.out _ (below_a1 _ _)).mono ?_
  rintro e w4 h4
  obtain ⟨cs, w5, rfl, hz, hst, hr, _, _⟩ := tl_put (w := w) (R := w.heap.size) h4 (heap_alloc_new _ _) rfl (below_a1 _ _) (by omega)
  clear h4
  go_wp2_with fail
  exact ret_wn rfl rfl hr.out.1 hz rfl hr.out.2
set_option maxRecDepth 10000 in
theorem rnext_len (w : World) {b m k : Int} {va vr : Value} {A R : List Int} (ha : Nl w va A) (hr : Nl w vr R) (hb : 0 ≤ b ∧ b ≤ 1024) (hm : 0 ≤ m ∧ m ≤ 16) : Calls Try.prog 28 #[.int .i64 b, .int .i64 m, .int .i64 5, va, vr, .int .i64 k] w (Tl (lenX b m m.toNat 0 0 R) w) := by
  have HL : Hid (∀ w' : World, Below w.heap.size w w' → Calls Try.prog 45 #[.int .i64 b, .int .i64 m, vr] w' (Tl (lenX b m m.toNat 0 0 R) w')) := fun w' hb' => rlen_any w' (hr.later hb' (Nat.le_refl _)) hb hm
  obtain ⟨ra, rcap, rfl⟩ := nl_slice hr
  obtain ⟨aa, acap, rfl⟩ := nl_slice ha
  clear ha hr hb hm
  generalize lenX b m m.toNat 0 0 R = y at *
  go_enter Try.func28, Try.ntmps28
  go_wp2_with fail
  refine (HL.out _ (below_a1 _ _)).mono ?_
  rintro e w4 h4
  obtain ⟨cs, w5, rfl, hz, hst, hr, _, _⟩ := tl_put (w := w) (R := w.heap.size) h4 (heap_alloc_new _ _) rfl (below_a1 _ _) (by omega)
  clear h4
  go_wp2_with fail
  exact ret_wn rfl rfl hr.out.1 hz rfl hr.out.2

set_option maxRecDepth 10000 in
theorem rnext_more (w : World) {b m k key c : Int} {xa : Addr} {n acap rcap : Nat} {ra : Option Addr} {G : Wg} {N : Nat} (hn : 0 < n) (hxa : xa.block < w.heap.size) (a0 : w.cell? xa = some (.int .i64 key)) (hg : ∀ w' : World, Below w.heap.size w w' → Calls Try.prog 46 #[.int .i64 key, .int .i64 m, .slice ra N rcap] w' fun e w'' => e = .returned (.agg #[.int .i64 G.link, .int .i64 G.p, .int .i64 G.node, .bool G.at_, .int .i64 G.key, .int .i64 (G.reads : Int), .bool false, .int .i64 G.cell]) ∧ Below w'.heap.size w' w'') (hb : 0 ≤ b ∧ b ≤ 1024) (hc : 0 ≤ G.cell ∧ G.cell ≤ 100) (hcc : c ≠ 7 ∧ c ≠ 5) : Calls Try.prog 28 #[.int .i64 b, .int .i64 m, .int .i64 c, .slice (some xa) n acap, .slice ra N rcap, .int .i64 k] w (Tl (readW (b + G.cell)) w) := by
  have HR : Hid (∀ (w : World) c, Calls Try.prog 47 #[.int .i64 c] w (Tl (readW c) w)) := fun w c => (rread_any w c).mono tl_of
  have d7 : (c == 7) = false := by simp; omega
  have d5 : (c == 5) = false := by simp; omega
  have hw : wrap64 (b + G.cell) = b + G.cell := by unfold wrap64; omega
  have HG : Hid (∀ w' : World, Below w.heap.size w w' → Calls Try.prog 46 #[.int .i64 key, .int .i64 m, .slice ra N rcap] w' fun e w'' => e = .returned (.agg #[.int .i64 G.link, .int .i64 G.p, .int .i64 G.node, .bool G.at_, .int .i64 G.key, .int .i64 (G.reads : Int), .bool false, .int .i64 G.cell]) ∧ Below w'.heap.size w' w'') := hg
  have HXA : Hid (xa.block < w.heap.size ∧ w.cell? xa = some (.int .i64 key)) := ⟨hxa, a0⟩
  clear hg
  clear hb hc hcc
  go_enter Try.func28, Try.ntmps28
  go_wp2_with fail
  refine (HG.out _ (below_a1 _ _)).mono ?_
  rintro e w1 ⟨rfl, hb1⟩
  have HR1 : Hid (w1.heap[w.heap.size]? = some (.cells #[.int .i64 0, .int .i64 0, .int .i64 0, .int .i64 0] 34 (0, 0))) := row_next hb1
  have HB1 : Hid (Below w.heap.size w w1) := below_next hb1
  clear hb1 HG
  go_wp2_with fail
  obtain ⟨w2, hw2⟩ : ∃ w2, w2 = w1.alloc (.cells #[.int .i64 G.link, .int .i64 G.p, .int .i64 G.node, .bool G.at_, .int .i64 G.key, .int .i64 (G.reads : Int), .bool false, .int .i64 G.cell] 73) := ⟨_, rfl⟩
  have HB2 : Hid (Below w.heap.size w w2) := by rw [hw2]; exact below_then HB1.out (below_a1 _ _)
  have HR2 : Hid (w2.heap[w.heap.size]? = some (.cells #[.int .i64 0, .int .i64 0, .int .i64 0, .int .i64 0] 34 (0, 0))) := by rw [hw2]; exact hp_past HR1.out
  have HW2 : Hid (w2.heap[w1.heap.size]? = some (.cells #[.int .i64 G.link, .int .i64 G.p, .int .i64 G.node, .bool G.at_, .int .i64 G.key, .int .i64 (G.reads : Int), .bool false, .int .i64 G.cell] 73 (0, 0))) := by rw [hw2]; exact heap_alloc_new _ _
  have zz : w.heap.size < w1.heap.size := heap_lt HR1.out
  rw [← hw2]
  clear hw2
  refine (HR.out w2 _).mono ?_
  rintro e w4 h4
  obtain ⟨cs, w5, rfl, hz, hst, hr, hold, _⟩ := tl_put (w := w) (R := w.heap.size) h4 HR2.out rfl HB2.out (by omega)
  clear h4
  go_wp2_with fail
  exact ret_wn rfl rfl hr.out.1 hz rfl hr.out.2
set_option maxRecDepth 10000 in
theorem rnext_radds_eq (w : World) {b m k key : Int} {xa : Addr} {n acap rcap : Nat} {ra : Option Addr} {G : Wg} (hn : 0 < n) (hxa : xa.block < w.heap.size) (a0 : w.cell? xa = some (.int .i64 key)) (hg : ∀ w' : World, Below w.heap.size w w' → Calls Try.prog 46 #[.int .i64 key, .int .i64 m, .slice ra rcap rcap] w' fun e w'' => e = .returned (.agg #[.int .i64 G.link, .int .i64 G.p, .int .i64 G.node, .bool G.at_, .int .i64 G.key, .int .i64 (rcap : Int), .bool true, .int .i64 G.cell]) ∧ Below w'.heap.size w' w'')  {y : Wn} (hc : ∀ w' : World, Below w.heap.size w w' → Calls Try.prog 48 #[.int .i64 b, .int .i64 m, .int .i64 key, .agg #[.int .i64 G.link, .int .i64 G.p, .int .i64 G.node, .bool G.at_, .int .i64 G.key, .int .i64 (rcap : Int), .bool true, .int .i64 G.cell], .slice ra 0 0, .int .i64 k] w' (Tl y w')) : Calls Try.prog 28 #[.int .i64 b, .int .i64 m, .int .i64 1, .slice (some xa) n acap, .slice ra rcap rcap, .int .i64 k] w (Tl (y) w) := by
  have HC : Hid (∀ w' : World, Below w.heap.size w w' → Calls Try.prog 48 #[.int .i64 b, .int .i64 m, .int .i64 key, .agg #[.int .i64 G.link, .int .i64 G.p, .int .i64 G.node, .bool G.at_, .int .i64 G.key, .int .i64 (rcap : Int), .bool true, .int .i64 G.cell], .slice ra 0 0, .int .i64 k] w' (Tl y w')) := hc
  clear hc
  have HG : Hid (∀ w' : World, Below w.heap.size w w' → Calls Try.prog 46 #[.int .i64 key, .int .i64 m, .slice ra rcap rcap] w' fun e w'' => e = .returned (.agg #[.int .i64 G.link, .int .i64 G.p, .int .i64 G.node, .bool G.at_, .int .i64 G.key, .int .i64 (rcap : Int), .bool true, .int .i64 G.cell]) ∧ Below w'.heap.size w' w'') := hg
  have HXA : Hid (xa.block < w.heap.size ∧ w.cell? xa = some (.int .i64 key)) := ⟨hxa, a0⟩
  clear hg
  go_enter Try.func28, Try.ntmps28
  go_wp2_with fail
  refine (HG.out _ (below_a1 _ _)).mono ?_
  rintro e w1 ⟨rfl, hb1⟩
  have HR1 : Hid (w1.heap[w.heap.size]? = some (.cells #[.int .i64 0, .int .i64 0, .int .i64 0, .int .i64 0] 34 (0, 0))) := row_next hb1
  have HB1 : Hid (Below w.heap.size w w1) := below_next hb1
  clear hb1 HG
  go_wp2_with fail
  obtain ⟨w2, hw2⟩ : ∃ w2, w2 = w1.alloc (.cells #[.int .i64 G.link, .int .i64 G.p, .int .i64 G.node, .bool G.at_, .int .i64 G.key, .int .i64 (rcap : Int), .bool true, .int .i64 G.cell] 73) := ⟨_, rfl⟩
  have HB2 : Hid (Below w.heap.size w w2) := by rw [hw2]; exact below_then HB1.out (below_a1 _ _)
  have HR2 : Hid (w2.heap[w.heap.size]? = some (.cells #[.int .i64 0, .int .i64 0, .int .i64 0, .int .i64 0] 34 (0, 0))) := by rw [hw2]; exact hp_past HR1.out
  have HW2 : Hid (w2.heap[w1.heap.size]? = some (.cells #[.int .i64 G.link, .int .i64 G.p, .int .i64 G.node, .bool G.at_, .int .i64 G.key, .int .i64 (rcap : Int), .bool true, .int .i64 G.cell] 73 (0, 0))) := by rw [hw2]; exact heap_alloc_new _ _
  have zz : w.heap.size < w1.heap.size := heap_lt HR1.out
  rw [← hw2]
  clear hw2
  have HS : Hid (∀ w' : World, (∀ q, q < w2.heap.size → q ≠ w.heap.size → w'.heap[q]? = w2.heap[q]?) → w'.cell? xa = some (.int .i64 key) ∧ w'.cell? ⟨w1.heap.size, 0, none⟩ = some (.int .i64 G.link) ∧ w'.cell? ⟨w1.heap.size, 1, none⟩ = some (.int .i64 G.p) ∧ w'.cell? ⟨w1.heap.size, 2, none⟩ = some (.int .i64 G.node) ∧ w'.cell? ⟨w1.heap.size, 3, none⟩ = some (.bool G.at_) ∧ w'.cell? ⟨w1.heap.size, 4, none⟩ = some (.int .i64 G.key) ∧ w'.cell? ⟨w1.heap.size, 5, none⟩ = some (.int .i64 (rcap : Int)) ∧ w'.cell? ⟨w1.heap.size, 6, none⟩ = some (.bool true) ∧ w'.cell? ⟨w1.heap.size, 7, none⟩ = some (.int .i64 G.cell)) := fun w' hq => ⟨(by rw [← HXA.out.2]; unfold World.cell?; rw [hq _ (Nat.lt_of_lt_of_le HXA.out.1 HB2.out.size) (by have := HXA.out.1; omega), HB2.out.block _ HXA.out.1]), (by rw [cell_at ((hq _ (heap_lt HW2.out) (by omega)).trans HW2.out)]; rfl), (by rw [cell_at ((hq _ (heap_lt HW2.out) (by omega)).trans HW2.out)]; rfl), (by rw [cell_at ((hq _ (heap_lt HW2.out) (by omega)).trans HW2.out)]; rfl), (by rw [cell_at ((hq _ (heap_lt HW2.out) (by omega)).trans HW2.out)]; rfl), (by rw [cell_at ((hq _ (heap_lt HW2.out) (by omega)).trans HW2.out)]; rfl), (by rw [cell_at ((hq _ (heap_lt HW2.out) (by omega)).trans HW2.out)]; rfl), (by rw [cell_at ((hq _ (heap_lt HW2.out) (by omega)).trans HW2.out)]; rfl), (by rw [cell_at ((hq _ (heap_lt HW2.out) (by omega)).trans HW2.out)]; rfl)⟩
  obtain ⟨s0, s1, s2, s3, s4, s5, s6, s7, s8⟩ := HS.out w2 (fun _ _ _ => rfl)
  have y0 : w1.heap.size < w2.heap.size := heap_lt HW2.out
  have y1 : xa.block < w2.heap.size := Nat.lt_of_lt_of_le HXA.out.1 HB2.out.size
  clear a0 hxa
  go_region_held3 (fun w' => w'.cell? xa = some (.int .i64 key) ∧ w'.cell? ⟨w1.heap.size, 0, none⟩ = some (.int .i64 G.link) ∧ w'.cell? ⟨w1.heap.size, 1, none⟩ = some (.int .i64 G.p) ∧ w'.cell? ⟨w1.heap.size, 2, none⟩ = some (.int .i64 G.node) ∧ w'.cell? ⟨w1.heap.size, 3, none⟩ = some (.bool G.at_) ∧ w'.cell? ⟨w1.heap.size, 4, none⟩ = some (.int .i64 G.key) ∧ w'.cell? ⟨w1.heap.size, 5, none⟩ = some (.int .i64 (rcap : Int)) ∧ w'.cell? ⟨w1.heap.size, 6, none⟩ = some (.bool true) ∧ w'.cell? ⟨w1.heap.size, 7, none⟩ = some (.int .i64 G.cell)) (first | go_keep | exact hS | exact hS5) (first
    | (go_at_call 48; refine (HC.out _ (below_then HB2.out (bl_drew1 _))).mono ?_; rintro e w4 h4; obtain ⟨cs, w5, rfl, hz, hst, hr, hold, _⟩ := tl_put (w := w) (R := w.heap.size) h4 (by first | exact HR2.out | (rw [(bl_drew1 w2).block _ (heap_lt HR2.out)]; exact HR2.out)) rfl (by first | exact HB2.out | exact below_then HB2.out (bl_drew1 _)) (by omega); have hS : w4.cell? xa = some (.int .i64 key) ∧ w4.cell? ⟨w1.heap.size, 0, none⟩ = some (.int .i64 G.link) ∧ w4.cell? ⟨w1.heap.size, 1, none⟩ = some (.int .i64 G.p) ∧ w4.cell? ⟨w1.heap.size, 2, none⟩ = some (.int .i64 G.node) ∧ w4.cell? ⟨w1.heap.size, 3, none⟩ = some (.bool G.at_) ∧ w4.cell? ⟨w1.heap.size, 4, none⟩ = some (.int .i64 G.key) ∧ w4.cell? ⟨w1.heap.size, 5, none⟩ = some (.int .i64 (rcap : Int)) ∧ w4.cell? ⟨w1.heap.size, 6, none⟩ = some (.bool true) ∧ w4.cell? ⟨w1.heap.size, 7, none⟩ = some (.int .i64 G.cell) := HS.out w4 (fun q hq _ => (below_then (bl_drew1 _) h4.bel).block q hq); have hS5 : w5.cell? xa = some (.int .i64 key) ∧ w5.cell? ⟨w1.heap.size, 0, none⟩ = some (.int .i64 G.link) ∧ w5.cell? ⟨w1.heap.size, 1, none⟩ = some (.int .i64 G.p) ∧ w5.cell? ⟨w1.heap.size, 2, none⟩ = some (.int .i64 G.node) ∧ w5.cell? ⟨w1.heap.size, 3, none⟩ = some (.bool G.at_) ∧ w5.cell? ⟨w1.heap.size, 4, none⟩ = some (.int .i64 G.key) ∧ w5.cell? ⟨w1.heap.size, 5, none⟩ = some (.int .i64 (rcap : Int)) ∧ w5.cell? ⟨w1.heap.size, 6, none⟩ = some (.bool true) ∧ w5.cell? ⟨w1.heap.size, 7, none⟩ = some (.int .i64 G.cell) := HS.out w5 (fun q hq hqr => hold.out q hq hqr); clear h4))
  all_goals (go_wp2_with fail; exact ret_wn rfl rfl hr.out.1 hz rfl hr.out.2)
set_option maxRecDepth 10000 in
theorem rnext_rdels_eq (w : World) {b m k key : Int} {xa : Addr} {n acap rcap : Nat} {ra : Option Addr} {G : Wg} (hn : 0 < n) (hxa : xa.block < w.heap.size) (a0 : w.cell? xa = some (.int .i64 key)) (hg : ∀ w' : World, Below w.heap.size w w' → Calls Try.prog 46 #[.int .i64 key, .int .i64 m, .slice ra rcap rcap] w' fun e w'' => e = .returned (.agg #[.int .i64 G.link, .int .i64 G.p, .int .i64 G.node, .bool G.at_, .int .i64 G.key, .int .i64 (rcap : Int), .bool true, .int .i64 G.cell]) ∧ Below w'.heap.size w' w'')  {y : Wn} (hc : ∀ w' : World, Below w.heap.size w w' → Calls Try.prog 49 #[.int .i64 b, .agg #[.int .i64 G.link, .int .i64 G.p, .int .i64 G.node, .bool G.at_, .int .i64 G.key, .int .i64 (rcap : Int), .bool true, .int .i64 G.cell], .slice ra 0 0, .int .i64 k] w' (Tl y w')) : Calls Try.prog 28 #[.int .i64 b, .int .i64 m, .int .i64 4, .slice (some xa) n acap, .slice ra rcap rcap, .int .i64 k] w (Tl (y) w) := by
  have HC : Hid (∀ w' : World, Below w.heap.size w w' → Calls Try.prog 49 #[.int .i64 b, .agg #[.int .i64 G.link, .int .i64 G.p, .int .i64 G.node, .bool G.at_, .int .i64 G.key, .int .i64 (rcap : Int), .bool true, .int .i64 G.cell], .slice ra 0 0, .int .i64 k] w' (Tl y w')) := hc
  clear hc
  have HG : Hid (∀ w' : World, Below w.heap.size w w' → Calls Try.prog 46 #[.int .i64 key, .int .i64 m, .slice ra rcap rcap] w' fun e w'' => e = .returned (.agg #[.int .i64 G.link, .int .i64 G.p, .int .i64 G.node, .bool G.at_, .int .i64 G.key, .int .i64 (rcap : Int), .bool true, .int .i64 G.cell]) ∧ Below w'.heap.size w' w'') := hg
  have HXA : Hid (xa.block < w.heap.size ∧ w.cell? xa = some (.int .i64 key)) := ⟨hxa, a0⟩
  clear hg
  go_enter Try.func28, Try.ntmps28
  go_wp2_with fail
  refine (HG.out _ (below_a1 _ _)).mono ?_
  rintro e w1 ⟨rfl, hb1⟩
  have HR1 : Hid (w1.heap[w.heap.size]? = some (.cells #[.int .i64 0, .int .i64 0, .int .i64 0, .int .i64 0] 34 (0, 0))) := row_next hb1
  have HB1 : Hid (Below w.heap.size w w1) := below_next hb1
  clear hb1 HG
  go_wp2_with fail
  obtain ⟨w2, hw2⟩ : ∃ w2, w2 = w1.alloc (.cells #[.int .i64 G.link, .int .i64 G.p, .int .i64 G.node, .bool G.at_, .int .i64 G.key, .int .i64 (rcap : Int), .bool true, .int .i64 G.cell] 73) := ⟨_, rfl⟩
  have HB2 : Hid (Below w.heap.size w w2) := by rw [hw2]; exact below_then HB1.out (below_a1 _ _)
  have HR2 : Hid (w2.heap[w.heap.size]? = some (.cells #[.int .i64 0, .int .i64 0, .int .i64 0, .int .i64 0] 34 (0, 0))) := by rw [hw2]; exact hp_past HR1.out
  have HW2 : Hid (w2.heap[w1.heap.size]? = some (.cells #[.int .i64 G.link, .int .i64 G.p, .int .i64 G.node, .bool G.at_, .int .i64 G.key, .int .i64 (rcap : Int), .bool true, .int .i64 G.cell] 73 (0, 0))) := by rw [hw2]; exact heap_alloc_new _ _
  have zz : w.heap.size < w1.heap.size := heap_lt HR1.out
  rw [← hw2]
  clear hw2
  refine (HC.out w2 HB2.out).mono ?_
  rintro e w4 h4
  obtain ⟨cs, w5, rfl, hz, hst, hr, hold, _⟩ := tl_put (w := w) (R := w.heap.size) h4 HR2.out rfl HB2.out (by omega)
  clear h4
  go_wp2_with fail
  exact ret_wn rfl rfl hr.out.1 hz rfl hr.out.2
set_option maxRecDepth 10000 in
theorem rnext_rnxt_eq (w : World) {b m k key : Int} {xa : Addr} {n acap rcap : Nat} {ra : Option Addr} {G : Wg} (hn : 0 < n) (hxa : xa.block < w.heap.size) (a0 : w.cell? xa = some (.int .i64 key)) (hg : ∀ w' : World, Below w.heap.size w w' → Calls Try.prog 46 #[.int .i64 key, .int .i64 m, .slice ra rcap rcap] w' fun e w'' => e = .returned (.agg #[.int .i64 G.link, .int .i64 G.p, .int .i64 G.node, .bool G.at_, .int .i64 G.key, .int .i64 (rcap : Int), .bool true, .int .i64 G.cell]) ∧ Below w'.heap.size w' w'')  {y : Wn} (hc : ∀ w' : World, Below w.heap.size w w' → Calls Try.prog 50 #[.int .i64 b, .int .i64 m, .agg #[.int .i64 G.link, .int .i64 G.p, .int .i64 G.node, .bool G.at_, .int .i64 G.key, .int .i64 (rcap : Int), .bool true, .int .i64 G.cell], .slice ra 0 0] w' (Tl y w')) : Calls Try.prog 28 #[.int .i64 b, .int .i64 m, .int .i64 8, .slice (some xa) n acap, .slice ra rcap rcap, .int .i64 k] w (Tl (y) w) := by
  have HC : Hid (∀ w' : World, Below w.heap.size w w' → Calls Try.prog 50 #[.int .i64 b, .int .i64 m, .agg #[.int .i64 G.link, .int .i64 G.p, .int .i64 G.node, .bool G.at_, .int .i64 G.key, .int .i64 (rcap : Int), .bool true, .int .i64 G.cell], .slice ra 0 0] w' (Tl y w')) := hc
  clear hc
  have HG : Hid (∀ w' : World, Below w.heap.size w w' → Calls Try.prog 46 #[.int .i64 key, .int .i64 m, .slice ra rcap rcap] w' fun e w'' => e = .returned (.agg #[.int .i64 G.link, .int .i64 G.p, .int .i64 G.node, .bool G.at_, .int .i64 G.key, .int .i64 (rcap : Int), .bool true, .int .i64 G.cell]) ∧ Below w'.heap.size w' w'') := hg
  have HXA : Hid (xa.block < w.heap.size ∧ w.cell? xa = some (.int .i64 key)) := ⟨hxa, a0⟩
  clear hg
  go_enter Try.func28, Try.ntmps28
  go_wp2_with fail
  refine (HG.out _ (below_a1 _ _)).mono ?_
  rintro e w1 ⟨rfl, hb1⟩
  have HR1 : Hid (w1.heap[w.heap.size]? = some (.cells #[.int .i64 0, .int .i64 0, .int .i64 0, .int .i64 0] 34 (0, 0))) := row_next hb1
  have HB1 : Hid (Below w.heap.size w w1) := below_next hb1
  clear hb1 HG
  go_wp2_with fail
  obtain ⟨w2, hw2⟩ : ∃ w2, w2 = w1.alloc (.cells #[.int .i64 G.link, .int .i64 G.p, .int .i64 G.node, .bool G.at_, .int .i64 G.key, .int .i64 (rcap : Int), .bool true, .int .i64 G.cell] 73) := ⟨_, rfl⟩
  have HB2 : Hid (Below w.heap.size w w2) := by rw [hw2]; exact below_then HB1.out (below_a1 _ _)
  have HR2 : Hid (w2.heap[w.heap.size]? = some (.cells #[.int .i64 0, .int .i64 0, .int .i64 0, .int .i64 0] 34 (0, 0))) := by rw [hw2]; exact hp_past HR1.out
  have HW2 : Hid (w2.heap[w1.heap.size]? = some (.cells #[.int .i64 G.link, .int .i64 G.p, .int .i64 G.node, .bool G.at_, .int .i64 G.key, .int .i64 (rcap : Int), .bool true, .int .i64 G.cell] 73 (0, 0))) := by rw [hw2]; exact heap_alloc_new _ _
  have zz : w.heap.size < w1.heap.size := heap_lt HR1.out
  rw [← hw2]
  clear hw2
  refine (HC.out w2 HB2.out).mono ?_
  rintro e w4 h4
  obtain ⟨cs, w5, rfl, hz, hst, hr, hold, _⟩ := tl_put (w := w) (R := w.heap.size) h4 HR2.out rfl HB2.out (by omega)
  clear h4
  go_wp2_with fail
  exact ret_wn rfl rfl hr.out.1 hz rfl hr.out.2
set_option maxRecDepth 10000 in
theorem rnext_has1_eq (w : World) {b m k key : Int} {xa : Addr} {n acap rcap : Nat} {ra : Option Addr} {G : Wg} (hn : 0 < n) (hxa : xa.block < w.heap.size) (a0 : w.cell? xa = some (.int .i64 key)) (hg : ∀ w' : World, Below w.heap.size w w' → Calls Try.prog 46 #[.int .i64 key, .int .i64 m, .slice ra rcap rcap] w' fun e w'' => e = .returned (.agg #[.int .i64 G.link, .int .i64 G.p, .int .i64 G.node, .bool true, .int .i64 G.key, .int .i64 (rcap : Int), .bool true, .int .i64 G.cell]) ∧ Below w'.heap.size w' w'')  : Calls Try.prog 28 #[.int .i64 b, .int .i64 m, .int .i64 6, .slice (some xa) n acap, .slice ra rcap rcap, .int .i64 k] w (Tl (endW 1 0) w) := by
  have HE : Hid (∀ (w : World) v c, Calls Try.prog 51 #[.int .i64 v, .int .i64 c] w (Tl (endW v c) w)) := fun w v c => (rend_any w v c).mono tl_of
  have HG : Hid (∀ w' : World, Below w.heap.size w w' → Calls Try.prog 46 #[.int .i64 key, .int .i64 m, .slice ra rcap rcap] w' fun e w'' => e = .returned (.agg #[.int .i64 G.link, .int .i64 G.p, .int .i64 G.node, .bool true, .int .i64 G.key, .int .i64 (rcap : Int), .bool true, .int .i64 G.cell]) ∧ Below w'.heap.size w' w'') := hg
  have HXA : Hid (xa.block < w.heap.size ∧ w.cell? xa = some (.int .i64 key)) := ⟨hxa, a0⟩
  clear hg
  go_enter Try.func28, Try.ntmps28
  go_wp2_with fail
  refine (HG.out _ (below_a1 _ _)).mono ?_
  rintro e w1 ⟨rfl, hb1⟩
  have HR1 : Hid (w1.heap[w.heap.size]? = some (.cells #[.int .i64 0, .int .i64 0, .int .i64 0, .int .i64 0] 34 (0, 0))) := row_next hb1
  have HB1 : Hid (Below w.heap.size w w1) := below_next hb1
  clear hb1 HG
  go_wp2_with fail
  obtain ⟨w2, hw2⟩ : ∃ w2, w2 = w1.alloc (.cells #[.int .i64 G.link, .int .i64 G.p, .int .i64 G.node, .bool true, .int .i64 G.key, .int .i64 (rcap : Int), .bool true, .int .i64 G.cell] 73) := ⟨_, rfl⟩
  have HB2 : Hid (Below w.heap.size w w2) := by rw [hw2]; exact below_then HB1.out (below_a1 _ _)
  have HR2 : Hid (w2.heap[w.heap.size]? = some (.cells #[.int .i64 0, .int .i64 0, .int .i64 0, .int .i64 0] 34 (0, 0))) := by rw [hw2]; exact hp_past HR1.out
  have HW2 : Hid (w2.heap[w1.heap.size]? = some (.cells #[.int .i64 G.link, .int .i64 G.p, .int .i64 G.node, .bool true, .int .i64 G.key, .int .i64 (rcap : Int), .bool true, .int .i64 G.cell] 73 (0, 0))) := by rw [hw2]; exact heap_alloc_new _ _
  have zz : w.heap.size < w1.heap.size := heap_lt HR1.out
  rw [← hw2]
  clear hw2
  refine (HE.out w2 _ _).mono ?_
  rintro e w4 h4
  obtain ⟨cs, w5, rfl, hz, hst, hr, hold, _⟩ := tl_put (w := w) (R := w.heap.size) h4 HR2.out rfl HB2.out (by omega)
  clear h4
  go_wp2_with fail
  exact ret_wn rfl rfl hr.out.1 hz rfl hr.out.2
set_option maxRecDepth 10000 in
theorem rnext_has0_eq (w : World) {b m k key : Int} {xa : Addr} {n acap rcap : Nat} {ra : Option Addr} {G : Wg} (hn : 0 < n) (hxa : xa.block < w.heap.size) (a0 : w.cell? xa = some (.int .i64 key)) (hg : ∀ w' : World, Below w.heap.size w w' → Calls Try.prog 46 #[.int .i64 key, .int .i64 m, .slice ra rcap rcap] w' fun e w'' => e = .returned (.agg #[.int .i64 G.link, .int .i64 G.p, .int .i64 G.node, .bool false, .int .i64 G.key, .int .i64 (rcap : Int), .bool true, .int .i64 G.cell]) ∧ Below w'.heap.size w' w'')  : Calls Try.prog 28 #[.int .i64 b, .int .i64 m, .int .i64 6, .slice (some xa) n acap, .slice ra rcap rcap, .int .i64 k] w (Tl (endW 0 0) w) := by
  have HE : Hid (∀ (w : World) v c, Calls Try.prog 51 #[.int .i64 v, .int .i64 c] w (Tl (endW v c) w)) := fun w v c => (rend_any w v c).mono tl_of
  have HG : Hid (∀ w' : World, Below w.heap.size w w' → Calls Try.prog 46 #[.int .i64 key, .int .i64 m, .slice ra rcap rcap] w' fun e w'' => e = .returned (.agg #[.int .i64 G.link, .int .i64 G.p, .int .i64 G.node, .bool false, .int .i64 G.key, .int .i64 (rcap : Int), .bool true, .int .i64 G.cell]) ∧ Below w'.heap.size w' w'') := hg
  have HXA : Hid (xa.block < w.heap.size ∧ w.cell? xa = some (.int .i64 key)) := ⟨hxa, a0⟩
  clear hg
  go_enter Try.func28, Try.ntmps28
  go_wp2_with fail
  refine (HG.out _ (below_a1 _ _)).mono ?_
  rintro e w1 ⟨rfl, hb1⟩
  have HR1 : Hid (w1.heap[w.heap.size]? = some (.cells #[.int .i64 0, .int .i64 0, .int .i64 0, .int .i64 0] 34 (0, 0))) := row_next hb1
  have HB1 : Hid (Below w.heap.size w w1) := below_next hb1
  clear hb1 HG
  go_wp2_with fail
  obtain ⟨w2, hw2⟩ : ∃ w2, w2 = w1.alloc (.cells #[.int .i64 G.link, .int .i64 G.p, .int .i64 G.node, .bool false, .int .i64 G.key, .int .i64 (rcap : Int), .bool true, .int .i64 G.cell] 73) := ⟨_, rfl⟩
  have HB2 : Hid (Below w.heap.size w w2) := by rw [hw2]; exact below_then HB1.out (below_a1 _ _)
  have HR2 : Hid (w2.heap[w.heap.size]? = some (.cells #[.int .i64 0, .int .i64 0, .int .i64 0, .int .i64 0] 34 (0, 0))) := by rw [hw2]; exact hp_past HR1.out
  have HW2 : Hid (w2.heap[w1.heap.size]? = some (.cells #[.int .i64 G.link, .int .i64 G.p, .int .i64 G.node, .bool false, .int .i64 G.key, .int .i64 (rcap : Int), .bool true, .int .i64 G.cell] 73 (0, 0))) := by rw [hw2]; exact heap_alloc_new _ _
  have zz : w.heap.size < w1.heap.size := heap_lt HR1.out
  rw [← hw2]
  clear hw2
  refine (HE.out w2 _ _).mono ?_
  rintro e w4 h4
  obtain ⟨cs, w5, rfl, hz, hst, hr, hold, _⟩ := tl_put (w := w) (R := w.heap.size) h4 HR2.out rfl HB2.out (by omega)
  clear h4
  go_wp2_with fail
  exact ret_wn rfl rfl hr.out.1 hz rfl hr.out.2
set_option maxRecDepth 10000 in
theorem rnext_radds_ne (w : World) {b m k key : Int} {xa : Addr} {n acap rcap : Nat} {xr : Addr} {G : Wg} {N : Nat} (hn : 0 < n) (hxa : xa.block < w.heap.size) (a0 : w.cell? xa = some (.int .i64 key)) (hg : ∀ w' : World, Below w.heap.size w w' → Calls Try.prog 46 #[.int .i64 key, .int .i64 m, .slice (some xr) N rcap] w' fun e w'' => e = .returned (.agg #[.int .i64 G.link, .int .i64 G.p, .int .i64 G.node, .bool G.at_, .int .i64 G.key, .int .i64 (G.reads : Int), .bool true, .int .i64 G.cell]) ∧ Below w'.heap.size w' w'') (hN : G.reads ≤ N ∧ N ≤ rcap) (hne : rcap ≠ G.reads) {y : Wn} (hc : ∀ w' : World, Below w.heap.size w w' → Calls Try.prog 48 #[.int .i64 b, .int .i64 m, .int .i64 key, .agg #[.int .i64 G.link, .int .i64 G.p, .int .i64 G.node, .bool G.at_, .int .i64 G.key, .int .i64 (G.reads : Int), .bool true, .int .i64 G.cell], .slice (some (xr.add G.reads)) (N - G.reads) (rcap - G.reads), .int .i64 k] w' (Tl y w')) : Calls Try.prog 28 #[.int .i64 b, .int .i64 m, .int .i64 1, .slice (some xa) n acap, .slice (some xr) N rcap, .int .i64 k] w (Tl (y) w) := by
  have HNN : Hid (G.reads ≤ N ∧ N ≤ rcap) := hN
  have HC : Hid (∀ w' : World, Below w.heap.size w w' → Calls Try.prog 48 #[.int .i64 b, .int .i64 m, .int .i64 key, .agg #[.int .i64 G.link, .int .i64 G.p, .int .i64 G.node, .bool G.at_, .int .i64 G.key, .int .i64 (G.reads : Int), .bool true, .int .i64 G.cell], .slice (some (xr.add G.reads)) (N - G.reads) (rcap - G.reads), .int .i64 k] w' (Tl y w')) := hc
  clear hc
  have HG : Hid (∀ w' : World, Below w.heap.size w w' → Calls Try.prog 46 #[.int .i64 key, .int .i64 m, .slice (some xr) N rcap] w' fun e w'' => e = .returned (.agg #[.int .i64 G.link, .int .i64 G.p, .int .i64 G.node, .bool G.at_, .int .i64 G.key, .int .i64 (G.reads : Int), .bool true, .int .i64 G.cell]) ∧ Below w'.heap.size w' w'') := hg
  have HXA : Hid (xa.block < w.heap.size ∧ w.cell? xa = some (.int .i64 key)) := ⟨hxa, a0⟩
  clear hg
  have n1 : ¬ rcap = G.reads := hne
  have n2 : G.reads ≤ rcap := by omega
  have n3 : G.reads ≤ N := hN.1
  have n4 : N ≤ rcap := hN.2
  clear hN hne
  go_enter Try.func28, Try.ntmps28
  go_wp2_with fail
  refine (HG.out _ (below_a1 _ _)).mono ?_
  rintro e w1 ⟨rfl, hb1⟩
  have HR1 : Hid (w1.heap[w.heap.size]? = some (.cells #[.int .i64 0, .int .i64 0, .int .i64 0, .int .i64 0] 34 (0, 0))) := row_next hb1
  have HB1 : Hid (Below w.heap.size w w1) := below_next hb1
  clear hb1 HG
  go_wp2_with fail
  obtain ⟨w2, hw2⟩ : ∃ w2, w2 = w1.alloc (.cells #[.int .i64 G.link, .int .i64 G.p, .int .i64 G.node, .bool G.at_, .int .i64 G.key, .int .i64 (G.reads : Int), .bool true, .int .i64 G.cell] 73) := ⟨_, rfl⟩
  have HB2 : Hid (Below w.heap.size w w2) := by rw [hw2]; exact below_then HB1.out (below_a1 _ _)
  have HR2 : Hid (w2.heap[w.heap.size]? = some (.cells #[.int .i64 0, .int .i64 0, .int .i64 0, .int .i64 0] 34 (0, 0))) := by rw [hw2]; exact hp_past HR1.out
  have HW2 : Hid (w2.heap[w1.heap.size]? = some (.cells #[.int .i64 G.link, .int .i64 G.p, .int .i64 G.node, .bool G.at_, .int .i64 G.key, .int .i64 (G.reads : Int), .bool true, .int .i64 G.cell] 73 (0, 0))) := by rw [hw2]; exact heap_alloc_new _ _
  have zz : w.heap.size < w1.heap.size := heap_lt HR1.out
  rw [← hw2]
  clear hw2
  have HS : Hid (∀ w' : World, (∀ q, q < w2.heap.size → q ≠ w.heap.size → w'.heap[q]? = w2.heap[q]?) → w'.cell? xa = some (.int .i64 key) ∧ w'.cell? ⟨w1.heap.size, 0, none⟩ = some (.int .i64 G.link) ∧ w'.cell? ⟨w1.heap.size, 1, none⟩ = some (.int .i64 G.p) ∧ w'.cell? ⟨w1.heap.size, 2, none⟩ = some (.int .i64 G.node) ∧ w'.cell? ⟨w1.heap.size, 3, none⟩ = some (.bool G.at_) ∧ w'.cell? ⟨w1.heap.size, 4, none⟩ = some (.int .i64 G.key) ∧ w'.cell? ⟨w1.heap.size, 5, none⟩ = some (.int .i64 (G.reads : Int)) ∧ w'.cell? ⟨w1.heap.size, 6, none⟩ = some (.bool true) ∧ w'.cell? ⟨w1.heap.size, 7, none⟩ = some (.int .i64 G.cell)) := fun w' hq => ⟨(by rw [← HXA.out.2]; unfold World.cell?; rw [hq _ (Nat.lt_of_lt_of_le HXA.out.1 HB2.out.size) (by have := HXA.out.1; omega), HB2.out.block _ HXA.out.1]), (by rw [cell_at ((hq _ (heap_lt HW2.out) (by omega)).trans HW2.out)]; rfl), (by rw [cell_at ((hq _ (heap_lt HW2.out) (by omega)).trans HW2.out)]; rfl), (by rw [cell_at ((hq _ (heap_lt HW2.out) (by omega)).trans HW2.out)]; rfl), (by rw [cell_at ((hq _ (heap_lt HW2.out) (by omega)).trans HW2.out)]; rfl), (by rw [cell_at ((hq _ (heap_lt HW2.out) (by omega)).trans HW2.out)]; rfl), (by rw [cell_at ((hq _ (heap_lt HW2.out) (by omega)).trans HW2.out)]; rfl), (by rw [cell_at ((hq _ (heap_lt HW2.out) (by omega)).trans HW2.out)]; rfl), (by rw [cell_at ((hq _ (heap_lt HW2.out) (by omega)).trans HW2.out)]; rfl)⟩
  obtain ⟨s0, s1, s2, s3, s4, s5, s6, s7, s8⟩ := HS.out w2 (fun _ _ _ => rfl)
  have y0 : w1.heap.size < w2.heap.size := heap_lt HW2.out
  have y1 : xa.block < w2.heap.size := Nat.lt_of_lt_of_le HXA.out.1 HB2.out.size
  clear a0 hxa
  go_region_held3 (fun w' => w'.cell? xa = some (.int .i64 key) ∧ w'.cell? ⟨w1.heap.size, 0, none⟩ = some (.int .i64 G.link) ∧ w'.cell? ⟨w1.heap.size, 1, none⟩ = some (.int .i64 G.p) ∧ w'.cell? ⟨w1.heap.size, 2, none⟩ = some (.int .i64 G.node) ∧ w'.cell? ⟨w1.heap.size, 3, none⟩ = some (.bool G.at_) ∧ w'.cell? ⟨w1.heap.size, 4, none⟩ = some (.int .i64 G.key) ∧ w'.cell? ⟨w1.heap.size, 5, none⟩ = some (.int .i64 (G.reads : Int)) ∧ w'.cell? ⟨w1.heap.size, 6, none⟩ = some (.bool true) ∧ w'.cell? ⟨w1.heap.size, 7, none⟩ = some (.int .i64 G.cell)) (first | go_keep | exact hS | exact hS5) (first
    | (go_at_call 48; refine (HC.out _ (below_then HB2.out (bl_drew1 _))).mono ?_; rintro e w4 h4; obtain ⟨cs, w5, rfl, hz, hst, hr, hold, _⟩ := tl_put (w := w) (R := w.heap.size) h4 (by first | exact HR2.out | (rw [(bl_drew1 w2).block _ (heap_lt HR2.out)]; exact HR2.out)) rfl (by first | exact HB2.out | exact below_then HB2.out (bl_drew1 _)) (by omega); have hS : w4.cell? xa = some (.int .i64 key) ∧ w4.cell? ⟨w1.heap.size, 0, none⟩ = some (.int .i64 G.link) ∧ w4.cell? ⟨w1.heap.size, 1, none⟩ = some (.int .i64 G.p) ∧ w4.cell? ⟨w1.heap.size, 2, none⟩ = some (.int .i64 G.node) ∧ w4.cell? ⟨w1.heap.size, 3, none⟩ = some (.bool G.at_) ∧ w4.cell? ⟨w1.heap.size, 4, none⟩ = some (.int .i64 G.key) ∧ w4.cell? ⟨w1.heap.size, 5, none⟩ = some (.int .i64 (G.reads : Int)) ∧ w4.cell? ⟨w1.heap.size, 6, none⟩ = some (.bool true) ∧ w4.cell? ⟨w1.heap.size, 7, none⟩ = some (.int .i64 G.cell) := HS.out w4 (fun q hq _ => (below_then (bl_drew1 _) h4.bel).block q hq); have hS5 : w5.cell? xa = some (.int .i64 key) ∧ w5.cell? ⟨w1.heap.size, 0, none⟩ = some (.int .i64 G.link) ∧ w5.cell? ⟨w1.heap.size, 1, none⟩ = some (.int .i64 G.p) ∧ w5.cell? ⟨w1.heap.size, 2, none⟩ = some (.int .i64 G.node) ∧ w5.cell? ⟨w1.heap.size, 3, none⟩ = some (.bool G.at_) ∧ w5.cell? ⟨w1.heap.size, 4, none⟩ = some (.int .i64 G.key) ∧ w5.cell? ⟨w1.heap.size, 5, none⟩ = some (.int .i64 (G.reads : Int)) ∧ w5.cell? ⟨w1.heap.size, 6, none⟩ = some (.bool true) ∧ w5.cell? ⟨w1.heap.size, 7, none⟩ = some (.int .i64 G.cell) := HS.out w5 (fun q hq hqr => hold.out q hq hqr); clear h4))
  all_goals (go_wp2_with fail; exact ret_wn rfl rfl hr.out.1 hz rfl hr.out.2)
set_option maxRecDepth 10000 in
theorem rnext_rdels_ne (w : World) {b m k key : Int} {xa : Addr} {n acap rcap : Nat} {xr : Addr} {G : Wg} {N : Nat} (hn : 0 < n) (hxa : xa.block < w.heap.size) (a0 : w.cell? xa = some (.int .i64 key)) (hg : ∀ w' : World, Below w.heap.size w w' → Calls Try.prog 46 #[.int .i64 key, .int .i64 m, .slice (some xr) N rcap] w' fun e w'' => e = .returned (.agg #[.int .i64 G.link, .int .i64 G.p, .int .i64 G.node, .bool G.at_, .int .i64 G.key, .int .i64 (G.reads : Int), .bool true, .int .i64 G.cell]) ∧ Below w'.heap.size w' w'') (hN : G.reads ≤ N ∧ N ≤ rcap) (hne : rcap ≠ G.reads) {y : Wn} (hc : ∀ w' : World, Below w.heap.size w w' → Calls Try.prog 49 #[.int .i64 b, .agg #[.int .i64 G.link, .int .i64 G.p, .int .i64 G.node, .bool G.at_, .int .i64 G.key, .int .i64 (G.reads : Int), .bool true, .int .i64 G.cell], .slice (some (xr.add G.reads)) (N - G.reads) (rcap - G.reads), .int .i64 k] w' (Tl y w')) : Calls Try.prog 28 #[.int .i64 b, .int .i64 m, .int .i64 4, .slice (some xa) n acap, .slice (some xr) N rcap, .int .i64 k] w (Tl (y) w) := by
  have HNN : Hid (G.reads ≤ N ∧ N ≤ rcap) := hN
  have HC : Hid (∀ w' : World, Below w.heap.size w w' → Calls Try.prog 49 #[.int .i64 b, .agg #[.int .i64 G.link, .int .i64 G.p, .int .i64 G.node, .bool G.at_, .int .i64 G.key, .int .i64 (G.reads : Int), .bool true, .int .i64 G.cell], .slice (some (xr.add G.reads)) (N - G.reads) (rcap - G.reads), .int .i64 k] w' (Tl y w')) := hc
  clear hc
  have HG : Hid (∀ w' : World, Below w.heap.size w w' → Calls Try.prog 46 #[.int .i64 key, .int .i64 m, .slice (some xr) N rcap] w' fun e w'' => e = .returned (.agg #[.int .i64 G.link, .int .i64 G.p, .int .i64 G.node, .bool G.at_, .int .i64 G.key, .int .i64 (G.reads : Int), .bool true, .int .i64 G.cell]) ∧ Below w'.heap.size w' w'') := hg
  have HXA : Hid (xa.block < w.heap.size ∧ w.cell? xa = some (.int .i64 key)) := ⟨hxa, a0⟩
  clear hg
  have n1 : ¬ rcap = G.reads := hne
  have n2 : G.reads ≤ rcap := by omega
  have n3 : G.reads ≤ N := hN.1
  have n4 : N ≤ rcap := hN.2
  clear hN hne
  go_enter Try.func28, Try.ntmps28
  go_wp2_with fail
  refine (HG.out _ (below_a1 _ _)).mono ?_
  rintro e w1 ⟨rfl, hb1⟩
  have HR1 : Hid (w1.heap[w.heap.size]? = some (.cells #[.int .i64 0, .int .i64 0, .int .i64 0, .int .i64 0] 34 (0, 0))) := row_next hb1
  have HB1 : Hid (Below w.heap.size w w1) := below_next hb1
  clear hb1 HG
  go_wp2_with fail
  obtain ⟨w2, hw2⟩ : ∃ w2, w2 = w1.alloc (.cells #[.int .i64 G.link, .int .i64 G.p, .int .i64 G.node, .bool G.at_, .int .i64 G.key, .int .i64 (G.reads : Int), .bool true, .int .i64 G.cell] 73) := ⟨_, rfl⟩
  have HB2 : Hid (Below w.heap.size w w2) := by rw [hw2]; exact below_then HB1.out (below_a1 _ _)
  have HR2 : Hid (w2.heap[w.heap.size]? = some (.cells #[.int .i64 0, .int .i64 0, .int .i64 0, .int .i64 0] 34 (0, 0))) := by rw [hw2]; exact hp_past HR1.out
  have HW2 : Hid (w2.heap[w1.heap.size]? = some (.cells #[.int .i64 G.link, .int .i64 G.p, .int .i64 G.node, .bool G.at_, .int .i64 G.key, .int .i64 (G.reads : Int), .bool true, .int .i64 G.cell] 73 (0, 0))) := by rw [hw2]; exact heap_alloc_new _ _
  have zz : w.heap.size < w1.heap.size := heap_lt HR1.out
  rw [← hw2]
  clear hw2
  refine (HC.out w2 HB2.out).mono ?_
  rintro e w4 h4
  obtain ⟨cs, w5, rfl, hz, hst, hr, hold, _⟩ := tl_put (w := w) (R := w.heap.size) h4 HR2.out rfl HB2.out (by omega)
  clear h4
  go_wp2_with fail
  exact ret_wn rfl rfl hr.out.1 hz rfl hr.out.2
set_option maxRecDepth 10000 in
theorem rnext_rnxt_ne (w : World) {b m k key : Int} {xa : Addr} {n acap rcap : Nat} {xr : Addr} {G : Wg} {N : Nat} (hn : 0 < n) (hxa : xa.block < w.heap.size) (a0 : w.cell? xa = some (.int .i64 key)) (hg : ∀ w' : World, Below w.heap.size w w' → Calls Try.prog 46 #[.int .i64 key, .int .i64 m, .slice (some xr) N rcap] w' fun e w'' => e = .returned (.agg #[.int .i64 G.link, .int .i64 G.p, .int .i64 G.node, .bool G.at_, .int .i64 G.key, .int .i64 (G.reads : Int), .bool true, .int .i64 G.cell]) ∧ Below w'.heap.size w' w'') (hN : G.reads ≤ N ∧ N ≤ rcap) (hne : rcap ≠ G.reads) {y : Wn} (hc : ∀ w' : World, Below w.heap.size w w' → Calls Try.prog 50 #[.int .i64 b, .int .i64 m, .agg #[.int .i64 G.link, .int .i64 G.p, .int .i64 G.node, .bool G.at_, .int .i64 G.key, .int .i64 (G.reads : Int), .bool true, .int .i64 G.cell], .slice (some (xr.add G.reads)) (N - G.reads) (rcap - G.reads)] w' (Tl y w')) : Calls Try.prog 28 #[.int .i64 b, .int .i64 m, .int .i64 8, .slice (some xa) n acap, .slice (some xr) N rcap, .int .i64 k] w (Tl (y) w) := by
  have HNN : Hid (G.reads ≤ N ∧ N ≤ rcap) := hN
  have HC : Hid (∀ w' : World, Below w.heap.size w w' → Calls Try.prog 50 #[.int .i64 b, .int .i64 m, .agg #[.int .i64 G.link, .int .i64 G.p, .int .i64 G.node, .bool G.at_, .int .i64 G.key, .int .i64 (G.reads : Int), .bool true, .int .i64 G.cell], .slice (some (xr.add G.reads)) (N - G.reads) (rcap - G.reads)] w' (Tl y w')) := hc
  clear hc
  have HG : Hid (∀ w' : World, Below w.heap.size w w' → Calls Try.prog 46 #[.int .i64 key, .int .i64 m, .slice (some xr) N rcap] w' fun e w'' => e = .returned (.agg #[.int .i64 G.link, .int .i64 G.p, .int .i64 G.node, .bool G.at_, .int .i64 G.key, .int .i64 (G.reads : Int), .bool true, .int .i64 G.cell]) ∧ Below w'.heap.size w' w'') := hg
  have HXA : Hid (xa.block < w.heap.size ∧ w.cell? xa = some (.int .i64 key)) := ⟨hxa, a0⟩
  clear hg
  have n1 : ¬ rcap = G.reads := hne
  have n2 : G.reads ≤ rcap := by omega
  have n3 : G.reads ≤ N := hN.1
  have n4 : N ≤ rcap := hN.2
  clear hN hne
  go_enter Try.func28, Try.ntmps28
  go_wp2_with fail
  refine (HG.out _ (below_a1 _ _)).mono ?_
  rintro e w1 ⟨rfl, hb1⟩
  have HR1 : Hid (w1.heap[w.heap.size]? = some (.cells #[.int .i64 0, .int .i64 0, .int .i64 0, .int .i64 0] 34 (0, 0))) := row_next hb1
  have HB1 : Hid (Below w.heap.size w w1) := below_next hb1
  clear hb1 HG
  go_wp2_with fail
  obtain ⟨w2, hw2⟩ : ∃ w2, w2 = w1.alloc (.cells #[.int .i64 G.link, .int .i64 G.p, .int .i64 G.node, .bool G.at_, .int .i64 G.key, .int .i64 (G.reads : Int), .bool true, .int .i64 G.cell] 73) := ⟨_, rfl⟩
  have HB2 : Hid (Below w.heap.size w w2) := by rw [hw2]; exact below_then HB1.out (below_a1 _ _)
  have HR2 : Hid (w2.heap[w.heap.size]? = some (.cells #[.int .i64 0, .int .i64 0, .int .i64 0, .int .i64 0] 34 (0, 0))) := by rw [hw2]; exact hp_past HR1.out
  have HW2 : Hid (w2.heap[w1.heap.size]? = some (.cells #[.int .i64 G.link, .int .i64 G.p, .int .i64 G.node, .bool G.at_, .int .i64 G.key, .int .i64 (G.reads : Int), .bool true, .int .i64 G.cell] 73 (0, 0))) := by rw [hw2]; exact heap_alloc_new _ _
  have zz : w.heap.size < w1.heap.size := heap_lt HR1.out
  rw [← hw2]
  clear hw2
  refine (HC.out w2 HB2.out).mono ?_
  rintro e w4 h4
  obtain ⟨cs, w5, rfl, hz, hst, hr, hold, _⟩ := tl_put (w := w) (R := w.heap.size) h4 HR2.out rfl HB2.out (by omega)
  clear h4
  go_wp2_with fail
  exact ret_wn rfl rfl hr.out.1 hz rfl hr.out.2
set_option maxRecDepth 10000 in
theorem rnext_has1_ne (w : World) {b m k key : Int} {xa : Addr} {n acap rcap : Nat} {xr : Addr} {G : Wg} {N : Nat} (hn : 0 < n) (hxa : xa.block < w.heap.size) (a0 : w.cell? xa = some (.int .i64 key)) (hg : ∀ w' : World, Below w.heap.size w w' → Calls Try.prog 46 #[.int .i64 key, .int .i64 m, .slice (some xr) N rcap] w' fun e w'' => e = .returned (.agg #[.int .i64 G.link, .int .i64 G.p, .int .i64 G.node, .bool true, .int .i64 G.key, .int .i64 (G.reads : Int), .bool true, .int .i64 G.cell]) ∧ Below w'.heap.size w' w'') (hN : G.reads ≤ N ∧ N ≤ rcap) (hne : rcap ≠ G.reads) : Calls Try.prog 28 #[.int .i64 b, .int .i64 m, .int .i64 6, .slice (some xa) n acap, .slice (some xr) N rcap, .int .i64 k] w (Tl (endW 1 0) w) := by
  have HE : Hid (∀ (w : World) v c, Calls Try.prog 51 #[.int .i64 v, .int .i64 c] w (Tl (endW v c) w)) := fun w v c => (rend_any w v c).mono tl_of
  have HNN : Hid (G.reads ≤ N ∧ N ≤ rcap) := hN
  have HG : Hid (∀ w' : World, Below w.heap.size w w' → Calls Try.prog 46 #[.int .i64 key, .int .i64 m, .slice (some xr) N rcap] w' fun e w'' => e = .returned (.agg #[.int .i64 G.link, .int .i64 G.p, .int .i64 G.node, .bool true, .int .i64 G.key, .int .i64 (G.reads : Int), .bool true, .int .i64 G.cell]) ∧ Below w'.heap.size w' w'') := hg
  have HXA : Hid (xa.block < w.heap.size ∧ w.cell? xa = some (.int .i64 key)) := ⟨hxa, a0⟩
  clear hg
  have n1 : ¬ rcap = G.reads := hne
  have n2 : G.reads ≤ rcap := by omega
  have n3 : G.reads ≤ N := hN.1
  have n4 : N ≤ rcap := hN.2
  clear hN hne
  go_enter Try.func28, Try.ntmps28
  go_wp2_with fail
  refine (HG.out _ (below_a1 _ _)).mono ?_
  rintro e w1 ⟨rfl, hb1⟩
  have HR1 : Hid (w1.heap[w.heap.size]? = some (.cells #[.int .i64 0, .int .i64 0, .int .i64 0, .int .i64 0] 34 (0, 0))) := row_next hb1
  have HB1 : Hid (Below w.heap.size w w1) := below_next hb1
  clear hb1 HG
  go_wp2_with fail
  obtain ⟨w2, hw2⟩ : ∃ w2, w2 = w1.alloc (.cells #[.int .i64 G.link, .int .i64 G.p, .int .i64 G.node, .bool true, .int .i64 G.key, .int .i64 (G.reads : Int), .bool true, .int .i64 G.cell] 73) := ⟨_, rfl⟩
  have HB2 : Hid (Below w.heap.size w w2) := by rw [hw2]; exact below_then HB1.out (below_a1 _ _)
  have HR2 : Hid (w2.heap[w.heap.size]? = some (.cells #[.int .i64 0, .int .i64 0, .int .i64 0, .int .i64 0] 34 (0, 0))) := by rw [hw2]; exact hp_past HR1.out
  have HW2 : Hid (w2.heap[w1.heap.size]? = some (.cells #[.int .i64 G.link, .int .i64 G.p, .int .i64 G.node, .bool true, .int .i64 G.key, .int .i64 (G.reads : Int), .bool true, .int .i64 G.cell] 73 (0, 0))) := by rw [hw2]; exact heap_alloc_new _ _
  have zz : w.heap.size < w1.heap.size := heap_lt HR1.out
  rw [← hw2]
  clear hw2
  refine (HE.out w2 _ _).mono ?_
  rintro e w4 h4
  obtain ⟨cs, w5, rfl, hz, hst, hr, hold, _⟩ := tl_put (w := w) (R := w.heap.size) h4 HR2.out rfl HB2.out (by omega)
  clear h4
  go_wp2_with fail
  exact ret_wn rfl rfl hr.out.1 hz rfl hr.out.2
set_option maxRecDepth 10000 in
theorem rnext_has0_ne (w : World) {b m k key : Int} {xa : Addr} {n acap rcap : Nat} {xr : Addr} {G : Wg} {N : Nat} (hn : 0 < n) (hxa : xa.block < w.heap.size) (a0 : w.cell? xa = some (.int .i64 key)) (hg : ∀ w' : World, Below w.heap.size w w' → Calls Try.prog 46 #[.int .i64 key, .int .i64 m, .slice (some xr) N rcap] w' fun e w'' => e = .returned (.agg #[.int .i64 G.link, .int .i64 G.p, .int .i64 G.node, .bool false, .int .i64 G.key, .int .i64 (G.reads : Int), .bool true, .int .i64 G.cell]) ∧ Below w'.heap.size w' w'') (hN : G.reads ≤ N ∧ N ≤ rcap) (hne : rcap ≠ G.reads) : Calls Try.prog 28 #[.int .i64 b, .int .i64 m, .int .i64 6, .slice (some xa) n acap, .slice (some xr) N rcap, .int .i64 k] w (Tl (endW 0 0) w) := by
  have HE : Hid (∀ (w : World) v c, Calls Try.prog 51 #[.int .i64 v, .int .i64 c] w (Tl (endW v c) w)) := fun w v c => (rend_any w v c).mono tl_of
  have HNN : Hid (G.reads ≤ N ∧ N ≤ rcap) := hN
  have HG : Hid (∀ w' : World, Below w.heap.size w w' → Calls Try.prog 46 #[.int .i64 key, .int .i64 m, .slice (some xr) N rcap] w' fun e w'' => e = .returned (.agg #[.int .i64 G.link, .int .i64 G.p, .int .i64 G.node, .bool false, .int .i64 G.key, .int .i64 (G.reads : Int), .bool true, .int .i64 G.cell]) ∧ Below w'.heap.size w' w'') := hg
  have HXA : Hid (xa.block < w.heap.size ∧ w.cell? xa = some (.int .i64 key)) := ⟨hxa, a0⟩
  clear hg
  have n1 : ¬ rcap = G.reads := hne
  have n2 : G.reads ≤ rcap := by omega
  have n3 : G.reads ≤ N := hN.1
  have n4 : N ≤ rcap := hN.2
  clear hN hne
  go_enter Try.func28, Try.ntmps28
  go_wp2_with fail
  refine (HG.out _ (below_a1 _ _)).mono ?_
  rintro e w1 ⟨rfl, hb1⟩
  have HR1 : Hid (w1.heap[w.heap.size]? = some (.cells #[.int .i64 0, .int .i64 0, .int .i64 0, .int .i64 0] 34 (0, 0))) := row_next hb1
  have HB1 : Hid (Below w.heap.size w w1) := below_next hb1
  clear hb1 HG
  go_wp2_with fail
  obtain ⟨w2, hw2⟩ : ∃ w2, w2 = w1.alloc (.cells #[.int .i64 G.link, .int .i64 G.p, .int .i64 G.node, .bool false, .int .i64 G.key, .int .i64 (G.reads : Int), .bool true, .int .i64 G.cell] 73) := ⟨_, rfl⟩
  have HB2 : Hid (Below w.heap.size w w2) := by rw [hw2]; exact below_then HB1.out (below_a1 _ _)
  have HR2 : Hid (w2.heap[w.heap.size]? = some (.cells #[.int .i64 0, .int .i64 0, .int .i64 0, .int .i64 0] 34 (0, 0))) := by rw [hw2]; exact hp_past HR1.out
  have HW2 : Hid (w2.heap[w1.heap.size]? = some (.cells #[.int .i64 G.link, .int .i64 G.p, .int .i64 G.node, .bool false, .int .i64 G.key, .int .i64 (G.reads : Int), .bool true, .int .i64 G.cell] 73 (0, 0))) := by rw [hw2]; exact heap_alloc_new _ _
  have zz : w.heap.size < w1.heap.size := heap_lt HR1.out
  rw [← hw2]
  clear hw2
  refine (HE.out w2 _ _).mono ?_
  rintro e w4 h4
  obtain ⟨cs, w5, rfl, hz, hst, hr, hold, _⟩ := tl_put (w := w) (R := w.heap.size) h4 HR2.out rfl HB2.out (by omega)
  clear h4
  go_wp2_with fail
  exact ret_wn rfl rfl hr.out.1 hz rfl hr.out.2
theorem doc_of {b m c k : Int} {A R : List Int} (hc : c ≠ 7 ∧ c ≠ 5) : docV b m c A R k = behV b (restV b m c (nth A 0)) (goX m (nth A 0) m.toNat 0 R) k := by
  unfold docV
  rw [if_neg hc.1, if_neg hc.2]
theorem rnext_any (w : World) (b m c k : Int) (va vr : Value) (A R : List Int) (ha : Nl w va A) (hr : Nl w vr R) (h : rightV b m c A.length = true) :
    Calls Try.prog 28 #[.int .i64 b, .int .i64 m, .int .i64 c, va, vr, .int .i64 k] w fun e w' => e = .returned (.agg (wnC (docV b m c A R k))) ∧ Below w.heap.size w w' := by
  obtain ⟨hm1, hm2, hb1, hb2, hcc⟩ := call_of h
  have hm : 0 ≤ m ∧ m ≤ 16 := ⟨hm1, hm2⟩
  have hb : 0 ≤ b ∧ b ≤ 1024 := ⟨hb1, hb2⟩
  suffices hs : Calls Try.prog 28 #[.int .i64 b, .int .i64 m, .int .i64 c, va, vr, .int .i64 k] w (Tl (docV b m c A R k) w) from hs.mono of_tl
  by_cases h7 : c = 7
  · subst h7
    have : docV b m 7 A R k = leastV b m R := by simp [docV]
    rw [this]
    exact rnext_least w ha hr hb hm
  · by_cases h5 : c = 5
    · subst h5
      have : docV b m 5 A R k = lenX b m m.toNat 0 0 R := by simp [docV]
      rw [this]
      exact rnext_len w ha hr hb hm
    · rw [doc_of ⟨h7, h5⟩]
      have hA1 : A.length = 1 := by omega
      obtain ⟨aa, acap, rfl⟩ := nl_slice ha
      obtain ⟨_, hla, hca⟩ := nl_cells ha
      obtain ⟨xa, rfl, hxa, a0⟩ := hca 0 (by omega)
      rw [add_zero'] at a0
      have hA0 : 0 < A.length := by omega
      have hgo : ∀ w' : World, Below w.heap.size w w' → Calls Try.prog 46 #[.int .i64 (nth A 0), .int .i64 m, vr] w' fun e w'' => e = .returned (.agg (wgC (goV (nth A 0) m R))) ∧ Below w'.heap.size w' w'' := fun w' hb' => rgo_any w' _ m vr R (hr.later hb' (Nat.le_refl _)) hm
      rcases gx_gv (k := nth A 0) hm R with ⟨c', h1, h2, h3, h4⟩ | ⟨x, r', h1, h2, h3, h4⟩
      · rw [h1]
        obtain ⟨ra, rcap, rfl⟩ := nl_slice hr
        generalize goV (nth A 0) m R = G at *
        obtain ⟨g0, g1, g2, g3, g4, g5, g6, g7⟩ := G
        simp only at h2 h3
        subst h2 h3
        exact rnext_more w (G := ⟨g0, g1, g2, g3, g4, g5, false, g7⟩) hA0 hxa a0 hgo hb h4 ⟨h7, h5⟩
      · rw [h1]
        rw [h2] at hgo
        obtain ⟨ra, rcap, hv⟩ := nl_slice hr
        subst hv
        have hrc : R.length ≤ rcap ∧ (ra = none → rcap = 0) := by
          obtain ⟨_, _, e, _, e1, e2, _⟩ := hr
          injection e with e3 _ e4
          subst e3 e4
          exact ⟨e1, e2.2⟩
        have hleft : ∀ w' : World, Below w.heap.size w w' → Nl w' (.slice (if rcap = r' then ra else ra.map (·.add (r' * 1))) (R.length - r') (rcap - r')) (R.drop r') := fun w' hb' => nl_drop (hr.later hb' (Nat.le_refl _)) h3
        by_cases he : rcap = r'
        · have hN : R.length = rcap := by omega
          have hR0 : R.length - r' = 0 := by omega
          have hr0 : rcap - r' = 0 := by omega
          rw [hR0, hr0] at hleft
          rw [if_pos he] at hleft
          subst he
          rw [hN] at hgo ⊢
          simp only [behV]
          rcases hcc with ⟨rfl, _⟩ | ⟨rfl, _⟩ | ⟨rfl, _⟩ | ⟨rfl, _⟩ | ⟨rfl, _⟩ | ⟨rfl, _⟩
          · exact rnext_radds_eq w (G := gOf x (nth A 0) rcap) hA0 hxa a0 hgo (fun w' hb' => radds_any w' (r := rcap) (hleft w' hb') h4 hb hm)
          · exact rnext_rdels_eq w (G := gOf x (nth A 0) rcap) hA0 hxa a0 hgo (fun w' hb' => rdels_any w' (r := rcap) (hleft w' hb') h4 hb hm)
          · have hre : restV b m 6 (nth A 0) x (R.drop rcap) k = if wyAt x (nth A 0) = true then endW 1 0 else endW 0 0 := by simp [restV]
            rw [hre]
            by_cases hat : wyAt x (nth A 0) = true
            · rw [if_pos hat]
              refine rnext_has1_eq w (G := gOf x (nth A 0) rcap) hA0 hxa a0 (fun w' hb' => ?_)
              have := hgo w' hb'
              simp only [gOf, wgC, hat] at this
              exact this
            · rw [if_neg hat]
              have hat' : wyAt x (nth A 0) = false := by simpa using hat
              refine rnext_has0_eq w (G := gOf x (nth A 0) rcap) hA0 hxa a0 (fun w' hb' => ?_)
              have := hgo w' hb'
              simp only [gOf, wgC, hat'] at this
              exact this
          · exact rnext_rnxt_eq w (G := gOf x (nth A 0) rcap) hA0 hxa a0 hgo (fun w' hb' => rnxt_any w' (r := rcap) (hleft w' hb') h4 hb hm)
          · exact absurd rfl h7
          · exact absurd rfl h5
        · obtain ⟨xr, rfl⟩ : ∃ y, ra = some y := by
            cases ra with
            | none => have := hrc.2 rfl; omega
            | some y => exact ⟨y, rfl⟩
          rw [if_neg he] at hleft
          simp only [Option.map_some, Nat.mul_one] at hleft
          have hNN : r' ≤ R.length ∧ R.length ≤ rcap := ⟨h3, hrc.1⟩
          simp only [behV]
          rcases hcc with ⟨rfl, _⟩ | ⟨rfl, _⟩ | ⟨rfl, _⟩ | ⟨rfl, _⟩ | ⟨rfl, _⟩ | ⟨rfl, _⟩
          · exact rnext_radds_ne w (G := gOf x (nth A 0) r') hA0 hxa a0 hgo hNN he (fun w' hb' => radds_any w' (r := r') (hleft w' hb') h4 hb hm)
          · exact rnext_rdels_ne w (G := gOf x (nth A 0) r') hA0 hxa a0 hgo hNN he (fun w' hb' => rdels_any w' (r := r') (hleft w' hb') h4 hb hm)
          · have hre : restV b m 6 (nth A 0) x (R.drop r') k = if wyAt x (nth A 0) = true then endW 1 0 else endW 0 0 := by simp [restV]
            rw [hre]
            by_cases hat : wyAt x (nth A 0) = true
            · rw [if_pos hat]
              refine rnext_has1_ne w (G := gOf x (nth A 0) r') hA0 hxa a0 (fun w' hb' => ?_) hNN he
              have := hgo w' hb'
              simp only [gOf, wgC, hat] at this
              exact this
            · rw [if_neg hat]
              have hat' : wyAt x (nth A 0) = false := by simpa using hat
              refine rnext_has0_ne w (G := gOf x (nth A 0) r') hA0 hxa a0 (fun w' hb' => ?_) hNN he
              have := hgo w' hb'
              simp only [gOf, wgC, hat'] at this
              exact this
          · exact rnext_rnxt_ne w (G := gOf x (nth A 0) r') hA0 hxa a0 hgo hNN he (fun w' hb' => rnxt_any w' (r := r') (hleft w' hb') h4 hb hm)
          · exact absurd rfl h7
          · exact absurd rfl h5

end Go.Proofs.Ytbbcfimgnbdpeaa.Ch
