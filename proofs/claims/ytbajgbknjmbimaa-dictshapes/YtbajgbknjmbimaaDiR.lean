/- The document's dict (layer 17): Size, Arity, First, Find. -/
import Derived.Test.YtbajgbknjmbimaaDiB
import Derived.Test.YtbajgbknjmbimaaCoR
import Derived.Deep.CutBlock
import Derived.Deep.DeepCutAuto
namespace Go.Proofs.Ytbajgbknjmbimaa.Di
open Go.ChangeShapes Go.WideShapes Go.ChangeAt Go.RowKit
attribute [local go_sem ↓] Go.wp_at_zero Go.wp_at_succ

theorem rsize_any (w : World) (m : Int) : Calls Try.prog 17 #[.int .i64 m] w fun e w' => e = .returned (.int .i64 (sizeV m)) ∧ w' = w := by
  have HC : Hid (∀ w : World, Calls Try.prog 28 #[.int .i64 m] w fun e w' => e = .returned (.bool (decide (0 ≤ m) && decide (m ≤ 16))) ∧ w' = w) := fun w => rright_any w m
  by_cases hm : 0 ≤ m ∧ m ≤ 16
  · have e1 : (decide (0 ≤ m) && decide (m ≤ 16)) = true := by simp [hm]
    rw [e1] at HC
    have HV : Hid (sizeV m = 3 * m + 1) := by unfold sizeV; rw [if_pos hm]; exact rfl
    have h3 : wrap64 (3 * m) = 3 * m := by unfold wrap64; omega
    have hw : wrap64 (3 * m + 1) = 3 * m + 1 := by unfold wrap64; omega
    clear hm e1
    go_enter Try.func17, Try.ntmps17
    go_wp2_with fail
    refine (HC.out _).mono ?_
    rintro e w1 ⟨rfl, rfl⟩
    go_wp2_with fail
    go_ret
    exact ⟨by rw [HV.out]; show Ending.returned (.int .i64 (wrap64 (3 * m + 1))) = _; rw [hw], rfl⟩
  · have e1 : (decide (0 ≤ m) && decide (m ≤ 16)) = false := by
      rw [Bool.eq_false_iff]
      intro h
      simp only [Bool.and_eq_true, decide_eq_true_eq] at h
      exact hm h
    rw [e1] at HC
    have HV : Hid (sizeV m = 0) := by unfold sizeV; rw [if_neg hm]; exact rfl
    clear hm e1
    go_enter Try.func17, Try.ntmps17
    go_wp2_with fail
    refine (HC.out _).mono ?_
    rintro e w1 ⟨rfl, rfl⟩
    go_wp2_with fail
    go_ret
    exact ⟨by rw [HV.out]; rfl, rfl⟩
theorem rarity_any (w : World) (c : Int) : Calls Try.prog 25 #[.int .i64 c] w fun e w' => e = .returned (.int .i64 (arV c)) ∧ w' = w := by
  by_cases h1 : c = 3
  · subst h1
    go_enter Try.func25, Try.ntmps25
    go_wp2
    go_ret
    exact ⟨rfl, rfl⟩
  · by_cases h2 : c = 2
    · subst h2
      go_enter Try.func25, Try.ntmps25
      go_wp2
      go_ret
      exact ⟨rfl, rfl⟩
    · by_cases h4 : c = 4
      · subst h4
        go_enter Try.func25, Try.ntmps25
        go_wp2
        go_ret
        exact ⟨rfl, rfl⟩
      · by_cases h3 : c = 5
        · subst h3
          go_enter Try.func25, Try.ntmps25
          go_wp2
          go_ret
          exact ⟨rfl, rfl⟩
        · have HE : Hid (arV c = -1) := by unfold arV; rw [if_neg h1, if_neg h2, if_neg h4, if_neg h3]; exact rfl
          have e1 : (c == 3) = false := by simpa using h1
          have e2 : (c == 2) = false := by simpa using h2
          have e4 : (c == 4) = false := by simpa using h4
          have e3 : (c == 5) = false := by simpa using h3
          clear h1 h2 h3 h4
          go_enter Try.func25, Try.ntmps25
          go_wp2
          go_ret
          exact ⟨by rw [HE.out]; rfl, rfl⟩
theorem rfirst_any (w : World) (k n : Int) (hn : 0 ≤ n ∧ n ≤ 16) : Calls Try.prog 50 #[.int .i64 k, .int .i64 n] w fun e w' => e = .returned (.int .i64 (firV k n)) ∧ w' = w := by
  have HF : Hid (wrap64 (IntKind.u64.wrap (IntKind.u64.wrap (IntKind.u64.wrap k * 11400714819323198485) / 4294967296 * n) / 4294967296) = firV k n) := fir_math k n hn
  go_enter Try.func50, Try.ntmps50
  go_wp2
  go_ret
  exact ⟨by rw [← HF.out]; rfl, rfl⟩
/-- A function whose answer's variable is laid. -/
def Mid (w w2 : World) : Prop := Below (w.alloc (.cells z4 34)).heap.size (w.alloc (.cells z4 34)) w2
theorem Mid.on {w w2 w3 : World} (h : Mid w w2) (hb : Below w2.heap.size w2 w3) : Mid w w3 := h.trans (hb.mono h.size)
theorem Mid.first (w : World) : Mid w (w.alloc (.cells z4 34)) := Below.refl _ _
/-- The answer is laid into its variable. -/
theorem Mid.lay {w w4 : World} (h : Mid w w4) {x : Wn} {cs : Array Value} (hcs : Hid (wnC x = cs)) : ∃ w5, (storeCells ⟨w.heap.size, 0, none⟩ cs.toList 0).run Try.prog w4 = .ok () w5 ∧ Hid (w5.heap[w.heap.size]? = some (.cells cs 34 (0, 0)) ∧ Below w.heap.size w w5) := by
  have hr := row_next h
  have hb := below_next h
  rw [← hcs.out]
  exact ⟨w4.setRow w.heap.size (wnC x), store_wn hr rfl rfl (wnC_one x), setRow_heap _ _ _ _ _ _ hr, below_row hb _ (Nat.le_refl _) _⟩
def lkC (x : Lk) : Array Value := #[.int .i64 x.found, .int .i64 x.free, .int .i64 (x.reads : Int), .bool x.over, .int .i64 x.cell]
theorem drop_cons {R : List Int} {r : Nat} (h : r < R.length) : R.drop r = nth R r :: R.drop (r + 1) := by
  rw [nth_at h]
  exact List.drop_eq_getElem_cons h
theorem drop_end {R : List Int} {r : Nat} (h : r = R.length) : R.drop r = [] := by
  rw [h]; simp
/-- The slot of a way, step by step. -/
theorem way_next {f j n : Int} (hn : 0 < n) (hf : 0 ≤ f) (hj : 0 ≤ j) : (f + (j + 1)).tmod n = nxtV n ((f + j).tmod n) := by
  rw [Int.tmod_eq_emod_of_nonneg (by omega), Int.tmod_eq_emod_of_nonneg (by omega)]
  have h1 := Int.emod_nonneg (f + j) (show n ≠ 0 by omega)
  have h2 := Int.emod_lt_of_pos (f + j) hn
  have h3 : (f + (j + 1)) % n = ((f + j) % n + 1) % n := by rw [← Int.add_assoc, Int.emod_add_emod]
  rw [h3]
  unfold nxtV
  generalize (f + j) % n = x at *
  split
  · rename_i h; rw [h]; exact Int.emod_self
  · exact Int.emod_eq_of_lt (by omega) (by omega)
theorem fg_end {key n i free : Int} {c r : Nat} {R : List Int} (h : r = R.length) : findG key n (c + 1) i free r (R.drop r) = ⟨-1, free, r, false, 1 + 3 * i⟩ := by
  rw [drop_end h]; rfl
theorem fg_zero {key n i free : Int} {c r : Nat} {R : List Int} (h : r < R.length) (h0 : nth R r = 0) : findG key n (c + 1) i free r (R.drop r) = ⟨-1, if free < 0 then i else free, r + 1, true, 0⟩ := by
  rw [drop_cons h]
  simp only [findG]
  rw [if_neg (by rw [h0]; decide), if_pos h0]
theorem fg_gone {key n i free : Int} {c r : Nat} {R : List Int} (h : r < R.length) (h0 : nth R r ≠ 0) (h1 : nth R r ≠ 1) : findG key n (c + 1) i free r (R.drop r) = findG key n c (nxtV n i) (if free < 0 then i else free) (r + 1) (R.drop (r + 1)) := by
  rw [drop_cons h]
  simp only [findG]
  rw [if_neg h1, if_neg h0]
theorem fg_key {key n i free : Int} {c r : Nat} {R : List Int} (h : r < R.length) (h1 : nth R r = 1) (he : r + 1 = R.length) : findG key n (c + 1) i free r (R.drop r) = ⟨-1, free, r + 1, false, 2 + 3 * i⟩ := by
  rw [drop_cons h, drop_end he]
  simp only [findG]
  rw [if_pos h1]
theorem fg_found {key n i free : Int} {c r : Nat} {R : List Int} (h : r + 1 < R.length) (h1 : nth R r = 1) (hk : nth R (r + 1) = key) : findG key n (c + 1) i free r (R.drop r) = ⟨i, free, r + 2, true, 0⟩ := by
  rw [drop_cons (show r < R.length by omega), drop_cons h]
  simp only [findG]
  rw [if_pos h1, if_pos hk]
theorem fg_other {key n i free : Int} {c r : Nat} {R : List Int} (h : r + 1 < R.length) (h1 : nth R r = 1) (hk : nth R (r + 1) ≠ key) : findG key n (c + 1) i free r (R.drop r) = findG key n c (nxtV n i) free (r + 2) (R.drop (r + 2)) := by
  rw [drop_cons (show r < R.length by omega), drop_cons h]
  simp only [findG]
  rw [if_pos h1, if_neg hk]
/-- A look that a function hands back, out of its variable. -/
theorem ret_lk {fn : Func} {p : Tmp} {R : Ending → World → Prop} {a : Act} {w : World} {g : Nat} {cs : Array Value} (h : fn.results = #[.cell p 70]) (hp : a.tmps.getD p undef = .pointer (some ⟨g, 0, none⟩))
    (hg : w.heap[g]? = some (.cells cs 70 (0, 0))) (hz : cs.size = 5) (hd : a.defers = []) (hR : R (.returned (.agg cs)) w) : bodyPost Try.prog fn R .ret a w := by
  refine bodyPost_ret (v := .agg cs) ?_ hd hR
  have hp' : a.tmps[p]?.getD undef = .pointer (some ⟨g, 0, none⟩) := by simpa using hp
  have hl := run_loadVar_row (P := Try.prog) w g 70 70 cs (0, 0) _ hg Try.underlying70 rfl (by rw [hz]; kernel_rfl)
  simp [results, h, hp', asAddr, hl]
abbrev z5 : Array Value := #[.int .i64 0, .int .i64 0, .int .i64 0, .bool false, .int .i64 0]
/-- The look, and the answer's variable, as they lie. -/
structure FM (w wr : World) (x : Lk) : Prop where
  bel : Below w.heap.size w wr
  res : wr.heap[w.heap.size]? = some (.cells z5 70 (0, 0))
  row : wr.heap[w.heap.size + 1]? = some (.cells (lkC x) 70 (0, 0))
theorem FM.drawn {w wr : World} {x : Lk} (h : FM w wr x) (n : Nat) : FM w (wr.drewN n) x := ⟨below_drawn h.bel _, h.res, h.row⟩
theorem FM.set {w wr : World} {x x' : Lk} (h : FM w wr x) (j : Nat) (v : Value) (hc : (lkC x).setIfInBounds j v = lkC x') : FM w (wr.setCell ⟨w.heap.size + 1, j, none⟩ v) x' :=
  ⟨h.bel.setCell (Nat.le_succ _) _, by rw [heap_set_other _ _ (by simp)]; exact h.res, by rw [heap_set h.row, hc]⟩
theorem alloc2_at (w : World) (a b : Obj) : ((w.alloc a).alloc b).heap[w.heap.size + 1]? = some b := by
  have := heap_alloc_new (w.alloc a) b
  simpa using this
structure FC (w wr : World) (x : Lk) : Prop where
  c0 : wr.cell? ⟨w.heap.size + 1, 0, none⟩ = some (.int .i64 x.found)
  c1 : wr.cell? ⟨w.heap.size + 1, 1, none⟩ = some (.int .i64 x.free)
  c2 : wr.cell? ⟨w.heap.size + 1, 2, none⟩ = some (.int .i64 (x.reads : Int))
  c3 : wr.cell? ⟨w.heap.size + 1, 3, none⟩ = some (.bool x.over)
  c4 : wr.cell? ⟨w.heap.size + 1, 4, none⟩ = some (.int .i64 x.cell)
theorem FM.cells {w wr : World} {x : Lk} (h : FM w wr x) : FC w wr x := ⟨by rw [cell_at h.row]; rfl, by rw [cell_at h.row]; rfl, by rw [cell_at h.row]; rfl, by rw [cell_at h.row]; rfl, by rw [cell_at h.row]; rfl⟩
theorem FM.frz {w wr : World} {x : Lk} (h : FM w wr x) (j : Nat) : wr.frozen? ⟨w.heap.size + 1, j, none⟩ = false := frozen_at h.row j
theorem lkC_one (x : Lk) : (lkC x).all (·.oneCell') = true := by simp [lkC, Value.oneCell']
/-- It is handed back. -/
theorem FM.put {w wr : World} {x : Lk} (h : FM w wr x) : ∃ w5, (storeCells ⟨w.heap.size, 0, none⟩ (lkC x).toList 0).run Try.prog wr = .ok () w5 ∧ Hid (w5.heap[w.heap.size]? = some (.cells (lkC x) 70 (0, 0)) ∧ Below w.heap.size w w5) := by
  have := run_storeCells_from (P := Try.prog) w.heap.size 70 (lkC x).toList 0 z5 wr h.res (by simp [lkC]) (fun v hv => (Array.all_eq_true_iff_forall_mem.1 (lkC_one x)) v (by simpa using hv))
  exact ⟨wr.setRow w.heap.size (lkC x), by simpa using this, setRow_heap _ _ _ _ _ _ h.res, below_row h.bel _ (Nat.le_refl _) _⟩
theorem eq_yes {r n : Nat} (h : r + 1 = n) : ((r : Int) + 1 == (n : Int)) = true := by
  simp
  omega
theorem eq_no {r n : Nat} (h : r + 1 ≠ n) : ((r : Int) + 1 == (n : Int)) = false := by
  simp
  omega
theorem eq_no0 {r n : Nat} (h : r ≠ n) : ((r : Int) == (n : Int)) = false := by
  simp
  omega
theorem wr_1 {r n : Nat} (h : r < n) (hn : n ≤ 17592186044416) : wrap64 ((r : Int) + 1) = (r : Int) + 1 := by unfold wrap64; omega
theorem wr_2 {r n : Nat} (h : r < n) (hn : n ≤ 17592186044416) : wrap64 ((r : Int) + 1 + 1) = (r : Int) + 1 + 1 := by unfold wrap64; omega
theorem wr_3 {r n : Nat} (h : r < n) (hn : n ≤ 17592186044416) : wrap64 ((r : Int) + 1 + 1 - 1) = (r : Int) + 1 := by unfold wrap64; omega
theorem ne_blk {a b c : Nat} (h : a < b) (e : c = a) : c ≠ b + 1 := by omega
theorem lt_of_ne_le {a b : Nat} (h : a ≤ b) (e : ¬ a = b) : a < b := by omega
theorem cell_set_other {w : World} {b : Nat} {a : Addr} (i : Nat) (v : Value) (h : a.block ≠ b) : (w.setCell ⟨b, i, none⟩ v).cell? a = w.cell? a := by
  unfold World.cell?
  rw [heap_set_other i v (Ne.symm h)]
theorem cast_1 (r : Nat) : (r : Int) + 1 = ((r + 1 : Nat) : Int) := by omega
set_option maxRecDepth 10000 in
set_option maxHeartbeats 2000000 in
theorem rfind_any (w : World) (key n : Int) (vr : Value) (R : List Int) (hr : Nl w vr R) (hn : 0 ≤ n ∧ n ≤ 16) : Calls Try.prog 44 #[.int .i64 key, .int .i64 n, vr] w fun e w' => e = .returned (.agg (lkC (findV key n R))) ∧ Below w.heap.size w w' := by
  have HF : Hid (∀ w : World, Calls Try.prog 50 #[.int .i64 key, .int .i64 n] w fun e w' => e = .returned (.int .i64 (firV key n)) ∧ w' = w) := fun w => rfirst_any w key n hn
  obtain ⟨ra, rcap, rfl⟩ := nl_slice hr
  obtain ⟨_, hR, hcell⟩ := nl_cells hr
  have HCL : Hid (∀ i, i < R.length → ∃ x, ra = some x ∧ x.block < w.heap.size ∧ w.cell? (x.add i) = some (.int .i64 (nth R i))) := hcell
  obtain ⟨y, hy⟩ : ∃ y, findV key n R = y := ⟨_, rfl⟩
  rw [hy]
  have HY : Hid (findG key n n.toNat (firV key n) (-1) 0 (R.drop 0) = y) := hy
  have HN : Hid (0 ≤ n ∧ n ≤ 16) := hn
  have HFI : Hid (0 < n → 0 ≤ firV key n ∧ firV key n < n) := fun h => fir_lt ⟨h, hn.2⟩
  generalize firV key n = f at *
  clear hr hcell hy
  go_enter Try.func44, Try.ntmps44
  go_wp2_with fail
  go_loopg [8] n.toNat (fun gh jv wr => ∃ (j c r : Nat) (i free : Int), c = gh ∧ (j : Int) + c = n ∧ jv = .int .i64 (j : Int) ∧ (0 < n → (f + (j : Int)).tmod n = i) ∧ r ≤ R.length ∧ FM w wr ⟨-1, free, r, false, 0⟩ ∧ findG key n c i free r (R.drop r) = y)
  case atStart => exact ⟨0, n.toNat, 0, f, -1, rfl, by have := HN.out; omega, rfl, fun h => by have := HFI.out h; simp only [Int.natCast_zero, Int.add_zero]; exact Int.tmod_eq_of_lt this.1 this.2, Nat.zero_le _, ⟨below_then (below_a1 _ _) (below_a1 _ _), heap_alloc2_old _ _ _, alloc2_at _ _ _⟩, HY.out⟩
  case round =>
    obtain ⟨j, c, r, i, free, rfl, hjc, rfl, hi, hrl, hfm, hres⟩ := hrel
    have HFM : Hid (FM w wr ⟨-1, free, r, false, 0⟩) := hfm
    obtain ⟨c0, c1, c2, c3, c4⟩ := hfm.cells
    have hx : w.heap.size + 1 < wr.heap.size := heap_lt hfm.row
    have g1 := hfm.frz 1
    have g0 := hfm.frz 0
    have g2 := hfm.frz 2
    have g3 := hfm.frz 3
    have g4 := hfm.frz 4
    simp only at c0 c1 c2 c3 c4
    clear hfm
    cases c with
    | zero =>
      have d1 : decide ((j : Int) < n) = false := by simp; omega
      obtain rfl : (⟨-1, free, r, true, 0⟩ : Lk) = y := hres
      have HP : Hid (FM w (wr.setCell ⟨w.heap.size + 1, 3, none⟩ (.bool true)) ⟨-1, free, r, true, 0⟩) := HFM.out.set 3 _ rfl
      obtain ⟨w5, hs5, hr5⟩ := HP.out.put
      have hz : (lkC ⟨-1, free, r, true, 0⟩).size = 5 := rfl
      have hpk : #[.int .i64 (-1), .int .i64 free, .int .i64 (r : Int), .bool true, .int .i64 0] = lkC ⟨-1, free, r, true, 0⟩ := rfl
      generalize hcs : lkC ⟨-1, free, r, true, 0⟩ = cs at *
      have HCS : Hid (lkC ⟨-1, free, r, true, 0⟩ = cs) := hcs
      clear hcs
      clear hi hjc hn hR hrl HP
      go_wp2_with fail
      exact ret_lk rfl rfl hr5.out.1 hz rfl ⟨by rw [HCS.out], hr5.out.2⟩
    | succ c =>
      have d1 : decide ((j : Int) < n) = true := by simp; omega
      have d2 : decide (0 < n) = true := by simp; omega
      have hi' : (f + (j : Int)).tmod n = i := hi (by omega)
      have hfi := HFI.out (by omega)
      have hw : wrap64 (f + (j : Int)) = f + (j : Int) := by have := HN.out; unfold wrap64; omega
      have HIB : Hid (0 ≤ i ∧ i < n) := by
        rw [Int.tmod_eq_emod_of_nonneg (by omega)] at hi'
        have h1 := Int.emod_nonneg (f + (j : Int)) (show n ≠ 0 by omega)
        have h2 := Int.emod_lt_of_pos (f + (j : Int)) (show 0 < n by omega)
        rw [hi'] at h1 h2
        exact ⟨h1, h2⟩
      have h31 : wrap64 (3 * i) = 3 * i := by have := HIB.out; have := HN.out; unfold wrap64; omega
      have h32 : wrap64 (1 + 3 * i) = 1 + 3 * i := by have := HIB.out; have := HN.out; unfold wrap64; omega
      have h33 : wrap64 (2 + 3 * i) = 2 + 3 * i := by have := HIB.out; have := HN.out; unfold wrap64; omega
      have HNX : Hid (0 < n → (f + ((j + 1 : Nat) : Int)).tmod n = nxtV n i) := fun h => by have := way_next (f := f) (j := (j : Int)) (n := n) h hfi.1 (by omega); rw [← hi', ← this]; rfl
      have HJC : Hid (((j + 1 : Nat) : Int) + (c : Int) = n) := by have : ((j + 1 : Nat) : Int) + (c : Int) = n := (by omega); exact this
      have HJW : Hid (wrap64 ((j : Int) + 1) = ((j + 1 : Nat) : Int)) := by have : wrap64 ((j : Int) + 1) = ((j + 1 : Nat) : Int) := (by have := HN.out; unfold wrap64; omega); exact this
      have hn0 : ¬ n = 0 := by omega
      have hn1 : (n == 0) = false := by simpa using hn0
      clear hi hfi hjc hn
      by_cases hrR : r = R.length
      · have hre : (⟨-1, free, r, false, 1 + 3 * i⟩ : Lk) = y := by rw [← hres, fg_end hrR]
        subst hre
        have dA : ((r : Int) == (R.length : Int)) = true := by simp [hrR]
        clear hrR hres h33 HNX HJC HJW HIB hR hrl
        have HP : Hid (FM w (wr.setCell ⟨w.heap.size + 1, 4, none⟩ (.int .i64 (1 + 3 * i))) ⟨-1, free, r, false, 1 + 3 * i⟩) := HFM.out.set 4 _ rfl
        obtain ⟨w5, hs5, hr5⟩ := HP.out.put
        have hz : (lkC ⟨-1, free, r, false, 1 + 3 * i⟩).size = 5 := rfl
        have hpk : #[.int .i64 (-1), .int .i64 free, .int .i64 (r : Int), .bool false, .int .i64 (1 + 3 * i)] = lkC ⟨-1, free, r, false, 1 + 3 * i⟩ := rfl
        generalize hcs : lkC ⟨-1, free, r, false, 1 + 3 * i⟩ = cs at *
        have HCS : Hid (lkC ⟨-1, free, r, false, 1 + 3 * i⟩ = cs) := hcs
        clear hcs
        clear HP
        go_wp2_with fail
        refine (HF.out _).mono ?_
        rintro e wa ⟨rfl, hwa⟩
        obtain rfl : wr = wa := hwa.symm
        clear hwa
        go_wp2_with fail
        exact ret_lk rfl rfl hr5.out.1 hz rfl ⟨by rw [HCS.out], hr5.out.2⟩
      · have hlt : r < R.length := lt_of_ne_le hrl hrR
        have dA : ((r : Int) == (R.length : Int)) = false := eq_no0 hrR
        obtain ⟨x, rfl, hxb, hxc⟩ := HCL.out r hlt
        have x1 : wr.cell? (x.add r) = some (.int .i64 (nth R r)) := cell_later HFM.out.bel (by rw [add_block]; exact hxb) hxc
        have hbx : (x.add r).block ≠ w.heap.size + 1 := ne_blk hxb (add_block _ _)
        have hr1 : wrap64 ((r : Int) + 1) = (r : Int) + 1 := wr_1 hlt hR
        by_cases s1 : nth R r = 1
        · rw [s1] at x1
          by_cases hrE : r + 1 = R.length
          · have hre : (⟨-1, free, r + 1, false, 2 + 3 * i⟩ : Lk) = y := by rw [← hres, fg_key hlt s1 hrE]
            subst hre
            have dB : ((r : Int) + 1 == (R.length : Int)) = true := eq_yes hrE
            clear hrE hres HNX HJC HJW HIB hR hrl s1 hrR h32 hxb hxc HCL
            have HP : Hid (FM w ((wr.setCell ⟨w.heap.size + 1, 2, none⟩ (.int .i64 ((r : Int) + 1))).setCell ⟨w.heap.size + 1, 4, none⟩ (.int .i64 (2 + 3 * i))) ⟨-1, free, r + 1, false, 2 + 3 * i⟩) := (HFM.out.set 2 _ (x' := ⟨-1, free, r + 1, false, 0⟩) rfl).set 4 _ rfl
            obtain ⟨w5, hs5, hr5⟩ := HP.out.put
            have hz : (lkC ⟨-1, free, r + 1, false, 2 + 3 * i⟩).size = 5 := rfl
            have hpk : #[.int .i64 (-1), .int .i64 free, .int .i64 ((r : Int) + 1), .bool false, .int .i64 (2 + 3 * i)] = lkC ⟨-1, free, r + 1, false, 2 + 3 * i⟩ := rfl
            generalize hcs : lkC ⟨-1, free, r + 1, false, 2 + 3 * i⟩ = cs at *
            have HCS : Hid (lkC ⟨-1, free, r + 1, false, 2 + 3 * i⟩ = cs) := hcs
            clear hcs HP 
            go_wp2_with fail
            refine (HF.out _).mono ?_
            rintro e wa ⟨rfl, hwa⟩
            obtain rfl : wr = wa := hwa.symm
            clear hwa
            go_upto_if 30 with fail
            clear hw hi' d1 d2 hn1 hn0
            go_wp2_with fail
            exact ret_lk rfl rfl hr5.out.1 hz rfl ⟨by rw [HCS.out], hr5.out.2⟩
          · have hlt2 : r + 1 < R.length := lt_of_ne_le hlt hrE
            have dB : ((r : Int) + 1 == (R.length : Int)) = false := eq_no hrE
            have hr2 : wrap64 ((r : Int) + 1 + 1) = (r : Int) + 1 + 1 := wr_2 hlt hR
            have hr3 : wrap64 ((r : Int) + 1 + 1 - 1) = (r : Int) + 1 := wr_3 hlt hR
            obtain ⟨x', hxx, _, hxc2⟩ := HCL.out (r + 1) hlt2
            obtain rfl : x = x' := by injection hxx
            have x2 : wr.cell? ⟨x.block, x.off + (r + 1), none⟩ = some (.int .i64 (nth R (r + 1))) := by rw [← add_pos' _ _ (Nat.succ_pos r)]; exact cell_later HFM.out.bel (by rw [add_block]; exact hxb) hxc2
            have hbx4 : x.block ≠ w.heap.size + 1 := ne_blk hxb rfl
            have hbx5 : w.heap.size + 1 ≠ x.block := Ne.symm hbx4
            have hp1 : Hid ((r : Int) + 1 = ((r + 1 : Nat) : Int)) := cast_1 r
            by_cases hk : nth R (r + 1) = key
            · have hre : (⟨i, free, r + 2, true, 0⟩ : Lk) = y := by rw [← hres, fg_found hlt2 s1 hk]
              subst hre
              rw [hk] at x2
              clear hk hrE hres HNX HJC HJW HIB hR hrl s1 hrR h32 h33 hxb hxc HCL hxc2 hxx
              have HP : Hid (FM w ((wr.setCell ⟨w.heap.size + 1, 2, none⟩ (.int .i64 ((r : Int) + 1))).setCell ⟨w.heap.size + 1, 2, none⟩ (.int .i64 ((r : Int) + 1 + 1)) |>.setCell ⟨w.heap.size + 1, 0, none⟩ (.int .i64 i) |>.setCell ⟨w.heap.size + 1, 3, none⟩ (.bool true)) ⟨i, free, r + 2, true, 0⟩) := (((HFM.out.set 2 _ (x' := ⟨-1, free, r + 1, false, 0⟩) rfl).set 2 _ (x' := ⟨-1, free, r + 2, false, 0⟩) rfl).set 0 _ (x' := ⟨i, free, r + 2, false, 0⟩) rfl).set 3 _ rfl
              obtain ⟨w5, hs5, hr5⟩ := HP.out.put
              have hz : (lkC ⟨i, free, r + 2, true, 0⟩).size = 5 := rfl
              have hpk : #[.int .i64 i, .int .i64 free, .int .i64 ((r : Int) + 1 + 1), .bool true, .int .i64 0] = lkC ⟨i, free, r + 2, true, 0⟩ := rfl
              generalize hcs : lkC ⟨i, free, r + 2, true, 0⟩ = cs at *
              have HCS : Hid (lkC ⟨i, free, r + 2, true, 0⟩ = cs) := hcs
              clear hcs HP 
              go_wp2_with fail
              refine (HF.out _).mono ?_
              rintro e wa ⟨rfl, hwa⟩
              obtain rfl : wr = wa := hwa.symm
              clear hwa
              go_upto_if 30 with fail
              clear hw hi' d1 d2 hn1 hn0
              go_wp2_with fail
              exact ret_lk rfl rfl hr5.out.1 hz rfl ⟨by rw [HCS.out], hr5.out.2⟩
            · have HQ : Hid (findG key n c (nxtV n i) free (r + 2) (R.drop (r + 2)) = y) := by rw [← hres, fg_other hlt2 s1 hk]; exact rfl
              have dk : (nth R (r + 1) == key) = false := by simpa using hk
              have HR2 : Hid (r + 2 ≤ R.length) := hlt2
              generalize nth R (r + 1) = k2 at *
              have HP : Hid (FM w ((wr.setCell ⟨w.heap.size + 1, 2, none⟩ (.int .i64 ((r : Int) + 1))).setCell ⟨w.heap.size + 1, 2, none⟩ (.int .i64 ((r : Int) + 1 + 1))) ⟨-1, free, r + 2, false, 0⟩) := (HFM.out.set 2 _ (x' := ⟨-1, free, r + 1, false, 0⟩) rfl).set 2 _ (x' := ⟨-1, free, r + 2, false, 0⟩) rfl
              clear hk hrE hres HIB hR hrl s1 hrR h32 h33 hxb hxc HCL hxc2 hxx
              go_wp2_with fail
              refine (HF.out _).mono ?_
              rintro e wa ⟨rfl, hwa⟩
              obtain rfl : wr = wa := hwa.symm
              clear hwa
              go_upto_if 30 with fail
              clear hw hi' d1 d2 hn1 hn0
              go_wp2_with fail
              go_roundg c
              case rel => exact ⟨j + 1, c, r + 2, nxtV n i, free, rfl, HJC.out, by first | rw [HJW.out] | go_num, HNX.out, HR2.out, HP.out, HQ.out⟩
              case measure => exact Nat.lt_succ_self c
        · have b1 : (nth R r == 1) = false := by simpa using s1
          by_cases s0 : nth R r = 0
          · have hre : (⟨-1, if free < 0 then i else free, r + 1, true, 0⟩ : Lk) = y := by rw [← hres, fg_zero hlt s0]
            rw [s0] at x1
            by_cases hf : free < 0
            · rw [if_pos hf] at hre
              have df : decide (free < 0) = true := by simpa using hf
              subst hre
              clear hres HNX HJC HJW HIB hR hrl s1 hrR h31 h32 h33 hxb hxc HCL b1 s0 hf
              have HP : Hid (FM w ((wr.setCell ⟨w.heap.size + 1, 2, none⟩ (.int .i64 ((r : Int) + 1))).setCell ⟨w.heap.size + 1, 1, none⟩ (.int .i64 i) |>.setCell ⟨w.heap.size + 1, 3, none⟩ (.bool true)) ⟨-1, i, r + 1, true, 0⟩) := ((HFM.out.set 2 _ (x' := ⟨-1, free, r + 1, false, 0⟩) rfl).set 1 _ (x' := ⟨-1, i, r + 1, false, 0⟩) rfl).set 3 _ rfl
              obtain ⟨w5, hs5, hr5⟩ := HP.out.put
              have hz : (lkC ⟨-1, i, r + 1, true, 0⟩).size = 5 := rfl
              have hpk : #[.int .i64 (-1), .int .i64 i, .int .i64 ((r : Int) + 1), .bool true, .int .i64 0] = lkC ⟨-1, i, r + 1, true, 0⟩ := rfl
              generalize hcs : lkC ⟨-1, i, r + 1, true, 0⟩ = cs at *
              have HCS : Hid (lkC ⟨-1, i, r + 1, true, 0⟩ = cs) := hcs
              clear hcs HP 
              go_wp2_with fail
              refine (HF.out _).mono ?_
              rintro e wa ⟨rfl, hwa⟩
              obtain rfl : wr = wa := hwa.symm
              clear hwa
              go_upto_if 30 with fail
              clear hw hi' d1 d2 hn1 hn0
              go_wp2_with fail
              exact ret_lk rfl rfl hr5.out.1 hz rfl ⟨by rw [HCS.out], hr5.out.2⟩
            · rw [if_neg hf] at hre
              have df : decide (free < 0) = false := by simpa using hf
              subst hre
              clear hres HNX HJC HJW HIB hR hrl s1 hrR h31 h32 h33 hxb hxc HCL b1 s0 hf
              have HP : Hid (FM w ((wr.setCell ⟨w.heap.size + 1, 2, none⟩ (.int .i64 ((r : Int) + 1))).setCell ⟨w.heap.size + 1, 3, none⟩ (.bool true)) ⟨-1, free, r + 1, true, 0⟩) := (HFM.out.set 2 _ (x' := ⟨-1, free, r + 1, false, 0⟩) rfl).set 3 _ rfl
              obtain ⟨w5, hs5, hr5⟩ := HP.out.put
              have hz : (lkC ⟨-1, free, r + 1, true, 0⟩).size = 5 := rfl
              have hpk : #[.int .i64 (-1), .int .i64 free, .int .i64 ((r : Int) + 1), .bool true, .int .i64 0] = lkC ⟨-1, free, r + 1, true, 0⟩ := rfl
              generalize hcs : lkC ⟨-1, free, r + 1, true, 0⟩ = cs at *
              have HCS : Hid (lkC ⟨-1, free, r + 1, true, 0⟩ = cs) := hcs
              clear hcs HP 
              go_wp2_with fail
              refine (HF.out _).mono ?_
              rintro e wa ⟨rfl, hwa⟩
              obtain rfl : wr = wa := hwa.symm
              clear hwa
              go_upto_if 30 with fail
              clear hw hi' d1 d2 hn1 hn0
              go_wp2_with fail
              exact ret_lk rfl rfl hr5.out.1 hz rfl ⟨by rw [HCS.out], hr5.out.2⟩
          · have b0 : (nth R r == 0) = false := by simpa using s0
            have HQ0 : Hid (findG key n c (nxtV n i) (if free < 0 then i else free) (r + 1) (R.drop (r + 1)) = y) := by rw [← hres, fg_gone hlt s0 s1]; exact rfl
            generalize nth R r = st at *
            have HR2 : Hid (r + 1 ≤ R.length) := hlt
            by_cases hf : free < 0
            · have df : decide (free < 0) = true := by simpa using hf
              have HQ : Hid (findG key n c (nxtV n i) i (r + 1) (R.drop (r + 1)) = y) := by rw [← HQ0.out, if_pos hf]; exact rfl
              have HP : Hid (FM w ((wr.setCell ⟨w.heap.size + 1, 2, none⟩ (.int .i64 ((r : Int) + 1))).setCell ⟨w.heap.size + 1, 1, none⟩ (.int .i64 i)) ⟨-1, i, r + 1, false, 0⟩) := (HFM.out.set 2 _ (x' := ⟨-1, free, r + 1, false, 0⟩) rfl).set 1 _ (x' := ⟨-1, i, r + 1, false, 0⟩) rfl
              clear hres HIB hR hrl s1 hrR h31 h32 h33 hxb hxc HCL s0 hf HQ0
              go_wp2_with fail
              refine (HF.out _).mono ?_
              rintro e wa ⟨rfl, hwa⟩
              obtain rfl : wr = wa := hwa.symm
              clear hwa
              go_upto_if 30 with fail
              clear hw hi' d1 d2 hn1 hn0
              go_wp2_with fail
              go_roundg c
              case rel => exact ⟨j + 1, c, r + 1, nxtV n i, i, rfl, HJC.out, by first | rw [HJW.out] | go_num, HNX.out, HR2.out, HP.out, HQ.out⟩
              case measure => exact Nat.lt_succ_self c
            · have df : decide (free < 0) = false := by simpa using hf
              have HQ : Hid (findG key n c (nxtV n i) free (r + 1) (R.drop (r + 1)) = y) := by rw [← HQ0.out, if_neg hf]; exact rfl
              have HP : Hid (FM w ((wr.setCell ⟨w.heap.size + 1, 2, none⟩ (.int .i64 ((r : Int) + 1)))) ⟨-1, free, r + 1, false, 0⟩) := HFM.out.set 2 _ (x' := ⟨-1, free, r + 1, false, 0⟩) rfl
              clear hres HIB hR hrl s1 hrR h31 h32 h33 hxb hxc HCL s0 hf HQ0
              go_wp2_with fail
              refine (HF.out _).mono ?_
              rintro e wa ⟨rfl, hwa⟩
              obtain rfl : wr = wa := hwa.symm
              clear hwa
              go_upto_if 30 with fail
              clear hw hi' d1 d2 hn1 hn0
              go_wp2_with fail
              go_roundg c
              case rel => exact ⟨j + 1, c, r + 1, nxtV n i, free, rfl, HJC.out, by first | rw [HJW.out] | go_num, HNX.out, HR2.out, HP.out, HQ.out⟩
              case measure => exact Nat.lt_succ_self c
end Go.Proofs.Ytbajgbknjmbimaa.Di
