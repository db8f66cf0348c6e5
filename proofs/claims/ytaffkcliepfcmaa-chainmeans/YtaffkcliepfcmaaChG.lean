/- The document's chain (layer 18): Leads, Key, Link, Go (printed by tools/chg.py). -/
import Derived.Test.YtaffkcliepfcmaaChM
import Derived.Test.YtaffkcliepfcmaaCoR
import Derived.Deep.CutBlock
import Derived.Deep.DeepCutAuto
import Derived.Deep.LoopGhost
namespace Go.Proofs.Ytaffkcliepfcmaa.Ch
open Go.ChangeShapes Go.WideShapes Go.ChangeAt Go.RowKit
attribute [local go_sem ↓] Go.wp_at_zero Go.wp_at_succ

theorem rleads_any (w : World) (p n : Int) : Calls Try.prog 44 #[.int .i64 p, .int .i64 n] w fun e w' => e = .returned (.int .i64 (leadV p n)) ∧ w' = w := by
  by_cases h1 : p < 1
  · have d1 : decide (p < 1) = true := by simpa using h1
    have HV : Hid (leadV p n = 0) := by unfold leadV; rw [if_pos (Or.inl h1)]; exact rfl
    clear h1
    go_enter Try.func44, Try.ntmps44
    go_wp2_with fail
    go_ret
    exact ⟨by rw [HV.out]; rfl, rfl⟩
  · have d1 : decide (p < 1) = false := by simpa using h1
    by_cases h2 : n < p
    · have d2 : decide (n < p) = true := by simpa using h2
      have HV : Hid (leadV p n = 0) := by unfold leadV; rw [if_pos (Or.inr h2)]; exact rfl
      clear h1 h2
      go_enter Try.func44, Try.ntmps44
      go_wp2_with fail
      go_ret
      exact ⟨by rw [HV.out]; rfl, rfl⟩
    · have d2 : decide (n < p) = false := by simpa using h2
      have HV : Hid (leadV p n = p) := by have : leadV p n = p := (by unfold leadV; rw [if_neg (by omega)]); exact this
      clear h1 h2
      go_enter Try.func44, Try.ntmps44
      go_wp2_with fail
      go_ret
      exact ⟨by rw [HV.out]; rfl, rfl⟩
theorem rkey_any (w : World) {i : Int} (hi : 0 ≤ i ∧ i ≤ 100) : Calls Try.prog 30 #[.int .i64 i] w fun e w' => e = .returned (.int .i64 (keyV i)) ∧ w' = w := by
  have HW : Hid (wrap64 (1 + wrap64 (2 * i)) = keyV i) := by have : wrap64 (1 + wrap64 (2 * i)) = keyV i := (by unfold wrap64 keyV; omega); exact this
  clear hi
  go_enter Try.func30, Try.ntmps30
  go_wp2_with fail
  go_ret
  exact ⟨by rw [← HW.out]; rfl, rfl⟩
theorem rlink_any (w : World) {i : Int} (hi : 0 ≤ i ∧ i ≤ 100) : Calls Try.prog 45 #[.int .i64 i] w fun e w' => e = .returned (.int .i64 (nxtV i)) ∧ w' = w := by
  have HW : Hid (wrap64 (2 + wrap64 (2 * i)) = nxtV i) := by have : wrap64 (2 + wrap64 (2 * i)) = nxtV i := (by unfold wrap64 nxtV keyV; omega); exact this
  clear hi
  go_enter Try.func45, Try.ntmps45
  go_wp2_with fail
  go_ret
  exact ⟨by rw [← HW.out]; rfl, rfl⟩
/-- The document's way. -/
structure Wg where
  link : Int
  p : Int
  node : Int
  at_ : Bool
  key : Int
  reads : Nat
  over : Bool
  cell : Int
def wgC (x : Wg) : Array Value := #[.int .i64 x.link, .int .i64 x.p, .int .i64 x.node, .bool x.at_, .int .i64 x.key, .int .i64 (x.reads : Int), .bool x.over, .int .i64 x.cell]
def goW (n k : Int) : Nat → Int → Int → Nat → List Int → Wg
  | 0, lk, p, r, _ => ⟨lk, p, 0, false, 0, r, true, 0⟩
  | _ + 1, lk, p, r, [] => if leadV p n = 0 then ⟨lk, p, 0, false, 0, r, true, 0⟩ else ⟨lk, p, 0, false, 0, r, false, keyV (leadV p n)⟩
  | _ + 1, lk, p, r, [v] => if leadV p n = 0 then ⟨lk, p, 0, false, 0, r, true, 0⟩ else if k ≤ v then ⟨lk, p, leadV p n, v == k, v, r + 1, true, 0⟩ else ⟨nxtV (leadV p n), p, 0, false, 0, r + 1, false, nxtV (leadV p n)⟩
  | f + 1, lk, p, r, v :: q :: l => if leadV p n = 0 then ⟨lk, p, 0, false, 0, r, true, 0⟩ else if k ≤ v then ⟨lk, p, leadV p n, v == k, v, r + 1, true, 0⟩ else goW n k f (nxtV (leadV p n)) q (r + 2) l
def goV (k n : Int) (R : List Int) : Wg := if R.length = 0 then ⟨0, 0, 0, false, 0, 0, false, 0⟩ else goW n k n.toNat 0 (nth R 0) 1 (R.drop 1)
theorem drop_cons {R : List Int} {r : Nat} (h : r < R.length) : R.drop r = nth R r :: R.drop (r + 1) := by
  rw [nth_at h]
  exact List.drop_eq_getElem_cons h
theorem drop_end {R : List Int} {r : Nat} (h : r = R.length) : R.drop r = [] := by
  rw [h]; simp
theorem gw_none {n k lk p : Int} {f r : Nat} {R : List Int} (hl : leadV p n = 0) : goW n k f lk p r R = ⟨lk, p, 0, false, 0, r, true, 0⟩ := by
  cases f with
  | zero => rfl
  | succ f =>
    match R with
    | [] => simp [goW, hl]
    | [v] => simp [goW, hl]
    | v :: q :: l => simp [goW, hl]
theorem gw_end {n k lk p : Int} {f r : Nat} {R : List Int} (hl : leadV p n ≠ 0) (h : r = R.length) : goW n k (f + 1) lk p r (R.drop r) = ⟨lk, p, 0, false, 0, r, false, keyV (leadV p n)⟩ := by
  rw [drop_end h]; simp [goW, hl]
theorem gw_at {n k lk p : Int} {f r : Nat} {R : List Int} (hl : leadV p n ≠ 0) (h : r < R.length) (hk : k ≤ nth R r) : goW n k (f + 1) lk p r (R.drop r) = ⟨lk, p, leadV p n, nth R r == k, nth R r, r + 1, true, 0⟩ := by
  rw [drop_cons h]
  cases R.drop (r + 1) <;> simp [goW, hl, hk]
theorem gw_half {n k lk p : Int} {f r : Nat} {R : List Int} (hl : leadV p n ≠ 0) (h : r < R.length) (hk : ¬ k ≤ nth R r) (he : r + 1 = R.length) : goW n k (f + 1) lk p r (R.drop r) = ⟨nxtV (leadV p n), p, 0, false, 0, r + 1, false, nxtV (leadV p n)⟩ := by
  rw [drop_cons h, drop_end he]; simp [goW, hl, hk]
theorem gw_on {n k lk p : Int} {f r : Nat} {R : List Int} (hl : leadV p n ≠ 0) (h : r + 1 < R.length) (hk : ¬ k ≤ nth R r) : goW n k (f + 1) lk p r (R.drop r) = goW n k f (nxtV (leadV p n)) (nth R (r + 1)) (r + 2) (R.drop (r + 2)) := by
  rw [drop_cons (show r < R.length by omega), drop_cons h]; simp [goW, hl, hk]
/-- A way that a function hands back, out of its variable. -/
theorem ret_wg {fn : Func} {p : Tmp} {R : Ending → World → Prop} {a : Act} {w : World} {g : Nat} {cs : Array Value} (h : fn.results = #[.cell p 90]) (hp : a.tmps.getD p undef = .pointer (some ⟨g, 0, none⟩))
    (hg : w.heap[g]? = some (.cells cs 90 (0, 0))) (hz : cs.size = 8) (hd : a.defers = []) (hR : R (.returned (.agg cs)) w) : bodyPost Try.prog fn R .ret a w := by
  refine bodyPost_ret (v := .agg cs) ?_ hd hR
  have hp' : a.tmps[p]?.getD undef = .pointer (some ⟨g, 0, none⟩) := by simpa using hp
  have hl := run_loadVar_row (P := Try.prog) w g 90 90 cs (0, 0) _ hg Try.underlying90 rfl (by rw [hz]; kernel_rfl)
  simp [results, h, hp', asAddr, hl]
abbrev z8 : Array Value := #[.int .i64 0, .int .i64 0, .int .i64 0, .bool false, .int .i64 0, .int .i64 0, .bool false, .int .i64 0]
/-- The way, and the answer's variable, as they lie. -/
structure FM (w wr : World) (x : Wg) : Prop where
  bel : Below w.heap.size w wr
  res : wr.heap[w.heap.size]? = some (.cells z8 90 (0, 0))
  row : wr.heap[w.heap.size + 1]? = some (.cells (wgC x) 90 (0, 0))
theorem FM.set {w wr : World} {x x' : Wg} (h : FM w wr x) (j : Nat) (v : Value) (hc : (wgC x).setIfInBounds j v = wgC x') : FM w (wr.setCell ⟨w.heap.size + 1, j, none⟩ v) x' :=
  ⟨h.bel.setCell (Nat.le_succ _) _, by rw [heap_set_other _ _ (by simp)]; exact h.res, by rw [heap_set h.row, hc]⟩
structure FC (w wr : World) (x : Wg) : Prop where
  c0 : wr.cell? ⟨w.heap.size + 1, 0, none⟩ = some (.int .i64 x.link)
  c1 : wr.cell? ⟨w.heap.size + 1, 1, none⟩ = some (.int .i64 x.p)
  c2 : wr.cell? ⟨w.heap.size + 1, 2, none⟩ = some (.int .i64 x.node)
  c3 : wr.cell? ⟨w.heap.size + 1, 3, none⟩ = some (.bool x.at_)
  c4 : wr.cell? ⟨w.heap.size + 1, 4, none⟩ = some (.int .i64 x.key)
  c5 : wr.cell? ⟨w.heap.size + 1, 5, none⟩ = some (.int .i64 (x.reads : Int))
  c6 : wr.cell? ⟨w.heap.size + 1, 6, none⟩ = some (.bool x.over)
  c7 : wr.cell? ⟨w.heap.size + 1, 7, none⟩ = some (.int .i64 x.cell)
theorem FM.cells {w wr : World} {x : Wg} (h : FM w wr x) : FC w wr x := ⟨by rw [cell_at h.row]; rfl, by rw [cell_at h.row]; rfl, by rw [cell_at h.row]; rfl, by rw [cell_at h.row]; rfl, by rw [cell_at h.row]; rfl, by rw [cell_at h.row]; rfl, by rw [cell_at h.row]; rfl, by rw [cell_at h.row]; rfl⟩
theorem FM.frz {w wr : World} {x : Wg} (h : FM w wr x) (j : Nat) : wr.frozen? ⟨w.heap.size + 1, j, none⟩ = false := frozen_at h.row j
theorem wgC_one (x : Wg) : (wgC x).all (·.oneCell') = true := by simp [wgC, Value.oneCell']
/-- It is handed back. -/
theorem FM.put {w wr : World} {x : Wg} (h : FM w wr x) : ∃ w5, (storeCells ⟨w.heap.size, 0, none⟩ (wgC x).toList 0).run Try.prog wr = .ok () w5 ∧ Hid (w5.heap[w.heap.size]? = some (.cells (wgC x) 90 (0, 0)) ∧ Below w.heap.size w w5) := by
  have := run_storeCells_from (P := Try.prog) w.heap.size 90 (wgC x).toList 0 z8 wr h.res (by simp [wgC]) (fun v hv => (Array.all_eq_true_iff_forall_mem.1 (wgC_one x)) v (by simpa using hv))
  exact ⟨wr.setRow w.heap.size (wgC x), by simpa using this, setRow_heap _ _ _ _ _ _ h.res, below_row h.bel _ (Nat.le_refl _) _⟩
theorem eq_yes {r n : Nat} (h : r + 1 = n) : ((r : Int) + 1 == (n : Int)) = true := by
  simp
  omega
theorem eq_no {r n : Nat} (h : r + 1 ≠ n) : ((r : Int) + 1 == (n : Int)) = false := by
  simp
  omega
theorem eq_no0 {r n : Nat} (h : r ≠ n) : ((r : Int) == (n : Int)) = false := by
  simp
  omega
theorem wr_1 {r n : Nat} (h : r < n) (hn : n ≤ 17592186044416) : wrap64 ((r : Int) + 1) = (r : Int) + 1 := by unfold wrap64; omega
theorem wr_2 {r n : Nat} (h : r < n) (hn : n ≤ 17592186044416) : wrap64 ((r : Int) + 1 + 1) = (r : Int) + 1 + 1 := by unfold wrap64; omega
theorem ne_blk {a b c : Nat} (h : a < b) (e : c = a) : c ≠ b + 1 := by omega
theorem lt_of_ne_le {a b : Nat} (h : a ≤ b) (e : ¬ a = b) : a < b := by omega
theorem alloc2_at (w : World) (a b : Obj) : ((w.alloc a).alloc b).heap[w.heap.size + 1]? = some b := by
  have := heap_alloc_new (w.alloc a) b
  simpa using this
set_option maxRecDepth 10000 in
set_option maxHeartbeats 4000000 in
theorem rgo_any (w : World) (key n : Int) (vr : Value) (R : List Int) (hr : Nl w vr R) (hn : 0 ≤ n ∧ n ≤ 16) : Calls Try.prog 66 #[.int .i64 key, .int .i64 n, vr] w fun e w' => e = .returned (.agg (wgC (goV key n R))) ∧ Below w.heap.size w w' := by
  have HLA : Hid (∀ (w : World) (p : Int), Calls Try.prog 44 #[.int .i64 p, .int .i64 n] w fun e w' => e = .returned (.int .i64 (leadV p n)) ∧ w' = w) := fun w p => rleads_any w p n
  have HKA : Hid (∀ (w : World) (i : Int), 0 ≤ i ∧ i ≤ 100 → Calls Try.prog 30 #[.int .i64 i] w fun e w' => e = .returned (.int .i64 (keyV i)) ∧ w' = w) := fun w i h => rkey_any w h
  have HNA : Hid (∀ (w : World) (i : Int), 0 ≤ i ∧ i ≤ 100 → Calls Try.prog 45 #[.int .i64 i] w fun e w' => e = .returned (.int .i64 (nxtV i)) ∧ w' = w) := fun w i h => rlink_any w h
  obtain ⟨ra, rcap, rfl⟩ := nl_slice hr
  obtain ⟨_, hR, hcell⟩ := nl_cells hr
  have HCL : Hid (∀ i, i < R.length → ∃ x, ra = some x ∧ x.block < w.heap.size ∧ w.cell? (x.add i) = some (.int .i64 (nth R i))) := hcell
  by_cases hR0 : R.length = 0
  · have HY : Hid (goV key n R = ⟨0, 0, 0, false, 0, 0, false, 0⟩) := by have : goV key n R = ⟨0, 0, 0, false, 0, 0, false, 0⟩ := (by unfold goV; rw [if_pos hR0]); exact this
    rw [HY.out, hR0]
    clear hcell hr hR hR0 HLA HKA HNA HCL HY hn
    go_enter Try.func66, Try.ntmps66
    go_wp2_with fail
    exact ret_wg rfl rfl (heap_alloc2_old _ _ _) rfl rfl ⟨rfl, below_then (below_a1 _ _) (below_a1 _ _)⟩
  · obtain ⟨y, hy⟩ : ∃ y, goV key n R = y := ⟨_, rfl⟩
    rw [hy]
    have HY : Hid (goW n key n.toNat 0 (nth R 0) 1 (R.drop 1) = y) := by have : goW n key n.toNat 0 (nth R 0) 1 (R.drop 1) = y := (by rw [← hy]; unfold goV; rw [if_neg hR0]); exact this
    have HN : Hid (0 ≤ n ∧ n ≤ 16) := hn
    have HR1 : Hid (1 ≤ R.length) := by have : 1 ≤ R.length := (by omega); exact this
    have dR : ((R.length : Int) == 0) = false := by simpa using hR0
    obtain ⟨x0, hx0, hxb0, hxc0⟩ := hcell 0 (by omega)
    subst hx0
    rw [add_zero'] at hxc0
    have hl0 : 0 < R.length := by omega
    generalize nth R 0 = p0 at *
    clear hr hcell hy hR0
    go_enter Try.func66, Try.ntmps66
    go_wp2_with fail
    go_loopg [8] n.toNat (fun gh jv wr => ∃ (j c r : Nat) (lk p : Int), c = gh ∧ (j : Int) + c = n ∧ jv = .int .i64 (j : Int) ∧ r ≤ R.length ∧ FM w wr ⟨lk, p, 0, false, 0, r, false, 0⟩ ∧ goW n key c lk p r (R.drop r) = y)
    case atStart => exact ⟨0, n.toNat, 1, 0, p0, rfl, by have := HN.out; omega, rfl, HR1.out, ⟨below_then (below_a1 _ _) (below_a1 _ _), heap_alloc2_old _ _ _, alloc2_at _ _ _⟩, HY.out⟩
    case round =>
      obtain ⟨j, c, r, lk, p, rfl, hjc, rfl, hrl, hfm, hres⟩ := hrel
      have HFM : Hid (FM w wr ⟨lk, p, 0, false, 0, r, false, 0⟩) := hfm
      obtain ⟨c0, c1, c2, c3, c4, c5, c6, c7⟩ := hfm.cells
      have hx : w.heap.size + 1 < wr.heap.size := heap_lt hfm.row
      have g0 := hfm.frz 0
      have g1 := hfm.frz 1
      have g2 := hfm.frz 2
      have g3 := hfm.frz 3
      have g4 := hfm.frz 4
      have g5 := hfm.frz 5
      have g6 := hfm.frz 6
      have g7 := hfm.frz 7
      simp only at c0 c1 c2 c3 c4 c5 c6 c7
      clear hfm HY HR1 hxc0 dR hl0
      have HL : Hid (∀ w : World, Calls Try.prog 44 #[.int .i64 p, .int .i64 n] w fun e w' => e = .returned (.int .i64 (leadV p n)) ∧ w' = w) := fun w => HLA.out w p
      cases c with
      | zero =>
        have d1 : decide ((j : Int) < n) = false := by simp; omega
        obtain rfl : (⟨lk, p, 0, false, 0, r, true, 0⟩ : Wg) = y := hres
        have HP : Hid (FM w (wr.setCell ⟨w.heap.size + 1, 6, none⟩ (.bool true)) ⟨lk, p, 0, false, 0, r, true, 0⟩) := (HFM.out.set 6 _ (x' := ⟨lk, p, 0, false, 0, r, true, 0⟩) rfl)
        obtain ⟨w5, hs5, hr5⟩ := HP.out.put
        have hz : (wgC ⟨lk, p, 0, false, 0, r, true, 0⟩).size = 8 := rfl
        have hpk : #[.int .i64 lk, .int .i64 p, .int .i64 0, .bool false, .int .i64 0, .int .i64 (r : Int), .bool true, .int .i64 0] = wgC ⟨lk, p, 0, false, 0, r, true, 0⟩ := rfl
        generalize hcs : wgC ⟨lk, p, 0, false, 0, r, true, 0⟩ = cs at *
        have HCS : Hid (wgC ⟨lk, p, 0, false, 0, r, true, 0⟩ = cs) := hcs
        clear hcs HP hjc hn hR hrl HL HLA HKA HNA HCL
        go_wp2_with fail
        exact ret_wg rfl rfl hr5.out.1 hz rfl ⟨by rw [HCS.out], hr5.out.2⟩
      | succ c =>
        have d1 : decide ((j : Int) < n) = true := by simp; omega
        have HJC : Hid (((j + 1 : Nat) : Int) + (c : Int) = n) := by have : ((j + 1 : Nat) : Int) + (c : Int) = n := (by omega); exact this
        have HJW : Hid (wrap64 ((j : Int) + 1) = ((j + 1 : Nat) : Int)) := by have : wrap64 ((j : Int) + 1) = ((j + 1 : Nat) : Int) := (by have := HN.out; unfold wrap64; omega); exact this
        clear hjc hn
        by_cases hl : leadV p n = 0
        · have hre : (⟨lk, p, 0, false, 0, r, true, 0⟩ : Wg) = y := by rw [← hres, gw_none hl]
          subst hre
          rw [hl] at HL
          have HP : Hid (FM w (wr.setCell ⟨w.heap.size + 1, 6, none⟩ (.bool true)) ⟨lk, p, 0, false, 0, r, true, 0⟩) := (HFM.out.set 6 _ (x' := ⟨lk, p, 0, false, 0, r, true, 0⟩) rfl)
          obtain ⟨w5, hs5, hr5⟩ := HP.out.put
          have hz : (wgC ⟨lk, p, 0, false, 0, r, true, 0⟩).size = 8 := rfl
          have hpk : #[.int .i64 lk, .int .i64 p, .int .i64 0, .bool false, .int .i64 0, .int .i64 (r : Int), .bool true, .int .i64 0] = wgC ⟨lk, p, 0, false, 0, r, true, 0⟩ := rfl
          generalize hcs : wgC ⟨lk, p, 0, false, 0, r, true, 0⟩ = cs at *
          have HCS : Hid (wgC ⟨lk, p, 0, false, 0, r, true, 0⟩ = cs) := hcs
          clear hcs HP hres hl hR hrl HLA HKA HNA HCL HJC HJW
          go_wp2_with fail
          refine (HL.out _).mono ?_
          rintro e wa ⟨rfl, hwa⟩
          obtain rfl : wr = wa := hwa.symm
          clear hwa
          go_wp2_with fail
          exact ret_wg rfl rfl hr5.out.1 hz rfl ⟨by rw [HCS.out], hr5.out.2⟩
        · have HD : Hid (0 ≤ leadV p n ∧ leadV p n ≤ 100) := by have : 0 ≤ leadV p n ∧ leadV p n ≤ 100 := (by obtain ⟨e1, e2⟩ := lead_of hl; have := HN.out; omega); exact this
          have hd0 : decide (0 < leadV p n) = true := by obtain ⟨e1, e2⟩ := lead_of hl; simp; omega
          have HK : Hid (∀ w : World, Calls Try.prog 30 #[.int .i64 (leadV p n)] w fun e w' => e = .returned (.int .i64 (keyV (leadV p n))) ∧ w' = w) := fun w => HKA.out w _ HD.out
          have HN1 : Hid (∀ w : World, Calls Try.prog 45 #[.int .i64 (leadV p n)] w fun e w' => e = .returned (.int .i64 (nxtV (leadV p n))) ∧ w' = w) := fun w => HNA.out w _ HD.out
          clear HLA HKA HNA
          by_cases hrR : r = R.length
          · have hre : (⟨lk, p, 0, false, 0, r, false, keyV (leadV p n)⟩ : Wg) = y := by rw [← hres, gw_end hl hrR]
            have HRE : Hid _ := hre
            clear hre
            have dA : ((r : Int) == (R.length : Int)) = true := by simp [hrR]
            generalize leadV p n = d at *
            generalize keyV d = kd at *
            have HP : Hid (FM w (wr.setCell ⟨w.heap.size + 1, 7, none⟩ (.int .i64 kd)) ⟨lk, p, 0, false, 0, r, false, kd⟩) := (HFM.out.set 7 _ (x' := ⟨lk, p, 0, false, 0, r, false, kd⟩) rfl)
            obtain ⟨w5, hs5, hr5⟩ := HP.out.put
            have hz : (wgC ⟨lk, p, 0, false, 0, r, false, kd⟩).size = 8 := rfl
            have hpk : #[.int .i64 lk, .int .i64 p, .int .i64 0, .bool false, .int .i64 0, .int .i64 (r : Int), .bool false, .int .i64 kd] = wgC ⟨lk, p, 0, false, 0, r, false, kd⟩ := rfl
            generalize hcs : wgC ⟨lk, p, 0, false, 0, r, false, kd⟩ = cs at *
            have HCS : Hid (wgC ⟨lk, p, 0, false, 0, r, false, kd⟩ = cs) := hcs
            clear hcs HP hres hl hrR hR hrl HCL HJC HJW HN1 HD
            go_wp2_with fail
            refine (HL.out _).mono ?_
            rintro e wa ⟨rfl, hwa⟩
            obtain rfl : wr = wa := hwa.symm
            clear hwa
            go_wp2_with fail
            refine (HL.out _).mono ?_
            rintro e wa ⟨rfl, hwa⟩
            obtain rfl : wr = wa := hwa.symm
            clear hwa
            go_wp2_with fail
            refine (HK.out _).mono ?_
            rintro e wa ⟨rfl, hwa⟩
            obtain rfl : wr = wa := hwa.symm
            clear hwa
            go_wp2_with fail
            exact ret_wg rfl rfl hr5.out.1 hz rfl ⟨by rw [← HRE.out, HCS.out], hr5.out.2⟩
          · have hlt : r < R.length := lt_of_ne_le hrl hrR
            have dA : ((r : Int) == (R.length : Int)) = false := eq_no0 hrR
            obtain ⟨x, hxx0, hxb, hxc⟩ := HCL.out r hlt
            have hxx1 : x0 = x := by injection hxx0
            subst hxx1
            have x1 : wr.cell? (x0.add r) = some (.int .i64 (nth R r)) := cell_later HFM.out.bel (by rw [add_block]; exact hxb) hxc
            have hbx : (x0.add r).block ≠ w.heap.size + 1 := ne_blk hxb (add_block _ _)
            have hr1 : wrap64 ((r : Int) + 1) = (r : Int) + 1 := wr_1 hlt hR
            by_cases hk : key ≤ nth R r
            · have hre : (⟨lk, p, leadV p n, nth R r == key, nth R r, r + 1, true, 0⟩ : Wg) = y := by rw [← hres, gw_at hl hlt hk]
              have HRE : Hid _ := hre
              clear hre
              have dK : decide (key ≤ nth R r) = true := by simpa using hk
              generalize nth R r = v at *
              generalize leadV p n = d at *
              generalize hvk : (v == key) = bk at *
              have HP : Hid (FM w (((((wr.setCell ⟨w.heap.size + 1, 5, none⟩ (.int .i64 ((r : Int) + 1))).setCell ⟨w.heap.size + 1, 2, none⟩ (.int .i64 d)).setCell ⟨w.heap.size + 1, 3, none⟩ (.bool bk)).setCell ⟨w.heap.size + 1, 4, none⟩ (.int .i64 v)).setCell ⟨w.heap.size + 1, 6, none⟩ (.bool true)) ⟨lk, p, d, bk, v, r + 1, true, 0⟩) := (((((HFM.out.set 5 _ (x' := ⟨lk, p, 0, false, 0, r + 1, false, 0⟩) rfl).set 2 _ (x' := ⟨lk, p, d, false, 0, r + 1, false, 0⟩) rfl).set 3 _ (x' := ⟨lk, p, d, bk, 0, r + 1, false, 0⟩) rfl).set 4 _ (x' := ⟨lk, p, d, bk, v, r + 1, false, 0⟩) rfl).set 6 _ (x' := ⟨lk, p, d, bk, v, r + 1, true, 0⟩) rfl)
              obtain ⟨w5, hs5, hr5⟩ := HP.out.put
              have hz : (wgC ⟨lk, p, d, bk, v, r + 1, true, 0⟩).size = 8 := rfl
              have hpk : #[.int .i64 lk, .int .i64 p, .int .i64 d, .bool bk, .int .i64 v, .int .i64 ((r : Int) + 1), .bool true, .int .i64 0] = wgC ⟨lk, p, d, bk, v, r + 1, true, 0⟩ := rfl
              generalize hcs : wgC ⟨lk, p, d, bk, v, r + 1, true, 0⟩ = cs at *
              have HCS : Hid (wgC ⟨lk, p, d, bk, v, r + 1, true, 0⟩ = cs) := hcs
              clear hcs HP hres hl hrR hR hrl HCL HJC HJW HN1 HK HD hk hxx0 hxc hxb hxb0
              go_wp2_with fail
              refine (HL.out _).mono ?_
              rintro e wa ⟨rfl, hwa⟩
              obtain rfl : wr = wa := hwa.symm
              clear hwa
              go_wp2_with fail
              refine (HL.out _).mono ?_
              rintro e wa ⟨rfl, hwa⟩
              obtain rfl : wr = wa := hwa.symm
              clear hwa
              go_wp2_with fail
              exact ret_wg rfl rfl hr5.out.1 hz rfl ⟨by rw [← HRE.out, HCS.out], hr5.out.2⟩
            · have dK : decide (key ≤ nth R r) = false := by simpa using hk
              by_cases hrE : r + 1 = R.length
              · have hre : (⟨nxtV (leadV p n), p, 0, false, 0, r + 1, false, nxtV (leadV p n)⟩ : Wg) = y := by rw [← hres, gw_half hl hlt hk hrE]
                have HRE : Hid _ := hre
                clear hre
                have dB : ((r : Int) + 1 == (R.length : Int)) = true := eq_yes hrE
                generalize nth R r = v at *
                generalize leadV p n = d at *
                generalize nxtV d = nd at *
                have HP : Hid (FM w (((wr.setCell ⟨w.heap.size + 1, 5, none⟩ (.int .i64 ((r : Int) + 1))).setCell ⟨w.heap.size + 1, 0, none⟩ (.int .i64 nd)).setCell ⟨w.heap.size + 1, 7, none⟩ (.int .i64 nd)) ⟨nd, p, 0, false, 0, r + 1, false, nd⟩) := (((HFM.out.set 5 _ (x' := ⟨lk, p, 0, false, 0, r + 1, false, 0⟩) rfl).set 0 _ (x' := ⟨nd, p, 0, false, 0, r + 1, false, 0⟩) rfl).set 7 _ (x' := ⟨nd, p, 0, false, 0, r + 1, false, nd⟩) rfl)
                obtain ⟨w5, hs5, hr5⟩ := HP.out.put
                have hz : (wgC ⟨nd, p, 0, false, 0, r + 1, false, nd⟩).size = 8 := rfl
                have hpk : #[.int .i64 nd, .int .i64 p, .int .i64 0, .bool false, .int .i64 0, .int .i64 ((r : Int) + 1), .bool false, .int .i64 nd] = wgC ⟨nd, p, 0, false, 0, r + 1, false, nd⟩ := rfl
                generalize hcs : wgC ⟨nd, p, 0, false, 0, r + 1, false, nd⟩ = cs at *
                have HCS : Hid (wgC ⟨nd, p, 0, false, 0, r + 1, false, nd⟩ = cs) := hcs
                clear hcs HP hres hl hrR hR hrl HCL HJC HJW HK HD hk hrE hxx0 hxc hxb hxb0
                go_wp2_with fail
                refine (HL.out _).mono ?_
                rintro e wa ⟨rfl, hwa⟩
                obtain rfl : wr = wa := hwa.symm
                clear hwa
                go_wp2_with fail
                refine (HL.out _).mono ?_
                rintro e wa ⟨rfl, hwa⟩
                obtain rfl : wr = wa := hwa.symm
                clear hwa
                go_wp2_with fail
                refine (HN1.out _).mono ?_
                rintro e wb ⟨rfl, hwb⟩
                obtain rfl := hwb.symm
                clear hwb
                go_wp2_with fail
                exact ret_wg rfl rfl hr5.out.1 hz rfl ⟨by rw [← HRE.out, HCS.out], hr5.out.2⟩
              · have hlt2 : r + 1 < R.length := lt_of_ne_le hlt hrE
                have dB : ((r : Int) + 1 == (R.length : Int)) = false := eq_no hrE
                have hr2 : wrap64 ((r : Int) + 1 + 1) = (r : Int) + 1 + 1 := wr_2 hlt hR
                obtain ⟨x', hxx, _, hxc2⟩ := HCL.out (r + 1) hlt2
                have hxx2 : x0 = x' := by injection hxx
                subst hxx2
                have x2 : wr.cell? ⟨x0.block, x0.off + (r + 1), none⟩ = some (.int .i64 (nth R (r + 1))) := by rw [← add_pos' _ _ (Nat.succ_pos r)]; exact cell_later HFM.out.bel (by rw [add_block]; exact hxb) hxc2
                have hbx4 : x0.block ≠ w.heap.size + 1 := ne_blk hxb rfl
                have hbx5 : w.heap.size + 1 ≠ x0.block := Ne.symm hbx4
                have HQ : Hid (goW n key c (nxtV (leadV p n)) (nth R (r + 1)) (r + 2) (R.drop (r + 2)) = y) := by rw [← hres, gw_on hl hlt2 hk]; exact rfl
                have HR2 : Hid (r + 2 ≤ R.length) := hlt2
                generalize nth R r = v at *
                generalize nth R (r + 1) = q at *
                generalize leadV p n = d at *
                generalize nxtV d = nd at *
                have HP : Hid (FM w ((((wr.setCell ⟨w.heap.size + 1, 5, none⟩ (.int .i64 ((r : Int) + 1))).setCell ⟨w.heap.size + 1, 0, none⟩ (.int .i64 nd)).setCell ⟨w.heap.size + 1, 1, none⟩ (.int .i64 q)).setCell ⟨w.heap.size + 1, 5, none⟩ (.int .i64 ((r : Int) + 1 + 1))) ⟨nd, q, 0, false, 0, r + 2, false, 0⟩) := ((((HFM.out.set 5 _ (x' := ⟨lk, p, 0, false, 0, r + 1, false, 0⟩) rfl).set 0 _ (x' := ⟨nd, p, 0, false, 0, r + 1, false, 0⟩) rfl).set 1 _ (x' := ⟨nd, q, 0, false, 0, r + 1, false, 0⟩) rfl).set 5 _ (x' := ⟨nd, q, 0, false, 0, r + 2, false, 0⟩) rfl)
                clear hres hl hrR hR hrl HCL HK HD hk hrE hxx hxx0 hxc hxc2 hxb hxb0
                go_wp2_with fail
                refine (HL.out _).mono ?_
                rintro e wa ⟨rfl, hwa⟩
                obtain rfl : wr = wa := hwa.symm
                clear hwa
                go_wp2_with fail
                refine (HL.out _).mono ?_
                rintro e wa ⟨rfl, hwa⟩
                obtain rfl : wr = wa := hwa.symm
                clear hwa
                go_wp2_with fail
                refine (HN1.out _).mono ?_
                rintro e wb ⟨rfl, hwb⟩
                obtain rfl := hwb.symm
                clear hwb
                go_wp2_with fail
                go_roundg c
                case rel => exact ⟨j + 1, c, r + 2, nd, q, rfl, HJC.out, by first | rw [HJW.out] | go_num, HR2.out, HP.out, HQ.out⟩
                case measure => exact Nat.lt_succ_self c
end Go.Proofs.Ytaffkcliepfcmaa.Ch
