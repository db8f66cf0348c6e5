/- The document's machine of layer 11: Takes, Left, Over, lacks. -/
import Derived.Test.YtbmmicfdnfpcaaaBpA
import Derived.Test.YtbmmicfdnfpcaaaBkO
import Derived.Deep.RegionHeld3
namespace Go.Proofs.Ytbmmicfdnfpcaaa
open Go.ChangeShapes Go.WideShapes Go.ChangeAt Go.RowKit
attribute [local go_sem ↓] Go.wp_at_zero Go.wp_at_succ

theorem RefAt.sz {w : World} {base R : Nat} {c r : Nat} {L : List Ac} {F : List Nat} (h : RefAt w base (.pointer (some ⟨R, 0, none⟩)) c r L F) : w.cell? ⟨R, 0, none⟩ = some (.int .i64 (c : Int)) ∧ w.cell? ⟨R, 1, none⟩ = some (.int .i64 (r : Int)) := by
  obtain ⟨R', v, h⟩ := h
  obtain rfl : R = R' := by simpa using h.p
  exact ⟨by rw [cell_at h.m]; rfl, by rw [cell_at h.m]; rfl⟩
theorem tkB_false {s st : Int} {W : List Wt} (h : ¬ (1 ≤ s ∧ s ≤ 16 ∧ 1 ≤ st ∧ st ≤ 1099511627776 ∧ W.length ≤ 24)) : tkB s st W = false := by
  rw [← Bool.not_eq_true]
  intro e
  unfold tkB at e
  simp only [Bool.and_eq_true, decide_eq_true_eq] at e
  exact h ⟨e.1.1.1.1.1, e.1.1.1.1.2, e.1.1.1.2, e.1.1.2, e.1.2⟩
set_option maxRecDepth 10000 in
set_option maxHeartbeats 1600000 in
theorem dtakes_any (w : World) (raw s wr n : Int) (mu : Bool) (tr : Int) (v : Value) (st : Int) {lv : Value} {W : List Wt} (hl : WL w lv W) :
    Calls Try.prog 8 #[confB raw s wr n mu tr v, .int .i64 st, lv] w fun e w' => e = .returned (.bool (tkB s st W)) ∧ Below w.heap.size w w' := by
  by_cases hno : 1 ≤ s ∧ s ≤ 16 ∧ 1 ≤ st ∧ st ≤ 1099511627776 ∧ W.length ≤ 24
  · obtain ⟨h1, h2, h3, h4, h5⟩ := hno
    obtain ⟨a, cap, rfl, _, hcc⟩ := hl
    have HD : Hid (∀ w' i, Below w.heap.size w w' → i < W.length → ∃ x, a = some x ∧ x.block < w.heap.size ∧ w'.cell? (x.add (i * 2)) = some (.int .i64 (W.getD i noWt).c)) := fun w' i k hi => by
      rcases hcc with h | ⟨x, e1, e2, e3⟩
      · rw [h] at hi; simp at hi
      · exact ⟨x, e1, e2, (k.cell (p := x.add (i * 2)) (by rw [add_block]; exact e2)).trans (e3 i hi).1⟩
    have HTY : Hid ((∀ i, i < W.length → 0 ≤ (W.getD i noWt).c ∧ (W.getD i noWt).c < 1024) → tkB s st W = true) := fun hh => by
      unfold tkB
      simp only [Bool.and_eq_true, decide_eq_true_eq, List.all_eq_true]
      refine ⟨⟨⟨⟨⟨h1, h2⟩, h3⟩, h4⟩, h5⟩, fun x hx => ?_⟩
      obtain ⟨i, hi, rfl⟩ := List.getElem_of_mem hx
      have := hh i hi
      rw [List.getD_eq_getElem?_getD, List.getElem?_eq_getElem hi] at this
      exact this
    have HTN : Hid (∀ i, i < W.length → ¬ (0 ≤ (W.getD i noWt).c ∧ (W.getD i noWt).c < 1024) → tkB s st W = false) := fun i hi hh => by
      unfold tkB
      rw [Bool.and_eq_false_iff]
      right
      rw [List.all_eq_false]
      exact ⟨W.getD i noWt, by rw [List.getD_eq_getElem?_getD, List.getElem?_eq_getElem hi]; simp, by simpa using hh⟩
    generalize tkB s st W = tk at *
    have d0 : ¬ s < 1 := by omega
    have d1 : ¬ s > 16 := by omega
    have d2 : ¬ st < 1 := by omega
    have d3 : ¬ st > 1099511627776 := by omega
    have d4 : ¬ ((W.length : Nat) : Int) > 24 := by omega
    unfold confB
    clear hcc h1 h2 h3 h4
    generalize W.length = m at *
    go_enter Try.func8, Try.ntmps8
    go_wp2
    go_loopw [7] (fun iv wr => ∃ q : Nat, q ≤ m ∧ iv = .int .i64 q ∧ Below w.heap.size w wr ∧ ∀ i, i < q → 0 ≤ (W.getD i noWt).c ∧ (W.getD i noWt).c < 1024) (fun iv _ => m - (intOf iv).toNat)
    case atStart => exact ⟨0, by omega, rfl, below_a1 _ _, fun i hi => by omega⟩
    case round =>
      obtain ⟨q, hq, rfl, hb, hno⟩ := hrel
      have HB : Hid (Below w.heap.size w wr) := hb
      have HNO : Hid (∀ i, i < q → 0 ≤ (W.getD i noWt).c ∧ (W.getD i noWt).c < 1024) := hno
      clear hb hno
      by_cases hlt : q < m
      · have hlt' : (q : Int) < (m : Int) := by omega
        have g4 : wrap64 ((q : Int) + 1) = (q : Int) + 1 := by unfold wrap64; omega
        obtain ⟨x, rfl, hxb, c0⟩ := HD.out _ q HB.out hlt
        have HTNQ := HTN.out q hlt
        have HNX : Hid ((0 ≤ (W.getD q noWt).c ∧ (W.getD q noWt).c < 1024) → ∀ i, i < q + 1 → 0 ≤ (W.getD i noWt).c ∧ (W.getD i noWt).c < 1024) := fun hh i hi => by
          by_cases e : i = q
          · subst e; exact hh
          · exact HNO.out i (by omega)
        generalize (W.getD q noWt).c = yc at *
        by_cases hyc : 0 ≤ yc ∧ yc < 1024
        · have HYC : Hid (0 ≤ yc ∧ yc < 1024) := hyc
          have y0 : ¬ yc < 0 := by omega
          have y1 : ¬ yc ≥ 1024 := by omega
          clear HTNQ hyc
          go_wp2
          go_roundw
          case rel => exact ⟨q + 1, by omega, by go_num, HB.out, HNX.out HYC.out⟩
          case measure => simp [intOf]; omega
        · have HT0 : Hid (tk = false) := HTNQ hyc
          have hyc2 : yc < 0 ∨ (¬ yc < 0 ∧ yc ≥ 1024) := by omega
          clear HTNQ hyc
          rcases hyc2 with y0 | ⟨y0, y1⟩
          all_goals
            go_wp2
            go_ret
            exact ⟨by (rw [HT0.out]) <;> rfl, HB.out⟩
      · have hqe : q = m := by omega
        subst hqe
        have hlt' : ¬ (q : Int) < (q : Int) := by omega
        have HTT : Hid (tk = true) := HTY.out HNO.out
        go_wp2
        go_ret
        exact ⟨by (rw [HTT.out]) <;> rfl, HB.out⟩
  · rw [tkB_false hno]
    obtain ⟨a, cap, rfl, _, _⟩ := hl
    unfold confB
    generalize W.length = m at *
    have hc : s < 1 ∨ (¬ s < 1 ∧ s > 16) ∨ (¬ s < 1 ∧ ¬ s > 16 ∧ st < 1) ∨ (¬ s < 1 ∧ ¬ s > 16 ∧ ¬ st < 1 ∧ st > 1099511627776) ∨ (¬ s < 1 ∧ ¬ s > 16 ∧ ¬ st < 1 ∧ ¬ st > 1099511627776 ∧ (m : Int) > 24) := by omega
    clear hno
    rcases hc with c0 | ⟨c0, c1⟩ | ⟨c0, c1, c2⟩ | ⟨c0, c1, c2, c3⟩ | ⟨c0, c1, c2, c3, c4⟩
    all_goals
      go_enter Try.func8, Try.ntmps8
      go_wp2
      go_ret
      exact ⟨rfl, below_a1 _ _⟩
/-- How many are written, as the document reckons it. -/
def lfD (n m : Nat) : Nat := if n < 9 then 0 else if m < n - 9 then m else n - 9
theorem dleft_any {w : World} {base Y : Nat} {P : Bp} {mu : Bool} {x : Dc} {G : List Nat} {lv kv : Value} (h : DM' w base Y P mu x G lv kv) (hm : P.W.length ≤ 24) (hn : x.n ≤ 34) :
    Calls Try.prog 19 #[.pointer (some ⟨Y, 0, none⟩)] w fun e w' => e = .returned (.int .i64 ((P.W.length : Int) - (lfD x.n P.W.length : Nat))) ∧ Below w.heap.size w w' := by
  obtain ⟨y0, y1, y2, y3, y12, y13, y14⟩ := h.m.cells
  obtain ⟨la, lcap, rfl⟩ := own_slice h.ownW
  have hY : Y < w.heap.size := heap_lt h.m
  generalize P.W.length = m at *
  generalize x.n = n at *
  have b1 : wrap64 ((n : Int) - 9) = (n : Int) - 9 := by unfold wrap64; omega
  have hc : (n < 9 ∧ lfD n m = 0) ∨ (¬ n < 9 ∧ m < n - 9 ∧ lfD n m = m) ∨ (¬ n < 9 ∧ ¬ m < n - 9 ∧ lfD n m = n - 9) := by
    unfold lfD
    by_cases h1 : n < 9
    · exact Or.inl ⟨h1, if_pos h1⟩
    · by_cases h2 : m < n - 9
      · exact Or.inr (Or.inl ⟨h1, h2, by rw [if_neg h1, if_pos h2]⟩)
      · exact Or.inr (Or.inr ⟨h1, h2, by rw [if_neg h1, if_neg h2]⟩)
  clear h
  rcases hc with ⟨c1, c2⟩ | ⟨c1, c2, c3⟩ | ⟨c1, c2, c3⟩
  · rw [c2]
    have d1 : (n : Int) - 9 < 0 := by omega
    have d2 : ¬ (0 : Int) > (m : Int) := by omega
    go_enter Try.func19, Try.ntmps19
    go_wp2
    go_ret
    exact ⟨by simp, Below.refl _ _⟩
  · rw [c3]
    have d1 : ¬ (n : Int) - 9 < 0 := by omega
    have d2 : (n : Int) - 9 > (m : Int) := by omega
    go_enter Try.func19, Try.ntmps19
    go_wp2
    go_ret
    exact ⟨by simp, Below.refl _ _⟩
  · rw [c3]
    have d1 : ¬ (n : Int) - 9 < 0 := by omega
    have d2 : ¬ (n : Int) - 9 > (m : Int) := by omega
    have b2 : wrap64 ((m : Int) - ((n : Int) - 9)) = (m : Int) - ((n : Int) - 9) := by unfold wrap64; omega
    have e1 : (m : Int) - ((n - 9 : Nat) : Int) = (m : Int) - ((n : Int) - 9) := by omega
    rw [e1]
    go_enter Try.func19, Try.ntmps19
    go_wp2
    go_ret
    exact ⟨rfl, Below.refl _ _⟩
theorem dover_any {w : World} {base Y : Nat} {P : Bp} {mu : Bool} {x : Dc} {G : List Nat} {lv kv : Value} (h : DM' w base Y P mu x G lv kv) (hm : P.W.length ≤ 24) :
    Calls Try.prog 33 #[.pointer (some ⟨Y, 0, none⟩)] w fun e w' => e = .returned (.bool (decide (x.n = P.W.length + 10))) ∧ Below w.heap.size w w' := by
  obtain ⟨y0, y1, y2, y3, y12, y13, y14⟩ := h.m.cells
  obtain ⟨la, lcap, rfl⟩ := own_slice h.ownW
  have hY : Y < w.heap.size := heap_lt h.m
  generalize P.W.length = m at *
  generalize x.n = n at *
  have b1 : IntKind.i64.wrap ((m : Int) + 10) = (m : Int) + 10 := by rw [IntKind.wrap_i64]; omega
  have e1 : decide (n = m + 10) = ((n : Int) == (m : Int) + 10) := by
    by_cases e : n = m + 10
    · rw [decide_eq_true e]; symm; simp; omega
    · rw [decide_eq_false e]; symm; simp; omega
  rw [e1]
  clear h
  go_enter Try.func33, Try.ntmps33
  go_wp2_with fail
  go_quiet (fail)
  go_wp2
  go_ret
  exact ⟨rfl, below_drawn (Below.refl _ _) _⟩
set_option maxRecDepth 10000 in
set_option maxHeartbeats 1600000 in
theorem dlacks_any {w : World} {base Y : Nat} {P : Bp} {mu : Bool} {x : Dc} {G : List Nat} {lv kv q : Value} {c r : Nat} {L : List Ac} {K : List Nat} (h : DM' w base Y P mu x G lv kv) (hr : RefAt w base q c r L K) (hm : P.W.length ≤ 24) :
    Calls Try.prog 34 #[.pointer (some ⟨Y, 0, none⟩), q] w fun e w' => e = .returned (.bool (!(decide (r = P.s) && P.W.all fun x => decide (x.c < (c : Int))))) ∧ Below w.heap.size w w' := by
  obtain ⟨R, rfl⟩ := hr.ptr
  have HZ : Hid (∀ w', Below w.heap.size w w' → w'.cell? ⟨R, 0, none⟩ = some (.int .i64 (c : Int)) ∧ w'.cell? ⟨R, 1, none⟩ = some (.int .i64 (r : Int))) := fun w' hb => (hr.below hb).sz
  have hY : Y < w.heap.size := heap_lt h.m
  obtain ⟨la, lcap, hlv⟩ := own_slice h.ownW
  have HY : Hid (∀ w', Below w.heap.size w w' → w'.cell? ⟨Y, 0, none⟩ = some (.int .i64 (P.s : Int)) ∧ w'.cell? ⟨Y, 3, none⟩ = some (.slice la P.W.length lcap)) := fun w' hb => by
    obtain ⟨y0, y1, y2, y3, y12, y13, y14⟩ := (h.m.below hb hY).cells
    exact ⟨y0, by rw [y3, hlv]⟩
  have HC : Hid (∀ w', Below w.heap.size w w' → ∀ i, i < P.W.length → ∃ g, la = some ⟨g, 0, none⟩ ∧ w'.cell? ⟨g, i * 2, none⟩ = some (.int .i64 (P.W.getD i noWt).c)) := fun w' hb i hi => by
    have ho := own_keep h.ownW (Keep.of_below hb []) (fun _ _ => by simp)
    rw [hlv] at ho
    obtain ⟨g, cap2, hfm, -⟩ := ho.form (by omega)
    simp at hfm
    obtain ⟨rfl, rfl⟩ := hfm
    exact ⟨g, rfl, (own_wr ho i hi).1⟩
  by_cases hrs : r = P.s
  · rw [decide_eq_true hrs, Bool.true_and]
    have HTY : Hid ((∀ i, i < P.W.length → (P.W.getD i noWt).c < (c : Int)) → (!(P.W.all fun x => decide (x.c < (c : Int)))) = false) := fun hh => by
      rw [Bool.not_eq_false', List.all_eq_true]
      intro x hx
      obtain ⟨i, hi, rfl⟩ := List.getElem_of_mem hx
      have := hh i hi
      rw [List.getD_eq_getElem?_getD, List.getElem?_eq_getElem hi] at this
      simpa using this
    have HTN : Hid (∀ i, i < P.W.length → ¬ (P.W.getD i noWt).c < (c : Int) → (!(P.W.all fun x => decide (x.c < (c : Int)))) = true) := fun i hi hh => by
      rw [Bool.not_eq_true', List.all_eq_false]
      exact ⟨P.W.getD i noWt, by rw [List.getD_eq_getElem?_getD, List.getElem?_eq_getElem hi]; simp, by simpa using hh⟩
    generalize (!(P.W.all fun x => decide (x.c < (c : Int)))) = lk at *
    have k1 : ((r : Int) == (P.s : Int)) = true := by rw [hrs]; simp
    have k2 : ((r : Int) != (P.s : Int)) = false := by rw [bne, k1]; rfl
    obtain ⟨z0, z1⟩ := HZ.out _ (Below.refl _ _)
    obtain ⟨y0, y3⟩ := HY.out _ (Below.refl _ _)
    have hR : R < w.heap.size := World.block_lt_of_cell? _ _ z1
    clear h hr hlv hrs
    generalize hW : P.W = W at *
    generalize W.length = m at *
    generalize (P.s : Int) = s at *
    clear hW
    go_enter Try.func34, Try.ntmps34
    go_wp2_with fail
    go_quiet (fail)
    obtain ⟨x5, hx5⟩ : ∃ x5, x5 = w.drewN nq := ⟨_, rfl⟩
    rw [← hx5]
    have HB5 : Hid (Below w.heap.size w x5) := by rw [Hid, hx5]; exact below_drawn (Below.refl _ _) _
    clear hx5 y0 y3 z0 z1 k1
    go_wp2
    clear k2
    go_loopw [5] (fun iv wr => ∃ q : Nat, q ≤ m ∧ iv = .int .i64 q ∧ Below w.heap.size w wr ∧ ∀ i, i < q → (W.getD i noWt).c < (c : Int)) (fun iv _ => m - (intOf iv).toNat)
    case atStart => exact ⟨0, by omega, rfl, HB5.out, fun i hi => by omega⟩
    case round =>
      obtain ⟨q, hq, rfl, hb, hno⟩ := hrel
      have HB : Hid (Below w.heap.size w wr) := hb
      have HNO : Hid (∀ i, i < q → (W.getD i noWt).c < (c : Int)) := hno
      clear hb hno HB5
      obtain ⟨z0, z1⟩ := HZ.out _ HB.out
      obtain ⟨y0, y3⟩ := HY.out _ HB.out
      by_cases hlt : q < m
      · have hlt' : (q : Int) < (m : Int) := by omega
        have g4 : wrap64 ((q : Int) + 1) = (q : Int) + 1 := by unfold wrap64; omega
        obtain ⟨g, rfl, c0⟩ := HC.out _ HB.out q hlt
        have HTNQ := HTN.out q hlt
        have HNX : Hid ((W.getD q noWt).c < (c : Int) → ∀ i, i < q + 1 → (W.getD i noWt).c < (c : Int)) := fun hh i hi => by
          by_cases e : i = q
          · subst e; exact hh
          · exact HNO.out i (by omega)
        generalize (W.getD q noWt).c = yc at *
        by_cases hyc : yc < (c : Int)
        · have y1 : decide ((c : Int) ≤ yc) = false := decide_eq_false (by omega)
          have HYC : Hid (yc < (c : Int)) := hyc
          clear HTNQ hyc
          go_wp2_with fail
          go_quiet (fail)
          go_wp2
          go_roundw
          case rel => exact ⟨q + 1, by omega, by go_num, below_drawn HB.out _, HNX.out HYC.out⟩
          case measure => simp [intOf]; omega
        · have HT0 : Hid (lk = true) := HTNQ (by first | exact hyc | omega)
          have y1 : decide ((c : Int) ≤ yc) = true := decide_eq_true (by omega)
          clear HTNQ hyc
          go_wp2_with fail
          go_quiet (fail)
          go_wp2
          go_ret
          exact ⟨by (rw [HT0.out]) <;> rfl, below_drawn HB.out _⟩
      · have hqe : q = m := by omega
        subst hqe
        have hlt' : ¬ (q : Int) < (q : Int) := by omega
        have HTT : Hid (lk = false) := HTY.out HNO.out
        go_wp2
        go_ret
        exact ⟨by (rw [HTT.out]) <;> rfl, HB.out⟩
  · rw [decide_eq_false hrs, Bool.false_and, Bool.not_false]
    have k1 : ((r : Int) == (P.s : Int)) = false := by simp; omega
    have k2 : ((r : Int) != (P.s : Int)) = true := by rw [bne, k1]; rfl
    obtain ⟨z0, z1⟩ := HZ.out _ (Below.refl _ _)
    obtain ⟨y0, y3⟩ := HY.out _ (Below.refl _ _)
    have hR : R < w.heap.size := World.block_lt_of_cell? _ _ z1
    clear h hr hlv hrs
    go_enter Try.func34, Try.ntmps34
    go_wp2_with fail
    go_quiet (fail)
    go_wp2
    go_ret
    exact ⟨rfl, below_drawn (Below.refl _ _) _⟩
end Go.Proofs.Ytbmmicfdnfpcaaa
