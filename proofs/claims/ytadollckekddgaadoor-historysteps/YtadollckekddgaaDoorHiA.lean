/- Events as they lie: by value, behind a slice, handed in. -/
import Derived.Test.YtadollckekddgaaDoorHiM
import Derived.Deep.DeepHandedRow
import Derived.Deep.Slices
namespace Go.Proofs.YtadollckekddgaaDoor.Hi
open Go.ChangeShapes Go.WideShapes Go.ChangeAt Go.RowKit
set_option linter.unusedVariables false

/-- An event's cells. -/
def evC (e : Ev) : List Value := [.int .i64 e.at_, .int .i64 e.th, .int .i64 e.tx, .int .i64 e.kd, .int .i64 e.cl, .int .i64 e.vl, .bool e.ow, .int .i64 e.sr, .int .i64 e.sn, .int .i64 e.sp, .int .u64 (e.sg 0), .int .u64 (e.sg 1), .int .u64 (e.sg 2), .int .u64 (e.sg 3), .int .u64 (e.sg 4), .int .u64 (e.sg 5), .int .u64 (e.sg 6), .int .u64 (e.sg 7), .int .i64 e.er]
def evA (e : Ev) : Array Value := #[.int .i64 e.at_, .int .i64 e.th, .int .i64 e.tx, .int .i64 e.kd, .int .i64 e.cl, .int .i64 e.vl, .bool e.ow, .int .i64 e.sr, .int .i64 e.sn, .int .i64 e.sp, .int .u64 (e.sg 0), .int .u64 (e.sg 1), .int .u64 (e.sg 2), .int .u64 (e.sg 3), .int .u64 (e.sg 4), .int .u64 (e.sg 5), .int .u64 (e.sg 6), .int .u64 (e.sg 7), .int .i64 e.er]
theorem evA_list (e : Ev) : (evA e).toList = evC e := rfl
theorem evC_len (e : Ev) : (evC e).length = 19 := rfl
theorem evA_size (e : Ev) : (evA e).size = 19 := rfl
theorem evC_one (e : Ev) : ∀ u ∈ evC e, u.oneCell' = true := by simp [evC, Value.oneCell']
theorem evA_one (e : Ev) : (evA e).all (·.oneCell') = true := by simp [evA, Value.oneCell']
def evV (e : Ev) : Value := .agg (evA e)
def evsC (l : List Ev) : List Value := l.flatMap evC
theorem evsC_len (l : List Ev) : (evsC l).length = l.length * 19 := by
  induction l with
  | nil => rfl
  | cons e l ih => simp only [evsC, List.flatMap_cons, List.length_append, List.length_cons] at ih ⊢; rw [ih, evC_len]; omega
theorem evsC_one (l : List Ev) : ∀ u ∈ evsC l, u.oneCell' = true := by
  intro u hu
  simp only [evsC, List.mem_flatMap] at hu
  obtain ⟨e, _, h⟩ := hu
  exact evC_one e u h
theorem evsC_get (l : List Ev) (i j : Nat) (hi : i < l.length) (hj : j < 19) : (evsC l)[i * 19 + j]? = (evC (ne l i))[j]? := by
  induction l generalizing i with
  | nil => simp at hi
  | cons e l ih =>
    show (evC e ++ evsC l)[i * 19 + j]? = _
    cases i with
    | zero => rw [List.getElem?_append_left (by rw [evC_len]; omega)]; simp [ne]
    | succ i =>
      rw [List.getElem?_append_right (by rw [evC_len]; omega), evC_len, show (i + 1) * 19 + j - 19 = i * 19 + j by omega, ih i (by simpa using hi)]
      simp [ne]
/-- Moments are numbers of 64 bits. -/
def EvOk (e : Ev) : Prop := e.at_ ≤ 9223372036854775807 ∧ -9223372036854775808 ≤ e.vl ∧ e.vl ≤ 9223372036854775807
/-- Events behind a slice. -/
def EvL (w : World) (v : Value) (H : List Ev) : Prop := ∃ a cap, v = .slice a H.length cap ∧ H.length ≤ 925925926000 ∧ H.length ≤ cap ∧ cap ≤ 9223372036854775807 ∧ (a = none → cap = 0) ∧ (∀ e ∈ H, EvOk e) ∧ (H.length = 0 ∨ ∃ x, a = some x ∧ x.block < w.heap.size ∧ ∀ i, i < H.length → ∀ j, j < 19 → w.cell? ((x.add (i * 19)).add j) = (evC (ne H i))[j]?)
theorem EvL.len {w : World} {v : Value} {H : List Ev} (h : EvL w v H) : H.length ≤ 925925926000 := h.choose_spec.choose_spec.2.1
theorem EvL.ok {w : World} {v : Value} {H : List Ev} (h : EvL w v H) : ∀ e ∈ H, EvOk e := h.choose_spec.choose_spec.2.2.2.2.2.1
theorem EvL.later {w w' : World} {v : Value} {H : List Ev} {B : Nat} (h : EvL w v H) (hb : Below B w w') (hB : w.heap.size ≤ B) : EvL w' v H := by
  obtain ⟨a, cap, hv, hm, hc1, hc2, hc3, hok, hl⟩ := h
  refine ⟨a, cap, hv, hm, hc1, hc2, hc3, hok, ?_⟩
  rcases hl with h0 | ⟨x, hx, hxb, hc⟩
  · exact Or.inl h0
  · exact Or.inr ⟨x, hx, Nat.lt_of_lt_of_le hxb hb.size, fun i hi j hj => by rw [hb.cell (by rw [add_block, add_block]; omega)]; exact hc i hi j hj⟩
theorem EvL.take {w : World} {a : Option Addr} {cap : Nat} {H : List Ev} (h : EvL w (.slice a H.length cap) H) {n : Nat} (hn : n ≤ H.length) : EvL w (.slice a n cap) (H.take n) := by
  obtain ⟨a', cap', hv, hm, hc1, hc2, hc3, hok, hl⟩ := h
  cases hv
  have hL : (H.take n).length = n := by simp; omega
  refine ⟨a, cap, by rw [hL], by omega, by omega, hc2, hc3, fun e he => hok e (List.mem_of_mem_take he), ?_⟩
  rw [hL]
  rcases hl with h0 | ⟨x, hx, hxb, hc⟩
  · exact Or.inl (by omega)
  · exact Or.inr ⟨x, hx, hxb, fun i hi j hj => by
      rw [show ne (H.take n) i = ne H i by simp [ne, hi]]
      exact hc i (by omega) j hj⟩
/-- The cells of one of them, as the walk asks for them. -/
theorem evl_cells {w : World} {x : Addr} {H : List Ev} {i : Nat} (hc : ∀ j, j < 19 → w.cell? ((x.add (i * 19)).add j) = (evC (ne H i))[j]?) : w.cell? (x.add (i * 19)) = some (.int .i64 (ne H i).at_) ∧ ∀ j, 0 < j → j < 19 → w.cell? ⟨(x.add (i * 19)).block, (x.add (i * 19)).off + j, none⟩ = (evC (ne H i))[j]? :=
  ⟨by have := hc 0 (by decide); rw [add_zero'] at this; exact this, fun j h0 hj => by have := hc j hj; rw [add_pos' _ _ h0] at this; exact this⟩
theorem own_evl {w : World} {base : Nat} {v : Value} {H : List Ev} (h : w.ownsRow base 39 19 v H.length (evsC H)) (hok : ∀ e ∈ H, EvOk e) (hl : H.length ≤ 925925926000) : EvL w v H := by
  rcases h.2 with ⟨e, h0⟩ | ⟨g, cap, cur, e, hb, hg, h1, h2, h3, h4⟩
  · exact ⟨none, 0, by rw [e, h0], hl, by omega, by omega, fun _ => rfl, hok, Or.inl h0⟩
  · refine ⟨some ⟨g, 0, none⟩, cap, e, hl, h1, by unfold maxLen at h2; omega, (fun h => by cases h), hok, Or.inr ⟨_, rfl, heap_lt hg, fun i hi j hj => ?_⟩⟩
    subst e
    have ha : ((⟨g, 0, none⟩ : Addr).add (i * 19)).add j = ⟨g, i * 19 + j, none⟩ := by
      unfold Addr.add
      split <;> split <;> simp_all
    rw [ha, ← evsC_get H i j hi hj]
    have hlt : i * 19 + j < (evsC H).length := by rw [evsC_len]; omega
    rw [own_cells h (i * 19 + j) _ (List.getElem?_eq_getElem hlt), List.getElem?_eq_getElem hlt]

/-! ### handed in -/
theorem ecells_ev : Tryd.prog.cellsOf 39 = 19 := by kernel_rfl
theorem ecells_int : Tryd.prog.cellsOf 3 = 1 := by kernel_rfl
theorem ecells_i64 : Tryd.prog.cellsOf 2 = 1 := by kernel_rfl
theorem ecells_u64 : Tryd.prog.cellsOf 35 = 1 := by kernel_rfl
theorem ecells_bool : Tryd.prog.cellsOf 4 = 1 := by kernel_rfl
theorem ecells_err : Tryd.prog.cellsOf 25 = 1 := by kernel_rfl
theorem ecells_sig : Tryd.prog.cellsOf 37 = 8 := by kernel_rfl
theorem ebytes_ev : Tryd.prog.bytesOf 39 = 152 := by kernel_rfl
theorem elen8 {α : Type} {l : List α} (h : l.length = 8) : ∃ a b c d e f g h, l = [a, b, c, d, e, f, g, h] := by
  match l, h with
  | [a, b, c, d, e, f, g, h], _ => exact ⟨a, b, c, d, e, f, g, h, rfl⟩
theorem elen12 {α : Type} {l : List α} (h : l.length = 12) : ∃ a b c d e f g h i j k m, l = [a, b, c, d, e, f, g, h, i, j, k, m] := by
  match l, h with
  | [a, b, c, d, e, f, g, h, i, j, k, m], _ => exact ⟨a, b, c, d, e, f, g, h, i, j, k, m, rfl⟩
theorem esig_of_cells {H : Type} {enc : TypeId × Value → H} {W : World} {fuel : Nat} {cs : List Value} {x : DataW H × List MemPlace}
    (hf : DataW.trod enc Tryd.prog W 0 (fun _ => true) true fuel 37 cs = some x) : ∃ f : Nat → Int, cs = [.int .u64 (f 0), .int .u64 (f 1), .int .u64 (f 2), .int .u64 (f 3), .int .u64 (f 4), .int .u64 (f 5), .int .u64 (f 6), .int .u64 (f 7)] := by
  obtain ⟨xs, m, _, _, hl, hx, hel⟩ := DataW.trod_array Tryd.underlying37 hf
  simp only [ecells_u64, ecells_sig, Nat.mul_one] at hel hl
  have hz : ∀ i, i < 8 → ∃ z : Int, cs[i]? = some (.int .u64 z) := by
    intro i hi
    have := hel i hi
    have hxi : xs[i]? = some xs[i] := by simp [hx, hi]
    rw [hxi] at this
    obtain ⟨z, hc, _, hw⟩ := DataW.trod_int Tryd.underlying35 this
    refine ⟨z, ?_⟩
    have := congrArg (·[0]?) hc
    simpa [List.getElem?_take, List.getElem?_drop] using this
  obtain ⟨S, hSl, hS⟩ := list_choose (0 : Int) _ 8 hz
  refine ⟨fun i => S.getD i 0, ?_⟩
  obtain ⟨c0, c1, c2, c3, c4, c5, c6, c7, rfl⟩ := elen8 hl
  have h0 := hS 0 (by decide)
  have h1 := hS 1 (by decide)
  have h2 := hS 2 (by decide)
  have h3 := hS 3 (by decide)
  have h4 := hS 4 (by decide)
  have h5 := hS 5 (by decide)
  have h6 := hS 6 (by decide)
  have h7 := hS 7 (by decide)
  simp only [List.getElem?_cons_zero, List.getElem?_cons_succ, Option.some.injEq] at h0 h1 h2 h3 h4 h5 h6 h7
  rw [h0, h1, h2, h3, h4, h5, h6, h7]
theorem ebd_i64 (x : Int) (h : (Lit.int .i64 x).wf = true) : -9223372036854775808 ≤ x ∧ x ≤ 9223372036854775807 := by simpa [Lit.wf, IntKind.min, IntKind.max, IntKind.signed, IntKind.bits] using h
set_option maxRecDepth 100000 in
theorem ev_of_cells {H : Type} {enc : TypeId × Value → H} {W : World} {fuel : Nat} {cs : List Value} {x : DataW H × List MemPlace}
    (hf : DataW.trod enc Tryd.prog W 0 (fun _ => true) true fuel 39 cs = some x) : ∃ e : Ev, cs = evC e ∧ EvOk e := by
  obtain ⟨xs, m, _, hx, hl, hlen, hfd⟩ := DataW.trod_struct Tryd.underlying39 hf
  have hl19 : cs.length = 19 := by rw [hl, ecells_ev]
  obtain ⟨y0, y1, y2, y3, y4, y5, y6, y7, y8, y9, y10, y11, rfl⟩ := elen12 hlen
  match cs, hl19 with
  | [c0, c1, c2, c3, c4, c5, c6, c7, c8, c9, c10, c11, c12, c13, c14, c15, c16, c17, c18], _ =>
  have g0 := hfd 0 _ rfl
  have g1 := hfd 1 _ rfl
  have g2 := hfd 2 _ rfl
  have g3 := hfd 3 _ rfl
  have g4 := hfd 4 _ rfl
  have g5 := hfd 5 _ rfl
  have g6 := hfd 6 _ rfl
  have g7 := hfd 7 _ rfl
  have g8 := hfd 8 _ rfl
  have g9 := hfd 9 _ rfl
  have g10 := hfd 10 _ rfl
  have g11 := hfd 11 _ rfl
  simp [ecells_int, ecells_i64, ecells_bool, ecells_err, ecells_sig] at g0 g1 g2 g3 g4 g5 g6 g7 g8 g9 g10 g11
  obtain ⟨a0, z0, _, hw0⟩ := DataW.trod_int Tryd.underlying3 g0
  obtain ⟨a1, z1, _, _⟩ := DataW.trod_int Tryd.underlying3 g1
  obtain ⟨a2, z2, _, _⟩ := DataW.trod_int Tryd.underlying3 g2
  obtain ⟨a3, z3, _, _⟩ := DataW.trod_int Tryd.underlying3 g3
  obtain ⟨a4, z4, _, _⟩ := DataW.trod_int Tryd.underlying3 g4
  obtain ⟨a5, z5, _, hw5⟩ := DataW.trod_int Tryd.underlying2 g5
  obtain ⟨a6, z6, _⟩ := DataW.trod_bool Tryd.underlying4 g6
  obtain ⟨a7, z7, _, _⟩ := DataW.trod_int Tryd.underlying2 g7
  obtain ⟨a8, z8, _, _⟩ := DataW.trod_int Tryd.underlying2 g8
  obtain ⟨a9, z9, _, _⟩ := DataW.trod_int Tryd.underlying2 g9
  obtain ⟨a10, z10⟩ := esig_of_cells g10
  obtain ⟨a11, z11, _, _⟩ := DataW.trod_int Tryd.underlying25 g11
  simp only [List.cons.injEq, and_true] at z0 z1 z2 z3 z4 z5 z6 z7 z8 z9 z10 z11
  obtain ⟨rfl, rfl, rfl, rfl, rfl, rfl, rfl, rfl⟩ := z10
  subst z0 z1 z2 z3 z4 z5 z6 z7 z8 z9 z11
  refine ⟨⟨a0, a1, a2, a3, a4, a5, a6, a7, a8, a9, a10, a11⟩, rfl, ?_⟩
  have := ebd_i64 _ hw0
  have := ebd_i64 _ hw5
  unfold EvOk
  dsimp only
  omega
set_option maxRecDepth 100000 in
theorem open_evs {H : Type} {enc : TypeId × Value → H} {W : World} {fuel : Nat} {cs : List Value} {x : DataW H × List MemPlace} (hw : (x.1.weights Tryd.prog 22).all (· ≤ reachBytes) = true)
    (hf : DataW.trod enc Tryd.prog W 0 (fun _ => true) true fuel 22 cs = some x) : ∃ v S, cs = [v] ∧ EvL W v S := by
  rcases Go.Deep.open_slice Tryd.underlying22 hf with ⟨hcs, hx⟩ | ⟨x0, n, c, m, n', D, Pl, hcs, _, hl, hm, hmm, hx, hcell⟩
  · exact ⟨_, [], hcs, none, _, rfl, by simp, by simp, by simp, by simp, by simp, Or.inl rfl⟩
  · have hmc : m = c := by simpa using hmm
    subst hmc
    have hlen : n ≤ 925925926000 := by
      rw [hx] at hw
      simp only [DataW.weights, Tryd.underlying22, List.all_cons, Bool.and_eq_true, decide_eq_true_eq, ebytes_ev, List.length_map, List.length_range] at hw
      have := hw.1
      unfold reachBytes at this
      omega
    have hrow : ∀ i, i < n → ∃ e : Ev, (∀ j, j < 19 → W.cell? ((x0.add (i * 19)).add j) = (evC e)[j]?) ∧ EvOk e ∧ x0.block < W.heap.size := fun i hi => by
      obtain ⟨cs', hc, ht⟩ := hcell i (by omega)
      obtain ⟨e, rfl, hok⟩ := ev_of_cells ht
      rw [ecells_ev] at hc
      have hj : ∀ j, j < 19 → W.cell? ((x0.add (i * 19)).add j) = (evC e)[j]? := fun j hj => (World.cells?_some hc).2.2 j hj
      refine ⟨e, hj, hok, ?_⟩
      have := World.block_lt_of_cell? _ _ ((hj 0 (by decide)).trans (show _ = some (Value.int .i64 e.at_) from rfl))
      rwa [add_block, add_block] at this
    obtain ⟨S, hSl, hS⟩ := list_choose ev0 _ n hrow
    subst hSl
    refine ⟨_, S, hcs, some x0, m, rfl, hlen, hl, by unfold maxLen at hm; omega, (fun h => by cases h), fun e he => ?_, ?_⟩
    · obtain ⟨i, hi, rfl⟩ := List.getElem_of_mem he
      have := (hS i hi).2.1
      simpa [hi] using this
    · by_cases h0 : S.length = 0
      · exact Or.inl h0
      · exact Or.inr ⟨x0, rfl, (hS 0 (by omega)).2.2, fun i hi => (hS i hi).1⟩
set_option maxRecDepth 100000 in
theorem evs_arg {H : Type} {enc : TypeId × Value → H} {W : World} {base : Nat} {v : Value} {d : DataW H} {p : List MemPlace} (hw : (d.weights Tryd.prog 22).all (· ≤ reachBytes) = true)
    (hv : Value.okWide Tryd.prog W .any base 22 v) (h : DataW.Trod enc Tryd.prog W 0 (fun _ => true) true 22 v d p) : ∃ l, EvL W v l := by
  obtain ⟨a, len, cap, rfl⟩ := okWide_slice Tryd.underlying22 hv
  obtain ⟨fuel, hf⟩ := h
  obtain ⟨v', l, hc, hS⟩ := open_evs hw hf
  simp [Value.cells] at hc
  subst hc
  exact ⟨l, hS⟩
end Go.Proofs.YtadollckekddgaaDoor.Hi
