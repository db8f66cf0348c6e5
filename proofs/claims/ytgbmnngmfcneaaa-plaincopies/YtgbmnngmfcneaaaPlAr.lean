/- What the laws of layer 20 are handed: places, steps. -/
import Derived.Test.YtgbmnngmfcneaaaPlM
import Derived.Test.YtgbmnngmfcneaaaCoA
import Derived.Test.YtgbmnngmfcneaaaPcM
namespace Go.Proofs.Ytgbmnngmfcneaaa.Pl
open Go.ChangeShapes Go.WideShapes Go.ChangeAt Go.RowKit

set_option maxRecDepth 100000 in
theorem conf_of_cells {H : Type} {enc : TypeId × Value → H} {W : World} {fuel : Nat} {cs : List Value} {x : DataW H × List MemPlace} (hw : (x.1.weights Try.prog 24).all (· ≤ reachBytes) = true)
    (hf : DataW.trod enc Try.prog W 0 (fun _ => true) true fuel 24 cs = some x) : ∃ c vr, cs = (Pc.cfA c vr).toList ∧ Pc.Rl W vr c.R := by
  obtain ⟨xs, m, _, hx, hl, hlen, hfd⟩ := DataW.trod_struct Try.underlying24 hf
  have hl7 : cs.length = 7 := hl.trans Pc.pcells_conf
  obtain ⟨c0, c1, c2, c3, c4, c5, c6, rfl⟩ := Pc.plen7 hl7
  obtain ⟨y0, y1, y2, y3, y4, y5, y6, rfl⟩ := Pc.plen7 hlen
  have g0 := hfd 0 _ rfl
  have g1 := hfd 1 _ rfl
  have g2 := hfd 2 _ rfl
  have g3 := hfd 3 _ rfl
  have g4 := hfd 4 _ rfl
  have g5 := hfd 5 _ rfl
  have g6 := hfd 6 _ rfl
  simp [Pc.pcells_int, Pc.pcells_i64, Pc.pcells_bool, Pc.pcells_regs] at g0 g1 g2 g3 g4 g5 g6
  obtain ⟨a0, z0, _, _⟩ := DataW.trod_int Try.underlying3 g0
  obtain ⟨a1, z1, _, _⟩ := DataW.trod_int Try.underlying3 g1
  obtain ⟨a2, z2, _, _⟩ := DataW.trod_int Try.underlying3 g2
  obtain ⟨a3, z3, _, _⟩ := DataW.trod_int Try.underlying2 g3
  obtain ⟨a4, z4, _⟩ := DataW.trod_bool Try.underlying4 g4
  obtain ⟨a5, z5, _, _⟩ := DataW.trod_int Try.underlying3 g5
  have hd : x.1 = .agg ([y0, y1, y2, y3, y4, y5, y6].map (·.1)) := by rw [hx]
  have hR : (y6.1.weights Try.prog 22).all (· ≤ reachBytes) = true := by
    rw [hd] at hw
    simp [DataW.weights, DataW.weightsEach, Try.underlying24] at hw
    simp only [List.all_eq_true, decide_eq_true_eq]
    exact hw.2.2.2.2.2.2
  obtain ⟨v6, l6, z6, h6⟩ := Pc.open_regs hR g6
  simp only [List.cons.injEq, and_true] at z0 z1 z2 z3 z4 z5 z6
  subst z0 z1 z2 z3 z4 z5 z6
  exact ⟨⟨a0, a1, a2, a3, a4, a5, l6⟩, _, rfl, h6⟩
theorem acells_spot : Try.prog.cellsOf 54 = 10 := by kernel_rfl
theorem len4 {α : Type} {l : List α} (h : l.length = 4) : ∃ a b c d, l = [a, b, c, d] := by
  match l, h with
  | [a, b, c, d], _ => exact ⟨a, b, c, d, rfl⟩
theorem len6 {α : Type} {l : List α} (h : l.length = 6) : ∃ a b c d e f, l = [a, b, c, d, e, f] := by
  match l, h with
  | [a, b, c, d, e, f], _ => exact ⟨a, b, c, d, e, f, rfl⟩
theorem len10 {α : Type} {l : List α} (h : l.length = 10) : ∃ a b c d e f g x y z, l = [a, b, c, d, e, f, g, x, y, z] := by
  match l, h with
  | [a, b, c, d, e, f, g, x, y, z], _ => exact ⟨a, b, c, d, e, f, g, x, y, z, rfl⟩
/-- A place, handed in. -/
structure Spt where
  c : Pc.Cf
  p : Int
  v : Int
  o : Int
def SptV (w : World) (v : Value) (x : Spt) : Prop := ∃ vr, v = .agg #[.int .i64 x.c.raw, .int .i64 x.c.ring, .int .i64 x.c.wrs, .int .i64 x.c.st, .bool x.c.multi, .int .i64 x.c.tries, vr, .int .i64 x.p, .int .i64 x.v, .int .i64 x.o] ∧ Pc.Rl w vr x.c.R ∧ Sx x.v
set_option maxRecDepth 100000 in
theorem spot_arg {H : Type} {enc : TypeId × Value → H} {W : World} {base : Nat} {v : Value} {d : DataW H} {p : List MemPlace} (hw : (d.weights Try.prog 54).all (· ≤ reachBytes) = true)
    (hv : Value.okWide Try.prog W .any base 54 v) (h : DataW.Trod enc Try.prog W 0 (fun _ => true) true 54 v d p) : ∃ x, SptV W v x := by
  obtain ⟨cs, rfl, hsz⟩ := okWide_struct Try.underlying54 hv
  obtain ⟨fuel, hf⟩ := h
  obtain ⟨xs, m, _, hx, hl, hlen, hfd⟩ := DataW.trod_struct Try.underlying54 hf
  obtain ⟨l⟩ := cs
  have hl10 : l.length = 10 := hsz.trans acells_spot
  obtain ⟨c0, c1, c2, c3, c4, c5, c6, c7, c8, c9, rfl⟩ := len10 hl10
  obtain ⟨y0, y1, y2, y3, rfl⟩ := len4 hlen
  have g0 := hfd 0 _ rfl
  have g1 := hfd 1 _ rfl
  have g2 := hfd 2 _ rfl
  have g3 := hfd 3 _ rfl
  simp [Value.cells, Pc.pcells_i64, Pc.pcells_conf] at g0 g1 g2 g3
  have hd : d = .agg ([y0, y1, y2, y3].map (·.1)) := (Prod.mk.inj hx).1
  have hR : (y0.1.weights Try.prog 24).all (· ≤ reachBytes) = true := by
    rw [hd] at hw
    simp [DataW.weights, DataW.weightsEach, Try.underlying54] at hw
    simp only [List.all_eq_true, decide_eq_true_eq]
    exact hw.1
  obtain ⟨c, vr, z0, h0⟩ := conf_of_cells hR g0
  obtain ⟨a1, z1, _, _⟩ := DataW.trod_int Try.underlying2 g1
  obtain ⟨a2, z2, _, w2⟩ := DataW.trod_int Try.underlying2 g2
  obtain ⟨a3, z3, _, _⟩ := DataW.trod_int Try.underlying2 g3
  simp [Pc.cfA] at z0 z1 z2 z3
  obtain ⟨rfl, rfl, rfl, rfl, rfl, rfl, rfl⟩ := z0
  subst z1 z2 z3
  exact ⟨⟨c, a1, a2, a3⟩, _, rfl, h0, sx_of_wf w2⟩
/-! ### steps -/
structure Stp where
  k : Int
  p : Int
  v : Int
  r : Int
  c : Int
  a : List Int
def st0 : Stp := ⟨0, 0, 0, 0, 0, []⟩
theorem acells_step : Try.prog.cellsOf 39 = 6 := by kernel_rfl
theorem abytes_step : Try.prog.bytesOf 39 = 64 := by kernel_rfl
/-- The cells of a step at an address. -/
def StA (w : World) (x : Addr) (s : Stp) : Prop := ∃ u, w.cell? x = some (.int .i64 s.k) ∧ w.cell? ⟨x.block, x.off + 1, none⟩ = some (.int .i64 s.p) ∧ w.cell? ⟨x.block, x.off + 2, none⟩ = some (.int .i64 s.v) ∧ w.cell? ⟨x.block, x.off + 3, none⟩ = some (.int .i64 s.r) ∧ w.cell? ⟨x.block, x.off + 4, none⟩ = some (.int .i64 s.c) ∧ w.cell? ⟨x.block, x.off + 5, none⟩ = some u ∧ Nl w u s.a ∧ Sx s.v
/-- Steps behind a slice. -/
def Sl (w : World) (v : Value) (S : List Stp) : Prop := ∃ a cap, v = .slice a S.length cap ∧ S.length ≤ 17592186044416 ∧ (S.length = 0 ∨ ∃ x, a = some x ∧ x.block < w.heap.size ∧ ∀ i, i < S.length → StA w (x.add (i * 6)) (S.getD i st0))
theorem StA.later {w w' : World} {x : Addr} {s : Stp} {B : Nat} (h : StA w x s) (hb : Below B w w') (hB : w.heap.size ≤ B) : StA w' x s := by
  obtain ⟨u, h0, h1, h2, h3, h4, h5, h6, h7⟩ := h
  have hx := Nat.lt_of_lt_of_le (World.block_lt_of_cell? _ _ h0) hB
  exact ⟨u, cell_later hb hx h0, cell_later hb (a := ⟨x.block, x.off + 1, none⟩) hx h1, cell_later hb (a := ⟨x.block, x.off + 2, none⟩) hx h2, cell_later hb (a := ⟨x.block, x.off + 3, none⟩) hx h3, cell_later hb (a := ⟨x.block, x.off + 4, none⟩) hx h4, cell_later hb (a := ⟨x.block, x.off + 5, none⟩) hx h5, h6.later hb hB, h7⟩
theorem Sl.later {w w' : World} {v : Value} {S : List Stp} {B : Nat} (h : Sl w v S) (hb : Below B w w') (hB : w.heap.size ≤ B) : Sl w' v S := by
  obtain ⟨a, cap, rfl, h1, h2⟩ := h
  refine ⟨a, cap, rfl, h1, ?_⟩
  rcases h2 with h2 | ⟨x, rfl, hx, hc⟩
  · exact Or.inl h2
  · exact Or.inr ⟨x, rfl, Nat.lt_of_lt_of_le hx hb.size, fun i hi => (hc i hi).later hb hB⟩
theorem step_of_cells {H : Type} {enc : TypeId × Value → H} {W : World} {fuel : Nat} {cs : List Value} {x : DataW H × List MemPlace} (hw : (x.1.weights Try.prog 39).all (· ≤ reachBytes) = true)
    (hf : DataW.trod enc Try.prog W 0 (fun _ => true) true fuel 39 cs = some x) : ∃ (s : Stp) (u : Value), cs = [.int .i64 s.k, .int .i64 s.p, .int .i64 s.v, .int .i64 s.r, .int .i64 s.c, u] ∧ Nl W u s.a ∧ Sx s.v := by
  obtain ⟨xs, m, _, hx, hl, hlen, hfd⟩ := DataW.trod_struct Try.underlying39 hf
  have hl6 : cs.length = 6 := by rw [hl, acells_step]
  obtain ⟨c0, c1, c2, c3, c4, c5, rfl⟩ := len6 hl6
  obtain ⟨y0, y1, y2, y3, y4, y5, rfl⟩ := len6 hlen
  have g0 := hfd 0 _ rfl
  have g1 := hfd 1 _ rfl
  have g2 := hfd 2 _ rfl
  have g3 := hfd 3 _ rfl
  have g4 := hfd 4 _ rfl
  have g5 := hfd 5 _ rfl
  simp [acells_int, ncells_i64, acells_nums] at g0 g1 g2 g3 g4 g5
  obtain ⟨a0, z0, _, _⟩ := DataW.trod_int Try.underlying3 g0
  obtain ⟨a1, z1, _, _⟩ := DataW.trod_int Try.underlying2 g1
  obtain ⟨a2, z2, _, w2⟩ := DataW.trod_int Try.underlying2 g2
  obtain ⟨a3, z3, _, _⟩ := DataW.trod_int Try.underlying3 g3
  obtain ⟨a4, z4, _, _⟩ := DataW.trod_int Try.underlying3 g4
  have hd : x.1 = .agg ([y0, y1, y2, y3, y4, y5].map (·.1)) := by rw [hx]
  have hR : (y5.1.weights Try.prog 36).all (· ≤ reachBytes) = true := by
    rw [hd] at hw
    simp [DataW.weights, DataW.weightsEach, Try.underlying39] at hw
    simp only [List.all_eq_true, decide_eq_true_eq]
    exact hw.2.2.2.2.2
  obtain ⟨v5, l5, z5, h5⟩ := open_nums hR g5
  simp only [List.cons.injEq, and_true] at z0 z1 z2 z3 z4 z5
  subst z0 z1 z2 z3 z4 z5
  exact ⟨⟨a0, a1, a2, a3, a4, l5⟩, _, rfl, h5, sx_of_wf w2⟩
theorem open_steps {H : Type} {enc : TypeId × Value → H} {W : World} {fuel : Nat} {cs : List Value} {x : DataW H × List MemPlace} (hw : (x.1.weights Try.prog 25).all (· ≤ reachBytes) = true)
    (hf : DataW.trod enc Try.prog W 0 (fun _ => true) true fuel 25 cs = some x) : ∃ v S, cs = [v] ∧ Sl W v S := by
  rcases Go.Deep.open_slice Try.underlying25 hf with ⟨hcs, hx⟩ | ⟨x0, n, c, m, n', D, Pl, hcs, hq, hl, hm, hmm, hx, hcell⟩
  · exact ⟨_, [], hcs, none, _, rfl, by simp, Or.inl rfl⟩
  · have hmc : m = c := by simpa using hmm
    subst hmc
    rw [hx] at hw
    simp only [DataW.weights, Try.underlying25, List.all_cons, Bool.and_eq_true, decide_eq_true_eq, abytes_step, List.length_map, List.length_range] at hw
    obtain ⟨hw1, hw2⟩ := hw
    rw [List.all_append, Bool.and_eq_true] at hw2
    have hrow : ∀ i, i < n → ∃ s : Stp, StA W (x0.add (i * 6)) s ∧ x0.block < W.heap.size := fun i hi => by
      obtain ⟨cs', hc, ht⟩ := hcell i (by omega)
      obtain ⟨s, u, rfl, hn, hs⟩ := step_of_cells (weights_mem _ (D i) (List.mem_map.2 ⟨i, List.mem_range.2 hi, rfl⟩) hw2.1) ht
      rw [acells_step] at hc
      have hj := (World.cells?_some hc).2.2
      have h0 : W.cell? (x0.add (i * 6)) = some (.int .i64 s.k) := by
        have := hj 0 (by decide)
        rw [add_zero'] at this
        rw [this]; simp
      have hq : ∀ j, (hj6 : j < 6) → 0 < j → W.cell? ⟨(x0.add (i * 6)).block, (x0.add (i * 6)).off + j, none⟩ = ([.int .i64 s.k, .int .i64 s.p, .int .i64 s.v, .int .i64 s.r, .int .i64 s.c, u] : List Value)[j]? := fun j hj6 hp => by
        have := hj j hj6
        rw [add_pos' _ _ hp] at this
        exact this
      refine ⟨s, ⟨u, h0, hq 1 (by decide) (by decide), hq 2 (by decide) (by decide), hq 3 (by decide) (by decide), hq 4 (by decide) (by decide), hq 5 (by decide) (by decide), hn, hs⟩, ?_⟩
      have := World.block_lt_of_cell? _ _ h0
      rwa [add_block] at this
    obtain ⟨S, hSl, hS⟩ := list_choose st0 _ n hrow
    subst hSl
    refine ⟨_, S, hcs, some x0, m, rfl, by unfold reachBytes at hw1; omega, ?_⟩
    by_cases h0 : S.length = 0
    · exact Or.inl h0
    · exact Or.inr ⟨x0, rfl, (hS 0 (by omega)).2, fun i hi => (hS i hi).1⟩
set_option maxRecDepth 100000 in
theorem steps_arg {H : Type} {enc : TypeId × Value → H} {W : World} {base : Nat} {v : Value} {d : DataW H} {p : List MemPlace} (hw : (d.weights Try.prog 25).all (· ≤ reachBytes) = true)
    (hv : Value.okWide Try.prog W .any base 25 v) (h : DataW.Trod enc Try.prog W 0 (fun _ => true) true 25 v d p) : ∃ S, Sl W v S := by
  obtain ⟨a, len, cap, rfl⟩ := okWide_slice Try.underlying25 hv
  obtain ⟨fuel, hf⟩ := h
  obtain ⟨v', l, hc, hS⟩ := open_steps hw hf
  simp [Value.cells] at hc
  subst hc
  exact ⟨l, hS⟩
end Go.Proofs.Ytgbmnngmfcneaaa.Pl
