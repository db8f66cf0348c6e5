/- Calls with their arguments, and lists of calls, that are handed in. -/
import Derived.Test.YtaffkcliepfcmaaCoM
namespace Go.Proofs.Ytaffkcliepfcmaa
open Go.ChangeShapes Go.WideShapes Go.ChangeAt Go.RowKit

/-- A call that is asked for: base, capacity, which, its arguments, the words that it is handed. -/
structure Ask where
  b : Int
  m : Int
  c : Int
  A : List Int
  W : List Int
/-- It lies as a value. -/
def AskV (w : World) (v : Value) (x : Ask) : Prop := ∃ va vw, v = .agg #[.int .i64 x.b, .int .i64 x.m, .int .i64 x.c, va, vw] ∧ Nl w va x.A ∧ Nl w vw x.W ∧ Sx x.b ∧ Sx x.m ∧ Sx x.c
theorem acells_int : Try.prog.cellsOf 3 = 1 := by kernel_rfl
theorem acells_nums : Try.prog.cellsOf 22 = 1 := by kernel_rfl
theorem acells_ask : Try.prog.cellsOf 24 = 5 := by kernel_rfl
theorem acells_call : Try.prog.cellsOf 41 = 2 := by kernel_rfl
theorem abytes_call : Try.prog.bytesOf 41 = 32 := by kernel_rfl
theorem alen5 {α : Type} {l : List α} (h : l.length = 5) : ∃ a b c d e, l = [a, b, c, d, e] := by
  match l, h with
  | [a, b, c, d, e], _ => exact ⟨a, b, c, d, e, rfl⟩
theorem alen2 {α : Type} {l : List α} (h : l.length = 2) : ∃ a b, l = [a, b] := by
  match l, h with
  | [a, b], _ => exact ⟨a, b, rfl⟩
set_option maxRecDepth 100000 in
theorem ask_arg {H : Type} {enc : TypeId × Value → H} {W : World} {base : Nat} {v : Value} {d : DataW H} {p : List MemPlace} (hw : (d.weights Try.prog 24).all (· ≤ reachBytes) = true)
    (hv : Value.okWide Try.prog W .any base 24 v) (h : DataW.Trod enc Try.prog W 0 (fun _ => true) true 24 v d p) : ∃ x, AskV W v x := by
  obtain ⟨cs, rfl, hsz⟩ := okWide_struct Try.underlying24 hv
  obtain ⟨fuel, hf⟩ := h
  obtain ⟨xs, m, _, hx, hl, hlen, hfd⟩ := DataW.trod_struct Try.underlying24 hf
  obtain ⟨l⟩ := cs
  have hl5 : l.length = 5 := hsz.trans acells_ask
  obtain ⟨c0, c1, c2, c3, c4, rfl⟩ := alen5 hl5
  obtain ⟨y0, y1, y2, y3, y4, rfl⟩ := alen5 hlen
  have g0 := hfd 0 _ rfl
  have g1 := hfd 1 _ rfl
  have g2 := hfd 2 _ rfl
  have g3 := hfd 3 _ rfl
  have g4 := hfd 4 _ rfl
  simp [Value.cells, acells_int, acells_nums] at g0 g1 g2 g3 g4
  obtain ⟨a0, z0, _, f0⟩ := DataW.trod_int Try.underlying3 g0
  obtain ⟨a1, z1, _, f1⟩ := DataW.trod_int Try.underlying3 g1
  obtain ⟨a2, z2, _, f2⟩ := DataW.trod_int Try.underlying3 g2
  have hd : d = .agg ([y0, y1, y2, y3, y4].map (·.1)) := (Prod.mk.inj hx).1
  have hR : (y3.1.weights Try.prog 22).all (· ≤ reachBytes) = true ∧ (y4.1.weights Try.prog 22).all (· ≤ reachBytes) = true := by
    rw [hd] at hw
    simp [DataW.weights, DataW.weightsEach, Try.underlying24] at hw
    simp only [List.all_eq_true, decide_eq_true_eq]
    exact ⟨hw.2.2.2.1, hw.2.2.2.2⟩
  obtain ⟨v3, l3, z3, h3⟩ := open_nums hR.1 g3
  obtain ⟨v4, l4, z4, h4⟩ := open_nums hR.2 g4
  simp only [List.cons.injEq, and_true] at z0 z1 z2 z3 z4
  subst z0 z1 z2 z3 z4
  exact ⟨⟨a0, a1, a2, l3, l4⟩, _, _, rfl, h3, h4, sx_of_wf f0, sx_of_wf f1, sx_of_wf f2⟩
/-- A list of calls behind a slice. -/
def Cl (w : World) (v : Value) (S : List (Int × List Int)) : Prop := ∃ a cap, v = .slice a S.length cap ∧ S.length ≤ 17592186044416 ∧ (S.length = 0 ∨ ∃ x, a = some x ∧ x.block < w.heap.size ∧ ∀ i, i < S.length → ∃ u, w.cell? (x.add (i * 2)) = some (.int .i64 (S.getD i (0, [])).1) ∧ w.cell? ⟨(x.add (i * 2)).block, (x.add (i * 2)).off + 1, none⟩ = some u ∧ Nl w u (S.getD i (0, [])).2)
theorem Cl.later {w w' : World} {v : Value} {S : List (Int × List Int)} {B : Nat} (h : Cl w v S) (hb : Below B w w') (hB : w.heap.size ≤ B) : Cl w' v S := by
  obtain ⟨a, cap, hv, hm, hl⟩ := h
  refine ⟨a, cap, hv, hm, ?_⟩
  rcases hl with h0 | ⟨x, hx, hxb, hc⟩
  · exact Or.inl h0
  · refine Or.inr ⟨x, hx, Nat.lt_of_lt_of_le hxb hb.size, fun i hi => ?_⟩
    obtain ⟨u, h1, h2, h3⟩ := hc i hi
    exact ⟨u, cell_later hb (by rw [add_block]; omega) h1, cell_later (a := ⟨(x.add (i * 2)).block, (x.add (i * 2)).off + 1, none⟩) hb (show (x.add (i * 2)).block < B by rw [add_block]; omega) h2, h3.later hb hB⟩
theorem weights_mem {H : Type} {P : Program} {t : TypeId} {q : Nat → Bool} : ∀ (l : List (DataW H)) (d : DataW H), d ∈ l → (DataW.weightsAll P t l).all q = true → (d.weights P t).all q = true
  | [], d, hd, _ => by cases hd
  | x :: l, d, hd, h => by
    simp only [DataW.weightsAll, List.all_append, Bool.and_eq_true] at h
    rcases List.mem_cons.1 hd with rfl | hd
    · exact h.1
    · exact weights_mem l d hd h.2
theorem call_of_cells {H : Type} {enc : TypeId × Value → H} {W : World} {fuel : Nat} {cs : List Value} {x : DataW H × List MemPlace} (hw : (x.1.weights Try.prog 41).all (· ≤ reachBytes) = true)
    (hf : DataW.trod enc Try.prog W 0 (fun _ => true) true fuel 41 cs = some x) : ∃ (a : Int) (u : Value) (l : List Int), cs = [.int .i64 a, u] ∧ Nl W u l := by
  obtain ⟨xs, m, _, hx, hl, hlen, hfd⟩ := DataW.trod_struct Try.underlying41 hf
  have hl2 : cs.length = 2 := by rw [hl, acells_call]
  obtain ⟨c0, c1, rfl⟩ := alen2 hl2
  obtain ⟨y0, y1, rfl⟩ := alen2 hlen
  have g0 := hfd 0 _ rfl
  have g1 := hfd 1 _ rfl
  simp [acells_int, acells_nums] at g0 g1
  obtain ⟨a0, z0, _, _⟩ := DataW.trod_int Try.underlying3 g0
  have hd : x.1 = .agg ([y0, y1].map (·.1)) := by rw [hx]
  have hR : (y1.1.weights Try.prog 22).all (· ≤ reachBytes) = true := by
    rw [hd] at hw
    simp [DataW.weights, DataW.weightsEach, Try.underlying41] at hw
    simp only [List.all_eq_true, decide_eq_true_eq]
    exact hw.2
  obtain ⟨v1, l1, z1, h1⟩ := open_nums hR g1
  simp only [List.cons.injEq, and_true] at z0 z1
  subst z0 z1
  exact ⟨a0, _, l1, rfl, h1⟩
theorem open_calls {H : Type} {enc : TypeId × Value → H} {W : World} {fuel : Nat} {cs : List Value} {x : DataW H × List MemPlace} (hw : (x.1.weights Try.prog 32).all (· ≤ reachBytes) = true)
    (hf : DataW.trod enc Try.prog W 0 (fun _ => true) true fuel 32 cs = some x) : ∃ v S, cs = [v] ∧ Cl W v S := by
  rcases Go.Deep.open_slice Try.underlying32 hf with ⟨hcs, hx⟩ | ⟨x0, n, c, m, n', D, Pl, hcs, hq, hl, hm, hmm, hx, hcell⟩
  · exact ⟨_, [], hcs, none, _, rfl, by simp, Or.inl rfl⟩
  · have hmc : m = c := by simpa using hmm
    subst hmc
    rw [hx] at hw
    simp only [DataW.weights, Try.underlying32, List.all_cons, Bool.and_eq_true, decide_eq_true_eq, abytes_call, List.length_map, List.length_range] at hw
    obtain ⟨hw1, hw2⟩ := hw
    rw [List.all_append, Bool.and_eq_true] at hw2
    have hrow : ∀ i, i < n → ∃ s : Int × List Int, (∃ u, W.cell? (x0.add (i * 2)) = some (.int .i64 s.1) ∧ W.cell? ⟨(x0.add (i * 2)).block, (x0.add (i * 2)).off + 1, none⟩ = some u ∧ Nl W u s.2) ∧ x0.block < W.heap.size := fun i hi => by
      obtain ⟨cs', hc, ht⟩ := hcell i (by omega)
      obtain ⟨a, u, l, rfl, hn⟩ := call_of_cells (weights_mem _ (D i) (List.mem_map.2 ⟨i, List.mem_range.2 hi, rfl⟩) hw2.1) ht
      rw [acells_call] at hc
      have hj := (World.cells?_some hc).2.2
      have h0 : W.cell? (x0.add (i * 2)) = some (.int .i64 a) := by
        have := hj 0 (by decide)
        rw [add_zero'] at this
        rw [this]; simp
      have h1 : W.cell? ⟨(x0.add (i * 2)).block, (x0.add (i * 2)).off + 1, none⟩ = some u := by
        have := hj 1 (by decide)
        rw [add_pos' _ _ (by decide)] at this
        rw [this]; simp
      refine ⟨(a, l), ⟨u, h0, h1, hn⟩, ?_⟩
      have := World.block_lt_of_cell? _ _ h0
      rwa [add_block] at this
    obtain ⟨S, hSl, hS⟩ := list_choose ((0, []) : Int × List Int) _ n hrow
    subst hSl
    refine ⟨_, S, hcs, some x0, m, rfl, by unfold reachBytes at hw1; omega, ?_⟩
    by_cases h0 : S.length = 0
    · exact Or.inl h0
    · exact Or.inr ⟨x0, rfl, (hS 0 (by omega)).2, fun i hi => (hS i hi).1⟩
set_option maxRecDepth 100000 in
theorem calls_arg {H : Type} {enc : TypeId × Value → H} {W : World} {base : Nat} {v : Value} {d : DataW H} {p : List MemPlace} (hw : (d.weights Try.prog 32).all (· ≤ reachBytes) = true)
    (hv : Value.okWide Try.prog W .any base 32 v) (h : DataW.Trod enc Try.prog W 0 (fun _ => true) true 32 v d p) : ∃ S, Cl W v S := by
  obtain ⟨a, len, cap, rfl⟩ := okWide_slice Try.underlying32 hv
  obtain ⟨fuel, hf⟩ := h
  obtain ⟨v', l, hc, hS⟩ := open_calls hw hf
  simp [Value.cells] at hc
  subst hc
  exact ⟨l, hS⟩
end Go.Proofs.Ytaffkcliepfcmaa
