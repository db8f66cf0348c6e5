/- Configurations and regions (layer 19) as plain data, and as they lie. -/
import Derived.Test.YtceogkgnapdeiaaBlk
import Derived.Deep.DeepHandedRow
namespace Go.Proofs.Ytceogkgnapdeiaa.Pc
open Go.ChangeShapes Go.WideShapes Go.ChangeAt Go.RowKit

/-- A region: its kind, its capacity. -/
abbrev Rg := Int × Int
def okR (x : Rg) : Bool := decide (1 ≤ x.1) && decide (x.1 ≤ 4) && decide (0 ≤ x.2) && decide (x.2 ≤ 16)
def kindV (k m : Int) : Int := if k = 1 then m else if k = 2 then m + 2 else if k = 3 then 3 * m + 1 else 2 * m + 3
def szV (x : Rg) : Int := if okR x then kindV x.1 x.2 else 0
def erV (x : Rg) : Int := if okR x then 0 else 13
def okL (R : List Rg) : Bool := decide ((R.length : Int) ≤ 8) && R.all okR
def sumV : List Rg → Int
  | [] => 0
  | x :: l => szV x + sumV l
theorem sz_le (x : Rg) : 0 ≤ szV x ∧ szV x ≤ 49 := by
  unfold szV
  split
  · rename_i h
    simp only [okR, Bool.and_eq_true, decide_eq_true_eq] at h
    unfold kindV
    split
    · omega
    · split
      · omega
      · split <;> omega
  · omega
theorem sum_le : ∀ R : List Rg, 0 ≤ sumV R ∧ sumV R ≤ 49 * R.length
  | [] => by simp [sumV]
  | x :: l => by
    have := sum_le l
    have := sz_le x
    simp only [sumV, List.length_cons]
    omega
theorem sum_append : ∀ (R S : List Rg), sumV (R ++ S) = sumV R + sumV S
  | [], S => by simp [sumV]
  | x :: l, S => by
    simp only [List.cons_append, sumV, sum_append l S]
    omega
def nthR (R : List Rg) (i : Nat) : Rg := R.getD i (0, 0)
theorem sum_take {R : List Rg} {i : Nat} (h : i < R.length) : sumV (R.take (i + 1)) = sumV (R.take i) + szV (nthR R i) := by
  have e : R.take (i + 1) = R.take i ++ [nthR R i] := by
    rw [List.take_add_one]
    simp [nthR, h]
  rw [e, sum_append]
  simp [sumV]
theorem nthR_mem {R : List Rg} {i : Nat} (h : i < R.length) : nthR R i ∈ R := by
  have : nthR R i = R[i] := by simp [nthR, h]
  rw [this]
  exact List.getElem_mem h
theorem nthR_take {R : List Rg} {i n : Nat} (h : i < n) : nthR (R.take n) i = nthR R i := by
  simp [nthR, h]
/-- A configuration. -/
structure Cf where
  raw : Int
  ring : Int
  wrs : Int
  st : Int
  multi : Bool
  tries : Int
  R : List Rg
def okN (c : Cf) : Bool := decide (1 ≤ c.raw) && decide (c.raw ≤ 64) && decide (1 ≤ c.ring) && decide (c.ring ≤ 16) && decide (1 ≤ c.wrs) && decide (c.wrs ≤ 24) && decide (1 ≤ c.st) && decide (c.st ≤ 1099511627776) && decide (1 ≤ c.tries) && decide (c.tries ≤ 255)
def okC (c : Cf) : Bool := okN c && okL c.R
def chkV (c : Cf) : Int := if okC c then 0 else 13
def baseV (c : Cf) (i : Int) : Int × Int := if okC c then (if 0 ≤ i ∧ i < c.R.length then (c.raw + sumV (c.R.take i.toNat), 0) else (0, 1)) else (0, 13)
def cellsV (c : Cf) : Int × Int := if okC c then (c.raw + sumV c.R, 0) else (0, 13)
theorem okC_raw {c : Cf} (h : okC c = true) : 1 ≤ c.raw ∧ c.raw ≤ 64 ∧ c.R.length ≤ 8 := by
  simp only [okC, okN, okL, Bool.and_eq_true, decide_eq_true_eq] at h
  omega
theorem cells_le (c : Cf) : (cellsV c).1 ≤ 1024 := by
  unfold cellsV
  split
  · rename_i h
    have := okC_raw h
    have := sum_le c.R
    show c.raw + sumV c.R ≤ 1024
    omega
  · show (0 : Int) ≤ 1024
    omega

/-- Regions behind a slice. -/
def Rl (w : World) (v : Value) (R : List Rg) : Prop := ∃ a cap, v = .slice a R.length cap ∧ R.length ≤ 8796093022208 ∧ R.length ≤ cap ∧ (cap ≤ 9223372036854775807 ∧ (a = none → cap = 0)) ∧ (R.length = 0 ∨ ∃ x, a = some x ∧ x.block < w.heap.size ∧ ∀ i, i < R.length → w.cell? (x.add (i * 2)) = some (.int .i64 (nthR R i).1) ∧ w.cell? ⟨(x.add (i * 2)).block, (x.add (i * 2)).off + 1, none⟩ = some (.int .i64 (nthR R i).2))
theorem Rl.later {w w' : World} {v : Value} {R : List Rg} {B : Nat} (h : Rl w v R) (hb : Below B w w') (hB : w.heap.size ≤ B) : Rl w' v R := by
  obtain ⟨a, cap, hv, hm, hc1, hc2, hl⟩ := h
  refine ⟨a, cap, hv, hm, hc1, hc2, ?_⟩
  rcases hl with h0 | ⟨x, hx, hxb, hc⟩
  · exact Or.inl h0
  · exact Or.inr ⟨x, hx, Nat.lt_of_lt_of_le hxb hb.size, fun i hi => ⟨cell_later hb (by rw [add_block]; omega) (hc i hi).1, cell_later (a := ⟨(x.add (i * 2)).block, (x.add (i * 2)).off + 1, none⟩) hb (show (x.add (i * 2)).block < B by rw [add_block]; omega) (hc i hi).2⟩⟩
theorem Rl.take {w : World} {a : Option Addr} {cap : Nat} {R : List Rg} (h : Rl w (.slice a R.length cap) R) {i : Nat} (hi : i < R.length) : Rl w (.slice a i cap) (R.take i) := by
  obtain ⟨a', cap', hv, hm, hc1, hc2, hl⟩ := h
  cases hv
  have hL : (R.take i).length = i := by simp; omega
  refine ⟨a, cap, by rw [hL], by omega, by omega, hc2, ?_⟩
  rw [hL]
  rcases hl with h0 | ⟨x, hx, hxb, hc⟩
  · omega
  · exact Or.inr ⟨x, hx, hxb, fun j hj => by rw [nthR_take hj]; exact hc j (by omega)⟩
/-- A configuration by value. -/
def cfA (c : Cf) (v : Value) : Array Value := #[.int .i64 c.raw, .int .i64 c.ring, .int .i64 c.wrs, .int .i64 c.st, .bool c.multi, .int .i64 c.tries, v]
def CfV (w : World) (v : Value) (c : Cf) : Prop := ∃ vr, v = .agg (cfA c vr) ∧ Rl w vr c.R
theorem CfV.later {w w' : World} {v : Value} {c : Cf} {B : Nat} (h : CfV w v c) (hb : Below B w w') (hB : w.heap.size ≤ B) : CfV w' v c := by
  obtain ⟨vr, hv, hR⟩ := h
  exact ⟨vr, hv, hR.later hb hB⟩

/-! ### handed in -/
theorem pcells_int : Try.prog.cellsOf 3 = 1 := by kernel_rfl
theorem pcells_i64 : Try.prog.cellsOf 2 = 1 := by kernel_rfl
theorem pcells_bool : Try.prog.cellsOf 4 = 1 := by kernel_rfl
theorem pcells_regs : Try.prog.cellsOf 22 = 1 := by kernel_rfl
theorem pcells_reg : Try.prog.cellsOf 51 = 2 := by kernel_rfl
theorem pcells_conf : Try.prog.cellsOf 24 = 7 := by kernel_rfl
theorem pbytes_reg : Try.prog.bytesOf 51 = 16 := by kernel_rfl
theorem plen2 {α : Type} {l : List α} (h : l.length = 2) : ∃ a b, l = [a, b] := by
  match l, h with
  | [a, b], _ => exact ⟨a, b, rfl⟩
theorem plen7 {α : Type} {l : List α} (h : l.length = 7) : ∃ a b c d e f g, l = [a, b, c, d, e, f, g] := by
  match l, h with
  | [a, b, c, d, e, f, g], _ => exact ⟨a, b, c, d, e, f, g, rfl⟩
theorem reg_of_cells {H : Type} {enc : TypeId × Value → H} {W : World} {fuel : Nat} {cs : List Value} {x : DataW H × List MemPlace}
    (hf : DataW.trod enc Try.prog W 0 (fun _ => true) true fuel 51 cs = some x) : ∃ a b : Int, cs = [.int .i64 a, .int .i64 b] := by
  obtain ⟨xs, m, _, hx, hl, hlen, hfd⟩ := DataW.trod_struct Try.underlying51 hf
  have hl2 : cs.length = 2 := by rw [hl, pcells_reg]
  obtain ⟨c0, c1, rfl⟩ := plen2 hl2
  obtain ⟨y0, y1, rfl⟩ := plen2 hlen
  have g0 := hfd 0 _ rfl
  have g1 := hfd 1 _ rfl
  simp [pcells_int] at g0 g1
  obtain ⟨a0, z0, _, _⟩ := DataW.trod_int Try.underlying3 g0
  obtain ⟨a1, z1, _, _⟩ := DataW.trod_int Try.underlying3 g1
  simp only [List.cons.injEq, and_true] at z0 z1
  subst z0 z1
  exact ⟨a0, a1, rfl⟩
theorem open_regs {H : Type} {enc : TypeId × Value → H} {W : World} {fuel : Nat} {cs : List Value} {x : DataW H × List MemPlace} (hw : (x.1.weights Try.prog 22).all (· ≤ reachBytes) = true)
    (hf : DataW.trod enc Try.prog W 0 (fun _ => true) true fuel 22 cs = some x) : ∃ v R, cs = [v] ∧ Rl W v R := by
  rcases Go.Deep.open_slice Try.underlying22 hf with ⟨hcs, hx⟩ | ⟨x0, n, c, m, n', D, Pl, hcs, _, hl, hm, hmm, hx, hcell⟩
  · exact ⟨_, [], hcs, none, _, rfl, by simp, by simp, by simp, Or.inl rfl⟩
  · have hmc : m = c := by simpa using hmm
    subst hmc
    have hlen : n ≤ 8796093022208 := by
      rw [hx] at hw
      simp only [DataW.weights, Try.underlying22, List.all_cons, Bool.and_eq_true, decide_eq_true_eq, pbytes_reg, List.length_map, List.length_range] at hw
      have := hw.1
      unfold reachBytes at this
      omega
    have hrow : ∀ i, i < n → ∃ r : Rg, (W.cell? (x0.add (i * 2)) = some (.int .i64 r.1) ∧ W.cell? ⟨(x0.add (i * 2)).block, (x0.add (i * 2)).off + 1, none⟩ = some (.int .i64 r.2)) ∧ x0.block < W.heap.size := fun i hi => by
      obtain ⟨cs', hc, ht⟩ := hcell i (by omega)
      obtain ⟨a, b, rfl⟩ := reg_of_cells ht
      rw [pcells_reg] at hc
      have hj := (World.cells?_some hc).2.2
      have h0 : W.cell? (x0.add (i * 2)) = some (.int .i64 a) := by
        have := hj 0 (by decide)
        rw [add_zero'] at this
        rw [this]; simp
      have h1 : W.cell? ⟨(x0.add (i * 2)).block, (x0.add (i * 2)).off + 1, none⟩ = some (.int .i64 b) := by
        have := hj 1 (by decide)
        rw [add_pos' _ _ (by decide)] at this
        rw [this]; simp
      refine ⟨(a, b), ⟨h0, h1⟩, ?_⟩
      have := World.block_lt_of_cell? _ _ h0
      rwa [add_block] at this
    obtain ⟨S, hSl, hS⟩ := list_choose ((0, 0) : Rg) _ n hrow
    subst hSl
    refine ⟨_, S, hcs, some x0, m, rfl, hlen, hl, ⟨by unfold maxLen at hm; omega, fun h => by cases h⟩, ?_⟩
    by_cases h0 : S.length = 0
    · exact Or.inl h0
    · exact Or.inr ⟨x0, rfl, (hS 0 (by omega)).2, fun i hi => (hS i hi).1⟩
set_option maxRecDepth 100000 in
theorem reg_arg {H : Type} {enc : TypeId × Value → H} {W : World} {base : Nat} {v : Value} {d : DataW H} {p : List MemPlace} (_ : (d.weights Try.prog 51).all (· ≤ reachBytes) = true)
    (hv : Value.okWide Try.prog W .any base 51 v) (h : DataW.Trod enc Try.prog W 0 (fun _ => true) true 51 v d p) : ∃ x : Rg, v = .agg #[.int .i64 x.1, .int .i64 x.2] := by
  obtain ⟨cs, rfl, hsz⟩ := okWide_struct Try.underlying51 hv
  obtain ⟨fuel, hf⟩ := h
  obtain ⟨a, b, hc⟩ := reg_of_cells hf
  obtain ⟨l⟩ := cs
  simp [Value.cells] at hc
  subst hc
  exact ⟨(a, b), rfl⟩
set_option maxRecDepth 100000 in
theorem conf_arg {H : Type} {enc : TypeId × Value → H} {W : World} {base : Nat} {v : Value} {d : DataW H} {p : List MemPlace} (hw : (d.weights Try.prog 24).all (· ≤ reachBytes) = true)
    (hv : Value.okWide Try.prog W .any base 24 v) (h : DataW.Trod enc Try.prog W 0 (fun _ => true) true 24 v d p) : ∃ x, CfV W v x := by
  obtain ⟨cs, rfl, hsz⟩ := okWide_struct Try.underlying24 hv
  obtain ⟨fuel, hf⟩ := h
  obtain ⟨xs, m, _, hx, hl, hlen, hfd⟩ := DataW.trod_struct Try.underlying24 hf
  obtain ⟨l⟩ := cs
  have hl7 : l.length = 7 := hsz.trans pcells_conf
  obtain ⟨c0, c1, c2, c3, c4, c5, c6, rfl⟩ := plen7 hl7
  obtain ⟨y0, y1, y2, y3, y4, y5, y6, rfl⟩ := plen7 hlen
  have g0 := hfd 0 _ rfl
  have g1 := hfd 1 _ rfl
  have g2 := hfd 2 _ rfl
  have g3 := hfd 3 _ rfl
  have g4 := hfd 4 _ rfl
  have g5 := hfd 5 _ rfl
  have g6 := hfd 6 _ rfl
  simp [Value.cells, pcells_int, pcells_i64, pcells_bool, pcells_regs] at g0 g1 g2 g3 g4 g5 g6
  obtain ⟨a0, z0, _, _⟩ := DataW.trod_int Try.underlying3 g0
  obtain ⟨a1, z1, _, _⟩ := DataW.trod_int Try.underlying3 g1
  obtain ⟨a2, z2, _, _⟩ := DataW.trod_int Try.underlying3 g2
  obtain ⟨a3, z3, _, _⟩ := DataW.trod_int Try.underlying2 g3
  obtain ⟨a4, z4, _⟩ := DataW.trod_bool Try.underlying4 g4
  obtain ⟨a5, z5, _, _⟩ := DataW.trod_int Try.underlying3 g5
  have hd : d = .agg ([y0, y1, y2, y3, y4, y5, y6].map (·.1)) := (Prod.mk.inj hx).1
  have hR : (y6.1.weights Try.prog 22).all (· ≤ reachBytes) = true := by
    rw [hd] at hw
    simp [DataW.weights, DataW.weightsEach, Try.underlying24] at hw
    simp only [List.all_eq_true, decide_eq_true_eq]
    exact hw.2.2.2.2.2.2
  obtain ⟨v6, l6, z6, h6⟩ := open_regs hR g6
  simp only [List.cons.injEq, and_true] at z0 z1 z2 z3 z4 z5 z6
  subst z0 z1 z2 z3 z4 z5 z6
  exact ⟨⟨a0, a1, a2, a3, a4, a5, l6⟩, _, rfl, h6⟩
end Go.Proofs.Ytceogkgnapdeiaa.Pc
