/- A job and a memory's sizes, handed in. -/
import Derived.Test.YthnegagpmkblfaaGreatDoorJPcMPcD
namespace Go.Proofs.YthnegagpmkblfaaGreatDoor.Pj
open Go.ChangeShapes Go.WideShapes Go.ChangeAt Go.RowKit

theorem len4 {α : Type} {l : List α} (h : l.length = 4) : ∃ a b c d, l = [a, b, c, d] := by
  match l, h with
  | [a, b, c, d], _ => exact ⟨a, b, c, d, rfl⟩
theorem len10 {α : Type} {l : List α} (h : l.length = 10) : ∃ a b c d e f g i j k, l = [a, b, c, d, e, f, g, i, j, k] := by
  match l, h with
  | [a, b, c, d, e, f, g, i, j, k], _ => exact ⟨a, b, c, d, e, f, g, i, j, k, rfl⟩
theorem cells_str : Tryz.prog.cellsOf 9 = 1 := by kernel_rfl
theorem cells_odd : Tryz.prog.cellsOf 42 = 10 := by kernel_rfl
set_option maxRecDepth 100000 in
theorem conf_of_cells {H : Type} {enc : TypeId × Value → H} {W : World} {fuel : Nat} {l : List Value} {x : DataW H × List MemPlace} (hw : (x.1.weights Tryz.prog 32).all (· ≤ reachBytes) = true)
    (hf : DataW.trod enc Tryz.prog W 0 (fun _ => true) true fuel 32 l = some x) : ∃ (c : Tl.Pc.Cf) (vr : Value), l = [.int .i64 c.raw, .int .i64 c.ring, .int .i64 c.wrs, .int .i64 c.st, .bool c.multi, .int .i64 c.tries, vr] ∧ Tl.Pc.Rl W vr c.R := by
  obtain ⟨xs, m, _, hx, hl, hlen, hfd⟩ := DataW.trod_struct Tryz.underlying32 hf
  have hl7 : l.length = 7 := by rw [hl, Tl.Pc.pcells_conf]
  obtain ⟨c0, c1, c2, c3, c4, c5, c6, rfl⟩ := Tl.Pc.plen7 hl7
  obtain ⟨y0, y1, y2, y3, y4, y5, y6, rfl⟩ := Tl.Pc.plen7 hlen
  have g0 := hfd 0 _ rfl
  have g1 := hfd 1 _ rfl
  have g2 := hfd 2 _ rfl
  have g3 := hfd 3 _ rfl
  have g4 := hfd 4 _ rfl
  have g5 := hfd 5 _ rfl
  have g6 := hfd 6 _ rfl
  simp [Tl.Pc.pcells_int, Tl.Pc.pcells_i64, Tl.Pc.pcells_bool, Tl.Pc.pcells_regs] at g0 g1 g2 g3 g4 g5 g6
  obtain ⟨a0, z0, _, _⟩ := DataW.trod_int Tryz.underlying3 g0
  obtain ⟨a1, z1, _, _⟩ := DataW.trod_int Tryz.underlying3 g1
  obtain ⟨a2, z2, _, _⟩ := DataW.trod_int Tryz.underlying3 g2
  obtain ⟨a3, z3, _, _⟩ := DataW.trod_int Tryz.underlying2 g3
  obtain ⟨a4, z4, _⟩ := DataW.trod_bool Tryz.underlying4 g4
  obtain ⟨a5, z5, _, _⟩ := DataW.trod_int Tryz.underlying3 g5
  have hd : x.1 = .agg ([y0, y1, y2, y3, y4, y5, y6].map (·.1)) := by rw [hx]
  have hR : (y6.1.weights Tryz.prog 30).all (· ≤ reachBytes) = true := by
    rw [hd] at hw
    simp [DataW.weights, DataW.weightsEach, Tryz.underlying32] at hw
    simp only [List.all_eq_true, decide_eq_true_eq]
    exact hw.2.2.2.2.2.2
  obtain ⟨v6, l6, z6, h6⟩ := Tl.Pc.open_regs hR g6
  simp only [List.cons.injEq, and_true] at z0 z1 z2 z3 z4 z5 z6
  subst z0 z1 z2 z3 z4 z5 z6
  exact ⟨⟨a0, a1, a2, a3, a4, a5, l6⟩, _, rfl, h6⟩
set_option maxRecDepth 100000 in
theorem odd_arg {H : Type} {enc : TypeId × Value → H} {W : World} {base : Nat} {v : Value} {d : DataW H} {p : List MemPlace} (hw : (d.weights Tryz.prog 42).all (· ≤ reachBytes) = true)
    (hv : Value.okWide Tryz.prog W .any base 42 v) (h : DataW.Trod enc Tryz.prog W 0 (fun _ => true) true 42 v d p) :
    ∃ (c : Tl.Pc.Cf) (vr : Value) (s : ByteArray) (a b : Int), v = .agg #[.int .i64 c.raw, .int .i64 c.ring, .int .i64 c.wrs, .int .i64 c.st, .bool c.multi, .int .i64 c.tries, vr, .string s, .int .i64 a, .int .i64 b] ∧ Tl.Pc.Rl W vr c.R := by
  obtain ⟨cs, rfl, hsz⟩ := okWide_struct Tryz.underlying42 hv
  obtain ⟨fuel, hf⟩ := h
  obtain ⟨xs, m, _, hx, hl, hlen, hfd⟩ := DataW.trod_struct Tryz.underlying42 hf
  obtain ⟨l⟩ := cs
  have hl10 : l.length = 10 := hsz.trans cells_odd
  obtain ⟨c0, c1, c2, c3, c4, c5, c6, c7, c8, c9, rfl⟩ := len10 hl10
  obtain ⟨y0, y1, y2, y3, rfl⟩ := len4 hlen
  have g0 := hfd 0 _ rfl
  have g1 := hfd 1 _ rfl
  have g2 := hfd 2 _ rfl
  have g3 := hfd 3 _ rfl
  simp [Value.cells, Tl.Pc.pcells_int, Tl.Pc.pcells_conf, cells_str] at g0 g1 g2 g3
  have hd : d = .agg ([y0, y1, y2, y3].map (·.1)) := (Prod.mk.inj hx).1
  have hC : (y0.1.weights Tryz.prog 32).all (· ≤ reachBytes) = true := by
    rw [hd] at hw
    simp [DataW.weights, DataW.weightsEach, Tryz.underlying42] at hw
    simp only [List.all_eq_true, decide_eq_true_eq]
    exact hw.1
  obtain ⟨c, vr, z0, hr⟩ := conf_of_cells hC g0
  obtain ⟨s, z1, _, _⟩ := DataW.trod_string Tryz.underlying9 g1
  obtain ⟨a, z2, _, _⟩ := DataW.trod_int Tryz.underlying3 g2
  obtain ⟨b, z3, _, _⟩ := DataW.trod_int Tryz.underlying3 g3
  simp only [List.cons.injEq, and_true] at z0 z1 z2 z3
  obtain ⟨rfl, rfl, rfl, rfl, rfl, rfl, rfl⟩ := z0
  subst z1 z2 z3
  exact ⟨c, _, s, a, b, rfl, hr⟩
end Go.Proofs.YthnegagpmkblfaaGreatDoor.Pj
