/- CommitSafe of the landed program, in its second form: where what is handed in is of bulk at most 1048576: over a ring as the document has it, whatever befalls it between two steps, begun with a start up to which all is complete: the stamp that it publishes is the next one, no entry between its start and that one shares a bit with what was read, the slot was free, and without Multi all were complete; it is refused only where it may be, and waits only while an entry isn't complete; the law answers true, and the input reads as it did. -/
import Derived.Test.YtfbbcjlbelnfaaaRows
import Derived.Test.YtfbbcjlbelnfaaaCmH
import Derived.WalkKit
import Derived.ProofKit
import Derived.OpenShut
import Derived.ChangeOld
import Derived.Below
import Derived.JoinedCond
namespace Go.Proofs.Ytfbbcjlbelnfaaa.commitSafe
open Go.ChangeShapes Go.WideShapes Go.ChangeAt Go.RowKit

theorem own : ownKnob Try.prog.godebug = none := by kernel_rfl
theorem laidOut : laidOutB Try.prog = true := by kernel_rfl
theorem cells_in : Try.prog.cellsOf 66 = 6 := by kernel_rfl
theorem cells_int : Try.prog.cellsOf 3 = 1 := by kernel_rfl
theorem cells_ints : Try.prog.cellsOf 63 = 1 := by kernel_rfl
theorem cells_bool : Try.prog.cellsOf 4 = 1 := by kernel_rfl
theorem cells_turns : Try.prog.cellsOf 64 = 1 := by kernel_rfl
theorem len6 {α : Type} {l : List α} (h : l.length = 6) : ∃ a b c d e f, l = [a, b, c, d, e, f] := by
  match l, h with
  | [a, b, c, d, e, f], _ => exact ⟨a, b, c, d, e, f, rfl⟩
theorem open_ints {H : Type} {enc : TypeId × Value → H} {W : World} {fuel : Nat} {cs : List Value} {x : DataW H × List MemPlace}
    (hf : DataW.trod enc Try.prog W 0 (fun _ => true) true fuel 63 cs = some x) : ∃ v l, cs = [v] ∧ Sg.Lst W v l := by
  rcases Go.Deep.open_slice Try.underlying63 hf with ⟨hcs, hx⟩ | ⟨x0, n, c, m, n', D, Pl, hcs, _, hl, hm, hmm, hx, hcell⟩
  · exact ⟨_, [], hcs, none, _, rfl, by simp, Or.inl rfl⟩
  · have hmc : m = c := by simpa using hmm
    subst hmc
    have hrow : ∀ i, i < n → ∃ z : Int, W.cell? (x0.add i) = some (.int .i64 z) := fun i hi => by
      obtain ⟨cs', hc, ht⟩ := hcell i (by omega)
      obtain ⟨z, hz, _, _⟩ := DataW.trod_int Try.underlying3 ht
      subst hz
      rw [cells_int, Nat.mul_one] at hc
      have h0 : W.cell? ((x0.add i).add 0) = [Value.int .i64 z][0]? := (World.cells?_some hc).2.2 0 (by decide)
      rw [add_zero'] at h0
      exact ⟨z, h0⟩
    obtain ⟨S, hSl, hS⟩ := list_choose (0 : Int) _ n hrow
    have hmx : n ≤ 9223372036854775807 := by unfold maxLen at hm; omega
    refine ⟨_, S, hcs, some x0, m, by rw [hSl], by omega, ?_⟩
    exact Or.inr ⟨x0, rfl, fun i hi => hS i (by omega)⟩

set_option maxRecDepth 100000 in
theorem contract (H : Type) (enc : TypeId × Value → H) (W : World) (base : Nat) (args : Array Value) (ds gs : List (DataW H)) (before : List MemPlace)
    (hval : ∀ (j : Nat) t v, Try.f4.params[j]? = some t → args[j]? = some v → Value.okWide Try.prog W .any base t v)
    (hW : DataW.Whole enc Try.prog Try.f4.params.toList Rows.commitSafeSpec.vars false W args.toList ds gs before)
    (hk : Rows.uptoSmall H (ds ++ gs) = true) :
    Calls Try.prog 4 args W fun e W' => ∃ v, e = .returned v ∧ Rows.commitSafeSpec.post enc Try.prog Try.f4 false true false false W args v W' := by
  have hW' := hW
  obtain ⟨p, q, hA0, hV, rfl, hfz, hnd⟩ := hW
  have hA : DataW.TrodAll enc Try.prog W 0 (fun _ => true) true Try.f4.params.toList args.toList ds p := hA0
  rw [Try.params4] at hA hval
  obtain ⟨v0, vs0, d0, ds0, p0, q0, hargs, rfl, rfl, h0, r0⟩ := trodAll_cons hA
  obtain ⟨rfl, rfl, rfl⟩ := trodAll_nil r0
  obtain rfl : args = #[v0] := by cases args; simp_all
  obtain ⟨rfl, rfl⟩ := trodVars_none hV
  have k0 := h0
  have lt0 : ∀ x ∈ p0, x.block < W.heap.size := by obtain ⟨m, hm⟩ := k0; exact DataW.trod_lt m _ _ _ hm
  obtain ⟨cs, rfl, hsz⟩ := okWide_struct Try.underlying66 (hval 0 66 v0 rfl rfl)
  obtain ⟨fuel, hf⟩ := h0
  obtain ⟨xs, m, _, hx, hl, hlen, hfd⟩ := DataW.trod_struct Try.underlying66 hf
  obtain ⟨l⟩ := cs
  have hl6 : l.length = 6 := hsz.trans cells_in
  obtain ⟨c0, c1, c2, c3, c4, c5, rfl⟩ := len6 hl6
  obtain ⟨y0, y1, y2, y3, y4, y5, rfl⟩ := len6 hlen
  have g0 := hfd 0 _ rfl
  have g1 := hfd 1 _ rfl
  have g2 := hfd 2 _ rfl
  have g3 := hfd 3 _ rfl
  have g4 := hfd 4 _ rfl
  have g5 := hfd 5 _ rfl
  simp [Value.cells, cells_int, cells_ints, cells_turns, cells_bool] at g0 g1 g2 g3 g4 g5
  have hd : d0 = .agg ([y0, y1, y2, y3, y4, y5].map (·.1)) := (Prod.mk.inj hx).1
  have hb := of_decide_eq_true hk
  rw [hd] at hb
  simp only [List.append_nil, Rows.uptoBulkAll, Rows.uptoBulk, List.map_cons, List.map_nil] at hb
  obtain ⟨a0, z0, _, _⟩ := DataW.trod_int Try.underlying3 g0
  obtain ⟨a1, z1, _⟩ := DataW.trod_bool Try.underlying4 g1
  obtain ⟨a2, z2, _, _⟩ := DataW.trod_int Try.underlying3 g2
  obtain ⟨vc, lc, z3, hc⟩ := open_ints g3
  obtain ⟨vf, S1, z4, hS1⟩ := open_turns (x := y4) (by omega) g4
  obtain ⟨vl, S2, z5, hS2⟩ := open_turns (x := y5) (by omega) g5
  simp only [List.cons.injEq, and_true] at z0 z1 z2 z3 z4 z5
  subst z0 z1 z2 z3 z4 z5
  clear hA0
  refine (safe_walk W a0 a1 a2 _ _ _ lc S1 S2 hc hS1 hS2).mono fun e W' ⟨he, bel⟩ => ?_
  subst he
  exact ⟨_, rfl, _, _, _, [], _, [], hW', trodAll_mk1 (shut_bool Try.underlying4 _), (trodAll_cons_mk (Below.trod laidOut (by kernel_rfl) (of_decide_eq_true (by kernel_rfl)) k0 bel lt0) trodAll_mk0), rfl, bel.frame _, fun h => by cases h⟩

set_option maxRecDepth 100000 in
theorem lifted (os : Os) (started : os.Started) (H : Type) (enc : TypeId × Value → H) (F : Stop.Interp) :
    ReturnsInHanded {} Try.checked os 4 .any ((Rows.OpenSpec.upto Rows.commitSafeSpec).pre6 enc Try.prog Try.f4 Rows.commitSafeUptoRow.domain false) (((Rows.OpenSpec.upto Rows.commitSafeSpec).at F).post enc Try.prog Try.f4 false true false false) := by
  refine returnsInHanded_of_cond (C := Try.checked) (s := Rows.OpenSpec.upto Rows.commitSafeSpec) (k := Rows.uptoSmall) rfl own started (by kernel_rfl) Try.func4
    (OpenSpec.witness (enc := enc) (C := Try.checked) (s := Rows.OpenSpec.upto Rows.commitSafeSpec) (k := Rows.uptoSmall) rfl false ⟨#[], #[.agg #[.int .i64 0, .bool false, .int .i64 0, .slice none 0 0, .slice none 0 0, .slice none 0 0]], []⟩ 8 (by kernel_rfl) (by kernel_rfl) (by kernel_rfl)
      (x := ([.agg [.lit (.int .i64 0), .lit (.bool false), .lit (.int .i64 0), .nil, .nil, .nil]], [], [])) (by kernel_rfl) rfl (by kernel_rfl)) ?_
  intro W base args ds gs before hval hW _ hk _
  exact contract H enc W base args ds gs before hval hW hk

theorem over : Rows.commitSafeUptoRow.holds Try.pinned (Rows.OpenSpec.upto Rows.commitSafeSpec) :=
  OpenClaim.holds_of_cond 4 Try.f4 rfl rfl rfl rfl rfl rfl rfl ⟨rfl, rfl, rfl, rfl, rfl⟩ rfl rfl rfl rfl rfl (by kernel_rfl) Try.func4 (by kernel_rfl)
    (of_decide_eq_true (by kernel_rfl)) (by unfold Func.isWrapper; first | (rw [if_pos (by decide +kernel)]; kernel_rfl) | (rw [if_neg (by decide +kernel)]; exact ⟨rfl, rfl⟩))
    (fun os started H enc _ F => lifted os started H enc F)

theorem proved : Rows.CommitSafeUptoSaid :=
  over
#print axioms proved
end Go.Proofs.Ytfbbcjlbelnfaaa.commitSafe
