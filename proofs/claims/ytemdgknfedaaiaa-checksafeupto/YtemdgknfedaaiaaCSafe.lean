/- CheckSafe of the landed program, in its second form: where what is handed in is of bulk at most 1048576: over a ring as the document has it, whatever befalls it between two steps, begun with a start up to which all is complete: where the machine is through, no entry above start up to SEEN shares a bit with what was read, and all up to START are complete; a conflict, an overrun and a wait are told only where they are so; the law answers true, and the input reads as it did. -/
import Derived.Test.YtemdgknfedaaiaaRows
import Derived.Test.YtemdgknfedaaiaaSafB
import Derived.WalkKit
import Derived.ProofKit
import Derived.OpenShut
import Derived.ChangeOld
import Derived.Below
import Derived.JoinedCond
namespace Go.Proofs.Ytemdgknfedaaiaa.checkSafe
open Go.ChangeShapes Go.WideShapes Go.ChangeAt Go.RowKit

theorem own : ownKnob Try.prog.godebug = none := by kernel_rfl
theorem laidOut : laidOutB Try.prog = true := by kernel_rfl
theorem cells_in : Try.prog.cellsOf 77 = 4 := by kernel_rfl
theorem cells_int : Try.prog.cellsOf 3 = 1 := by kernel_rfl
theorem cells_ints : Try.prog.cellsOf 74 = 1 := by kernel_rfl
theorem cells_turns : Try.prog.cellsOf 75 = 1 := by kernel_rfl
theorem len4 {α : Type} {l : List α} (h : l.length = 4) : ∃ a b c d, l = [a, b, c, d] := by
  match l, h with
  | [a, b, c, d], _ => exact ⟨a, b, c, d, rfl⟩
theorem open_ints {H : Type} {enc : TypeId × Value → H} {W : World} {fuel : Nat} {cs : List Value} {x : DataW H × List MemPlace}
    (hf : DataW.trod enc Try.prog W 0 (fun _ => true) true fuel 74 cs = some x) : ∃ v l, cs = [v] ∧ Sg.Lst W v l := by
  rcases Go.Deep.open_slice Try.underlying74 hf with ⟨hcs, hx⟩ | ⟨x0, n, c, m, n', D, Pl, hcs, _, hl, hm, hmm, hx, hcell⟩
  · exact ⟨_, [], hcs, none, _, rfl, by simp, Or.inl rfl⟩
  · have hmc : m = c := by simpa using hmm
    subst hmc
    have hrow : ∀ i, i < n → ∃ z : Int, W.cell? (x0.add i) = some (.int .i64 z) := fun i hi => by
      obtain ⟨cs', hc, ht⟩ := hcell i (by omega)
      obtain ⟨z, hz, _, _⟩ := DataW.trod_int Try.underlying3 ht
      subst hz
      rw [cells_int, Nat.mul_one] at hc
      have h0 : W.cell? ((x0.add i).add 0) = [Value.int .i64 z][0]? := (World.cells?_some hc).2.2 0 (by decide)
      rw [add_zero'] at h0
      exact ⟨z, h0⟩
    obtain ⟨S, hSl, hS⟩ := list_choose (0 : Int) _ n hrow
    have hmx : n ≤ 9223372036854775807 := by unfold maxLen at hm; omega
    refine ⟨_, S, hcs, some x0, m, by rw [hSl], by omega, ?_⟩
    exact Or.inr ⟨x0, rfl, fun i hi => hS i (by omega)⟩

set_option maxRecDepth 100000 in
theorem contract (H : Type) (enc : TypeId × Value → H) (W : World) (base : Nat) (args : Array Value) (ds gs : List (DataW H)) (before : List MemPlace)
    (hval : ∀ (j : Nat) t v, Try.f6.params[j]? = some t → args[j]? = some v → Value.okWide Try.prog W .any base t v)
    (hW : DataW.Whole enc Try.prog Try.f6.params.toList Rows.checkSafeSpec.vars false W args.toList ds gs before)
    (hk : Rows.uptoSmall H (ds ++ gs) = true) :
    Calls Try.prog 6 args W fun e W' => ∃ v, e = .returned v ∧ Rows.checkSafeSpec.post enc Try.prog Try.f6 false true false false W args v W' := by
  have hW' := hW
  obtain ⟨p, q, hA0, hV, rfl, hfz, hnd⟩ := hW
  have hA : DataW.TrodAll enc Try.prog W 0 (fun _ => true) true Try.f6.params.toList args.toList ds p := hA0
  rw [Try.params6] at hA hval
  obtain ⟨v0, vs0, d0, ds0, p0, q0, hargs, rfl, rfl, h0, r0⟩ := trodAll_cons hA
  obtain ⟨rfl, rfl, rfl⟩ := trodAll_nil r0
  obtain rfl : args = #[v0] := by cases args; simp_all
  obtain ⟨rfl, rfl⟩ := trodVars_none hV
  have k0 := h0
  have lt0 : ∀ x ∈ p0, x.block < W.heap.size := by obtain ⟨m, hm⟩ := k0; exact DataW.trod_lt m _ _ _ hm
  obtain ⟨cs, rfl, hsz⟩ := okWide_struct Try.underlying77 (hval 0 77 v0 rfl rfl)
  obtain ⟨fuel, hf⟩ := h0
  obtain ⟨xs, m, _, hx, hl, hlen, hfd⟩ := DataW.trod_struct Try.underlying77 hf
  obtain ⟨l⟩ := cs
  have hl4 : l.length = 4 := hsz.trans cells_in
  obtain ⟨c0, c1, c2, c3, rfl⟩ := len4 hl4
  obtain ⟨y0, y1, y2, y3, rfl⟩ := len4 hlen
  have g0 := hfd 0 _ rfl
  have g1 := hfd 1 _ rfl
  have g2 := hfd 2 _ rfl
  have g3 := hfd 3 _ rfl
  simp [Value.cells, cells_int, cells_ints, cells_turns] at g0 g1 g2 g3
  have hd : d0 = .agg ([y0, y1, y2, y3].map (·.1)) := (Prod.mk.inj hx).1
  have hb := of_decide_eq_true hk
  rw [hd] at hb
  simp only [List.append_nil, Rows.uptoBulkAll, Rows.uptoBulk, List.map_cons, List.map_nil] at hb
  obtain ⟨a0, z0, _, _⟩ := DataW.trod_int Try.underlying3 g0
  obtain ⟨vc, lc, z1, hc⟩ := open_ints g1
  obtain ⟨vf, S1, z2, hS1⟩ := open_turns (x := y2) (by omega) g2
  obtain ⟨vl, S2, z3, hS2⟩ := open_turns (x := y3) (by omega) g3
  simp only [List.cons.injEq, and_true] at z0 z1 z2 z3
  subst z0 z1 z2 z3
  clear hA0
  refine (safe_walk W a0 _ _ _ lc S1 S2 hc hS1 hS2).mono fun e W' ⟨he, bel⟩ => ?_
  subst he
  exact ⟨_, rfl, _, _, _, [], _, [], hW', trodAll_mk1 (shut_bool Try.underlying4 _), (trodAll_cons_mk (Below.trod laidOut (by kernel_rfl) (of_decide_eq_true (by kernel_rfl)) k0 bel lt0) trodAll_mk0), rfl, bel.frame _, fun h => by cases h⟩

set_option maxRecDepth 100000 in
theorem lifted (os : Os) (started : os.Started) (H : Type) (enc : TypeId × Value → H) (F : Stop.Interp) :
    ReturnsInHanded {} Try.checked os 6 .any ((Rows.OpenSpec.upto Rows.checkSafeSpec).pre6 enc Try.prog Try.f6 Rows.checkSafeUptoRow.domain false) (((Rows.OpenSpec.upto Rows.checkSafeSpec).at F).post enc Try.prog Try.f6 false true false false) := by
  refine returnsInHanded_of_cond (C := Try.checked) (s := Rows.OpenSpec.upto Rows.checkSafeSpec) (k := Rows.uptoSmall) rfl own started (by kernel_rfl) Try.func6
    (OpenSpec.witness (enc := enc) (C := Try.checked) (s := Rows.OpenSpec.upto Rows.checkSafeSpec) (k := Rows.uptoSmall) rfl false ⟨#[], #[.agg #[.int .i64 0, .slice none 0 0, .slice none 0 0, .slice none 0 0]], []⟩ 8 (by kernel_rfl) (by kernel_rfl) (by kernel_rfl)
      (x := ([.agg [.lit (.int .i64 0), .nil, .nil, .nil]], [], [])) (by kernel_rfl) rfl (by kernel_rfl)) ?_
  intro W base args ds gs before hval hW _ hk _
  exact contract H enc W base args ds gs before hval hW hk

theorem over : Rows.checkSafeUptoRow.holds Try.pinned (Rows.OpenSpec.upto Rows.checkSafeSpec) :=
  OpenClaim.holds_of_cond 6 Try.f6 rfl rfl rfl rfl rfl rfl rfl ⟨rfl, rfl, rfl, rfl, rfl⟩ rfl rfl rfl rfl rfl (by kernel_rfl) Try.func6 (by kernel_rfl)
    (of_decide_eq_true (by kernel_rfl)) (by unfold Func.isWrapper; first | (rw [if_pos (by decide +kernel)]; kernel_rfl) | (rw [if_neg (by decide +kernel)]; exact ⟨rfl, rfl⟩))
    (fun os started H enc _ F => lifted os started H enc F)

theorem proved : Rows.CheckSafeUptoSaid :=
  over
#print axioms proved
end Go.Proofs.Ytemdgknfedaaiaa.checkSafe
