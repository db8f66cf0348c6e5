/- SigJoins holds of every two signatures: the program's Union, Meet and Meets answer as the document says; the row lists the table of lowest bits as the program's text lays it, and the card ties it; no other condition. -/
import Derived.Test.YthenkidhcfholaaDoorRows
import Derived.Test.YthenkidhcfholaaDoorCards
import Derived.Test.YthenkidhcfholaaDoorTie
import Derived.WalkKit
import Derived.ProofKit
import Derived.OpenShut
import Derived.ShutString
import Derived.ChangeOld
import Derived.Below
import Derived.Deep.DeepHandedRow
import Derived.Lib.LaidTab
import Derived.SevenTiedAt
import Derived.Test.YthenkidhcfholaaDoorSigS
namespace Go.Proofs.YthenkidhcfholaaDoor.sigJoins
open Go.ChangeShapes Go.WideShapes Go.ChangeAt Go.RowKit
open Go.ChangeMaps (open_string shut_string)
set_option linter.unusedVariables false

theorem own : ownKnob Tryd.prog.godebug = none := by kernel_rfl
theorem laidOut : laidOutB Tryd.prog = true := by kernel_rfl

/-! ### the walk -/
set_option maxRecDepth 10000 in
theorem walk (s0 s1 : List Nat) (w : World) (hT : Tab w) (w0 : Ok s0) (w1 : Ok s1) :
    Calls Tryd.prog 4 #[sv s0, sv s1] w fun e w' => e = .returned (.bool true) ∧ Below w.heap.size w w' := by
  have HT : Hid (Tab w) := hT
  have HU : Hid (∀ w, Calls Tryd.prog 16 #[sv s0, sv s1] w fun e w' => e = .returned (sv (uni s0 s1)) ∧ Below w.heap.size w w') := fun w => union_any _ _ w0 w1 w
  have HV : Hid (∀ w, Calls Tryd.prog 17 #[sv s0, sv s1] w fun e w' => e = .returned (sv (uni s0 s1)) ∧ Below w.heap.size w w') := fun w => runion_any _ _ w0 w1 w
  have HM : Hid (∀ w, Calls Tryd.prog 18 #[sv s0, sv s1] w fun e w' => e = .returned (sv (meet s0 s1)) ∧ Below w.heap.size w w') := fun w => meet_any _ _ w0 w1 w
  have HN : Hid (∀ w, Calls Tryd.prog 19 #[sv s0, sv s1] w fun e w' => e = .returned (sv (meet s0 s1)) ∧ Below w.heap.size w w') := fun w => rmeet_any _ _ w0 w1 w
  have HI : Hid (∀ w, Calls Tryd.prog 20 #[sv s0, sv s1] w fun e w' => e = .returned (.bool (!(meet s0 s1 == nought))) ∧ Below w.heap.size w w') := fun w => meets_any _ _ w0 w1 w
  have HJ : Hid (∀ w, Calls Tryd.prog 21 #[sv s0, sv s1] w fun e w' => e = .returned (.bool (!(meet s0 s1 == nought))) ∧ Below w.heap.size w w') := fun w => rmeets_any _ _ w0 w1 w
  have hqu := fun w => eql_sig (uni s0 s1) (uni s0 s1) (ok_uni w0 w1).1 (ok_uni w0 w1).1 w
  have hqm := fun w => eql_sig (meet s0 s1) (meet s0 s1) (ok_meet w0 w1).1 (ok_meet w0 w1).1 w
  have hza : (sc s0).size = 8 := by rw [sc_size]; exact w0.1
  have hzb : (sc s1).size = 8 := by rw [sc_size]; exact w1.1
  have hzu : (sc (uni s0 s1)).size = 8 := by rw [sc_size]; exact (ok_uni w0 w1).1
  have hzm : (sc (meet s0 s1)).size = 8 := by rw [sc_size]; exact (ok_meet w0 w1).1
  have h1u := sc_one (uni s0 s1)
  have h1m := sc_one (meet s0 s1)
  simp only [beq_self_eq_true] at hqu hqm
  unfold sv at *
  clear hT w0 w1
  generalize (!(meet s0 s1 == nought)) = r at *
  generalize sc (uni s0 s1) = cu at *
  generalize sc (meet s0 s1) = cm at *
  generalize sc s0 = ca at *
  generalize sc s1 = cb at *
  have hpa := pack8 ca hza
  have hpb := pack8 cb hzb
  have hpu := pack8 cu hzu
  have hpm := pack8 cm hzm
  have hsu := fun (w : World) (old : Array Value) (ho : old.size = 8) => store_1_0 (P := Tryd.prog) w 25 old cu ho hzu h1u
  have hsm := fun (w : World) (old : Array Value) (ho : old.size = 8) => store_1_0 (P := Tryd.prog) w 25 old cm ho hzm h1m
  go_enter Tryd.func4, Tryd.ntmps4
  go_wp2_with fail
  refine (shown_any _ (HT.out.later (below_a2 _ _ _))).mono ?_
  rintro e x1 ⟨rfl, hb⟩
  have HL1 : Hid (Below w.heap.size w x1) := below_then (below_a2 _ _ _) hb
  have HR1_a : Hid (x1.heap[w.heap.size]? = some (.cells ca 25 (0, 0))) := row_later (heap_alloc2_old _ _ _) hb
  have HR1_b : Hid (x1.heap[w.heap.size + 1]? = some (.cells cb 25 (0, 0))) := row_later (heap_alloc2_new _ _ _) hb
  clear hb
  have c_a := row_cells (w := x1) HR1_a.out hza
  have c_b := row_cells (w := x1) HR1_b.out hzb
  go_wp2_with fail
  refine (HU.out _).mono ?_
  rintro e x2 ⟨rfl, hb⟩
  have HL2 : Hid (Below w.heap.size w x2) := below_then HL1.out hb
  have HR2_a : Hid (x2.heap[w.heap.size]? = some (.cells ca 25 (0, 0))) := row_later HR1_a.out hb
  have HR2_b : Hid (x2.heap[w.heap.size + 1]? = some (.cells cb 25 (0, 0))) := row_later HR1_b.out hb
  clear hb c_a c_b
  have HS2_a : Hid ((x2.alloc (.cells cu 25)).heap[w.heap.size]? = some (.cells ca 25 (0, 0))) := row_later HR2_a.out (below_a1 _ _)
  have HS2_b : Hid ((x2.alloc (.cells cu 25)).heap[w.heap.size + 1]? = some (.cells cb 25 (0, 0))) := row_later HR2_b.out (below_a1 _ _)
  have c_a := row_cells (w := (x2.alloc (.cells cu 25))) HS2_a.out hza
  have c_b := row_cells (w := (x2.alloc (.cells cu 25))) HS2_b.out hzb
  go_wp2_with fail
  refine (HV.out _).mono ?_
  rintro e x3 ⟨rfl, hb⟩
  have HL3 : Hid (Below w.heap.size w x3) := below_then (below_alloc HL2.out _) hb
  have HR3_a : Hid (x3.heap[w.heap.size]? = some (.cells ca 25 (0, 0))) := row_later HS2_a.out hb
  have HR3_b : Hid (x3.heap[w.heap.size + 1]? = some (.cells cb 25 (0, 0))) := row_later HS2_b.out hb
  have HR3_u : Hid (x3.heap[x2.heap.size]? = some (.cells cu 25 (0, 0))) := row_later (heap_alloc_new _ _) hb
  clear hb c_a c_b
  have HS3_a : Hid ((x3.alloc (.cells cu 25)).heap[w.heap.size]? = some (.cells ca 25 (0, 0))) := row_later HR3_a.out (below_a1 _ _)
  have HS3_b : Hid ((x3.alloc (.cells cu 25)).heap[w.heap.size + 1]? = some (.cells cb 25 (0, 0))) := row_later HR3_b.out (below_a1 _ _)
  have HS3_u : Hid ((x3.alloc (.cells cu 25)).heap[x2.heap.size]? = some (.cells cu 25 (0, 0))) := row_later HR3_u.out (below_a1 _ _)
  have c_a := row_cells (w := (x3.alloc (.cells cu 25))) HS3_a.out hza
  have c_b := row_cells (w := (x3.alloc (.cells cu 25))) HS3_b.out hzb
  go_wp2_with fail
  refine (HM.out _).mono ?_
  rintro e x4 ⟨rfl, hb⟩
  have HL4 : Hid (Below w.heap.size w x4) := below_then (below_alloc HL3.out _) hb
  have HR4_a : Hid (x4.heap[w.heap.size]? = some (.cells ca 25 (0, 0))) := row_later HS3_a.out hb
  have HR4_b : Hid (x4.heap[w.heap.size + 1]? = some (.cells cb 25 (0, 0))) := row_later HS3_b.out hb
  have HR4_u : Hid (x4.heap[x2.heap.size]? = some (.cells cu 25 (0, 0))) := row_later HS3_u.out hb
  have HR4_v : Hid (x4.heap[x3.heap.size]? = some (.cells cu 25 (0, 0))) := row_later (heap_alloc_new _ _) hb
  clear hb c_a c_b
  have HS4_a : Hid ((x4.alloc (.cells cm 25)).heap[w.heap.size]? = some (.cells ca 25 (0, 0))) := row_later HR4_a.out (below_a1 _ _)
  have HS4_b : Hid ((x4.alloc (.cells cm 25)).heap[w.heap.size + 1]? = some (.cells cb 25 (0, 0))) := row_later HR4_b.out (below_a1 _ _)
  have HS4_u : Hid ((x4.alloc (.cells cm 25)).heap[x2.heap.size]? = some (.cells cu 25 (0, 0))) := row_later HR4_u.out (below_a1 _ _)
  have HS4_v : Hid ((x4.alloc (.cells cm 25)).heap[x3.heap.size]? = some (.cells cu 25 (0, 0))) := row_later HR4_v.out (below_a1 _ _)
  have c_a := row_cells (w := (x4.alloc (.cells cm 25))) HS4_a.out hza
  have c_b := row_cells (w := (x4.alloc (.cells cm 25))) HS4_b.out hzb
  go_wp2_with fail
  refine (HN.out _).mono ?_
  rintro e x5 ⟨rfl, hb⟩
  have HL5 : Hid (Below w.heap.size w x5) := below_then (below_alloc HL4.out _) hb
  have HR5_a : Hid (x5.heap[w.heap.size]? = some (.cells ca 25 (0, 0))) := row_later HS4_a.out hb
  have HR5_b : Hid (x5.heap[w.heap.size + 1]? = some (.cells cb 25 (0, 0))) := row_later HS4_b.out hb
  have HR5_u : Hid (x5.heap[x2.heap.size]? = some (.cells cu 25 (0, 0))) := row_later HS4_u.out hb
  have HR5_v : Hid (x5.heap[x3.heap.size]? = some (.cells cu 25 (0, 0))) := row_later HS4_v.out hb
  have HR5_m : Hid (x5.heap[x4.heap.size]? = some (.cells cm 25 (0, 0))) := row_later (heap_alloc_new _ _) hb
  clear hb c_a c_b
  have HS5_a : Hid ((x5.alloc (.cells cm 25)).heap[w.heap.size]? = some (.cells ca 25 (0, 0))) := row_later HR5_a.out (below_a1 _ _)
  have HS5_b : Hid ((x5.alloc (.cells cm 25)).heap[w.heap.size + 1]? = some (.cells cb 25 (0, 0))) := row_later HR5_b.out (below_a1 _ _)
  have HS5_u : Hid ((x5.alloc (.cells cm 25)).heap[x2.heap.size]? = some (.cells cu 25 (0, 0))) := row_later HR5_u.out (below_a1 _ _)
  have HS5_v : Hid ((x5.alloc (.cells cm 25)).heap[x3.heap.size]? = some (.cells cu 25 (0, 0))) := row_later HR5_v.out (below_a1 _ _)
  have HS5_m : Hid ((x5.alloc (.cells cm 25)).heap[x4.heap.size]? = some (.cells cm 25 (0, 0))) := row_later HR5_m.out (below_a1 _ _)
  have c_a := row_cells (w := (x5.alloc (.cells cm 25))) HS5_a.out hza
  have c_b := row_cells (w := (x5.alloc (.cells cm 25))) HS5_b.out hzb
  go_wp2_with fail
  refine (HI.out _).mono ?_
  rintro e x6 ⟨rfl, hb⟩
  have HL6 : Hid (Below w.heap.size w x6) := below_then (below_alloc HL5.out _) hb
  have HR6_a : Hid (x6.heap[w.heap.size]? = some (.cells ca 25 (0, 0))) := row_later HS5_a.out hb
  have HR6_b : Hid (x6.heap[w.heap.size + 1]? = some (.cells cb 25 (0, 0))) := row_later HS5_b.out hb
  have HR6_u : Hid (x6.heap[x2.heap.size]? = some (.cells cu 25 (0, 0))) := row_later HS5_u.out hb
  have HR6_v : Hid (x6.heap[x3.heap.size]? = some (.cells cu 25 (0, 0))) := row_later HS5_v.out hb
  have HR6_m : Hid (x6.heap[x4.heap.size]? = some (.cells cm 25 (0, 0))) := row_later HS5_m.out hb
  have HR6_n : Hid (x6.heap[x5.heap.size]? = some (.cells cm 25 (0, 0))) := row_later (heap_alloc_new _ _) hb
  clear hb c_a c_b
  have c_a := row_cells (w := x6) HR6_a.out hza
  have c_b := row_cells (w := x6) HR6_b.out hzb
  go_wp2_with fail
  refine (HJ.out _).mono ?_
  rintro e x7 ⟨rfl, hb⟩
  have HL7 : Hid (Below w.heap.size w x7) := below_then HL6.out hb
  have HR7_u : Hid (x7.heap[x2.heap.size]? = some (.cells cu 25 (0, 0))) := row_later HR6_u.out hb
  have HR7_v : Hid (x7.heap[x3.heap.size]? = some (.cells cu 25 (0, 0))) := row_later HR6_v.out hb
  have HR7_m : Hid (x7.heap[x4.heap.size]? = some (.cells cm 25 (0, 0))) := row_later HR6_m.out hb
  have HR7_n : Hid (x7.heap[x5.heap.size]? = some (.cells cm 25 (0, 0))) := row_later HR6_n.out hb
  clear hb c_a c_b
  have c_u := row_cells (w := x7) HR7_u.out hzu
  have c_v := row_cells (w := x7) HR7_v.out hzu
  have c_m := row_cells (w := x7) HR7_m.out hzm
  have c_n := row_cells (w := x7) HR7_n.out hzm
  go_wp2
  go_ret
  exact ⟨by simp, HL7.out⟩

/-! ### the row -/
theorem contract (H : Type) (enc : TypeId × Value → H) (W : World) (base : Nat) (args : Array Value) (ds gs : List (DataW H)) (before : List MemPlace)
    (hval : ∀ (j : Nat) t v, Tryd.f4.params[j]? = some t → args[j]? = some v → Value.okWide Tryd.prog W .any base t v)
    (hW : DataW.Whole enc Tryd.prog Tryd.f4.params.toList Rows.sigJoinsSpec.vars false W args.toList ds gs before)
    (hR : (DataW.weightsEach Tryd.prog (Tryd.f4.params.toList ++ []) (ds ++ gs)).all (· ≤ reachBytes) = true)
    (hL : laidMetH Tryd.prog Rows.sigJoinsRow.laid W) :
    Calls Tryd.prog 4 args W fun e W' => ∃ v, e = .returned v ∧ Rows.sigJoinsSpec.post enc Tryd.prog Tryd.f4 false true false false W args v W' := by
  have hW' := hW
  obtain ⟨p, q, hA0, hV, rfl, hfz, hnd⟩ := hW
  have hA : DataW.TrodAll enc Tryd.prog W 0 (fun _ => true) true Tryd.f4.params.toList args.toList ds p := hA0
  rw [Tryd.params4] at hA hval
  obtain ⟨v0, vs0, d0, ds0, p0, q0, hargs, rfl, rfl, h0, r0⟩ := trodAll_cons hA
  obtain ⟨v1, vs1, d1, ds1, p1, q1, rfl, rfl, rfl, h1, r1⟩ := trodAll_cons r0
  obtain ⟨rfl, rfl, rfl⟩ := trodAll_nil r1
  obtain rfl : args = #[v0, v1] := by cases args; simp_all
  obtain ⟨rfl, rfl⟩ := trodVars_none hV
  have k0 := h0
  have lt0 : ∀ x ∈ p0, x.block < W.heap.size := by obtain ⟨m, hm⟩ := k0; exact DataW.trod_lt m _ _ _ hm
  obtain ⟨s0, w0, rfl⟩ := open_sig (hval 0 25 v0 rfl rfl) h0
  have k1 := h1
  have lt1 : ∀ x ∈ p1, x.block < W.heap.size := by obtain ⟨m, hm⟩ := k1; exact DataW.trod_lt m _ _ _ hm
  obtain ⟨s1, w1, rfl⟩ := open_sig (hval 1 25 v1 rfl rfl) h1
  clear hA0
  refine (walk s0 s1 W (tab_laid hL) w0 w1).mono fun e W' ⟨he, bel⟩ => ?_
  subst he
  exact ⟨_, rfl, _, _, _, [], _, [], hW', trodAll_mk1 (shut_bool Tryd.underlying4 _), (trodAll_cons_mk (Below.trod laidOut (by kernel_rfl) (of_decide_eq_true (by kernel_rfl)) k0 bel lt0) (trodAll_cons_mk (Below.trod laidOut (by kernel_rfl) (of_decide_eq_true (by kernel_rfl)) k1 bel lt1) trodAll_mk0)), rfl, bel.frame _, fun h => by cases h⟩

theorem laid_met (os : Os) : laidMet Tryd.prog Rows.sigJoinsRow.laid (World.forCall { World.holding Tryd.prog os ⟨#[], #[], []⟩ with heap := (World.holding Tryd.prog os ⟨#[], #[], []⟩).heap.modify 0 fun | .cells _ t frozen => .cells (tabZ.map fun z => Value.int .u8 z).toArray t frozen | o => o } (fun _ _ => 0) ⟨#[], #[.agg #[.int .u64 0, .int .u64 0, .int .u64 0, .int .u64 0, .int .u64 0, .int .u64 0, .int .u64 0, .int .u64 0], .agg #[.int .u64 0, .int .u64 0, .int .u64 0, .int .u64 0, .int .u64 0, .int .u64 0, .int .u64 0, .int .u64 0]], []⟩).memory :=
  laidMet_of_run' 8 (by kernel_rfl) (by kernel_rfl)
theorem reads (os : Os) {H : Type} (enc : TypeId × Value → H) : ∃ places, DataW.whole enc Tryd.prog (World.forCall { World.holding Tryd.prog os ⟨#[], #[], []⟩ with heap := (World.holding Tryd.prog os ⟨#[], #[], []⟩).heap.modify 0 fun | .cells _ t frozen => .cells (tabZ.map fun z => Value.int .u8 z).toArray t frozen | o => o } (fun _ _ => 0) ⟨#[], #[.agg #[.int .u64 0, .int .u64 0, .int .u64 0, .int .u64 0, .int .u64 0, .int .u64 0, .int .u64 0, .int .u64 0], .agg #[.int .u64 0, .int .u64 0, .int .u64 0, .int .u64 0, .int .u64 0, .int .u64 0, .int .u64 0, .int .u64 0]], []⟩).memory Tryd.f4.params.toList Rows.sigJoinsSpec.vars false [.agg #[.int .u64 0, .int .u64 0, .int .u64 0, .int .u64 0, .int .u64 0, .int .u64 0, .int .u64 0, .int .u64 0], .agg #[.int .u64 0, .int .u64 0, .int .u64 0, .int .u64 0, .int .u64 0, .int .u64 0, .int .u64 0, .int .u64 0]] 8 = some ([.agg [.lit (.int .u64 0), .lit (.int .u64 0), .lit (.int .u64 0), .lit (.int .u64 0), .lit (.int .u64 0), .lit (.int .u64 0), .lit (.int .u64 0), .lit (.int .u64 0)], .agg [.lit (.int .u64 0), .lit (.int .u64 0), .lit (.int .u64 0), .lit (.int .u64 0), .lit (.int .u64 0), .lit (.int .u64 0), .lit (.int .u64 0), .lit (.int .u64 0)]], [], places) :=
  ⟨[], by kernel_rfl⟩

set_option maxRecDepth 100000 in
theorem lifted (os : Os) (started : os.Started) (H : Type) (enc : TypeId × Value → H) (F : Stop.Interp) :
    ReturnsInHanded {} Tryd.checked os 4 .any ((OpenSpec.ofChange Rows.sigJoinsSpec).preRow enc Tryd.prog Tryd.f4 Rows.sigJoinsRow.domain false Rows.sigJoinsRow.laid) (((OpenSpec.ofChange Rows.sigJoinsSpec).at F).post enc Tryd.prog Tryd.f4 false true false false) := by
  obtain ⟨places, hx⟩ := reads os enc
  refine returnsInHanded_of_row (C := Tryd.checked) (s := OpenSpec.ofChange Rows.sigJoinsSpec) own started (by kernel_rfl) Tryd.func4
    (witness_row_at (enc := enc) (C := Tryd.checked) false ({ World.holding Tryd.prog os ⟨#[], #[], []⟩ with heap := (World.holding Tryd.prog os ⟨#[], #[], []⟩).heap.modify 0 fun | .cells _ t frozen => .cells (tabZ.map fun z => Value.int .u8 z).toArray t frozen | o => o }) #[.agg #[.int .u64 0, .int .u64 0, .int .u64 0, .int .u64 0, .int .u64 0, .int .u64 0, .int .u64 0, .int .u64 0], .agg #[.int .u64 0, .int .u64 0, .int .u64 0, .int .u64 0, .int .u64 0, .int .u64 0, .int .u64 0, .int .u64 0]] rfl (by kernel_rfl) (by kernel_rfl) (by kernel_rfl)
      (OpenSpec.preRow_of_cond 8 hx (by kernel_rfl) (fun k hk => by cases hk) (by kernel_rfl) (laid_met os))) ?_
  intro W base args ds gs before hval hW _ hcond hR hL _ _
  exact contract H enc W base args ds gs before hval hW hR hL

theorem said : Rows.SigJoinsSaid :=
  OpenClaim.holds_of_cond 4 Tryd.f4 rfl rfl rfl rfl rfl rfl rfl ⟨rfl, rfl, rfl, rfl, rfl⟩ rfl rfl rfl rfl rfl (by kernel_rfl) Tryd.func4 (by kernel_rfl)
    (of_decide_eq_true (by kernel_rfl)) (by unfold Func.isWrapper; first | (rw [if_pos (by decide +kernel)]; kernel_rfl) | (rw [if_neg (by decide +kernel)]; exact ⟨rfl, rfl⟩))
    (fun os started H enc _ F => by rw [OpenClaim.pre_eq_preRow]; exact lifted os started H enc F)

/-- No parameter wants a stand-in; the looks are off. -/
theorem plain (f : FuncId) (fn : Func) (hf : Tryd.pinned.checked.prog.funcNamed Tryd.f4.name = some f) (hfn : Tryd.pinned.checked.prog.funcs[f]? = some fn) :
    false = Tryd.pinned.checked.prog.looks [] ∧ ∀ (j : Nat) t, fn.params[j]? = some t → Tryd.pinned.checked.prog.wantsStandIn t = false := by
  obtain rfl : f = 4 := Option.some.inj ((show Tryd.prog.funcNamed Tryd.f4.name = some 4 by kernel_rfl).symm.trans hf) |>.symm
  obtain rfl : fn = Tryd.f4 := (Option.some.inj (Tryd.func4.symm.trans hfn)).symm
  refine ⟨by kernel_rfl, fun j t ht => ?_⟩
  rw [Tryd.params4] at ht
  have hm := Array.mem_of_getElem? ht
  have ht : t = 25 ∨ t = 25 := by simpa using hm
  rcases ht with rfl | rfl
  all_goals first
    | exact (show Tryd.prog.wantsStandIn 25 = false by kernel_rfl)

theorem proved : Rows.SigJoinsCardSaid :=
  Claim7.holds_tied_plain_at .later [] _ _ _ _ said (fun _ h => by cases h) (by kernel_rfl) (fun _ h => by cases h) sigJoins_row_tie rfl ⟨rfl, rfl⟩ (by kernel_rfl) rfl plain (by kernel_rfl)
#print axioms proved
end Go.Proofs.YthenkidhcfholaaDoor.sigJoins
