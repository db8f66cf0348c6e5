/- SigHolds holds of every list of cells, every signature and cell: the program's Of, With and Has answer as the document says; the row lists the table of lowest bits as the program's text lays it, and the card ties it; no other condition. -/
import Derived.Test.YthenkidhcfholaaDoorRows
import Derived.Test.YthenkidhcfholaaDoorCards
import Derived.Test.YthenkidhcfholaaDoorTie
import Derived.WalkKit
import Derived.ProofKit
import Derived.OpenShut
import Derived.ShutString
import Derived.ChangeOld
import Derived.Below
import Derived.Deep.DeepHandedRow
import Derived.Lib.LaidTab
import Derived.SevenTiedAt
import Derived.Test.YthenkidhcfholaaDoorSigS
import Derived.Test.YthenkidhcfholaaDoorSigQ
namespace Go.Proofs.YthenkidhcfholaaDoor.sigHolds
open Go.ChangeShapes Go.WideShapes Go.ChangeAt Go.RowKit
open Go.ChangeMaps (open_string shut_string)
set_option linter.unusedVariables false

theorem own : ownKnob Tryd.prog.godebug = none := by kernel_rfl
theorem laidOut : laidOutB Tryd.prog = true := by kernel_rfl

/-! ### the walk -/
set_option maxRecDepth 10000 in
theorem walk (v0 : Value) (l0 : List Int) (s1 : List Nat) (a2 : Int) (w : World) (hT : Tab w) (w0 : Lst w v0 l0) (w1 : Ok s1) (w2 : (Lit.int .i64 a2).wf = true) :
    Calls Tryd.prog 3 #[v0, sv s1, .int .i64 a2] w fun e w' => e = .returned (.bool true) ∧ Below w.heap.size w w' := by
  have HT : Hid (Tab w) := hT
  have HO : Hid (∀ w, Lst w v0 l0 → Calls Tryd.prog 10 #[v0] w fun e w' => e = .returned (sv (ofAll l0)) ∧ Below w.heap.size w w') := fun w h => of_any w v0 l0 h
  have HQ : Hid (∀ w, Lst w v0 l0 → Calls Tryd.prog 11 #[v0] w fun e w' => e = .returned (sv (ofAll l0)) ∧ Below w.heap.size w w') := fun w h => rof_any w v0 l0 h
  have HU : Hid (∀ w, Calls Tryd.prog 12 #[sv s1, .int .i64 a2] w fun e w' => e = .returned (sv (put s1 (sigN a2))) ∧ Below w.heap.size w w') := fun w => with_any _ w1 _ w
  have HV : Hid (∀ w, Calls Tryd.prog 13 #[sv s1, .int .i64 a2] w fun e w' => e = .returned (sv (put s1 (sigN a2))) ∧ Below w.heap.size w w') := fun w => rwith_any _ w1 _ w
  have HI : Hid (∀ w, Calls Tryd.prog 14 #[sv s1, .int .i64 a2] w fun e w' => e = .returned (.bool (bit s1 (sigN a2))) ∧ Below w.heap.size w w') := fun w => has_any _ w1 _ w
  have HJ : Hid (∀ w, Calls Tryd.prog 15 #[sv s1, .int .i64 a2] w fun e w' => e = .returned (.bool (bit s1 (sigN a2))) ∧ Below w.heap.size w w') := fun w => rhas_any _ w1 _ w
  have hok := ok_ofAll l0
  have hop := ok_put w1 (sigN a2) (sigN_lt a2)
  have hqu := fun w => eql_sig (ofAll l0) (ofAll l0) hok.1 hok.1 w
  have hqm := fun w => eql_sig (put s1 (sigN a2)) (put s1 (sigN a2)) hop.1 hop.1 w
  have hza : (sc s1).size = 8 := by rw [sc_size]; exact w1.1
  have hzu : (sc (ofAll l0)).size = 8 := by rw [sc_size]; exact hok.1
  have hzm : (sc (put s1 (sigN a2))).size = 8 := by rw [sc_size]; exact hop.1
  have h1u := sc_one (ofAll l0)
  have h1m := sc_one (put s1 (sigN a2))
  simp only [beq_self_eq_true] at hqu hqm
  unfold sv at *
  have HX : Hid (Lst w v0 l0) := w0
  clear hT w0 w1 hok hop w2
  generalize bit s1 (sigN a2) = r at *
  generalize sc (ofAll l0) = cu at *
  generalize sc (put s1 (sigN a2)) = cm at *
  generalize sc s1 = ca at *
  have hpa := pack8 ca hza
  have hpu := pack8 cu hzu
  have hpm := pack8 cm hzm
  have hsu := fun (w : World) (old : Array Value) (ho : old.size = 8) => store_1_0 (P := Tryd.prog) w 25 old cu ho hzu h1u
  have hsm := fun (w : World) (old : Array Value) (ho : old.size = 8) => store_1_0 (P := Tryd.prog) w 25 old cm ho hzm h1m
  go_enter Tryd.func3, Tryd.ntmps3
  go_wp2_with fail
  refine (shown_any _ (HT.out.later (below_a1 _ _))).mono ?_
  rintro e x1 ⟨rfl, hb⟩
  have HL1 : Hid (Below w.heap.size w x1) := below_then (below_a1 _ _) hb
  have HR1_a : Hid (x1.heap[w.heap.size]? = some (.cells ca 25 (0, 0))) := row_later (heap_alloc_new _ _) hb
  clear hb
  go_wp2_with fail
  refine (HO.out _ (HX.out.later HL1.out)).mono ?_
  rintro e x2 ⟨rfl, hb⟩
  have HL2 : Hid (Below w.heap.size w x2) := below_then HL1.out hb
  have HR2_a : Hid (x2.heap[w.heap.size]? = some (.cells ca 25 (0, 0))) := row_later HR1_a.out hb
  clear hb
  have HS2_a : Hid ((x2.alloc (.cells cu 25)).heap[w.heap.size]? = some (.cells ca 25 (0, 0))) := row_later HR2_a.out (below_a1 _ _)
  go_wp2_with fail
  refine (HQ.out _ (HX.out.later (below_alloc HL2.out _))).mono ?_
  rintro e x3 ⟨rfl, hb⟩
  have HL3 : Hid (Below w.heap.size w x3) := below_then (below_alloc HL2.out _) hb
  have HR3_a : Hid (x3.heap[w.heap.size]? = some (.cells ca 25 (0, 0))) := row_later HS2_a.out hb
  have HR3_u : Hid (x3.heap[x2.heap.size]? = some (.cells cu 25 (0, 0))) := row_later (heap_alloc_new _ _) hb
  clear hb
  have HS3_a : Hid ((x3.alloc (.cells cu 25)).heap[w.heap.size]? = some (.cells ca 25 (0, 0))) := row_later HR3_a.out (below_a1 _ _)
  have HS3_u : Hid ((x3.alloc (.cells cu 25)).heap[x2.heap.size]? = some (.cells cu 25 (0, 0))) := row_later HR3_u.out (below_a1 _ _)
  have c_a := row_cells (w := (x3.alloc (.cells cu 25))) HS3_a.out hza
  go_wp2_with fail
  refine (HU.out _).mono ?_
  rintro e x4 ⟨rfl, hb⟩
  have HL4 : Hid (Below w.heap.size w x4) := below_then (below_alloc HL3.out _) hb
  have HR4_a : Hid (x4.heap[w.heap.size]? = some (.cells ca 25 (0, 0))) := row_later HS3_a.out hb
  have HR4_u : Hid (x4.heap[x2.heap.size]? = some (.cells cu 25 (0, 0))) := row_later HS3_u.out hb
  have HR4_v : Hid (x4.heap[x3.heap.size]? = some (.cells cu 25 (0, 0))) := row_later (heap_alloc_new _ _) hb
  clear hb c_a
  have HS4_a : Hid ((x4.alloc (.cells cm 25)).heap[w.heap.size]? = some (.cells ca 25 (0, 0))) := row_later HR4_a.out (below_a1 _ _)
  have HS4_u : Hid ((x4.alloc (.cells cm 25)).heap[x2.heap.size]? = some (.cells cu 25 (0, 0))) := row_later HR4_u.out (below_a1 _ _)
  have HS4_v : Hid ((x4.alloc (.cells cm 25)).heap[x3.heap.size]? = some (.cells cu 25 (0, 0))) := row_later HR4_v.out (below_a1 _ _)
  have c_a := row_cells (w := (x4.alloc (.cells cm 25))) HS4_a.out hza
  go_wp2_with fail
  refine (HV.out _).mono ?_
  rintro e x5 ⟨rfl, hb⟩
  have HL5 : Hid (Below w.heap.size w x5) := below_then (below_alloc HL4.out _) hb
  have HR5_a : Hid (x5.heap[w.heap.size]? = some (.cells ca 25 (0, 0))) := row_later HS4_a.out hb
  have HR5_u : Hid (x5.heap[x2.heap.size]? = some (.cells cu 25 (0, 0))) := row_later HS4_u.out hb
  have HR5_v : Hid (x5.heap[x3.heap.size]? = some (.cells cu 25 (0, 0))) := row_later HS4_v.out hb
  have HR5_m : Hid (x5.heap[x4.heap.size]? = some (.cells cm 25 (0, 0))) := row_later (heap_alloc_new _ _) hb
  clear hb c_a
  have HS5_a : Hid ((x5.alloc (.cells cm 25)).heap[w.heap.size]? = some (.cells ca 25 (0, 0))) := row_later HR5_a.out (below_a1 _ _)
  have HS5_u : Hid ((x5.alloc (.cells cm 25)).heap[x2.heap.size]? = some (.cells cu 25 (0, 0))) := row_later HR5_u.out (below_a1 _ _)
  have HS5_v : Hid ((x5.alloc (.cells cm 25)).heap[x3.heap.size]? = some (.cells cu 25 (0, 0))) := row_later HR5_v.out (below_a1 _ _)
  have HS5_m : Hid ((x5.alloc (.cells cm 25)).heap[x4.heap.size]? = some (.cells cm 25 (0, 0))) := row_later HR5_m.out (below_a1 _ _)
  have c_a := row_cells (w := (x5.alloc (.cells cm 25))) HS5_a.out hza
  go_wp2_with fail
  refine (HI.out _).mono ?_
  rintro e x6 ⟨rfl, hb⟩
  have HL6 : Hid (Below w.heap.size w x6) := below_then (below_alloc HL5.out _) hb
  have HR6_a : Hid (x6.heap[w.heap.size]? = some (.cells ca 25 (0, 0))) := row_later HS5_a.out hb
  have HR6_u : Hid (x6.heap[x2.heap.size]? = some (.cells cu 25 (0, 0))) := row_later HS5_u.out hb
  have HR6_v : Hid (x6.heap[x3.heap.size]? = some (.cells cu 25 (0, 0))) := row_later HS5_v.out hb
  have HR6_m : Hid (x6.heap[x4.heap.size]? = some (.cells cm 25 (0, 0))) := row_later HS5_m.out hb
  have HR6_n : Hid (x6.heap[x5.heap.size]? = some (.cells cm 25 (0, 0))) := row_later (heap_alloc_new _ _) hb
  clear hb c_a
  have c_a := row_cells (w := x6) HR6_a.out hza
  go_wp2_with fail
  refine (HJ.out _).mono ?_
  rintro e x7 ⟨rfl, hb⟩
  have HL7 : Hid (Below w.heap.size w x7) := below_then HL6.out hb
  have HR7_u : Hid (x7.heap[x2.heap.size]? = some (.cells cu 25 (0, 0))) := row_later HR6_u.out hb
  have HR7_v : Hid (x7.heap[x3.heap.size]? = some (.cells cu 25 (0, 0))) := row_later HR6_v.out hb
  have HR7_m : Hid (x7.heap[x4.heap.size]? = some (.cells cm 25 (0, 0))) := row_later HR6_m.out hb
  have HR7_n : Hid (x7.heap[x5.heap.size]? = some (.cells cm 25 (0, 0))) := row_later HR6_n.out hb
  clear hb c_a
  have c_u := row_cells (w := x7) HR7_u.out hzu
  have c_v := row_cells (w := x7) HR7_v.out hzu
  have c_m := row_cells (w := x7) HR7_m.out hzm
  have c_n := row_cells (w := x7) HR7_n.out hzm
  go_wp2
  go_ret
  exact ⟨by simp, HL7.out⟩

/-! ### the row -/
theorem contract (H : Type) (enc : TypeId × Value → H) (W : World) (base : Nat) (args : Array Value) (ds gs : List (DataW H)) (before : List MemPlace)
    (hval : ∀ (j : Nat) t v, Tryd.f3.params[j]? = some t → args[j]? = some v → Value.okWide Tryd.prog W .any base t v)
    (hW : DataW.Whole enc Tryd.prog Tryd.f3.params.toList Rows.sigHoldsSpec.vars false W args.toList ds gs before)
    (hR : (DataW.weightsEach Tryd.prog (Tryd.f3.params.toList ++ []) (ds ++ gs)).all (· ≤ reachBytes) = true)
    (hL : laidMetH Tryd.prog Rows.sigHoldsRow.laid W) :
    Calls Tryd.prog 3 args W fun e W' => ∃ v, e = .returned v ∧ Rows.sigHoldsSpec.post enc Tryd.prog Tryd.f3 false true false false W args v W' := by
  have hW' := hW
  obtain ⟨p, q, hA0, hV, rfl, hfz, hnd⟩ := hW
  have hA : DataW.TrodAll enc Tryd.prog W 0 (fun _ => true) true Tryd.f3.params.toList args.toList ds p := hA0
  rw [Tryd.params3] at hA hval
  obtain ⟨v0, vs0, d0, ds0, p0, q0, hargs, rfl, rfl, h0, r0⟩ := trodAll_cons hA
  obtain ⟨v1, vs1, d1, ds1, p1, q1, rfl, rfl, rfl, h1, r1⟩ := trodAll_cons r0
  obtain ⟨v2, vs2, d2, ds2, p2, q2, rfl, rfl, rfl, h2, r2⟩ := trodAll_cons r1
  obtain ⟨rfl, rfl, rfl⟩ := trodAll_nil r2
  obtain rfl : args = #[v0, v1, v2] := by cases args; simp_all
  obtain ⟨rfl, rfl⟩ := trodVars_none hV
  have k0 := h0
  have lt0 : ∀ x ∈ p0, x.block < W.heap.size := by obtain ⟨m, hm⟩ := k0; exact DataW.trod_lt m _ _ _ hm
  obtain ⟨l0, w0, dl0⟩ := open_list (hval 0 22 v0 rfl rfl) h0
  have k1 := h1
  have lt1 : ∀ x ∈ p1, x.block < W.heap.size := by obtain ⟨m, hm⟩ := k1; exact DataW.trod_lt m _ _ _ hm
  obtain ⟨s1, w1, rfl⟩ := open_sig (hval 1 25 v1 rfl rfl) h1
  obtain ⟨a2, rfl, rfl, rfl, w2⟩ := open_int Tryd.underlying3 (hval 2 3 v2 rfl rfl) h2
  clear hA0
  refine (walk v0 l0 s1 a2 W (tab_laid hL) w0 w1 w2).mono fun e W' ⟨he, bel⟩ => ?_
  subst he
  exact ⟨_, rfl, _, _, _, [], _, [], hW', trodAll_mk1 (shut_bool Tryd.underlying4 _), (trodAll_cons_mk (Below.trod laidOut (by kernel_rfl) (of_decide_eq_true (by kernel_rfl)) k0 bel lt0) (trodAll_cons_mk (Below.trod laidOut (by kernel_rfl) (of_decide_eq_true (by kernel_rfl)) k1 bel lt1) (trodAll_cons_mk (shut_int Tryd.underlying3 w2) trodAll_mk0))), rfl, bel.frame _, fun h => by cases h⟩

theorem laid_met (os : Os) : laidMet Tryd.prog Rows.sigHoldsRow.laid (World.forCall { World.holding Tryd.prog os ⟨#[], #[], []⟩ with heap := (World.holding Tryd.prog os ⟨#[], #[], []⟩).heap.modify 0 fun | .cells _ t frozen => .cells (tabZ.map fun z => Value.int .u8 z).toArray t frozen | o => o } (fun _ _ => 0) ⟨#[], #[.slice none 0 0, .agg #[.int .u64 0, .int .u64 0, .int .u64 0, .int .u64 0, .int .u64 0, .int .u64 0, .int .u64 0, .int .u64 0], .int .i64 0], []⟩).memory :=
  laidMet_of_run' 8 (by kernel_rfl) (by kernel_rfl)
theorem reads (os : Os) {H : Type} (enc : TypeId × Value → H) : ∃ places, DataW.whole enc Tryd.prog (World.forCall { World.holding Tryd.prog os ⟨#[], #[], []⟩ with heap := (World.holding Tryd.prog os ⟨#[], #[], []⟩).heap.modify 0 fun | .cells _ t frozen => .cells (tabZ.map fun z => Value.int .u8 z).toArray t frozen | o => o } (fun _ _ => 0) ⟨#[], #[.slice none 0 0, .agg #[.int .u64 0, .int .u64 0, .int .u64 0, .int .u64 0, .int .u64 0, .int .u64 0, .int .u64 0, .int .u64 0], .int .i64 0], []⟩).memory Tryd.f3.params.toList Rows.sigHoldsSpec.vars false [.slice none 0 0, .agg #[.int .u64 0, .int .u64 0, .int .u64 0, .int .u64 0, .int .u64 0, .int .u64 0, .int .u64 0, .int .u64 0], .int .i64 0] 8 = some ([.nil, .agg [.lit (.int .u64 0), .lit (.int .u64 0), .lit (.int .u64 0), .lit (.int .u64 0), .lit (.int .u64 0), .lit (.int .u64 0), .lit (.int .u64 0), .lit (.int .u64 0)], .lit (.int .i64 0)], [], places) :=
  ⟨[], by kernel_rfl⟩

set_option maxRecDepth 100000 in
theorem lifted (os : Os) (started : os.Started) (H : Type) (enc : TypeId × Value → H) (F : Stop.Interp) :
    ReturnsInHanded {} Tryd.checked os 3 .any ((OpenSpec.ofChange Rows.sigHoldsSpec).preRow enc Tryd.prog Tryd.f3 Rows.sigHoldsRow.domain false Rows.sigHoldsRow.laid) (((OpenSpec.ofChange Rows.sigHoldsSpec).at F).post enc Tryd.prog Tryd.f3 false true false false) := by
  obtain ⟨places, hx⟩ := reads os enc
  refine returnsInHanded_of_row (C := Tryd.checked) (s := OpenSpec.ofChange Rows.sigHoldsSpec) own started (by kernel_rfl) Tryd.func3
    (witness_row_at (enc := enc) (C := Tryd.checked) false ({ World.holding Tryd.prog os ⟨#[], #[], []⟩ with heap := (World.holding Tryd.prog os ⟨#[], #[], []⟩).heap.modify 0 fun | .cells _ t frozen => .cells (tabZ.map fun z => Value.int .u8 z).toArray t frozen | o => o }) #[.slice none 0 0, .agg #[.int .u64 0, .int .u64 0, .int .u64 0, .int .u64 0, .int .u64 0, .int .u64 0, .int .u64 0, .int .u64 0], .int .i64 0] rfl (by kernel_rfl) (by kernel_rfl) (by kernel_rfl)
      (OpenSpec.preRow_of_cond 8 hx (by kernel_rfl) (fun k hk => by cases hk) (by kernel_rfl) (laid_met os))) ?_
  intro W base args ds gs before hval hW _ hcond hR hL _ _
  exact contract H enc W base args ds gs before hval hW hR hL

theorem said : Rows.SigHoldsSaid :=
  OpenClaim.holds_of_cond 3 Tryd.f3 rfl rfl rfl rfl rfl rfl rfl ⟨rfl, rfl, rfl, rfl, rfl⟩ rfl rfl rfl rfl rfl (by kernel_rfl) Tryd.func3 (by kernel_rfl)
    (of_decide_eq_true (by kernel_rfl)) (by unfold Func.isWrapper; first | (rw [if_pos (by decide +kernel)]; kernel_rfl) | (rw [if_neg (by decide +kernel)]; exact ⟨rfl, rfl⟩))
    (fun os started H enc _ F => by rw [OpenClaim.pre_eq_preRow]; exact lifted os started H enc F)

/-- No parameter wants a stand-in; the looks are off. -/
theorem plain (f : FuncId) (fn : Func) (hf : Tryd.pinned.checked.prog.funcNamed Tryd.f3.name = some f) (hfn : Tryd.pinned.checked.prog.funcs[f]? = some fn) :
    false = Tryd.pinned.checked.prog.looks [] ∧ ∀ (j : Nat) t, fn.params[j]? = some t → Tryd.pinned.checked.prog.wantsStandIn t = false := by
  obtain rfl : f = 3 := Option.some.inj ((show Tryd.prog.funcNamed Tryd.f3.name = some 3 by kernel_rfl).symm.trans hf) |>.symm
  obtain rfl : fn = Tryd.f3 := (Option.some.inj (Tryd.func3.symm.trans hfn)).symm
  refine ⟨by kernel_rfl, fun j t ht => ?_⟩
  rw [Tryd.params3] at ht
  have hm := Array.mem_of_getElem? ht
  have ht : t = 22 ∨ t = 25 ∨ t = 3 := by simpa using hm
  rcases ht with rfl | rfl | rfl
  all_goals first
    | exact (show Tryd.prog.wantsStandIn 3 = false by kernel_rfl)
    | exact (show Tryd.prog.wantsStandIn 22 = false by kernel_rfl)
    | exact (show Tryd.prog.wantsStandIn 25 = false by kernel_rfl)

theorem proved : Rows.SigHoldsCardSaid :=
  Claim7.holds_tied_plain_at .later [] _ _ _ _ said (fun _ h => by cases h) (by kernel_rfl) (fun _ h => by cases h) sigHolds_row_tie rfl ⟨rfl, rfl⟩ (by kernel_rfl) rfl plain (by kernel_rfl)
#print axioms proved
end Go.Proofs.YthenkidhcfholaaDoor.sigHolds
