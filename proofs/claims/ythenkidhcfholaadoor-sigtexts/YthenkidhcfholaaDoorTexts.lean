/- SigTexts holds of every signature and every text: the program's Text and Parse answer as the document says, what is wrong and its place among the answers; the row lists the table of lowest bits as the program's text lays it, and the card ties it; no other condition. -/
import Derived.Test.YthenkidhcfholaaDoorRows
import Derived.Test.YthenkidhcfholaaDoorCards
import Derived.Test.YthenkidhcfholaaDoorTie
import Derived.WalkKit
import Derived.ProofKit
import Derived.OpenShut
import Derived.ShutString
import Derived.ChangeOld
import Derived.Below
import Derived.Deep.DeepHandedRow
import Derived.Lib.LaidTab
import Derived.SevenTiedAt
import Derived.Test.YthenkidhcfholaaDoorSigS
import Derived.Test.YthenkidhcfholaaDoorSigW
import Derived.Test.YthenkidhcfholaaDoorSigX
namespace Go.Proofs.YthenkidhcfholaaDoor.sigTexts
open Go.ChangeShapes Go.WideShapes Go.ChangeAt Go.RowKit
open Go.ChangeMaps (open_string shut_string)
set_option linter.unusedVariables false

theorem own : ownKnob Tryd.prog.godebug = none := by kernel_rfl
theorem laidOut : laidOutB Tryd.prog = true := by kernel_rfl

/-! ### the walk -/
set_option maxRecDepth 10000 in
theorem walk (s0 : List Nat) (a1 : ByteArray) (w : World) (hT : Tab w) (w0 : Ok s0) (w1 : a1.size ≤ maxLen) :
    Calls Tryd.prog 6 #[sv s0, .string a1] w fun e w' => e = .returned (.bool true) ∧ Below w.heap.size w w' := by
  have HT : Hid (Tab w) := hT
  have hbig : a1.size ≤ 9223372036854775807 := by unfold maxLen at w1; omega
  have HU : Hid (∀ w, Calls Tryd.prog 27 #[sv s0] w fun e w' => e = .returned (.string (strOfNums (textOf s0))) ∧ Below w.heap.size w w') := fun w => text_any _ w0 w
  have HV : Hid (∀ w, Calls Tryd.prog 28 #[sv s0] w fun e w' => e = .returned (.string (strOfNums (textOf s0))) ∧ Below w.heap.size w w') := fun w => rtext_any _ w0 w
  have HI : Hid (∀ w, Calls Tryd.prog 29 #[.string a1] w fun e w' => e = .returned (.tuple #[sv (parseV a1).1, .int .i64 ((parseV a1).2.1 : Int), .int .i64 ((parseV a1).2.2 : Int)]) ∧ Below w.heap.size w w') := fun w => parse_any _ hbig w
  have HJ : Hid (∀ w, Calls Tryd.prog 30 #[.string a1] w fun e w' => e = .returned (.tuple #[sv (parseV a1).1, .int .i64 ((parseV a1).2.1 : Int), .int .i64 ((parseV a1).2.2 : Int)]) ∧ Below w.heap.size w w') := fun w => rparse_any _ hbig w
  have hop := ok_parseV a1
  have hqm := fun w => eql_sig (parseV a1).1 (parseV a1).1 hop.1 hop.1 w
  have hza : (sc s0).size = 8 := by rw [sc_size]; exact w0.1
  have hzm : (sc (parseV a1).1).size = 8 := by rw [sc_size]; exact hop.1
  have h1m := sc_one (parseV a1).1
  simp only [beq_self_eq_true] at hqm
  unfold sv at *
  clear hT w0 w1 hop hbig
  generalize strOfNums (textOf s0) = tx at *
  generalize sc (parseV a1).1 = cm at *
  generalize ((parseV a1).2.1 : Int) = er at *
  generalize ((parseV a1).2.2 : Int) = pl at *
  generalize sc s0 = ca at *
  have hpa := pack8 ca hza
  have hpm := pack8 cm hzm
  have hsm := fun (w : World) (old : Array Value) (ho : old.size = 8) => store_1_0 (P := Tryd.prog) w 25 old cm ho hzm h1m
  go_enter Tryd.func6, Tryd.ntmps6
  go_wp2_with fail
  refine (shown_any _ (HT.out.later (below_a1 _ _))).mono ?_
  rintro e x1 ⟨rfl, hb⟩
  have HL1 : Hid (Below w.heap.size w x1) := below_then (below_a1 _ _) hb
  have HR1_a : Hid (x1.heap[w.heap.size]? = some (.cells ca 25 (0, 0))) := row_later (heap_alloc_new _ _) hb
  clear hb
  have c_a := row_cells (w := x1) HR1_a.out hza
  go_wp2_with fail
  refine (HU.out _).mono ?_
  rintro e x2 ⟨rfl, hb⟩
  have HL2 : Hid (Below w.heap.size w x2) := below_then HL1.out hb
  have HR2_a : Hid (x2.heap[w.heap.size]? = some (.cells ca 25 (0, 0))) := row_later HR1_a.out hb
  clear hb c_a
  have c_a := row_cells (w := x2) HR2_a.out hza
  go_wp2_with fail
  refine (HV.out _).mono ?_
  rintro e x3 ⟨rfl, hb⟩
  have HL3 : Hid (Below w.heap.size w x3) := below_then HL2.out hb
  clear hb c_a
  go_wp2_with fail
  refine (HI.out _).mono ?_
  rintro e x4 ⟨rfl, hb⟩
  have HL4 : Hid (Below w.heap.size w x4) := below_then HL3.out hb
  clear hb
  go_wp2_with fail
  refine (HJ.out _).mono ?_
  rintro e x5 ⟨rfl, hb⟩
  have HL5 : Hid (Below w.heap.size w x5) := below_then (below_alloc HL4.out _) hb
  have HR5_m : Hid (x5.heap[x4.heap.size]? = some (.cells cm 25 (0, 0))) := row_later (heap_alloc_new _ _) hb
  clear hb
  have HS5_m : Hid ((x5.alloc (.cells cm 25)).heap[x4.heap.size]? = some (.cells cm 25 (0, 0))) := row_later HR5_m.out (below_a1 _ _)
  have c_m := row_cells (w := (x5.alloc (.cells cm 25))) HS5_m.out hzm
  have c_n := row_cells (w := (x5.alloc (.cells cm 25))) (heap_alloc_new _ _) hzm
  go_wp2
  go_ret
  exact ⟨by simp, (below_alloc HL5.out _)⟩

/-! ### the row -/
theorem contract (H : Type) (enc : TypeId × Value → H) (W : World) (base : Nat) (args : Array Value) (ds gs : List (DataW H)) (before : List MemPlace)
    (hval : ∀ (j : Nat) t v, Tryd.f6.params[j]? = some t → args[j]? = some v → Value.okWide Tryd.prog W .any base t v)
    (hW : DataW.Whole enc Tryd.prog Tryd.f6.params.toList Rows.sigTextsSpec.vars false W args.toList ds gs before)
    (hR : (DataW.weightsEach Tryd.prog (Tryd.f6.params.toList ++ []) (ds ++ gs)).all (· ≤ reachBytes) = true)
    (hL : laidMetH Tryd.prog Rows.sigTextsRow.laid W) :
    Calls Tryd.prog 6 args W fun e W' => ∃ v, e = .returned v ∧ Rows.sigTextsSpec.post enc Tryd.prog Tryd.f6 false true false false W args v W' := by
  have hW' := hW
  obtain ⟨p, q, hA0, hV, rfl, hfz, hnd⟩ := hW
  have hA : DataW.TrodAll enc Tryd.prog W 0 (fun _ => true) true Tryd.f6.params.toList args.toList ds p := hA0
  rw [Tryd.params6] at hA hval
  obtain ⟨v0, vs0, d0, ds0, p0, q0, hargs, rfl, rfl, h0, r0⟩ := trodAll_cons hA
  obtain ⟨v1, vs1, d1, ds1, p1, q1, rfl, rfl, rfl, h1, r1⟩ := trodAll_cons r0
  obtain ⟨rfl, rfl, rfl⟩ := trodAll_nil r1
  obtain rfl : args = #[v0, v1] := by cases args; simp_all
  obtain ⟨rfl, rfl⟩ := trodVars_none hV
  have k0 := h0
  have lt0 : ∀ x ∈ p0, x.block < W.heap.size := by obtain ⟨m, hm⟩ := k0; exact DataW.trod_lt m _ _ _ hm
  obtain ⟨s0, w0, rfl⟩ := open_sig (hval 0 25 v0 rfl rfl) h0
  obtain ⟨a1, rfl, rfl, rfl, w1⟩ := open_string Tryd.underlying9 (hval 1 9 v1 rfl rfl) h1
  clear hA0
  refine (walk s0 a1 W (tab_laid hL) w0 w1).mono fun e W' ⟨he, bel⟩ => ?_
  subst he
  exact ⟨_, rfl, _, _, _, [], _, [], hW', trodAll_mk1 (shut_bool Tryd.underlying4 _), (trodAll_cons_mk (Below.trod laidOut (by kernel_rfl) (of_decide_eq_true (by kernel_rfl)) k0 bel lt0) (trodAll_cons_mk (shut_string Tryd.underlying9 w1) trodAll_mk0)), rfl, bel.frame _, fun h => by cases h⟩

theorem laid_met (os : Os) : laidMet Tryd.prog Rows.sigTextsRow.laid (World.forCall { World.holding Tryd.prog os ⟨#[], #[], []⟩ with heap := (World.holding Tryd.prog os ⟨#[], #[], []⟩).heap.modify 0 fun | .cells _ t frozen => .cells (tabZ.map fun z => Value.int .u8 z).toArray t frozen | o => o } (fun _ _ => 0) ⟨#[], #[.agg #[.int .u64 0, .int .u64 0, .int .u64 0, .int .u64 0, .int .u64 0, .int .u64 0, .int .u64 0, .int .u64 0], .string ByteArray.empty], []⟩).memory :=
  laidMet_of_run' 8 (by kernel_rfl) (by kernel_rfl)
theorem reads (os : Os) {H : Type} (enc : TypeId × Value → H) : ∃ places, DataW.whole enc Tryd.prog (World.forCall { World.holding Tryd.prog os ⟨#[], #[], []⟩ with heap := (World.holding Tryd.prog os ⟨#[], #[], []⟩).heap.modify 0 fun | .cells _ t frozen => .cells (tabZ.map fun z => Value.int .u8 z).toArray t frozen | o => o } (fun _ _ => 0) ⟨#[], #[.agg #[.int .u64 0, .int .u64 0, .int .u64 0, .int .u64 0, .int .u64 0, .int .u64 0, .int .u64 0, .int .u64 0], .string ByteArray.empty], []⟩).memory Tryd.f6.params.toList Rows.sigTextsSpec.vars false [.agg #[.int .u64 0, .int .u64 0, .int .u64 0, .int .u64 0, .int .u64 0, .int .u64 0, .int .u64 0, .int .u64 0], .string ByteArray.empty] 8 = some ([.agg [.lit (.int .u64 0), .lit (.int .u64 0), .lit (.int .u64 0), .lit (.int .u64 0), .lit (.int .u64 0), .lit (.int .u64 0), .lit (.int .u64 0), .lit (.int .u64 0)], .lit (.string [])], [], places) :=
  ⟨[], by kernel_rfl⟩

set_option maxRecDepth 100000 in
theorem lifted (os : Os) (started : os.Started) (H : Type) (enc : TypeId × Value → H) (F : Stop.Interp) :
    ReturnsInHanded {} Tryd.checked os 6 .any ((OpenSpec.ofChange Rows.sigTextsSpec).preRow enc Tryd.prog Tryd.f6 Rows.sigTextsRow.domain false Rows.sigTextsRow.laid) (((OpenSpec.ofChange Rows.sigTextsSpec).at F).post enc Tryd.prog Tryd.f6 false true false false) := by
  obtain ⟨places, hx⟩ := reads os enc
  refine returnsInHanded_of_row (C := Tryd.checked) (s := OpenSpec.ofChange Rows.sigTextsSpec) own started (by kernel_rfl) Tryd.func6
    (witness_row_at (enc := enc) (C := Tryd.checked) false ({ World.holding Tryd.prog os ⟨#[], #[], []⟩ with heap := (World.holding Tryd.prog os ⟨#[], #[], []⟩).heap.modify 0 fun | .cells _ t frozen => .cells (tabZ.map fun z => Value.int .u8 z).toArray t frozen | o => o }) #[.agg #[.int .u64 0, .int .u64 0, .int .u64 0, .int .u64 0, .int .u64 0, .int .u64 0, .int .u64 0, .int .u64 0], .string ByteArray.empty] rfl (by kernel_rfl) (by kernel_rfl) (by kernel_rfl)
      (OpenSpec.preRow_of_cond 8 hx (by kernel_rfl) (fun k hk => by cases hk) (by kernel_rfl) (laid_met os))) ?_
  intro W base args ds gs before hval hW _ hcond hR hL _ _
  exact contract H enc W base args ds gs before hval hW hR hL

theorem said : Rows.SigTextsSaid :=
  OpenClaim.holds_of_cond 6 Tryd.f6 rfl rfl rfl rfl rfl rfl rfl ⟨rfl, rfl, rfl, rfl, rfl⟩ rfl rfl rfl rfl rfl (by kernel_rfl) Tryd.func6 (by kernel_rfl)
    (of_decide_eq_true (by kernel_rfl)) (by unfold Func.isWrapper; first | (rw [if_pos (by decide +kernel)]; kernel_rfl) | (rw [if_neg (by decide +kernel)]; exact ⟨rfl, rfl⟩))
    (fun os started H enc _ F => by rw [OpenClaim.pre_eq_preRow]; exact lifted os started H enc F)

/-- No parameter wants a stand-in; the looks are off. -/
theorem plain (f : FuncId) (fn : Func) (hf : Tryd.pinned.checked.prog.funcNamed Tryd.f6.name = some f) (hfn : Tryd.pinned.checked.prog.funcs[f]? = some fn) :
    false = Tryd.pinned.checked.prog.looks [] ∧ ∀ (j : Nat) t, fn.params[j]? = some t → Tryd.pinned.checked.prog.wantsStandIn t = false := by
  obtain rfl : f = 6 := Option.some.inj ((show Tryd.prog.funcNamed Tryd.f6.name = some 6 by kernel_rfl).symm.trans hf) |>.symm
  obtain rfl : fn = Tryd.f6 := (Option.some.inj (Tryd.func6.symm.trans hfn)).symm
  refine ⟨by kernel_rfl, fun j t ht => ?_⟩
  rw [Tryd.params6] at ht
  have hm := Array.mem_of_getElem? ht
  have ht : t = 25 ∨ t = 9 := by simpa using hm
  rcases ht with rfl | rfl
  all_goals first
    | exact (show Tryd.prog.wantsStandIn 9 = false by kernel_rfl)
    | exact (show Tryd.prog.wantsStandIn 25 = false by kernel_rfl)

theorem proved : Rows.SigTextsCardSaid :=
  Claim7.holds_tied_plain_at .later [] _ _ _ _ said (fun _ h => by cases h) (by kernel_rfl) (fun _ h => by cases h) sigTexts_row_tie rfl ⟨rfl, rfl⟩ (by kernel_rfl) rfl plain (by kernel_rfl)
#print axioms proved
end Go.Proofs.YthenkidhcfholaaDoor.sigTexts
