/- SigBits holds of every signature: the program's Bits and Empty answer as the document says, and a list that came out is its owner's; the row lists the table of lowest bits as the program's text lays it, and the card ties it; no other condition. -/
import Derived.Test.YthenkidhcfholaaDoorRows
import Derived.Test.YthenkidhcfholaaDoorCards
import Derived.Test.YthenkidhcfholaaDoorTie
import Derived.WalkKit
import Derived.ProofKit
import Derived.OpenShut
import Derived.ShutString
import Derived.ChangeOld
import Derived.Below
import Derived.Deep.DeepHandedRow
import Derived.Lib.LaidTab
import Derived.SevenTiedAt
import Derived.Test.YthenkidhcfholaaDoorSigS
namespace Go.Proofs.YthenkidhcfholaaDoor.sigBits
open Go.ChangeShapes Go.WideShapes Go.ChangeAt Go.RowKit
open Go.ChangeMaps (open_string shut_string)
set_option linter.unusedVariables false

theorem own : ownKnob Tryd.prog.godebug = none := by kernel_rfl
theorem laidOut : laidOutB Tryd.prog = true := by kernel_rfl

/-! ### the walk -/
set_option maxRecDepth 10000 in
theorem walk (s0 : List Nat) (w : World) (hT : Tab w) (w0 : Ok s0) :
    Calls Tryd.prog 5 #[sv s0] w fun e w' => e = .returned (.bool true) ∧ Below w.heap.size w w' := by
  have HT : Hid (Tab w) := hT
  have HB : Hid (∀ w, Tab w → Calls Tryd.prog 22 #[sv s0] w fun e w' => ∃ v, e = .returned v ∧ w'.ownsRow w.heap.size 3 1 v (bitsOf s0).length (iv (bitsOf s0)) ∧ Below w.heap.size w w') := fun w h => bits_any _ w0 w h
  have HC : Hid (∀ w, Calls Tryd.prog 23 #[sv s0] w fun e w' => ∃ v, e = .returned v ∧ w'.ownsRow w.heap.size 3 1 v (bitsOf s0).length (iv (bitsOf s0)) ∧ Below w.heap.size w w') := fun w => rbits_any _ w0 w
  have HE : Hid (∀ w, Calls Tryd.prog 24 #[sv s0] w fun e w' => e = .returned (.bool (s0 == nought)) ∧ Below w.heap.size w w') := fun w => empty_any _ w0 w
  have HF : Hid (∀ w, Calls Tryd.prog 25 #[sv s0] w fun e w' => e = .returned (.bool (s0 == nought)) ∧ Below w.heap.size w w') := fun w => rempty_any _ w0 w
  obtain ⟨i0, hi, hz0, hz1, hz2⟩ := info_parts info_int
  have hza : (sc s0).size = 8 := by rw [sc_size]; exact w0.1
  have hbl := bitsOf_len s0
  unfold sv at *
  clear hT w0
  generalize (s0 == nought) = r at *
  generalize sc s0 = ca at *
  generalize bitsOf s0 = L at *
  have hpa := pack8 ca hza
  go_enter Tryd.func5, Tryd.ntmps5
  go_wp2_with fail
  refine (shown_any _ (HT.out.later (below_a1 _ _))).mono ?_
  rintro e x1 ⟨rfl, hb⟩
  have HL1 : Hid (Below w.heap.size w x1) := below_then (below_a1 _ _) hb
  have HR1_a : Hid (x1.heap[w.heap.size]? = some (.cells ca 25 (0, 0))) := row_later (heap_alloc_new _ _) hb
  clear hb
  have c_a := row_cells (w := x1) HR1_a.out hza
  go_wp2_with fail
  refine (HB.out _ (HT.out.later HL1.out)).mono ?_
  rintro e x2 ⟨vl, rfl, hl, hb⟩
  have HL2 : Hid (Below w.heap.size w x2) := below_then HL1.out hb
  have HR2_a : Hid (x2.heap[w.heap.size]? = some (.cells ca 25 (0, 0))) := row_later HR1_a.out hb
  have HZ2 : Hid (x1.heap.size ≤ x2.heap.size) := hb.size
  have HV2 : Hid (x2.ownsRow x1.heap.size 3 1 vl L.length (iv L)) := hl
  clear hl
  clear hb c_a
  have c_a := row_cells (w := x2) HR2_a.out hza
  go_wp2_with fail
  refine (HC.out _).mono ?_
  rintro e x3 ⟨vm, rfl, hm, hb⟩
  have HL3 : Hid (Below w.heap.size w x3) := below_then HL2.out hb
  have HR3_a : Hid (x3.heap[w.heap.size]? = some (.cells ca 25 (0, 0))) := row_later HR2_a.out hb
  have HZ3 : Hid (x2.heap.size ≤ x3.heap.size) := hb.size
  have HV3 : Hid (x3.ownsRow x1.heap.size 3 1 vl L.length (iv L)) := own_later HV2.out hb
  have HM3 : Hid (x3.ownsRow x2.heap.size 3 1 vm L.length (iv L)) := hm
  clear hm
  clear hb c_a
  have c_a := row_cells (w := x3) HR3_a.out hza
  go_wp2_with fail
  refine (HE.out _).mono ?_
  rintro e x4 ⟨rfl, hb⟩
  have HL4 : Hid (Below w.heap.size w x4) := below_then HL3.out hb
  have HR4_a : Hid (x4.heap[w.heap.size]? = some (.cells ca 25 (0, 0))) := row_later HR3_a.out hb
  have HZ4 : Hid (x2.heap.size ≤ x4.heap.size) := Nat.le_trans HZ3.out hb.size
  have HV4 : Hid (x4.ownsRow x1.heap.size 3 1 vl L.length (iv L)) := own_later HV3.out hb
  have HM4 : Hid (x4.ownsRow x2.heap.size 3 1 vm L.length (iv L)) := own_later HM3.out hb
  clear hb c_a
  have c_a := row_cells (w := x4) HR4_a.out hza
  go_wp2_with fail
  refine (HF.out _).mono ?_
  rintro e x5 ⟨rfl, hb⟩
  have HL5 : Hid (Below w.heap.size w x5) := below_then HL4.out hb
  have HR5_a : Hid (x5.heap[w.heap.size]? = some (.cells ca 25 (0, 0))) := row_later HR4_a.out hb
  have HZ5 : Hid (x2.heap.size ≤ x5.heap.size) := Nat.le_trans HZ4.out hb.size
  have HV5 : Hid (x5.ownsRow x1.heap.size 3 1 vl L.length (iv L)) := own_later HV4.out hb
  have HM5 : Hid (x5.ownsRow x2.heap.size 3 1 vm L.length (iv L)) := own_later HM4.out hb
  clear hb c_a
  go_wp2_with fail
  refine (ints_any _ _ _ _ _ (own_lst HV5.out) (own_lst HM5.out)).mono ?_
  rintro e x6 ⟨rfl, hq⟩
  have hb : Below x5.heap.size x5 x6 := by obtain ⟨q, rfl⟩ := hq; exact below_drawn (Below.refl _ _) q
  have HL6 : Hid (Below w.heap.size w x6) := below_then HL5.out hb
  have HR6_a : Hid (x6.heap[w.heap.size]? = some (.cells ca 25 (0, 0))) := row_later HR5_a.out hb
  have HV6 : Hid (x6.ownsRow x1.heap.size 3 1 vl L.length (iv L)) := own_later HV5.out hb
  have HM6 : Hid (x6.ownsRow x2.heap.size 3 1 vm L.length (iv L)) := own_later HM5.out hb
  have HZ6 : Hid (x2.heap.size ≤ x6.heap.size) := Nat.le_trans HZ5.out hb.size
  clear hb hq
  have HX1 : Hid (w.heap.size < x1.heap.size) := (Array.getElem?_eq_some_iff.1 HR1_a.out).1
  have HAP : Hid (∀ k, vl.ownBlock = some k → x1.heap.size ≤ k ∧ k < x2.heap.size) := fun k hk => HV2.out.lt k hk
  simp only [beq_self_eq_true]
  obtain ⟨al, cl, rfl⟩ := own_slice HV6.out
  obtain ⟨am, cm, rfl⟩ := own_slice HM6.out
  have HLN : Hid (L.length = L.length) := rfl
  generalize hn : L.length = n at *
  have HJ0 : Hid (L.length = n) := hn
  clear hn HLN
  go_wp2
  go_loopw [9] (fun i wr => ∃ j : Nat, j ≤ n ∧ i = .int .i64 j ∧ wr.heap[w.heap.size]? = some (.cells ca 25 (0, 0)) ∧ (∃ xs, wr.ownsRow x1.heap.size 3 1 (.slice al n cl) n xs) ∧ wr.ownsRow x2.heap.size 3 1 (.slice am n cm) n (iv L) ∧ Below w.heap.size w wr ∧ x2.heap.size ≤ wr.heap.size) (fun i _ => n - (intOf i).toNat)
  case atStart => exact ⟨0, Nat.zero_le _, rfl, HR6_a.out, ⟨_, HV6.out⟩, HM6.out, HL6.out, HZ6.out⟩
  case round =>
    obtain ⟨j, hj, rfl, hr, ⟨xs, hown⟩, hm, hbel, hsz2⟩ := hrel
    have HR : Hid (wr.heap[w.heap.size]? = some (.cells ca 25 (0, 0))) := hr
    have HW : Hid (wr.ownsRow x1.heap.size 3 1 (.slice al n cl) n xs) := hown
    have HM : Hid (wr.ownsRow x2.heap.size 3 1 (.slice am n cm) n (iv L)) := hm
    have HL : Hid (Below w.heap.size w wr) := hbel
    clear hr hown hm hbel
    have HX2 : Hid (x1.heap.size ≤ x2.heap.size) := HZ2.out
    by_cases hlt : j < n
    · obtain ⟨g, rfl⟩ : ∃ g, al = some ⟨g, 0, none⟩ := by
        rcases HW.out.2 with ⟨_, h0⟩ | ⟨g, cap, cur, hv, _⟩
        · omega
        · exact ⟨g, by simp at hv; exact hv.1⟩
      have hgl := HAP.out g rfl
      have hxl : xs.length = n := by have := HW.out.1; omega
      obtain ⟨u, hu⟩ : ∃ u, xs[j]? = some u := ⟨xs[j], by simp [hxl, hlt]⟩
      have hcell : wr.cell? ⟨g, j, none⟩ = some u := by rw [HW.out.cellAt j (by omega), hu]
      have hfz := HW.out.frozenAt j
      have HST : Hid ((wr.setCell ⟨g, j, none⟩ (.int .i64 (-1))).ownsRow x1.heap.size 3 1 (.slice (some ⟨g, 0, none⟩) n cl) n (xs.set j (.int .i64 (-1))) ∧ wr.grownBy (wr.setCell ⟨g, j, none⟩ (.int .i64 (-1))) (some g)) := HW.out.stored j (.int .i64 (-1))
      have HGL : Hid (x1.heap.size ≤ g ∧ g < x2.heap.size) := hgl
      clear hgl hu hxl
      go_wp2
      go_roundw
      case rel => exact ⟨j + 1, by omega, by go_num, by rw [heap_setCell_other _ _ _ _ (by have := HGL.out; have := HX1.out; simp; omega)]; exact HR.out, ⟨_, HST.out.1⟩, HM.out.kept HST.out.2 (by
        cases hq : Value.ownBlock (.slice am n cm) with
        | none => exact Or.inl rfl
        | some q => right; intro e; have := own_block HM.out q hq; have := HGL.out; simp at e; omega), HL.out.setCell (by have := HGL.out; have := HX1.out; simp; omega) _, by simp; omega⟩
      case measure => simp [intOf]; omega
    · have e : j = n := by omega
      subst e
      have HJN : Hid (L.length = j) := HJ0.out
      have hsz : x1.heap.size ≤ wr.heap.size := Nat.le_trans HX2.out hsz2
      go_wp2_with (at_builtin; refine wpList_append_own _ rfl _ _ 22 rfl x1.heap.size 3 i0 (.int .i64 0) 1 8 Tryd.underlying22 hi hz0 hz1 hz2 rfl (by decide) _ _ _ rfl (HW.out.alloc _) ⟨wr.heap.size, 0, none⟩ 1 1 [.int .i64 (-2)] rfl rfl ?c1 ?c2 ?c3 ?c4 ?c5 ?_)
      case c1 => exact cell_one_new _ _ _
      case c2 => intro u hu; simp at hu; subst hu; rfl
      case c3 => unfold maxLen; omega
      case c4 => omega
      case c5 => simp; omega
      intro v' y1 hown' hgrow _
      obtain ⟨av, cv, rfl⟩ := own_slice hown'
      have HR1 : Hid (y1.heap[w.heap.size]? = some (.cells ca 25 (0, 0))) := row_grown (row_later HR.out (below_a1 _ _)) (HW.out.alloc _) HX1.out hgrow
      have HM1 : Hid (y1.ownsRow x2.heap.size 3 1 (.slice am j cm) j (iv L)) := (HM.out.alloc _).kept hgrow (by
        cases hq : Value.ownBlock (.slice am j cm) with
        | none => exact Or.inl rfl
        | some q => right; intro e; have h1 := own_block HM.out q hq; have h2 := (HAP.out q e.symm).2; omega)
      have HL1' : Hid (Below w.heap.size w y1) := (below_alloc HL.out _).grown hgrow (by simp; have := HL.out.size; omega) (fun b hb => by have := own_block HW.out b hb; have := HX1.out; omega)
      clear hown' hgrow
      have c_b := row_cells HR1.out hza
      go_wp2_with fail
      refine (HB.out _ (HT.out.later HL1'.out)).mono ?_
      rintro e y2 ⟨vg, rfl, hg, hb⟩
      have HG2 : Hid (y2.ownsRow y1.heap.size 3 1 vg L.length (iv L)) := by rw [HJN.out]; exact hg
      have HM2 : Hid (y2.ownsRow x2.heap.size 3 1 (.slice am j cm) j (iv L)) := own_later HM1.out hb
      have HL2' : Hid (Below w.heap.size w y2) := below_then HL1'.out hb
      clear hg hb c_b
      go_wp2_with fail
      refine (ints_any _ _ _ _ _ (own_lst HG2.out) (own_lst (l := L) (by rw [HJN.out]; exact HM2.out))).mono ?_
      rintro e y3 ⟨rfl, q, rfl⟩
      simp only [beq_self_eq_true]
      go_wp2
      go_ret
      exact ⟨by simp, below_drawn HL2'.out q⟩

/-! ### the row -/
theorem contract (H : Type) (enc : TypeId × Value → H) (W : World) (base : Nat) (args : Array Value) (ds gs : List (DataW H)) (before : List MemPlace)
    (hval : ∀ (j : Nat) t v, Tryd.f5.params[j]? = some t → args[j]? = some v → Value.okWide Tryd.prog W .any base t v)
    (hW : DataW.Whole enc Tryd.prog Tryd.f5.params.toList Rows.sigBitsSpec.vars false W args.toList ds gs before)
    (hR : (DataW.weightsEach Tryd.prog (Tryd.f5.params.toList ++ []) (ds ++ gs)).all (· ≤ reachBytes) = true)
    (hL : laidMetH Tryd.prog Rows.sigBitsRow.laid W) :
    Calls Tryd.prog 5 args W fun e W' => ∃ v, e = .returned v ∧ Rows.sigBitsSpec.post enc Tryd.prog Tryd.f5 false true false false W args v W' := by
  have hW' := hW
  obtain ⟨p, q, hA0, hV, rfl, hfz, hnd⟩ := hW
  have hA : DataW.TrodAll enc Tryd.prog W 0 (fun _ => true) true Tryd.f5.params.toList args.toList ds p := hA0
  rw [Tryd.params5] at hA hval
  obtain ⟨v0, vs0, d0, ds0, p0, q0, hargs, rfl, rfl, h0, r0⟩ := trodAll_cons hA
  obtain ⟨rfl, rfl, rfl⟩ := trodAll_nil r0
  obtain rfl : args = #[v0] := by cases args; simp_all
  obtain ⟨rfl, rfl⟩ := trodVars_none hV
  have k0 := h0
  have lt0 : ∀ x ∈ p0, x.block < W.heap.size := by obtain ⟨m, hm⟩ := k0; exact DataW.trod_lt m _ _ _ hm
  obtain ⟨s0, w0, rfl⟩ := open_sig (hval 0 25 v0 rfl rfl) h0
  clear hA0
  refine (walk s0 W (tab_laid hL) w0).mono fun e W' ⟨he, bel⟩ => ?_
  subst he
  exact ⟨_, rfl, _, _, _, [], _, [], hW', trodAll_mk1 (shut_bool Tryd.underlying4 _), (trodAll_cons_mk (Below.trod laidOut (by kernel_rfl) (of_decide_eq_true (by kernel_rfl)) k0 bel lt0) trodAll_mk0), rfl, bel.frame _, fun h => by cases h⟩

theorem laid_met (os : Os) : laidMet Tryd.prog Rows.sigBitsRow.laid (World.forCall { World.holding Tryd.prog os ⟨#[], #[], []⟩ with heap := (World.holding Tryd.prog os ⟨#[], #[], []⟩).heap.modify 0 fun | .cells _ t frozen => .cells (tabZ.map fun z => Value.int .u8 z).toArray t frozen | o => o } (fun _ _ => 0) ⟨#[], #[.agg #[.int .u64 0, .int .u64 0, .int .u64 0, .int .u64 0, .int .u64 0, .int .u64 0, .int .u64 0, .int .u64 0]], []⟩).memory :=
  laidMet_of_run' 8 (by kernel_rfl) (by kernel_rfl)
theorem reads (os : Os) {H : Type} (enc : TypeId × Value → H) : ∃ places, DataW.whole enc Tryd.prog (World.forCall { World.holding Tryd.prog os ⟨#[], #[], []⟩ with heap := (World.holding Tryd.prog os ⟨#[], #[], []⟩).heap.modify 0 fun | .cells _ t frozen => .cells (tabZ.map fun z => Value.int .u8 z).toArray t frozen | o => o } (fun _ _ => 0) ⟨#[], #[.agg #[.int .u64 0, .int .u64 0, .int .u64 0, .int .u64 0, .int .u64 0, .int .u64 0, .int .u64 0, .int .u64 0]], []⟩).memory Tryd.f5.params.toList Rows.sigBitsSpec.vars false [.agg #[.int .u64 0, .int .u64 0, .int .u64 0, .int .u64 0, .int .u64 0, .int .u64 0, .int .u64 0, .int .u64 0]] 8 = some ([.agg [.lit (.int .u64 0), .lit (.int .u64 0), .lit (.int .u64 0), .lit (.int .u64 0), .lit (.int .u64 0), .lit (.int .u64 0), .lit (.int .u64 0), .lit (.int .u64 0)]], [], places) :=
  ⟨[], by kernel_rfl⟩

set_option maxRecDepth 100000 in
theorem lifted (os : Os) (started : os.Started) (H : Type) (enc : TypeId × Value → H) (F : Stop.Interp) :
    ReturnsInHanded {} Tryd.checked os 5 .any ((OpenSpec.ofChange Rows.sigBitsSpec).preRow enc Tryd.prog Tryd.f5 Rows.sigBitsRow.domain false Rows.sigBitsRow.laid) (((OpenSpec.ofChange Rows.sigBitsSpec).at F).post enc Tryd.prog Tryd.f5 false true false false) := by
  obtain ⟨places, hx⟩ := reads os enc
  refine returnsInHanded_of_row (C := Tryd.checked) (s := OpenSpec.ofChange Rows.sigBitsSpec) own started (by kernel_rfl) Tryd.func5
    (witness_row_at (enc := enc) (C := Tryd.checked) false ({ World.holding Tryd.prog os ⟨#[], #[], []⟩ with heap := (World.holding Tryd.prog os ⟨#[], #[], []⟩).heap.modify 0 fun | .cells _ t frozen => .cells (tabZ.map fun z => Value.int .u8 z).toArray t frozen | o => o }) #[.agg #[.int .u64 0, .int .u64 0, .int .u64 0, .int .u64 0, .int .u64 0, .int .u64 0, .int .u64 0, .int .u64 0]] rfl (by kernel_rfl) (by kernel_rfl) (by kernel_rfl)
      (OpenSpec.preRow_of_cond 8 hx (by kernel_rfl) (fun k hk => by cases hk) (by kernel_rfl) (laid_met os))) ?_
  intro W base args ds gs before hval hW _ hcond hR hL _ _
  exact contract H enc W base args ds gs before hval hW hR hL

theorem said : Rows.SigBitsSaid :=
  OpenClaim.holds_of_cond 5 Tryd.f5 rfl rfl rfl rfl rfl rfl rfl ⟨rfl, rfl, rfl, rfl, rfl⟩ rfl rfl rfl rfl rfl (by kernel_rfl) Tryd.func5 (by kernel_rfl)
    (of_decide_eq_true (by kernel_rfl)) (by unfold Func.isWrapper; first | (rw [if_pos (by decide +kernel)]; kernel_rfl) | (rw [if_neg (by decide +kernel)]; exact ⟨rfl, rfl⟩))
    (fun os started H enc _ F => by rw [OpenClaim.pre_eq_preRow]; exact lifted os started H enc F)

/-- No parameter wants a stand-in; the looks are off. -/
theorem plain (f : FuncId) (fn : Func) (hf : Tryd.pinned.checked.prog.funcNamed Tryd.f5.name = some f) (hfn : Tryd.pinned.checked.prog.funcs[f]? = some fn) :
    false = Tryd.pinned.checked.prog.looks [] ∧ ∀ (j : Nat) t, fn.params[j]? = some t → Tryd.pinned.checked.prog.wantsStandIn t = false := by
  obtain rfl : f = 5 := Option.some.inj ((show Tryd.prog.funcNamed Tryd.f5.name = some 5 by kernel_rfl).symm.trans hf) |>.symm
  obtain rfl : fn = Tryd.f5 := (Option.some.inj (Tryd.func5.symm.trans hfn)).symm
  refine ⟨by kernel_rfl, fun j t ht => ?_⟩
  rw [Tryd.params5] at ht
  have hm := Array.mem_of_getElem? ht
  have ht : t = 25 := by simpa using hm
  rcases ht with rfl
  all_goals first
    | exact (show Tryd.prog.wantsStandIn 25 = false by kernel_rfl)

theorem proved : Rows.SigBitsCardSaid :=
  Claim7.holds_tied_plain_at .later [] _ _ _ _ said (fun _ h => by cases h) (by kernel_rfl) (fun _ h => by cases h) sigBits_row_tie rfl ⟨rfl, rfl⟩ (by kernel_rfl) rfl plain (by kernel_rfl)
#print axioms proved
end Go.Proofs.YthenkidhcfholaaDoor.sigBits
