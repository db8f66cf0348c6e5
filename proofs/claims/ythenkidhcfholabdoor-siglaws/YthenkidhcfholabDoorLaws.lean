/- SigLaws holds of every three signatures: union and meet go by the laws of sets, meeting a union is meeting one of both, and of its text and of its bits a signature is told again; the row lists the table of lowest bits as the program's text lays it, and the card ties it; no other condition. -/
import Derived.Test.YthenkidhcfholabDoorRows
import Derived.Test.YthenkidhcfholabDoorCards
import Derived.Test.YthenkidhcfholabDoorTie
import Derived.WalkKit
import Derived.ProofKit
import Derived.OpenShut
import Derived.ShutString
import Derived.ChangeOld
import Derived.Below
import Derived.Deep.DeepHandedRow
import Derived.Lib.LaidTab
import Derived.SevenTiedAt
import Derived.RegionTactic
import Derived.Deep.RegionHeld3
import Derived.BigRegion
import Derived.Deep.Cut
import Derived.Deep.CutRange
import Derived.Test.YthenkidhcfholabDoorSigS
import Derived.Test.YthenkidhcfholabDoorSigK
namespace Go.Proofs.YthenkidhcfholabDoor.sigLaws
open Go.ChangeShapes Go.WideShapes Go.ChangeAt Go.RowKit
open Go.ChangeMaps (open_string shut_string)
set_option linter.unusedVariables false

theorem own : ownKnob Tryd.prog.godebug = none := by kernel_rfl
theorem laidOut : laidOutB Tryd.prog = true := by kernel_rfl

/-! ### the walk -/
/-- Rows of signatures that lie in blocks. -/
def Many (w : World) (l : List (Nat × Array Value)) : Prop := ∀ q ∈ l, w.heap[q.1]? = some (.cells q.2 24 (0, 0))
theorem Many.later {w w' : World} {l : List (Nat × Array Value)} (h : Many w l) (hb : Below w.heap.size w w') : Many w' l := fun q hq => row_later (h q hq) hb
theorem Many.more {w : World} {l : List (Nat × Array Value)} (h : Many w l) (c : Array Value) : Many (w.alloc (.cells c 24)) ((w.heap.size, c) :: l) := fun q hq => by
  rcases List.mem_cons.1 hq with rfl | hq
  · exact heap_alloc_new _ _
  · exact row_later (h q hq) (below_a1 _ _)
theorem Many.row {w : World} {l : List (Nat × Array Value)} (h : Many w l) (b : Nat) (c : Array Value) (hm : (b, c) ∈ l) : w.heap[b]? = some (.cells c 24 (0, 0)) := h (b, c) hm
/-- The words that a row of cells holds, and what Meet and Union make of two rows. -/
def unsc (c : Array Value) : List Nat := (List.range 8).map fun i => natOf c[i]?
theorem unsc_sc (s : List Nat) (h : s.length = 8) : unsc (sc s) = s := by
  unfold unsc
  apply List.ext_getElem (by simp [h])
  intro i h1 h2
  simp only [List.getElem_map, List.getElem_range]
  rw [sc_get s i h2]
  simp [natOf, h2]
def mc (c d : Array Value) : Array Value := sc (meet (unsc c) (unsc d))
def uc (c d : Array Value) : Array Value := sc (uni (unsc c) (unsc d))
def IsS (c : Array Value) : Prop := ∃ s, Ok s ∧ c = sc s
theorem isS (s : List Nat) (h : Ok s) : IsS (sc s) := ⟨s, h, rfl⟩
theorem meet_all (c d : Array Value) (hc : IsS c) (hd : IsS d) (w : World) : Calls Tryd.prog 6 #[.agg c, .agg d] w fun e w' => e = .returned (.agg (mc c d)) ∧ Below w.heap.size w w' := by
  obtain ⟨a, ha, rfl⟩ := hc
  obtain ⟨b, hb, rfl⟩ := hd
  unfold mc
  rw [unsc_sc a ha.1, unsc_sc b hb.1]
  exact meet_any a b ha hb w
theorem union_all (c d : Array Value) (hc : IsS c) (hd : IsS d) (w : World) : Calls Tryd.prog 5 #[.agg c, .agg d] w fun e w' => e = .returned (.agg (uc c d)) ∧ Below w.heap.size w w' := by
  obtain ⟨a, ha, rfl⟩ := hc
  obtain ⟨b, hb, rfl⟩ := hd
  unfold uc
  rw [unsc_sc a ha.1, unsc_sc b hb.1]
  exact union_any a b ha hb w
theorem Many.set {y W : World} {l : List (Nat × Array Value)} {idx : Nat} {old : Array Value} (h : Many y l) (h0 : Many W l) (hi : W.heap.size ≤ idx) (hz : y.heap[idx]? = some (.cells old 24 (0, 0))) (c : Array Value) : Many (y.setRow idx c) ((idx, c) :: l) := fun q hq => by
  rcases List.mem_cons.1 hq with rfl | hq
  · exact setRow_heap _ _ _ _ _ _ hz
  · have := (Array.getElem?_eq_some_iff.1 (h0 q hq)).1
    rw [setRow_other _ _ _ _ (by omega)]
    exact h q hq
theorem below_undrew {w w' : World} (h : Below w.drew.heap.size w.drew w') : Below w.heap.size w w' := ⟨h.os, h.tape, h.output, h.size, h.block⟩

set_option maxRecDepth 10000 in
set_option maxHeartbeats 1600000 in
theorem walk (s0 s1 s2 : List Nat) (w : World) (hT : Tab w) (w0 : Ok s0) (w1 : Ok s1) (w2 : Ok s2) :
    Calls Tryd.prog 3 #[sv s0, sv s1, sv s2] w fun e w' => e = .returned (.bool true) ∧ Below w.heap.size w w' := by
  have HT : Hid (Tab w) := hT
  have hu := ok_uni w0 w1
  have hm := ok_meet w0 w1
  have hl := ok_meet w2 hu
  have hx := ok_meet w2 w0
  have hy := ok_meet w2 w1
  have HU : Hid (∀ w, Calls Tryd.prog 5 #[sv s0, sv s1] w fun e w' => e = .returned (sv (uni s0 s1)) ∧ Below w.heap.size w w') := fun w => union_any _ _ w0 w1 w
  have HV : Hid (∀ w, Calls Tryd.prog 5 #[sv s1, sv s0] w fun e w' => e = .returned (sv (uni s0 s1)) ∧ Below w.heap.size w w') := fun w => by rw [uni_comm w0 w1]; exact union_any _ _ w1 w0 w
  have HM : Hid (∀ w, Calls Tryd.prog 6 #[sv s0, sv s1] w fun e w' => e = .returned (sv (meet s0 s1)) ∧ Below w.heap.size w w') := fun w => meet_any _ _ w0 w1 w
  have HN : Hid (∀ w, Calls Tryd.prog 6 #[sv s1, sv s0] w fun e w' => e = .returned (sv (meet s0 s1)) ∧ Below w.heap.size w w') := fun w => by rw [meet_comm w0 w1]; exact meet_any _ _ w1 w0 w
  have HX : Hid (∀ w, Calls Tryd.prog 7 #[sv s2, sv (uni s0 s1)] w fun e w' => e = .returned (.bool ((!(meet s2 s0 == nought)) || (!(meet s2 s1 == nought)))) ∧ Below w.heap.size w w') := fun w => by rw [← meets_uni w0 w1 w2]; exact meets_any _ _ w2 hu w
  have HY : Hid (∀ w, Calls Tryd.prog 7 #[sv s2, sv s0] w fun e w' => e = .returned (.bool (!(meet s2 s0 == nought))) ∧ Below w.heap.size w w') := fun w => meets_any _ _ w2 w0 w
  have HZ0 : Hid (∀ w, Calls Tryd.prog 7 #[sv s2, sv s1] w fun e w' => e = .returned (.bool (!(meet s2 s1 == nought))) ∧ Below w.heap.size w w') := fun w => meets_any _ _ w2 w1 w
  have HF : Hid (∀ w, Calls Tryd.prog 6 #[sv s2, sv (uni s0 s1)] w fun e w' => e = .returned (sv (meet s2 (uni s0 s1))) ∧ Below w.heap.size w w') := fun w => meet_any _ _ w2 hu w
  have HJ : Hid (∀ w, Calls Tryd.prog 8 #[sv s0] w fun e w' => e = .returned (.string (strOfNums (textOf s0))) ∧ Below w.heap.size w w') := fun w => text_any _ w0 w
  have HK : Hid (∀ w, Calls Tryd.prog 9 #[.string (strOfNums (textOf s0))] w fun e w' => e = .returned (.tuple #[sv s0, .int .i64 0, .int .i64 0]) ∧ Below w.heap.size w w') := fun w => by
    have h := parse_any (strOfNums (textOf s0)) (by rw [text_size]; omega) w
    rw [parse_text s0 w0] at h
    exact h
  have HE : Hid (∀ w, Calls Tryd.prog 10 #[sv s0] w fun e w' => e = .returned (.bool (s0 == nought)) ∧ Below w.heap.size w w') := fun w => empty_any _ w0 w
  have HS : Hid (∀ w, Calls Tryd.prog 7 #[sv s0, sv s0] w fun e w' => e = .returned (.bool (!(s0 == nought))) ∧ Below w.heap.size w w') := fun w => by
    have h := meets_any _ _ w0 w0 w
    rwa [meet_self w0] at h
  have HB0 : Hid (∀ w, Tab w → Calls Tryd.prog 11 #[sv s0] w fun e w' => ∃ v c, e = .returned (.slice v (bitsOf s0).length c) ∧ Below w.heap.size w w') := fun w h => (bits_any _ w0 w h).mono fun e w' ⟨v, h1, h2, h3⟩ => by obtain ⟨a, c, rfl⟩ := own_slice h2; exact ⟨a, c, h1, h3⟩
  have HB1 : Hid (∀ w, Tab w → Calls Tryd.prog 11 #[sv s1] w fun e w' => ∃ v c, e = .returned (.slice v (bitsOf s1).length c) ∧ Below w.heap.size w w') := fun w h => (bits_any _ w1 w h).mono fun e w' ⟨v, h1, h2, h3⟩ => by obtain ⟨a, c, rfl⟩ := own_slice h2; exact ⟨a, c, h1, h3⟩
  have HB2 : Hid (∀ w, Tab w → Calls Tryd.prog 11 #[sv (meet s0 s1)] w fun e w' => ∃ v c, e = .returned (.slice v (bitsOf (meet s0 s1)).length c) ∧ Below w.heap.size w w') := fun w h => (bits_any _ hm w h).mono fun e w' ⟨v, h1, h2, h3⟩ => by obtain ⟨a, c, rfl⟩ := own_slice h2; exact ⟨a, c, h1, h3⟩
  have HB3 : Hid (∀ w, Tab w → Calls Tryd.prog 11 #[sv (uni s0 s1)] w fun e w' => ∃ v c, e = .returned (.slice v (bitsOf (uni s0 s1)).length c) ∧ Below w.heap.size w w') := fun w h => (bits_any _ hu w h).mono fun e w' ⟨v, h1, h2, h3⟩ => by obtain ⟨a, c, rfl⟩ := own_slice h2; exact ⟨a, c, h1, h3⟩
  have HMG : Hid (∀ c d : Array Value, IsS c → IsS d → ∀ w, Calls Tryd.prog 6 #[.agg c, .agg d] w fun e w' => e = .returned (.agg (mc c d)) ∧ Below w.heap.size w w') := meet_all
  have HUG : Hid (∀ c d : Array Value, IsS c → IsS d → ∀ w, Calls Tryd.prog 5 #[.agg c, .agg d] w fun e w' => e = .returned (.agg (uc c d)) ∧ Below w.heap.size w w') := union_all
  have hSa := isS s0 w0
  have hSb := isS s1 w1
  have hSc := isS s2 w2
  have hSx : IsS (mc (sc s2) (sc s0)) := by unfold mc; rw [unsc_sc s2 w2.1, unsc_sc s0 w0.1]; exact isS _ hx
  have hSy : IsS (mc (sc s2) (sc s1)) := by unfold mc; rw [unsc_sc s2 w2.1, unsc_sc s1 w1.1]; exact isS _ hy
  have HEQ : Hid (uc (mc (sc s2) (sc s0)) (mc (sc s2) (sc s1)) = sc (meet s2 (uni s0 s1))) := by
    unfold uc mc
    rw [unsc_sc s2 w2.1, unsc_sc s0 w0.1, unsc_sc s1 w1.1, unsc_sc _ hx.1, unsc_sc _ hy.1, meet_uni w0 w1 w2]
    rfl
  have hcount := bits_count w0 w1
  have hb0 := bitsOf_len s0
  have hb1 := bitsOf_len s1
  have hb2 := bitsOf_len (meet s0 s1)
  have hb3 := bitsOf_len (uni s0 s1)
  have hq0 := fun w => eql_sig s0 s0 w0.1 w0.1 w
  have hqu := fun w => eql_sig (uni s0 s1) (uni s0 s1) hu.1 hu.1 w
  have hqm := fun w => eql_sig (meet s0 s1) (meet s0 s1) hm.1 hm.1 w
  have hql := fun w => eql_sig (meet s2 (uni s0 s1)) (meet s2 (uni s0 s1)) hl.1 hl.1 w
  have hza : (sc s0).size = 8 := by rw [sc_size]; exact w0.1
  have hzb : (sc s1).size = 8 := by rw [sc_size]; exact w1.1
  have hzc : (sc s2).size = 8 := by rw [sc_size]; exact w2.1
  have hzu : (sc (uni s0 s1)).size = 8 := by rw [sc_size]; exact hu.1
  have hzm : (sc (meet s0 s1)).size = 8 := by rw [sc_size]; exact hm.1
  have hzl : (sc (meet s2 (uni s0 s1))).size = 8 := by rw [sc_size]; exact hl.1
  have h1a := sc_one s0
  have h1u := sc_one (uni s0 s1)
  have h1m := sc_one (meet s0 s1)
  have h1l := sc_one (meet s2 (uni s0 s1))
  simp only [beq_self_eq_true] at hq0 hqu hqm hql
  unfold sv at *
  clear hT w0 w1 w2 hu hm hl hx hy
  generalize (!(meet s2 s0 == nought)) = by0 at *
  generalize (!(meet s2 s1 == nought)) = bz0 at *
  generalize (s0 == nought) = bn at *
  generalize strOfNums (textOf s0) = tx at *
  generalize (bitsOf s0).length = n0 at *
  generalize (bitsOf s1).length = n1 at *
  generalize (bitsOf (meet s0 s1)).length = n2 at *
  generalize (bitsOf (uni s0 s1)).length = n3 at *
  generalize sc (meet s2 (uni s0 s1)) = cl at *
  generalize sc (uni s0 s1) = cu at *
  generalize sc (meet s0 s1) = cm at *
  generalize sc s0 = ca at *
  generalize sc s1 = cb at *
  generalize sc s2 = cc at *
  have hpa := pack8 ca hza
  have hpb := pack8 cb hzb
  have hpc := pack8 cc hzc
  have hpu := pack8 cu hzu
  have hpm := pack8 cm hzm
  have hpl := pack8 cl hzl
  have hsa := fun (w : World) (old : Array Value) (ho : old.size = 8) => store_1_0 (P := Tryd.prog) w 24 old ca ho hza h1a
  have hsu := fun (w : World) (old : Array Value) (ho : old.size = 8) => store_1_0 (P := Tryd.prog) w 24 old cu ho hzu h1u
  have hsm := fun (w : World) (old : Array Value) (ho : old.size = 8) => store_1_0 (P := Tryd.prog) w 24 old cm ho hzm h1m
  have hsl := fun (w : World) (old : Array Value) (ho : old.size = 8) => store_1_0 (P := Tryd.prog) w 24 old cl ho hzl h1l
  go_enter Tryd.func3, Tryd.ntmps3
  have HK0 : Hid (Many (((w.alloc (.cells ca 24)).alloc (.cells cb 24)).alloc (.cells cc 24)) [(w.heap.size, ca), (w.heap.size + 1, cb), (w.heap.size + 1 + 1, cc)]) := by
    intro q hq
    simp only [List.mem_cons, List.not_mem_nil, or_false] at hq
    rcases hq with rfl | rfl | rfl
    · exact row_later (heap_alloc2_old _ _ _) (below_a1 _ _)
    · exact row_3_1 _ _ _ _
    · exact row_3_2 _ _ _ _
  go_wp2_with fail
  refine (shown_any _ (HT.out.later (below_a3 _ _ _ _))).mono ?_
  rintro e x1 ⟨rfl, hb⟩
  have HL1 : Hid (Below w.heap.size w x1) := below_then (below_a3 _ _ _ _) hb
  have HK1 : Hid (Many x1 [(w.heap.size, ca), (w.heap.size + 1, cb), (w.heap.size + 1 + 1, cc)]) := HK0.out.later hb
  clear hb
  have c_a := row_cells (w := x1) (HK1.out.row (w.heap.size) ca (by simp)) hza
  have c_b := row_cells (w := x1) (HK1.out.row (w.heap.size + 1) cb (by simp)) hzb
  go_wp2_with fail
  refine (HU.out _).mono ?_
  rintro e x2 ⟨rfl, hb⟩
  have HL2 : Hid (Below w.heap.size w x2) := below_then HL1.out hb
  have HK2 : Hid (Many x2 [(w.heap.size, ca), (w.heap.size + 1, cb), (w.heap.size + 1 + 1, cc)]) := HK1.out.later hb
  clear hb c_a c_b
  have HQ2 : Hid (Many (x2.alloc (.cells cu 24)) [(x2.heap.size, cu), (w.heap.size, ca), (w.heap.size + 1, cb), (w.heap.size + 1 + 1, cc)]) := HK2.out.more cu
  have c_b := row_cells (w := (x2.alloc (.cells cu 24))) (HQ2.out.row (w.heap.size + 1) cb (by simp)) hzb
  have c_a := row_cells (w := (x2.alloc (.cells cu 24))) (HQ2.out.row (w.heap.size) ca (by simp)) hza
  go_wp2_with fail
  refine (HV.out _).mono ?_
  rintro e x3 ⟨rfl, hb⟩
  have HL3 : Hid (Below w.heap.size w x3) := below_then (below_alloc HL2.out _) hb
  have HK3 : Hid (Many x3 [(x2.heap.size, cu), (w.heap.size, ca), (w.heap.size + 1, cb), (w.heap.size + 1 + 1, cc)]) := HQ2.out.later hb
  clear hb c_b c_a
  have HQ3 : Hid (Many (x3.alloc (.cells cu 24)) [(x3.heap.size, cu), (x2.heap.size, cu), (w.heap.size, ca), (w.heap.size + 1, cb), (w.heap.size + 1 + 1, cc)]) := HK3.out.more cu
  have c_a := row_cells (w := (x3.alloc (.cells cu 24))) (HQ3.out.row (w.heap.size) ca (by simp)) hza
  have c_b := row_cells (w := (x3.alloc (.cells cu 24))) (HQ3.out.row (w.heap.size + 1) cb (by simp)) hzb
  go_wp2_with fail
  refine (HM.out _).mono ?_
  rintro e x4 ⟨rfl, hb⟩
  have HL4 : Hid (Below w.heap.size w x4) := below_then (below_alloc HL3.out _) hb
  have HK4 : Hid (Many x4 [(x3.heap.size, cu), (x2.heap.size, cu), (w.heap.size, ca), (w.heap.size + 1, cb), (w.heap.size + 1 + 1, cc)]) := HQ3.out.later hb
  clear hb c_a c_b
  have HQ4 : Hid (Many (x4.alloc (.cells cm 24)) [(x4.heap.size, cm), (x3.heap.size, cu), (x2.heap.size, cu), (w.heap.size, ca), (w.heap.size + 1, cb), (w.heap.size + 1 + 1, cc)]) := HK4.out.more cm
  have c_b := row_cells (w := (x4.alloc (.cells cm 24))) (HQ4.out.row (w.heap.size + 1) cb (by simp)) hzb
  have c_a := row_cells (w := (x4.alloc (.cells cm 24))) (HQ4.out.row (w.heap.size) ca (by simp)) hza
  go_wp2_with fail
  refine (HN.out _).mono ?_
  rintro e x5 ⟨rfl, hb⟩
  have HL5 : Hid (Below w.heap.size w x5) := below_then (below_alloc HL4.out _) hb
  have HK5 : Hid (Many x5 [(x4.heap.size, cm), (x3.heap.size, cu), (x2.heap.size, cu), (w.heap.size, ca), (w.heap.size + 1, cb), (w.heap.size + 1 + 1, cc)]) := HQ4.out.later hb
  clear hb c_b c_a
  have HQ5 : Hid (Many (x5.alloc (.cells cm 24)) [(x5.heap.size, cm), (x4.heap.size, cm), (x3.heap.size, cu), (x2.heap.size, cu), (w.heap.size, ca), (w.heap.size + 1, cb), (w.heap.size + 1 + 1, cc)]) := HK5.out.more cm
  have c_c := row_cells (w := (x5.alloc (.cells cm 24))) (HQ5.out.row (w.heap.size + 1 + 1) cc (by simp)) hzc
  have c_u := row_cells (w := (x5.alloc (.cells cm 24))) (HQ5.out.row (x2.heap.size) cu (by simp)) hzu
  go_wp2_with fail
  refine (HX.out _).mono ?_
  rintro e x6 ⟨rfl, hb⟩
  have HL6 : Hid (Below w.heap.size w x6) := below_then (below_alloc HL5.out _) hb
  have HK6 : Hid (Many x6 [(x5.heap.size, cm), (x4.heap.size, cm), (x3.heap.size, cu), (x2.heap.size, cu), (w.heap.size, ca), (w.heap.size + 1, cb), (w.heap.size + 1 + 1, cc)]) := HQ5.out.later hb
  clear hb c_c c_u
  have c_c := row_cells (w := x6) (HK6.out.row (w.heap.size + 1 + 1) cc (by simp)) hzc
  have c_a := row_cells (w := x6) (HK6.out.row (w.heap.size) ca (by simp)) hza
  go_wp2_with fail
  refine (HY.out _).mono ?_
  rintro e x7 ⟨rfl, hb⟩
  have HL7 : Hid (Below w.heap.size w x7) := below_then HL6.out hb
  have HK7 : Hid (Many x7 [(x5.heap.size, cm), (x4.heap.size, cm), (x3.heap.size, cu), (x2.heap.size, cu), (w.heap.size, ca), (w.heap.size + 1, cb), (w.heap.size + 1 + 1, cc)]) := HK6.out.later hb
  clear hb c_c c_a
  have c_c := row_cells (w := x7) (HK7.out.row (w.heap.size + 1 + 1) cc (by simp)) hzc
  have c_b := row_cells (w := x7) (HK7.out.row (w.heap.size + 1) cb (by simp)) hzb
  go_wp2_with fail
  refine (HZ0.out _).mono ?_
  rintro e x8 ⟨rfl, hb⟩
  have HL8 : Hid (Below w.heap.size w x8) := below_then HL7.out hb
  have HK8 : Hid (Many x8 [(x5.heap.size, cm), (x4.heap.size, cm), (x3.heap.size, cu), (x2.heap.size, cu), (w.heap.size, ca), (w.heap.size + 1, cb), (w.heap.size + 1 + 1, cc)]) := HK7.out.later hb
  clear hb c_c c_b
  have c_c := row_cells (w := x8) (HK8.out.row (w.heap.size + 1 + 1) cc (by simp)) hzc
  have c_u := row_cells (w := x8) (HK8.out.row (x2.heap.size) cu (by simp)) hzu
  go_wp2_with fail
  refine (HF.out _).mono ?_
  rintro e x9 ⟨rfl, hb⟩
  have HL9 : Hid (Below w.heap.size w x9) := below_then HL8.out hb
  have HK9 : Hid (Many x9 [(x5.heap.size, cm), (x4.heap.size, cm), (x3.heap.size, cu), (x2.heap.size, cu), (w.heap.size, ca), (w.heap.size + 1, cb), (w.heap.size + 1 + 1, cc)]) := HK8.out.later hb
  clear hb c_c c_u
  have HQ9 : Hid (Many (x9.alloc (.cells cl 24)) [(x9.heap.size, cl), (x5.heap.size, cm), (x4.heap.size, cm), (x3.heap.size, cu), (x2.heap.size, cu), (w.heap.size, ca), (w.heap.size + 1, cb), (w.heap.size + 1 + 1, cc)]) := HK9.out.more cl
  have c_a := row_cells (w := (x9.alloc (.cells cl 24))) (HQ9.out.row (w.heap.size) ca (by simp)) hza
  have c_b := row_cells (w := (x9.alloc (.cells cl 24))) (HQ9.out.row (w.heap.size + 1) cb (by simp)) hzb
  have c_c := row_cells (w := (x9.alloc (.cells cl 24))) (HQ9.out.row (w.heap.size + 1 + 1) cc (by simp)) hzc
  go_upto_region 10 with fail
  have HKR : Hid (Many (x9.alloc (.cells cl 24)) [(x9.heap.size, cl), (x5.heap.size, cm), (x4.heap.size, cm), (x3.heap.size, cu), (x2.heap.size, cu), (w.heap.size, ca), (w.heap.size + 1, cb), (w.heap.size + 1 + 1, cc)]) := HQ9.out
  have HLR : Hid (Below w.heap.size w (x9.alloc (.cells cl 24))) := (below_alloc HL9.out _)
  have heq := HEQ.out
  have hw9 : w.heap.size ≤ x9.heap.size := HL9.out.size
  go_cut [16] from 52 to 58 (fun s16 wx => ∃ blk, s16 = .pointer (some ⟨blk, 0, none⟩) ∧ Many wx ((blk, cl) :: [(x9.heap.size, cl), (x5.heap.size, cm), (x4.heap.size, cm), (x3.heap.size, cu), (x2.heap.size, cu), (w.heap.size, ca), (w.heap.size + 1, cb), (w.heap.size + 1 + 1, cc)]) ∧ Below w.heap.size w wx)
  case first =>
    clear HU HV HM HN HX HY HZ0 HF HJ HK HE HS HB0 HB1 HB2 HB3 hcount hb0 hb1 hb2 hb3 hq0 hqu hqm hql hsa hsu hsm HT
    go_region_held3 (fun w' => (w'.cell? ⟨w.heap.size + 1 + 1, 0, none⟩ = some (cc[0]'(by omega)) ∧ w'.cell? ⟨w.heap.size + 1 + 1, 1, none⟩ = some (cc[1]'(by omega)) ∧ w'.cell? ⟨w.heap.size + 1 + 1, 2, none⟩ = some (cc[2]'(by omega)) ∧ w'.cell? ⟨w.heap.size + 1 + 1, 3, none⟩ = some (cc[3]'(by omega)) ∧ w'.cell? ⟨w.heap.size + 1 + 1, 4, none⟩ = some (cc[4]'(by omega)) ∧ w'.cell? ⟨w.heap.size + 1 + 1, 5, none⟩ = some (cc[5]'(by omega)) ∧ w'.cell? ⟨w.heap.size + 1 + 1, 6, none⟩ = some (cc[6]'(by omega)) ∧ w'.cell? ⟨w.heap.size + 1 + 1, 7, none⟩ = some (cc[7]'(by omega))) ∧ (w'.cell? ⟨w.heap.size, 0, none⟩ = some (ca[0]'(by omega)) ∧ w'.cell? ⟨w.heap.size, 1, none⟩ = some (ca[1]'(by omega)) ∧ w'.cell? ⟨w.heap.size, 2, none⟩ = some (ca[2]'(by omega)) ∧ w'.cell? ⟨w.heap.size, 3, none⟩ = some (ca[3]'(by omega)) ∧ w'.cell? ⟨w.heap.size, 4, none⟩ = some (ca[4]'(by omega)) ∧ w'.cell? ⟨w.heap.size, 5, none⟩ = some (ca[5]'(by omega)) ∧ w'.cell? ⟨w.heap.size, 6, none⟩ = some (ca[6]'(by omega)) ∧ w'.cell? ⟨w.heap.size, 7, none⟩ = some (ca[7]'(by omega))) ∧ (w'.cell? ⟨w.heap.size + 1, 0, none⟩ = some (cb[0]'(by omega)) ∧ w'.cell? ⟨w.heap.size + 1, 1, none⟩ = some (cb[1]'(by omega)) ∧ w'.cell? ⟨w.heap.size + 1, 2, none⟩ = some (cb[2]'(by omega)) ∧ w'.cell? ⟨w.heap.size + 1, 3, none⟩ = some (cb[3]'(by omega)) ∧ w'.cell? ⟨w.heap.size + 1, 4, none⟩ = some (cb[4]'(by omega)) ∧ w'.cell? ⟨w.heap.size + 1, 5, none⟩ = some (cb[5]'(by omega)) ∧ w'.cell? ⟨w.heap.size + 1, 6, none⟩ = some (cb[6]'(by omega)) ∧ w'.cell? ⟨w.heap.size + 1, 7, none⟩ = some (cb[7]'(by omega)))) (first | exact ⟨row_cells (HKR.out.row (w.heap.size + 1 + 1) cc (by simp)) hzc, row_cells (HKR.out.row (w.heap.size) ca (by simp)) hza, row_cells (HKR.out.row (w.heap.size + 1) cb (by simp)) hzb⟩ | exact ⟨row_cells (row_later (HKR.out.row (w.heap.size + 1 + 1) cc (by simp)) (below_a1 _ (.cells #[Value.int .u64 0, Value.int .u64 0, Value.int .u64 0, Value.int .u64 0, Value.int .u64 0, Value.int .u64 0, Value.int .u64 0, Value.int .u64 0] 24))) hzc, row_cells (row_later (HKR.out.row (w.heap.size) ca (by simp)) (below_a1 _ (.cells #[Value.int .u64 0, Value.int .u64 0, Value.int .u64 0, Value.int .u64 0, Value.int .u64 0, Value.int .u64 0, Value.int .u64 0, Value.int .u64 0] 24))) hza, row_cells (row_later (HKR.out.row (w.heap.size + 1) cb (by simp)) (below_a1 _ (.cells #[Value.int .u64 0, Value.int .u64 0, Value.int .u64 0, Value.int .u64 0, Value.int .u64 0, Value.int .u64 0, Value.int .u64 0, Value.int .u64 0] 24))) hzb⟩ | exact ⟨row_cells (row_later (HKR.out.row (w.heap.size + 1 + 1) cc (by simp)) (below_a1 _ (.cells cl 24))) hzc, row_cells (row_later (HKR.out.row (w.heap.size) ca (by simp)) (below_a1 _ (.cells cl 24))) hza, row_cells (row_later (HKR.out.row (w.heap.size + 1) cb (by simp)) (below_a1 _ (.cells cl 24))) hzb⟩ | exact ⟨row_cells ((Many.set HKR.out HQ9.out (by simp <;> omega) HZ cl).row (w.heap.size + 1 + 1) cc (by simp)) hzc, row_cells ((Many.set HKR.out HQ9.out (by simp <;> omega) HZ cl).row (w.heap.size) ca (by simp)) hza, row_cells ((Many.set HKR.out HQ9.out (by simp <;> omega) HZ cl).row (w.heap.size + 1) cb (by simp)) hzb⟩) (first | (go_at_call 6; refine (HMG.out _ _ (by assumption) (by assumption) _).mono ?_; rintro e y ⟨rfl, hb⟩; have HKR : Hid (Many y [(x9.heap.size, cl), (x5.heap.size, cm), (x4.heap.size, cm), (x3.heap.size, cu), (x2.heap.size, cu), (w.heap.size, ca), (w.heap.size + 1, cb), (w.heap.size + 1 + 1, cc)]) := Many.later (by first | exact HKR.out | (have h9 := Many.later HKR.out (below_a1 _ (.cells #[Value.int .u64 0, Value.int .u64 0, Value.int .u64 0, Value.int .u64 0, Value.int .u64 0, Value.int .u64 0, Value.int .u64 0, Value.int .u64 0] 24)); exact h9)) hb; have HLR : Hid (Below w.heap.size w y) := (by first | exact below_then HLR.out ⟨hb.os, hb.tape, hb.output, hb.size, hb.block⟩ | exact below_then (below_alloc HLR.out (.cells #[Value.int .u64 0, Value.int .u64 0, Value.int .u64 0, Value.int .u64 0, Value.int .u64 0, Value.int .u64 0, Value.int .u64 0, Value.int .u64 0] 24)) ⟨hb.os, hb.tape, hb.output, hb.size, hb.block⟩); have hszy : x9.heap.size + 1 ≤ y.heap.size := (by have hsz0 := hb.size; (try simp at hsz0); omega); (first | have HZ := row_later HZ hb | have HZ := row_later (heap_alloc_new _ (.cells #[Value.int .u64 0, Value.int .u64 0, Value.int .u64 0, Value.int .u64 0, Value.int .u64 0, Value.int .u64 0, Value.int .u64 0, Value.int .u64 0] 24)) hb | have HZ := row_later (w := World.drew _) (show (World.drew _).heap[_]? = _ from heap_alloc_new _ (.cells #[Value.int .u64 0, Value.int .u64 0, Value.int .u64 0, Value.int .u64 0, Value.int .u64 0, Value.int .u64 0, Value.int .u64 0, Value.int .u64 0] 24)) hb | skip); (try simp only [World.size_alloc] at HZ); clear hb) | (go_at_call 5; refine (HUG.out _ _ (by assumption) (by assumption) _).mono ?_; rintro e y ⟨rfl, hb⟩; have HKR : Hid (Many y [(x9.heap.size, cl), (x5.heap.size, cm), (x4.heap.size, cm), (x3.heap.size, cu), (x2.heap.size, cu), (w.heap.size, ca), (w.heap.size + 1, cb), (w.heap.size + 1 + 1, cc)]) := Many.later (by first | exact HKR.out | (have h9 := Many.later HKR.out (below_a1 _ (.cells #[Value.int .u64 0, Value.int .u64 0, Value.int .u64 0, Value.int .u64 0, Value.int .u64 0, Value.int .u64 0, Value.int .u64 0, Value.int .u64 0] 24)); exact h9)) hb; have HLR : Hid (Below w.heap.size w y) := (by first | exact below_then HLR.out ⟨hb.os, hb.tape, hb.output, hb.size, hb.block⟩ | exact below_then (below_alloc HLR.out (.cells #[Value.int .u64 0, Value.int .u64 0, Value.int .u64 0, Value.int .u64 0, Value.int .u64 0, Value.int .u64 0, Value.int .u64 0, Value.int .u64 0] 24)) ⟨hb.os, hb.tape, hb.output, hb.size, hb.block⟩); have hszy : x9.heap.size + 1 ≤ y.heap.size := (by have hsz0 := hb.size; (try simp at hsz0); omega); (first | have HZ := row_later HZ hb | have HZ := row_later (heap_alloc_new _ (.cells #[Value.int .u64 0, Value.int .u64 0, Value.int .u64 0, Value.int .u64 0, Value.int .u64 0, Value.int .u64 0, Value.int .u64 0, Value.int .u64 0] 24)) hb | have HZ := row_later (w := World.drew _) (show (World.drew _).heap[_]? = _ from heap_alloc_new _ (.cells #[Value.int .u64 0, Value.int .u64 0, Value.int .u64 0, Value.int .u64 0, Value.int .u64 0, Value.int .u64 0, Value.int .u64 0, Value.int .u64 0] 24)) hb | skip); (try simp only [World.size_alloc] at HZ); (try have hst := store_row (P := Tryd.prog) HZ rfl hzl h1l); (try simp only [World.size_alloc] at hst); clear hb))
    all_goals
      go_wp2_with fail
      go_meet
      first
        | exact ⟨_, rfl, HKR.out.more _, below_alloc HLR.out _⟩
        | exact ⟨_, rfl, Many.set HKR.out HQ9.out (by simp <;> omega) HZ _, below_setRow HLR.out _ (by omega) _⟩
  case rest =>
  obtain ⟨blk, rfl, hK, hL⟩ := hcut
  have HK10 : Hid (Many wc [(blk, cl), (x9.heap.size, cl), (x5.heap.size, cm), (x4.heap.size, cm), (x3.heap.size, cu), (x2.heap.size, cu), (w.heap.size, ca), (w.heap.size + 1, cb), (w.heap.size + 1 + 1, cc)]) := hK
  have HL10 : Hid (Below w.heap.size w wc) := hL
  clear hK hL c_a c_b c_c HKR HLR heq
  have c_a := row_cells (w := wc) (HK10.out.row (w.heap.size) ca (by simp)) hza
  go_wp2_with fail
  refine (HJ.out _).mono ?_
  rintro e x11 ⟨rfl, hb⟩
  have HL11 : Hid (Below w.heap.size w x11) := below_then HL10.out hb
  have HK11 : Hid (Many x11 [(blk, cl), (x9.heap.size, cl), (x5.heap.size, cm), (x4.heap.size, cm), (x3.heap.size, cu), (x2.heap.size, cu), (w.heap.size, ca), (w.heap.size + 1, cb), (w.heap.size + 1 + 1, cc)]) := HK10.out.later hb
  clear hb c_a
  go_wp2_with fail
  refine (HK.out _).mono ?_
  rintro e x12 ⟨rfl, hb⟩
  have HL12 : Hid (Below w.heap.size w x12) := below_then HL11.out hb
  have HK12 : Hid (Many x12 [(blk, cl), (x9.heap.size, cl), (x5.heap.size, cm), (x4.heap.size, cm), (x3.heap.size, cu), (x2.heap.size, cu), (w.heap.size, ca), (w.heap.size + 1, cb), (w.heap.size + 1 + 1, cc)]) := HK11.out.later hb
  clear hb
  have HQ12 : Hid (Many (x12.alloc (.cells ca 24)) [(x12.heap.size, ca), (blk, cl), (x9.heap.size, cl), (x5.heap.size, cm), (x4.heap.size, cm), (x3.heap.size, cu), (x2.heap.size, cu), (w.heap.size, ca), (w.heap.size + 1, cb), (w.heap.size + 1 + 1, cc)]) := HK12.out.more ca
  have c_a := row_cells (w := (x12.alloc (.cells ca 24))) (HQ12.out.row (w.heap.size) ca (by simp)) hza
  go_wp2_with fail
  refine (HE.out _).mono ?_
  rintro e x13 ⟨rfl, hb⟩
  have HL13 : Hid (Below w.heap.size w x13) := below_then (below_alloc HL12.out _) hb
  have HK13 : Hid (Many x13 [(x12.heap.size, ca), (blk, cl), (x9.heap.size, cl), (x5.heap.size, cm), (x4.heap.size, cm), (x3.heap.size, cu), (x2.heap.size, cu), (w.heap.size, ca), (w.heap.size + 1, cb), (w.heap.size + 1 + 1, cc)]) := HQ12.out.later hb
  clear hb c_a
  have c_a := row_cells (w := x13) (HK13.out.row (w.heap.size) ca (by simp)) hza
  go_wp2_with fail
  refine (HS.out _).mono ?_
  rintro e x14 ⟨rfl, hb⟩
  have HL14 : Hid (Below w.heap.size w x14) := below_then HL13.out hb
  have HK14 : Hid (Many x14 [(x12.heap.size, ca), (blk, cl), (x9.heap.size, cl), (x5.heap.size, cm), (x4.heap.size, cm), (x3.heap.size, cu), (x2.heap.size, cu), (w.heap.size, ca), (w.heap.size + 1, cb), (w.heap.size + 1 + 1, cc)]) := HK13.out.later hb
  clear hb c_a
  have c_a := row_cells (w := x14) (HK14.out.row (w.heap.size) ca (by simp)) hza
  go_wp2_with fail
  refine (HB0.out _ (HT.out.later HL14.out)).mono ?_
  rintro e x15 ⟨v0, k0, rfl, hb⟩
  have HL15 : Hid (Below w.heap.size w x15) := below_then HL14.out hb
  have HK15 : Hid (Many x15 [(x12.heap.size, ca), (blk, cl), (x9.heap.size, cl), (x5.heap.size, cm), (x4.heap.size, cm), (x3.heap.size, cu), (x2.heap.size, cu), (w.heap.size, ca), (w.heap.size + 1, cb), (w.heap.size + 1 + 1, cc)]) := HK14.out.later hb
  clear hb c_a
  have c_b := row_cells (w := x15) (HK15.out.row (w.heap.size + 1) cb (by simp)) hzb
  go_wp2_with fail
  refine (HB1.out _ (HT.out.later HL15.out)).mono ?_
  rintro e x16 ⟨v1, k1, rfl, hb⟩
  have HL16 : Hid (Below w.heap.size w x16) := below_then HL15.out hb
  have HK16 : Hid (Many x16 [(x12.heap.size, ca), (blk, cl), (x9.heap.size, cl), (x5.heap.size, cm), (x4.heap.size, cm), (x3.heap.size, cu), (x2.heap.size, cu), (w.heap.size, ca), (w.heap.size + 1, cb), (w.heap.size + 1 + 1, cc)]) := HK15.out.later hb
  clear hb c_b
  have c_m := row_cells (w := x16) (HK16.out.row (x4.heap.size) cm (by simp)) hzm
  go_wp2_with fail
  refine (HB2.out _ (HT.out.later HL16.out)).mono ?_
  rintro e x17 ⟨v2, k2, rfl, hb⟩
  have HL17 : Hid (Below w.heap.size w x17) := below_then HL16.out hb
  have HK17 : Hid (Many x17 [(x12.heap.size, ca), (blk, cl), (x9.heap.size, cl), (x5.heap.size, cm), (x4.heap.size, cm), (x3.heap.size, cu), (x2.heap.size, cu), (w.heap.size, ca), (w.heap.size + 1, cb), (w.heap.size + 1 + 1, cc)]) := HK16.out.later hb
  clear hb c_m
  have c_u := row_cells (w := x17) (HK17.out.row (x2.heap.size) cu (by simp)) hzu
  go_wp2_with fail
  refine (HB3.out _ (HT.out.later HL17.out)).mono ?_
  rintro e x18 ⟨v3, k3, rfl, hb⟩
  have HL18 : Hid (Below w.heap.size w x18) := below_then HL17.out hb
  have HK18 : Hid (Many x18 [(x12.heap.size, ca), (blk, cl), (x9.heap.size, cl), (x5.heap.size, cm), (x4.heap.size, cm), (x3.heap.size, cu), (x2.heap.size, cu), (w.heap.size, ca), (w.heap.size + 1, cb), (w.heap.size + 1 + 1, cc)]) := HK17.out.later hb
  clear hb c_u
  have c_u := row_cells (w := x18) (HK18.out.row (x2.heap.size) cu (by simp)) hzu
  have c_v := row_cells (w := x18) (HK18.out.row (x3.heap.size) cu (by simp)) hzu
  have c_m := row_cells (w := x18) (HK18.out.row (x4.heap.size) cm (by simp)) hzm
  have c_n := row_cells (w := x18) (HK18.out.row (x5.heap.size) cm (by simp)) hzm
  have c_l := row_cells (w := x18) (HK18.out.row (x9.heap.size) cl (by simp)) hzl
  have c_r := row_cells (w := x18) (HK18.out.row (blk) cl (by simp)) hzl
  have c_p := row_cells (w := x18) (HK18.out.row (x12.heap.size) ca (by simp)) hza
  have c_a := row_cells (w := x18) (HK18.out.row (w.heap.size) ca (by simp)) hza
  have hcz : ((n0 : Int) + (n1 : Int) == (n2 : Int) + (n3 : Int)) = true := by simp; omega
  cases by0 <;> cases bz0 <;> cases bn
  all_goals
    go_wp2
    go_ret
    exact ⟨by simp, HL18.out⟩

/-! ### the row -/
theorem contract (H : Type) (enc : TypeId × Value → H) (W : World) (base : Nat) (args : Array Value) (ds gs : List (DataW H)) (before : List MemPlace)
    (hval : ∀ (j : Nat) t v, Tryd.f3.params[j]? = some t → args[j]? = some v → Value.okWide Tryd.prog W .any base t v)
    (hW : DataW.Whole enc Tryd.prog Tryd.f3.params.toList Rows.sigLawsSpec.vars false W args.toList ds gs before)
    (hR : (DataW.weightsEach Tryd.prog (Tryd.f3.params.toList ++ []) (ds ++ gs)).all (· ≤ reachBytes) = true)
    (hL : laidMetH Tryd.prog Rows.sigLawsRow.laid W) :
    Calls Tryd.prog 3 args W fun e W' => ∃ v, e = .returned v ∧ Rows.sigLawsSpec.post enc Tryd.prog Tryd.f3 false true false false W args v W' := by
  have hW' := hW
  obtain ⟨p, q, hA0, hV, rfl, hfz, hnd⟩ := hW
  have hA : DataW.TrodAll enc Tryd.prog W 0 (fun _ => true) true Tryd.f3.params.toList args.toList ds p := hA0
  rw [Tryd.params3] at hA hval
  obtain ⟨v0, vs0, d0, ds0, p0, q0, hargs, rfl, rfl, h0, r0⟩ := trodAll_cons hA
  obtain ⟨v1, vs1, d1, ds1, p1, q1, rfl, rfl, rfl, h1, r1⟩ := trodAll_cons r0
  obtain ⟨v2, vs2, d2, ds2, p2, q2, rfl, rfl, rfl, h2, r2⟩ := trodAll_cons r1
  obtain ⟨rfl, rfl, rfl⟩ := trodAll_nil r2
  obtain rfl : args = #[v0, v1, v2] := by cases args; simp_all
  obtain ⟨rfl, rfl⟩ := trodVars_none hV
  have k0 := h0
  have lt0 : ∀ x ∈ p0, x.block < W.heap.size := by obtain ⟨m, hm⟩ := k0; exact DataW.trod_lt m _ _ _ hm
  obtain ⟨s0, w0, rfl⟩ := open_sig (hval 0 24 v0 rfl rfl) h0
  have k1 := h1
  have lt1 : ∀ x ∈ p1, x.block < W.heap.size := by obtain ⟨m, hm⟩ := k1; exact DataW.trod_lt m _ _ _ hm
  obtain ⟨s1, w1, rfl⟩ := open_sig (hval 1 24 v1 rfl rfl) h1
  have k2 := h2
  have lt2 : ∀ x ∈ p2, x.block < W.heap.size := by obtain ⟨m, hm⟩ := k2; exact DataW.trod_lt m _ _ _ hm
  obtain ⟨s2, w2, rfl⟩ := open_sig (hval 2 24 v2 rfl rfl) h2
  clear hA0
  refine (walk s0 s1 s2 W (tab_laid hL) w0 w1 w2).mono fun e W' ⟨he, bel⟩ => ?_
  subst he
  exact ⟨_, rfl, _, _, _, [], _, [], hW', trodAll_mk1 (shut_bool Tryd.underlying4 _), (trodAll_cons_mk (Below.trod laidOut (by kernel_rfl) (of_decide_eq_true (by kernel_rfl)) k0 bel lt0) (trodAll_cons_mk (Below.trod laidOut (by kernel_rfl) (of_decide_eq_true (by kernel_rfl)) k1 bel lt1) (trodAll_cons_mk (Below.trod laidOut (by kernel_rfl) (of_decide_eq_true (by kernel_rfl)) k2 bel lt2) trodAll_mk0))), rfl, bel.frame _, fun h => by cases h⟩

theorem laid_met (os : Os) : laidMet Tryd.prog Rows.sigLawsRow.laid (World.forCall { World.holding Tryd.prog os ⟨#[], #[], []⟩ with heap := (World.holding Tryd.prog os ⟨#[], #[], []⟩).heap.modify 0 fun | .cells _ t frozen => .cells (tabZ.map fun z => Value.int .u8 z).toArray t frozen | o => o } (fun _ _ => 0) ⟨#[], #[.agg #[.int .u64 0, .int .u64 0, .int .u64 0, .int .u64 0, .int .u64 0, .int .u64 0, .int .u64 0, .int .u64 0], .agg #[.int .u64 0, .int .u64 0, .int .u64 0, .int .u64 0, .int .u64 0, .int .u64 0, .int .u64 0, .int .u64 0], .agg #[.int .u64 0, .int .u64 0, .int .u64 0, .int .u64 0, .int .u64 0, .int .u64 0, .int .u64 0, .int .u64 0]], []⟩).memory :=
  laidMet_of_run' 8 (by kernel_rfl) (by kernel_rfl)
theorem reads (os : Os) {H : Type} (enc : TypeId × Value → H) : ∃ places, DataW.whole enc Tryd.prog (World.forCall { World.holding Tryd.prog os ⟨#[], #[], []⟩ with heap := (World.holding Tryd.prog os ⟨#[], #[], []⟩).heap.modify 0 fun | .cells _ t frozen => .cells (tabZ.map fun z => Value.int .u8 z).toArray t frozen | o => o } (fun _ _ => 0) ⟨#[], #[.agg #[.int .u64 0, .int .u64 0, .int .u64 0, .int .u64 0, .int .u64 0, .int .u64 0, .int .u64 0, .int .u64 0], .agg #[.int .u64 0, .int .u64 0, .int .u64 0, .int .u64 0, .int .u64 0, .int .u64 0, .int .u64 0, .int .u64 0], .agg #[.int .u64 0, .int .u64 0, .int .u64 0, .int .u64 0, .int .u64 0, .int .u64 0, .int .u64 0, .int .u64 0]], []⟩).memory Tryd.f3.params.toList Rows.sigLawsSpec.vars false [.agg #[.int .u64 0, .int .u64 0, .int .u64 0, .int .u64 0, .int .u64 0, .int .u64 0, .int .u64 0, .int .u64 0], .agg #[.int .u64 0, .int .u64 0, .int .u64 0, .int .u64 0, .int .u64 0, .int .u64 0, .int .u64 0, .int .u64 0], .agg #[.int .u64 0, .int .u64 0, .int .u64 0, .int .u64 0, .int .u64 0, .int .u64 0, .int .u64 0, .int .u64 0]] 8 = some ([.agg [.lit (.int .u64 0), .lit (.int .u64 0), .lit (.int .u64 0), .lit (.int .u64 0), .lit (.int .u64 0), .lit (.int .u64 0), .lit (.int .u64 0), .lit (.int .u64 0)], .agg [.lit (.int .u64 0), .lit (.int .u64 0), .lit (.int .u64 0), .lit (.int .u64 0), .lit (.int .u64 0), .lit (.int .u64 0), .lit (.int .u64 0), .lit (.int .u64 0)], .agg [.lit (.int .u64 0), .lit (.int .u64 0), .lit (.int .u64 0), .lit (.int .u64 0), .lit (.int .u64 0), .lit (.int .u64 0), .lit (.int .u64 0), .lit (.int .u64 0)]], [], places) :=
  ⟨[], by kernel_rfl⟩

set_option maxRecDepth 100000 in
theorem lifted (os : Os) (started : os.Started) (H : Type) (enc : TypeId × Value → H) (F : Stop.Interp) :
    ReturnsInHanded {} Tryd.checked os 3 .any ((OpenSpec.ofChange Rows.sigLawsSpec).preRow enc Tryd.prog Tryd.f3 Rows.sigLawsRow.domain false Rows.sigLawsRow.laid) (((OpenSpec.ofChange Rows.sigLawsSpec).at F).post enc Tryd.prog Tryd.f3 false true false false) := by
  obtain ⟨places, hx⟩ := reads os enc
  refine returnsInHanded_of_row (C := Tryd.checked) (s := OpenSpec.ofChange Rows.sigLawsSpec) own started (by kernel_rfl) Tryd.func3
    (witness_row_at (enc := enc) (C := Tryd.checked) false ({ World.holding Tryd.prog os ⟨#[], #[], []⟩ with heap := (World.holding Tryd.prog os ⟨#[], #[], []⟩).heap.modify 0 fun | .cells _ t frozen => .cells (tabZ.map fun z => Value.int .u8 z).toArray t frozen | o => o }) #[.agg #[.int .u64 0, .int .u64 0, .int .u64 0, .int .u64 0, .int .u64 0, .int .u64 0, .int .u64 0, .int .u64 0], .agg #[.int .u64 0, .int .u64 0, .int .u64 0, .int .u64 0, .int .u64 0, .int .u64 0, .int .u64 0, .int .u64 0], .agg #[.int .u64 0, .int .u64 0, .int .u64 0, .int .u64 0, .int .u64 0, .int .u64 0, .int .u64 0, .int .u64 0]] rfl (by kernel_rfl) (by kernel_rfl) (by kernel_rfl)
      (OpenSpec.preRow_of_cond 8 hx (by kernel_rfl) (fun k hk => by cases hk) (by kernel_rfl) (laid_met os))) ?_
  intro W base args ds gs before hval hW _ hcond hR hL _ _
  exact contract H enc W base args ds gs before hval hW hR hL

theorem said : Rows.SigLawsSaid :=
  OpenClaim.holds_of_cond 3 Tryd.f3 rfl rfl rfl rfl rfl rfl rfl ⟨rfl, rfl, rfl, rfl, rfl⟩ rfl rfl rfl rfl rfl (by kernel_rfl) Tryd.func3 (by kernel_rfl)
    (of_decide_eq_true (by kernel_rfl)) (by unfold Func.isWrapper; first | (rw [if_pos (by decide +kernel)]; kernel_rfl) | (rw [if_neg (by decide +kernel)]; exact ⟨rfl, rfl⟩))
    (fun os started H enc _ F => by rw [OpenClaim.pre_eq_preRow]; exact lifted os started H enc F)

/-- No parameter wants a stand-in; the looks are off. -/
theorem plain (f : FuncId) (fn : Func) (hf : Tryd.pinned.checked.prog.funcNamed Tryd.f3.name = some f) (hfn : Tryd.pinned.checked.prog.funcs[f]? = some fn) :
    false = Tryd.pinned.checked.prog.looks [] ∧ ∀ (j : Nat) t, fn.params[j]? = some t → Tryd.pinned.checked.prog.wantsStandIn t = false := by
  obtain rfl : f = 3 := Option.some.inj ((show Tryd.prog.funcNamed Tryd.f3.name = some 3 by kernel_rfl).symm.trans hf) |>.symm
  obtain rfl : fn = Tryd.f3 := (Option.some.inj (Tryd.func3.symm.trans hfn)).symm
  refine ⟨by kernel_rfl, fun j t ht => ?_⟩
  rw [Tryd.params3] at ht
  have hm := Array.mem_of_getElem? ht
  have ht : t = 24 ∨ t = 24 ∨ t = 24 := by simpa using hm
  rcases ht with rfl | rfl | rfl
  all_goals first
    | exact (show Tryd.prog.wantsStandIn 24 = false by kernel_rfl)

theorem proved : Rows.SigLawsCardSaid :=
  Claim7.holds_tied_plain_at .later [] _ _ _ _ said (fun _ h => by cases h) (by kernel_rfl) (fun _ h => by cases h) sigLaws_row_tie rfl ⟨rfl, rfl⟩ (by kernel_rfl) rfl plain (by kernel_rfl)
#print axioms proved
end Go.Proofs.YthenkidhcfholabDoor.sigLaws
