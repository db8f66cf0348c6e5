/- SigCovers (the second form) holds where what is handed in is of bulk at most 1048576: of two lists of cells each one's are had, two lists with a cell in common meet, and the union is that of both lists; the row lists the table of lowest bits as the program's text lays it, and the card ties it. -/
import Derived.Test.YthenkidhcfholaaDoorRows
import Derived.Test.YthenkidhcfholaaDoorCards
import Derived.Test.YthenkidhcfholaaDoorTie
import Derived.WalkKit
import Derived.ProofKit
import Derived.OpenShut
import Derived.ShutString
import Derived.ChangeOld
import Derived.Below
import Derived.Deep.DeepHandedRow
import Derived.Lib.LaidTab
import Derived.SevenTiedAt
import Derived.RegionTactic
import Derived.Deep.RegionHeld3
import Derived.BigRegion
import Derived.Test.YthenkidhcfholaaDoorSigS
import Derived.Test.YthenkidhcfholaaDoorSigH
namespace Go.Proofs.YthenkidhcfholaaDoor.sigCovers
open Go.ChangeShapes Go.WideShapes Go.ChangeAt Go.RowKit
open Go.ChangeMaps (open_string shut_string)
set_option linter.unusedVariables false

theorem own : ownKnob Tryd.prog.godebug = none := by kernel_rfl
theorem laidOut : laidOutB Tryd.prog = true := by kernel_rfl

/-! ### the walk -/
set_option maxRecDepth 10000 in
set_option maxHeartbeats 1600000 in
theorem walk (v0 : Value) (l0 : List Int) (v1 : Value) (l1 : List Int) (a2 : Int) (w : World) (hT : Tab w) (w0 : Lst w v0 l0) (w1 : Lst w v1 l1) (w2 : (Lit.int .i64 a2).wf = true)
    (e0 : ∀ cap, v0 = .slice none 0 cap → cap = 0) (e1 : ∀ cap, v1 = .slice none 0 cap → cap = 0) (hk : l0.length + l1.length ≤ 1048576) :
    Calls Tryd.prog 8 #[v0, v1, .int .i64 a2] w fun e w' => e = .returned (.bool true) ∧ Below w.heap.size w w' := by
  have HT : Hid (Tab w) := hT
  have HA : Hid (Lst w v0 l0) := w0
  have HB : Hid (Lst w v1 l1) := w1
  have HE0 : Hid (∀ cap, v0 = .slice none 0 cap → cap = 0) := e0
  have HE1 : Hid (∀ cap, v1 = .slice none 0 cap → cap = 0) := e1
  have hs := ok_ofAll l0
  have ht := ok_ofAll l1
  have hu := ok_uni hs ht
  have hx := ok_put hs (sigN a2) (sigN_lt a2)
  have hy := ok_put ht (sigN a2) (sigN_lt a2)
  have HO0 : Hid (∀ w, Lst w v0 l0 → Calls Tryd.prog 10 #[v0] w fun e w' => e = .returned (sv (ofAll l0)) ∧ Below w.heap.size w w') := fun w h => of_any w v0 l0 h
  have HO1 : Hid (∀ w, Lst w v1 l1 → Calls Tryd.prog 10 #[v1] w fun e w' => e = .returned (sv (ofAll l1)) ∧ Below w.heap.size w w') := fun w h => of_any w v1 l1 h
  have HO2 : Hid (∀ w v, Lst w v (l0 ++ l1) → Calls Tryd.prog 10 #[v] w fun e w' => e = .returned (sv (uni (ofAll l0) (ofAll l1))) ∧ Below w.heap.size w w') := fun w v h => by rw [← ofAll_append]; exact of_any w v _ h
  have HU : Hid (∀ w, Calls Tryd.prog 16 #[sv (ofAll l0), sv (ofAll l1)] w fun e w' => e = .returned (sv (uni (ofAll l0) (ofAll l1))) ∧ Below w.heap.size w w') := fun w => union_any _ _ hs ht w
  have HH0 : Hid (∀ i, i < l0.length → ∀ w, Calls Tryd.prog 14 #[sv (ofAll l0), .int .i64 (l0.getD i 0)] w fun e w' => e = .returned (.bool true) ∧ Below w.heap.size w w') := fun i hi w => by
    have := has_any _ hs (l0.getD i 0) w
    rwa [has_own l0 i hi] at this
  have HH1 : Hid (∀ i, i < l0.length → ∀ w, Calls Tryd.prog 14 #[sv (uni (ofAll l0) (ofAll l1)), .int .i64 (l0.getD i 0)] w fun e w' => e = .returned (.bool true) ∧ Below w.heap.size w w') := fun i hi w => by
    have := has_any _ hu (l0.getD i 0) w
    rwa [bit_uni hs ht, has_own l0 i hi, Bool.true_or] at this
  have HM : Hid (∀ w, Calls Tryd.prog 20 #[sv (ofAll l0), sv (ofAll l1)] w fun e w' => e = .returned (.bool (!(meet (ofAll l0) (ofAll l1) == nought))) ∧ Below w.heap.size w w') := fun w => meets_any _ _ hs ht w
  have HMT : Hid (∀ i k, i < l0.length → k < l1.length → l0.getD i 0 = l1.getD k 0 → (!(meet (ofAll l0) (ofAll l1) == nought)) = true) := fun i k hi hk e => meets_of hs ht (sigN (l0.getD i 0)) (sigN_lt _) (has_own l0 i hi) (by rw [e]; exact has_own l1 k hk)
  have HX : Hid (∀ w, Calls Tryd.prog 12 #[sv (ofAll l0), .int .i64 a2] w fun e w' => e = .returned (sv (put (ofAll l0) (sigN a2))) ∧ Below w.heap.size w w') := fun w => with_any _ hs _ w
  have HY : Hid (∀ w, Calls Tryd.prog 12 #[sv (ofAll l1), .int .i64 a2] w fun e w' => e = .returned (sv (put (ofAll l1) (sigN a2))) ∧ Below w.heap.size w w') := fun w => with_any _ ht _ w
  have HN : Hid (∀ w, Calls Tryd.prog 20 #[sv (put (ofAll l0) (sigN a2)), sv (put (ofAll l1) (sigN a2))] w fun e w' => e = .returned (.bool true) ∧ Below w.heap.size w w') := fun w => by
    have := meets_any _ _ hx hy w
    rwa [meets_of hx hy (sigN a2) (sigN_lt a2) (put_has hs _ (sigN_lt a2)) (put_has ht _ (sigN_lt a2))] at this
  have HP : Hid (∀ w, Calls Tryd.prog 14 #[sv (put (ofAll l0) (sigN a2)), .int .i64 a2] w fun e w' => e = .returned (.bool true) ∧ Below w.heap.size w w') := fun w => by
    have := has_any _ hx a2 w
    rwa [put_has hs _ (sigN_lt a2)] at this
  have hqu := fun w => neq_sig (uni (ofAll l0) (ofAll l1)) (uni (ofAll l0) (ofAll l1)) hu.1 hu.1 w
  have hzs : (sc (ofAll l0)).size = 8 := by rw [sc_size]; exact hs.1
  have hzt : (sc (ofAll l1)).size = 8 := by rw [sc_size]; exact ht.1
  have hzu : (sc (uni (ofAll l0) (ofAll l1))).size = 8 := by rw [sc_size]; exact hu.1
  have hzx : (sc (put (ofAll l0) (sigN a2))).size = 8 := by rw [sc_size]; exact hx.1
  have hzy : (sc (put (ofAll l1) (sigN a2))).size = 8 := by rw [sc_size]; exact hy.1
  have h1s := sc_one (ofAll l0)
  have h1t := sc_one (ofAll l1)
  have h1u := sc_one (uni (ofAll l0) (ofAll l1))
  have h1x := sc_one (put (ofAll l0) (sigN a2))
  have h1y := sc_one (put (ofAll l1) (sigN a2))
  simp only [beq_self_eq_true, Bool.not_true] at hqu
  unfold sv at *
  clear hT w0 w1 w2 e0 e1 hs ht hu hx hy
  generalize (!(meet (ofAll l0) (ofAll l1) == nought)) = mv at *
  generalize sc (put (ofAll l0) (sigN a2)) = cx at *
  generalize sc (put (ofAll l1) (sigN a2)) = cy at *
  generalize sc (uni (ofAll l0) (ofAll l1)) = cu at *
  generalize sc (ofAll l0) = cs at *
  generalize sc (ofAll l1) = ct at *
  have hps := pack8 cs hzs
  have hpt := pack8 ct hzt
  have hpu := pack8 cu hzu
  have hpx := pack8 cx hzx
  have hpy := pack8 cy hzy
  have hss := fun (w : World) (old : Array Value) (ho : old.size = 8) => store_1_0 (P := Tryd.prog) w 25 old cs ho hzs h1s
  have hst := fun (w : World) (old : Array Value) (ho : old.size = 8) => store_1_0 (P := Tryd.prog) w 25 old ct ho hzt h1t
  have hsu := fun (w : World) (old : Array Value) (ho : old.size = 8) => store_1_0 (P := Tryd.prog) w 25 old cu ho hzu h1u
  have hsx := fun (w : World) (old : Array Value) (ho : old.size = 8) => store_1_0 (P := Tryd.prog) w 25 old cx ho hzx h1x
  have hsy := fun (w : World) (old : Array Value) (ho : old.size = 8) => store_1_0 (P := Tryd.prog) w 25 old cy ho hzy h1y
  obtain ⟨p0, q0, hv0, hbig0, _⟩ := HA.out
  obtain ⟨p1, q1, hv1, hbig1, _⟩ := HB.out
  subst hv0 hv1
  go_enter Tryd.func8, Tryd.ntmps8
  go_wp2_with fail
  refine (shown_any _ HT.out).mono ?_
  rintro e x1 ⟨rfl, hb⟩
  have HL1 : Hid (Below w.heap.size w x1) := hb
  clear hb
  go_wp2_with fail
  refine (HO0.out _ (HA.out.later HL1.out)).mono ?_
  rintro e x2 ⟨rfl, hb⟩
  have HL2 : Hid (Below w.heap.size w x2) := below_then HL1.out hb
  have HK2 : Hid (Many (x2.alloc (.cells cs 25)) [(x2.heap.size, cs)]) := (Many.nil _).more _
  clear hb
  go_wp2_with fail
  refine (HO1.out _ (HB.out.later (below_alloc HL2.out _))).mono ?_
  rintro e x3 ⟨rfl, hb⟩
  have HL3 : Hid (Below w.heap.size w x3) := below_then (below_alloc HL2.out _) hb
  have HK3 : Hid (Many (x3.alloc (.cells ct 25)) [(x3.heap.size, ct), (x2.heap.size, cs)]) := (HK2.out.later hb).more _
  clear hb
  have c_s := row_cells (HK3.out.row x2.heap.size cs (by simp)) hzs
  have c_t := row_cells (HK3.out.row x3.heap.size ct (by simp)) hzt
  go_wp2_with fail
  refine (HU.out _).mono ?_
  rintro e x4 ⟨rfl, hb⟩
  have HL4 : Hid (Below w.heap.size w x4) := below_then (below_alloc HL3.out _) hb
  have HK4 : Hid (Many (x4.alloc (.cells cu 25)) [(x4.heap.size, cu), (x3.heap.size, ct), (x2.heap.size, cs)]) := (HK3.out.later hb).more _
  clear hb c_s c_t
  have HL4' : Hid (Below w.heap.size w (x4.alloc (.cells cu 25))) := below_alloc HL4.out _
  go_wp2_with (at_builtin; refine wpList_append_lst _ rfl _ _ rfl (x4.heap.size + 1) _ 0 [] rfl (World.ownsRow_nil _ _ _ _) _ l0 rfl (HA.out.later HL4'.out) HE0.out ?c1 ?c2 ?c3 ?_)
  case c1 => unfold maxLen; omega
  case c2 => omega
  case c3 => simp
  intro va x5 ho5 hg5
  have HK5 : Hid (Many x5 [(x4.heap.size, cu), (x3.heap.size, ct), (x2.heap.size, cs)]) := HK4.out.later ⟨hg5.os, hg5.tape, hg5.output, hg5.size, fun k hk => hg5.block k hk (by simp [Value.ownBlock])⟩
  have HL5 : Hid (Below w.heap.size w x5) := below_then HL4'.out ⟨hg5.os, hg5.tape, hg5.output, hg5.size, fun k hk => hg5.block k hk (by simp [Value.ownBlock])⟩
  have HO5 : Hid (x5.ownsRow (x4.heap.size + 1) 3 1 va l0.length (ivi l0)) := by rw [Hid]; simpa using ho5
  have hz5 : x4.heap.size + 1 ≤ x5.heap.size := by have := hg5.size; simp at this; exact this
  clear ho5 hg5
  go_wp2_with (at_builtin; refine wpList_append_lst _ rfl _ _ rfl (x4.heap.size + 1) _ l0.length (ivi l0) rfl HO5.out _ l1 rfl (HB.out.later HL5.out) HE1.out ?c1 ?c2 ?c3 ?_)
  case c1 => unfold maxLen; omega
  case c2 => omega
  case c3 => exact hz5
  intro vb x6 ho6 hg6
  have HB56 : Hid (Below (x4.heap.size + 1) x5 x6) := (Below.refl _ _).grown hg6 (by omega) (fun b hb => own_block HO5.out b hb)
  have HK6 : Hid (Many x6 [(x4.heap.size, cu), (x3.heap.size, ct), (x2.heap.size, cs)]) := fun q hq => by
    have h1 := HK4.out q hq
    have h2 := (Array.getElem?_eq_some_iff.1 h1).1
    simp at h2
    rw [HB56.out.block q.1 (by omega)]
    exact HK5.out q hq
  have HL6 : Hid (Below w.heap.size w x6) := HL5.out.trans (HB56.out.mono (by have := HL4.out.size; omega))
  have HO6 : Hid (x6.ownsRow (x4.heap.size + 1) 3 1 vb (l0 ++ l1).length (ivi (l0 ++ l1))) := by rw [List.length_append, ivi_app]; exact ho6
  clear ho6 hg6
  go_wp2_with fail
  refine (HO2.out _ _ (own_lsti HO6.out)).mono ?_
  rintro e x7 ⟨rfl, hb⟩
  have HL7 : Hid (Below w.heap.size w (x7.alloc (.cells cu 25))) := below_alloc (below_then HL6.out hb) _
  have HK7 : Hid (Many (x7.alloc (.cells cu 25)) [(x7.heap.size, cu), (x4.heap.size, cu), (x3.heap.size, ct), (x2.heap.size, cs)]) := (HK6.out.later hb).more _
  clear hb
  have c_w := row_cells (HK7.out.row x7.heap.size cu (by simp)) hzu
  have c_u := row_cells (HK7.out.row x4.heap.size cu (by simp)) hzu
  go_wp2
  have HK8 : Hid (Many (x7.alloc (.cells cu 25)) [(x4.heap.size, cu), (x3.heap.size, ct), (x2.heap.size, cs)]) := fun q hq => HK7.out q (List.mem_cons_of_mem _ hq)
  clear c_w c_u
  have HC0 : Hid (∀ j, j < l0.length → ∃ x, p0 = some x ∧ w.cell? (x.add j) = some (.int .i64 (l0.getD j 0))) := by
    intro j hj
    obtain ⟨a, cap, hv, _, hl⟩ := HA.out
    simp at hv
    rcases hl with h0 | ⟨x, hx, hc⟩
    · subst h0; simp at hj
    · exact ⟨x, by rw [hv.1, hx], hc j hj⟩
  have HC1 : Hid (∀ j, j < l1.length → ∃ x, p1 = some x ∧ w.cell? (x.add j) = some (.int .i64 (l1.getD j 0))) := by
    intro j hj
    obtain ⟨a, cap, hv, _, hl⟩ := HB.out
    simp at hv
    rcases hl with h0 | ⟨x, hx, hc⟩
    · subst h0; simp at hj
    · exact ⟨x, by rw [hv.1, hx], hc j hj⟩
  clear HO0 HO1 HO2 HU HE0 HE1 HK2 HK3 HK4 HK5 HK6 HK7 HO5 HO6 HB56 HL1 HL2 HL3 HL4 HL4' HL5 HL6 hss hst hsu HA HB HT hz5
  go_loopw [13] (fun i wr => ∃ j : Nat, j ≤ l0.length ∧ i = .int .i64 j ∧ Many wr [(x4.heap.size, cu), (x3.heap.size, ct), (x2.heap.size, cs)] ∧ Below w.heap.size w wr) (fun i _ => l0.length - (intOf i).toNat)
  case atStart => exact ⟨0, Nat.zero_le _, rfl, HK8.out, HL7.out⟩
  case round =>
    obtain ⟨j, hj, rfl, hkm, hbl⟩ := hrel
    have HKR : Hid (Many wr [(x4.heap.size, cu), (x3.heap.size, ct), (x2.heap.size, cs)]) := hkm
    have HLR : Hid (Below w.heap.size w wr) := hbl
    clear hkm hbl HK8 HL7
    by_cases hlt : j < l0.length
    · have hd : decide ((j : Int) < (l0.length : Int)) = true := by simp; omega
      have hjn : (j : Int) < (l0.length : Int) := by omega
      obtain ⟨x, rfl, hx⟩ := HC0.out j hlt
      have HXC : Hid (w.cell? (x.add j) = some (.int .i64 (l0.getD j 0))) := hx
      have HD0 : Hid (∀ w, Calls Tryd.prog 14 #[.agg cs, .int .i64 (l0.getD j 0)] w fun e w' => e = .returned (.bool true) ∧ Below w.heap.size w w') := HH0.out j hlt
      have HD1 : Hid (∀ w, Calls Tryd.prog 14 #[.agg cu, .int .i64 (l0.getD j 0)] w fun e w' => e = .returned (.bool true) ∧ Below w.heap.size w w') := HH1.out j hlt
      have HMT' : Hid (∀ k, k < l1.length → l0.getD j 0 = l1.getD k 0 → mv = true) := fun k hk e => HMT.out j k hlt hk e
      clear hx
      generalize l0.getD j 0 = c at *
      have hc_s := row_cells (HKR.out.row x2.heap.size cs (by simp)) hzs
      have hc_x : wr.cell? (x.add j) = some (.int .i64 c) := cell_later HLR.out HXC.out
      go_wp2
      clear hc_s hc_x
      go_region_held3 (fun w' => (w'.cell? ⟨x2.heap.size, 0, none⟩ = some (cs[0]'(by omega)) ∧ w'.cell? ⟨x2.heap.size, 1, none⟩ = some (cs[1]'(by omega)) ∧ w'.cell? ⟨x2.heap.size, 2, none⟩ = some (cs[2]'(by omega)) ∧ w'.cell? ⟨x2.heap.size, 3, none⟩ = some (cs[3]'(by omega)) ∧ w'.cell? ⟨x2.heap.size, 4, none⟩ = some (cs[4]'(by omega)) ∧ w'.cell? ⟨x2.heap.size, 5, none⟩ = some (cs[5]'(by omega)) ∧ w'.cell? ⟨x2.heap.size, 6, none⟩ = some (cs[6]'(by omega)) ∧ w'.cell? ⟨x2.heap.size, 7, none⟩ = some (cs[7]'(by omega))) ∧ w'.cell? (x.add j) = some (.int .i64 c)) (exact ⟨row_cells (HKR.out.row x2.heap.size cs (by simp)) hzs, (by have h := cell_later HLR.out HXC.out; exact h)⟩) (first | (go_at_call 14; refine (HD0.out _).mono ?_; rintro e y ⟨rfl, hb⟩; have HKR : Hid (Many y [(x4.heap.size, cu), (x3.heap.size, ct), (x2.heap.size, cs)]) := Many.later (by exact HKR.out) hb; have HLR : Hid (Below w.heap.size w y) := below_then HLR.out ⟨hb.os, hb.tape, hb.output, hb.size, hb.block⟩; clear hb))
      go_wp2
      go_region_held3 (fun w' => (w'.cell? ⟨x4.heap.size, 0, none⟩ = some (cu[0]'(by omega)) ∧ w'.cell? ⟨x4.heap.size, 1, none⟩ = some (cu[1]'(by omega)) ∧ w'.cell? ⟨x4.heap.size, 2, none⟩ = some (cu[2]'(by omega)) ∧ w'.cell? ⟨x4.heap.size, 3, none⟩ = some (cu[3]'(by omega)) ∧ w'.cell? ⟨x4.heap.size, 4, none⟩ = some (cu[4]'(by omega)) ∧ w'.cell? ⟨x4.heap.size, 5, none⟩ = some (cu[5]'(by omega)) ∧ w'.cell? ⟨x4.heap.size, 6, none⟩ = some (cu[6]'(by omega)) ∧ w'.cell? ⟨x4.heap.size, 7, none⟩ = some (cu[7]'(by omega))) ∧ w'.cell? (x.add j) = some (.int .i64 c)) (exact ⟨row_cells (HKR.out.row x4.heap.size cu (by simp)) hzu, (by have h := cell_later HLR.out HXC.out; exact h)⟩) (first | (go_at_call 14; refine (HD1.out _).mono ?_; rintro e y ⟨rfl, hb⟩; have HKR : Hid (Many y [(x4.heap.size, cu), (x3.heap.size, ct), (x2.heap.size, cs)]) := Many.later (by exact HKR.out) hb; have HLR : Hid (Below w.heap.size w y) := below_then HLR.out ⟨hb.os, hb.tape, hb.output, hb.size, hb.block⟩; clear hb))
      go_wp2
      clear HD0 HD1
      go_loopw [16] (fun k wr => ∃ m : Nat, m ≤ l1.length ∧ k = .int .i64 m ∧ Many wr [(x4.heap.size, cu), (x3.heap.size, ct), (x2.heap.size, cs)] ∧ Below w.heap.size w wr) (fun k _ => l1.length - (intOf k).toNat)
      case atStart => exact ⟨0, Nat.zero_le _, rfl, HKR.out, HLR.out⟩
      case round =>
        obtain ⟨m, hm, rfl, hkm, hbl⟩ := hrel
        have HK1 : Hid (Many wr [(x4.heap.size, cu), (x3.heap.size, ct), (x2.heap.size, cs)]) := hkm
        have HL1 : Hid (Below w.heap.size w wr) := hbl
        clear hkm hbl HKR HLR
        by_cases hmlt : m < l1.length
        · have hd2 : decide ((m : Int) < (l1.length : Int)) = true := by simp; omega
          have hmn : (m : Int) < (l1.length : Int) := by omega
          obtain ⟨z, rfl, hz⟩ := HC1.out m hmlt
          have HZC : Hid (w.cell? (z.add m) = some (.int .i64 (l1.getD m 0))) := hz
          have HMM : Hid (c = l1.getD m 0 → mv = true) := HMT'.out m hmlt
          clear hz
          generalize l1.getD m 0 = d at *
          have c_s := row_cells (HK1.out.row x2.heap.size cs (by simp)) hzs
          have c_t := row_cells (HK1.out.row x3.heap.size ct (by simp)) hzt
          go_wp2_with fail
          refine (HM.out _).mono ?_
          rintro e y2 ⟨rfl, hb⟩
          have HK2 : Hid (Many y2 [(x4.heap.size, cu), (x3.heap.size, ct), (x2.heap.size, cs)]) := HK1.out.later hb
          have HL2 : Hid (Below w.heap.size w y2) := below_then HL1.out hb
          clear hb c_s c_t
          have hcx : y2.cell? (x.add j) = some (.int .i64 c) := cell_later HL2.out HXC.out
          have hcz : y2.cell? (z.add m) = some (.int .i64 d) := cell_later HL2.out HZC.out
          by_cases hcd : c = d
          · have hmv : mv = true := HMM.out hcd
            have he : (c == d) = true := by simp [hcd]
            clear hcd HMM HMT' HMT
            subst hmv
            go_wp2
            go_quiet (fail)
            go_wp2
            go_roundw
            case rel => exact ⟨m + 1, by omega, by go_num, HK2.out.drawn _, below_drawn HL2.out _⟩
            case measure => simp [intOf]; omega
          · have he : (c == d) = false := by simp [hcd]
            clear hcd HMM
            go_wp2
            go_quiet (fail)
            go_wp2
            go_roundw
            case rel => exact ⟨m + 1, by omega, by go_num, HK2.out.drawn _, below_drawn HL2.out _⟩
            case measure => simp [intOf]; omega
        · have e : m = l1.length := by omega
          subst e
          go_wp2
          go_roundw
          case rel => exact ⟨j + 1, by omega, by go_num, HK1.out, HL1.out⟩
          case measure => simp [intOf]; omega
    · have e : j = l0.length := by omega
      subst e
      clear HC0 HC1 HH0 HH1 HM HMT
      have c_s := row_cells (HKR.out.row x2.heap.size cs (by simp)) hzs
      go_wp2_with fail
      refine (HX.out _).mono ?_
      rintro e y1 ⟨rfl, hb⟩
      have HL1 : Hid (Below w.heap.size w (y1.alloc (.cells cx 25))) := below_alloc (below_then HLR.out hb) _
      have HK1 : Hid (Many (y1.alloc (.cells cx 25)) ((y1.heap.size, cx) :: [(x4.heap.size, cu), (x3.heap.size, ct), (x2.heap.size, cs)])) := (HKR.out.later hb).more _
      clear hb c_s
      have c_t := row_cells (HK1.out.row x3.heap.size ct (by simp)) hzt
      go_wp2_with fail
      refine (HY.out _).mono ?_
      rintro e y2 ⟨rfl, hb⟩
      have HL2 : Hid (Below w.heap.size w (y2.alloc (.cells cy 25))) := below_alloc (below_then HL1.out hb) _
      have HK2 : Hid (Many (y2.alloc (.cells cy 25)) ((y2.heap.size, cy) :: (y1.heap.size, cx) :: [(x4.heap.size, cu), (x3.heap.size, ct), (x2.heap.size, cs)])) := (HK1.out.later hb).more _
      clear hb c_t
      have c_x := row_cells (HK2.out.row y1.heap.size cx (by simp)) hzx
      have c_y := row_cells (HK2.out.row y2.heap.size cy (by simp)) hzy
      go_wp2_with fail
      refine (HN.out _).mono ?_
      rintro e y3 ⟨rfl, hb⟩
      have HL3 : Hid (Below w.heap.size w y3) := below_then HL2.out hb
      have HK3 : Hid (Many y3 ((y2.heap.size, cy) :: (y1.heap.size, cx) :: [(x4.heap.size, cu), (x3.heap.size, ct), (x2.heap.size, cs)])) := HK2.out.later hb
      clear hb c_x c_y
      have c_x := row_cells (HK3.out.row y1.heap.size cx (by simp)) hzx
      go_wp2_with fail
      refine (HP.out _).mono ?_
      rintro e y4 ⟨rfl, hb⟩
      have HL4 : Hid (Below w.heap.size w y4) := below_then HL3.out hb
      clear hb c_x
      go_wp2
      go_ret
      exact ⟨by simp, HL4.out⟩

/-! ### the row -/
theorem contract (H : Type) (enc : TypeId × Value → H) (W : World) (base : Nat) (args : Array Value) (ds gs : List (DataW H)) (before : List MemPlace)
    (hval : ∀ (j : Nat) t v, Tryd.f8.params[j]? = some t → args[j]? = some v → Value.okWide Tryd.prog W .any base t v)
    (hW : DataW.Whole enc Tryd.prog Tryd.f8.params.toList Rows.sigCoversSpec.vars false W args.toList ds gs before)
    (hR : (DataW.weightsEach Tryd.prog (Tryd.f8.params.toList ++ []) (ds ++ gs)).all (· ≤ reachBytes) = true)
    (hk : Rows.uptoSmall H (ds ++ gs) = true)
    (hL : laidMetH Tryd.prog Rows.sigCoversRow.laid W) :
    Calls Tryd.prog 8 args W fun e W' => ∃ v, e = .returned v ∧ Rows.sigCoversSpec.post enc Tryd.prog Tryd.f8 false true false false W args v W' := by
  have hW' := hW
  obtain ⟨p, q, hA0, hV, rfl, hfz, hnd⟩ := hW
  have hA : DataW.TrodAll enc Tryd.prog W 0 (fun _ => true) true Tryd.f8.params.toList args.toList ds p := hA0
  rw [Tryd.params8] at hA hval
  obtain ⟨v0, vs0, d0, ds0, p0, q0, hargs, rfl, rfl, h0, r0⟩ := trodAll_cons hA
  obtain ⟨v1, vs1, d1, ds1, p1, q1, rfl, rfl, rfl, h1, r1⟩ := trodAll_cons r0
  obtain ⟨v2, vs2, d2, ds2, p2, q2, rfl, rfl, rfl, h2, r2⟩ := trodAll_cons r1
  obtain ⟨rfl, rfl, rfl⟩ := trodAll_nil r2
  obtain rfl : args = #[v0, v1, v2] := by cases args; simp_all
  obtain ⟨rfl, rfl⟩ := trodVars_none hV
  have k0 := h0
  have lt0 : ∀ x ∈ p0, x.block < W.heap.size := by obtain ⟨m, hm⟩ := k0; exact DataW.trod_lt m _ _ _ hm
  obtain ⟨l0, w0, dl0⟩ := open_list (hval 0 22 v0 rfl rfl) h0
  have k1 := h1
  have lt1 : ∀ x ∈ p1, x.block < W.heap.size := by obtain ⟨m, hm⟩ := k1; exact DataW.trod_lt m _ _ _ hm
  obtain ⟨l1, w1, dl1⟩ := open_list (hval 1 22 v1 rfl rfl) h1
  obtain ⟨a2, rfl, rfl, rfl, w2⟩ := open_int Tryd.underlying3 (hval 2 3 v2 rfl rfl) h2
  clear hA0
  refine (walk v0 l0 v1 l1 a2 W (tab_laid hL) w0 w1 w2 (list_nil h0) (list_nil h1) (by
    have hb := of_decide_eq_true hk
    simp only [List.append_nil, Rows.uptoBulkAll] at hb
    have := list_small dl0
    have := list_small dl1
    omega)).mono fun e W' ⟨he, bel⟩ => ?_
  subst he
  exact ⟨_, rfl, _, _, _, [], _, [], hW', trodAll_mk1 (shut_bool Tryd.underlying4 _), (trodAll_cons_mk (Below.trod laidOut (by kernel_rfl) (of_decide_eq_true (by kernel_rfl)) k0 bel lt0) (trodAll_cons_mk (Below.trod laidOut (by kernel_rfl) (of_decide_eq_true (by kernel_rfl)) k1 bel lt1) (trodAll_cons_mk (shut_int Tryd.underlying3 w2) trodAll_mk0))), rfl, bel.frame _, fun h => by cases h⟩

theorem laid_met (os : Os) : laidMet Tryd.prog Rows.sigCoversRow.laid (World.forCall { World.holding Tryd.prog os ⟨#[], #[], []⟩ with heap := (World.holding Tryd.prog os ⟨#[], #[], []⟩).heap.modify 0 fun | .cells _ t frozen => .cells (tabZ.map fun z => Value.int .u8 z).toArray t frozen | o => o } (fun _ _ => 0) ⟨#[], #[.slice none 0 0, .slice none 0 0, .int .i64 0], []⟩).memory :=
  laidMet_of_run' 8 (by kernel_rfl) (by kernel_rfl)
theorem reads (os : Os) {H : Type} (enc : TypeId × Value → H) : ∃ places, DataW.whole enc Tryd.prog (World.forCall { World.holding Tryd.prog os ⟨#[], #[], []⟩ with heap := (World.holding Tryd.prog os ⟨#[], #[], []⟩).heap.modify 0 fun | .cells _ t frozen => .cells (tabZ.map fun z => Value.int .u8 z).toArray t frozen | o => o } (fun _ _ => 0) ⟨#[], #[.slice none 0 0, .slice none 0 0, .int .i64 0], []⟩).memory Tryd.f8.params.toList Rows.sigCoversSpec.vars false [.slice none 0 0, .slice none 0 0, .int .i64 0] 8 = some ([.nil, .nil, .lit (.int .i64 0)], [], places) :=
  ⟨[], by kernel_rfl⟩

set_option maxRecDepth 100000 in
theorem lifted (os : Os) (started : os.Started) (H : Type) (enc : TypeId × Value → H) (F : Stop.Interp) :
    ReturnsInHanded {} Tryd.checked os 8 .any ((Rows.OpenSpec.upto Rows.sigCoversSpec).preRow enc Tryd.prog Tryd.f8 Rows.sigCoversUptoRow.domain false Rows.sigCoversUptoRow.laid) (((Rows.OpenSpec.upto Rows.sigCoversSpec).at F).post enc Tryd.prog Tryd.f8 false true false false) := by
  obtain ⟨places, hx⟩ := reads os enc
  refine returnsInHanded_of_row (C := Tryd.checked) (s := Rows.OpenSpec.upto Rows.sigCoversSpec) own started (by kernel_rfl) Tryd.func8
    (witness_row_at (enc := enc) (C := Tryd.checked) false ({ World.holding Tryd.prog os ⟨#[], #[], []⟩ with heap := (World.holding Tryd.prog os ⟨#[], #[], []⟩).heap.modify 0 fun | .cells _ t frozen => .cells (tabZ.map fun z => Value.int .u8 z).toArray t frozen | o => o }) #[.slice none 0 0, .slice none 0 0, .int .i64 0] rfl (by kernel_rfl) (by kernel_rfl) (by kernel_rfl)
      (OpenSpec.preRow_of_cond 8 hx (by kernel_rfl) (fun k hk => by cases hk; kernel_rfl) (by kernel_rfl) (laid_met os))) ?_
  intro W base args ds gs before hval hW _ hcond hR hL _ _
  exact contract H enc W base args ds gs before hval hW hR (hcond _ rfl) hL

theorem said : Rows.SigCoversUptoSaid :=
  OpenClaim.holds_of_cond 8 Tryd.f8 rfl rfl rfl rfl rfl rfl rfl ⟨rfl, rfl, rfl, rfl, rfl⟩ rfl rfl rfl rfl rfl (by kernel_rfl) Tryd.func8 (by kernel_rfl)
    (of_decide_eq_true (by kernel_rfl)) (by unfold Func.isWrapper; first | (rw [if_pos (by decide +kernel)]; kernel_rfl) | (rw [if_neg (by decide +kernel)]; exact ⟨rfl, rfl⟩))
    (fun os started H enc _ F => by rw [OpenClaim.pre_eq_preRow]; exact lifted os started H enc F)

/-- No parameter wants a stand-in; the looks are off. -/
theorem plain (f : FuncId) (fn : Func) (hf : Tryd.pinned.checked.prog.funcNamed Tryd.f8.name = some f) (hfn : Tryd.pinned.checked.prog.funcs[f]? = some fn) :
    false = Tryd.pinned.checked.prog.looks [] ∧ ∀ (j : Nat) t, fn.params[j]? = some t → Tryd.pinned.checked.prog.wantsStandIn t = false := by
  obtain rfl : f = 8 := Option.some.inj ((show Tryd.prog.funcNamed Tryd.f8.name = some 8 by kernel_rfl).symm.trans hf) |>.symm
  obtain rfl : fn = Tryd.f8 := (Option.some.inj (Tryd.func8.symm.trans hfn)).symm
  refine ⟨by kernel_rfl, fun j t ht => ?_⟩
  rw [Tryd.params8] at ht
  have hm := Array.mem_of_getElem? ht
  have ht : t = 22 ∨ t = 22 ∨ t = 3 := by simpa using hm
  rcases ht with rfl | rfl | rfl
  all_goals first
    | exact (show Tryd.prog.wantsStandIn 3 = false by kernel_rfl)
    | exact (show Tryd.prog.wantsStandIn 22 = false by kernel_rfl)

theorem proved : Rows.SigCoversUptoCardSaid :=
  Claim7.holds_tied_plain_at .later [] _ _ _ _ said (fun _ h => by cases h) (by kernel_rfl) (fun _ h => by cases h) sigCoversUpto_row_tie rfl ⟨rfl, rfl⟩ (by kernel_rfl) rfl plain (by kernel_rfl)
#print axioms proved
end Go.Proofs.YthenkidhcfholaaDoor.sigCovers
