/- What the program's Groups answers. -/
import Derived.Test.YthenkidhcfholaaDoorSigJ
namespace Go.Proofs.YthenkidhcfholaaDoor
open Go.ChangeShapes Go.WideShapes Go.ChangeAt Go.RowKit
open Go.Maps (Keyed)

theorem info_ints : (Tryd.prog.info? 22).map (fun i => (i.zero, i.size, i.bytes)) = some (some (.slice none 0 0), 1, 24) := by kernel_rfl
theorem get_of {vs : List Value} {k : Nat} {u : Value} (h : k < vs.length) (hu : vs.getD k undef = u) : vs[k]? = some u := by rw [← hu]; simp [h]
theorem index_grp (g k n cap : Nat) (h : k < n) (w : World) : (Instr.indexAt 45 (.slice (some ⟨g, 0, none⟩) n cap) (.int .i64 (k : Int))).run Tryd.prog w = .ok (.pointer (some ⟨g, k, none⟩)) w := by
  obtain ⟨i0, hi, hz0, hz1, hz2⟩ := info_parts info_ints
  have h' : (k : Int) < (n : Int) := by omega
  simp [Instr.indexAt, asIntOf, run_underlying Tryd.underlying45, h, sizeOf, typeInfo, hi, hz1, add_at]
theorem zero_int (w : World) : (zeroValue 3).run Tryd.prog w = .ok (.int .i64 0) w := by kernel_rfl
theorem set_last (G : List (List Nat)) (i : Nat) : (G ++ [[]]).set G.length ((G ++ [[]]).getD G.length [] ++ [i]) = G ++ [[i]] := by
  rw [getD_app, if_neg (by omega), Nat.sub_self]
  simp

set_option maxRecDepth 10000 in
set_option maxHeartbeats 1600000 in
theorem groups_any (w : World) (v0 : Value) (S : List (List Nat)) (hv : SLst w v0 S) :
    Calls Tryd.prog 31 #[v0] w fun e w' => ∃ v vs, e = .returned v ∧ Grp w' w.heap.size v (groupsTo S S.length) vs ∧ Below w.heap.size w w' := by
  have hmm := @run_makeMap Tryd.prog
  obtain ⟨i0, hi, hz0, hz1, hz2⟩ := info_parts info_int
  obtain ⟨i1, hj0, hy0, hy1, hy2⟩ := info_parts info_ints
  obtain ⟨a, cap, rfl, hbig, hok, hl⟩ := hv
  have HC : Hid (∀ i, i < S.length → ∃ x, a = some x ∧ Row8 w (x.add (i * 8)) (sc (S.getD i []))) := by
    intro i hi
    rcases hl with rfl | ⟨x, hx, hc⟩
    · exact absurd hi (by simp)
    · exact ⟨x, hx, hc i hi⟩
  have HOK : Hid (∀ s ∈ S, Ok s) := hok
  clear hl hok
  generalize hn : S.length = n at *
  have HN : Hid (S.length = n) := hn
  clear hn
  go_enter Tryd.func31, Tryd.ntmps31
  go_wp2
  go_loopw [3, 12] (fun v i wr => ∃ j : Nat, j ≤ n ∧ i = .int .i64 j ∧ ∃ D : DataW Unit, MapOk S (groupsTo S j) D ∧ wr.ownsMap Tryd.prog 25 (plainElem Tryd.prog 3) w.heap.size j D ∧ (∃ vs, Grp wr (w.heap.size + 1) v (groupsTo S j) vs) ∧ Below w.heap.size w wr ∧ w.heap.size + 1 ≤ wr.heap.size) (fun _ i _ => n - (intOf i).toNat)
  case atStart => exact ⟨0, Nat.zero_le _, rfl, .map [], mapOk_start S, World.ownsMap_made _ _ _ _, ⟨[], World.ownsRow_nil _ _ _ _, rfl, fun i hi => absurd hi (by simp [groupsTo]), fun i j hi => absurd hi (by simp [groupsTo])⟩, below_a1 _ _, by simp⟩
  case round =>
    obtain ⟨j, hj, rfl, D, hmo, hom, ⟨vs, hgr⟩, hbel, hsz⟩ := hrel
    have HMO : Hid (MapOk S (groupsTo S j) D) := hmo
    have HOM : Hid (wr.ownsMap Tryd.prog 25 (plainElem Tryd.prog 3) w.heap.size j D) := hom
    have HGR : Hid (Grp wr (w.heap.size + 1) u3 (groupsTo S j) vs) := hgr
    have HL : Hid (Below w.heap.size w wr) := hbel
    have HFN : Hid (Fine (groupsTo S j) j) := fine_groupsTo S j
    clear hmo hom hgr hbel
    by_cases hlt : j < n
    · obtain ⟨x, rfl, hrow⟩ := HC.out j hlt
      have hs : Ok (S.getD j []) := ok_at HOK.out (by rw [HN.out]; exact hlt)
      have HKS : Hid (Ok (S.getD j [])) := hs
      have hz : (sc (S.getD j [])).size = 8 := by rw [sc_size]; exact hs.1
      have h1 := sc_one (S.getD j [])
      have hkey : keyOf Tryd.prog 25 (.agg (sc (S.getD j []))) = some (kl (S.getD j [])) := kl_eq _ hs
      have HR8 : Hid (Row8 wr (x.add (j * 8)) (sc (S.getD j []))) := hrow.later hz HL.out
      have hgl : (groupsTo S j).length ≤ j := HFN.out.2.2.1
      have hd : decide ((j : Int) < (n : Int)) = true := by simp; omega
      clear hrow hs
      have HHAS := HMO.out.2 _ HKS.out
      have hbd : j < 2199023255552 := by omega
      generalize hG : groupsTo S j = G at *
      have HG0 : Hid (groupsTo S j = G) := hG
      clear hG
      generalize hcs : sc (S.getD j []) = cs at *
      clear hcs
      have hpk := pack8 cs hz
      have c8 := row8_cells HR8.out hz
      have hst := fun (w : World) (old : Array Value) (ho : old.size = 8) => store_1_0 (P := Tryd.prog) w 25 old cs ho hz h1
      have HCS : Hid (Grp (wr.alloc (.cells cs 25)) (w.heap.size + 1) u3 G vs) := HGR.out.later (below_a1 _ _)
      cases hw : whichG S (S.getD j []) G with
      | some k =>
        rw [hw] at HHAS
        have hhas : Maps.has D (kl (S.getD j [])) = true := HHAS.1
        have HAT : Hid (D.atKey (kl (S.getD j [])) (.lit (.int .i64 0)) = .lit (.int .i64 (k : Int))) := HHAS.2 k rfl
        have HWH : Hid (whichG S (S.getD j []) G = some k) := hw
        have hkG : k < G.length := by
          obtain ⟨h, _⟩ := List.findIdx?_eq_some_iff_getElem.1 hw
          exact h
        clear HHAS hw
        generalize kl (S.getD j []) = kk at *
        go_wp2_with (at_lookup; refine wpList_lookup_own_ok_int _ rfl _ _ 59 rfl 25 3 .i64 sig_keyed Tryd.underlying59 Tryd.underlying3 (zero_int _) w.heap.size j D rfl (HOM.out.alloc _) _ kk rfl hkey ?_; intro c hat hwc)
        have hck : c = (k : Int) := by
          rw [HAT.out] at hat
          simp at hat
          exact hat.symm
        subst hck
        clear hat hwc
        obtain ⟨g, gc, rfl, hgb⟩ := HCS.out.form (by omega)
        have HGB : Hid (w.heap.size + 1 ≤ g) := hgb
        clear hgb
        have HOW : Hid ((wr.alloc (.cells cs 25)).ownsMap Tryd.prog 25 (plainElem Tryd.prog 3) w.heap.size (j + 1) D) := (HOM.out.alloc _).mono (by omega)
        have HLW : Hid (Below w.heap.size w (wr.alloc (.cells cs 25))) := below_alloc HL.out _
        have HFIN : Hid (groupsTo S (j + 1) = G.set k (G.getD k [] ++ [j])) := by
          rw [Hid]
          conv => lhs; unfold groupsTo
          rw [HG0.out, HWH.out]
        have HMF : Hid (MapOk S (G.set k (G.getD k [] ++ [j])) D) := mapOk_set HMO.out k j hkG HFN.out.1
        have hgk4 : (G.getD k []).length ≤ j := HFN.out.2.2.2 _ (by
          have : G.getD k [] = G[k] := by simp [hkG]
          rw [this]; exact List.getElem_mem hkG)
        have hixg := fun w => index_grp g k (G).length gc (by first | exact hkG | simp) w
        have hcell := HCS.out.cell k (by first | exact hkG | simp)
        obtain ⟨u, hu⟩ : ∃ u, (vs).getD k undef = u := ⟨_, rfl⟩
        rw [hu] at hcell
        have HUV : Hid ((vs).getD k undef = u) := hu
        obtain ⟨gk, hgk⟩ : ∃ gk, (G).getD k [] = gk := ⟨_, rfl⟩
        have HGK : Hid ((G).getD k [] = gk) := hgk
        have hgkl : gk.length ≤ j := by rw [← hgk]; exact hgk4
        have HOU : Hid ((wr.alloc (.cells cs 25)).ownsRow (w.heap.size + 1) 3 1 u gk.length (iv gk)) := by rw [← hu, ← hgk]; exact HCS.out.2.2.1 k (by first | exact hkG | simp)
        clear hu hgk hgk4
        have HG1 : Hid (Grp ((wr.alloc (.cells cs 25)).alloc (.cells #[.int .i64 (j : Int)] 3)) (w.heap.size + 1) (.slice (some ⟨g, 0, none⟩) G.length gc) (G) (vs)) := HCS.out.later (below_a1 _ _)
        (try (rw [hixg]; simp only [Result.andThen_ok]))
        go_wp2_with (at_builtin; refine wpList_append_own_at _ rfl _ _ 22 rfl (w.heap.size + 1) 3 i0 (.int .i64 0) 1 8 Tryd.underlying22 hi hz0 hz1 hz2 rfl (by decide) _ _ _ rfl (HOU.out.alloc _) ⟨wr.heap.size + 1, 0, none⟩ 1 1 [.int .i64 (j : Int)] rfl rfl ?c1 ?c2 ?c3 ?c4 ?c5 ?_)
        case c1 => have h := cell_one_new (wr.alloc (.cells cs 25)) (.int .i64 (j : Int)) 3; simpa only [World.size_alloc] using h
        case c2 => intro z hz; simp at hz; subst hz; rfl
        case c3 => unfold maxLen; omega
        case c4 => omega
        case c5 => simp; omega
        intro u' w2 hown' hgrow _ hat
        have HOU2 : Hid (w2.ownsRow (w.heap.size + 1) 3 1 u' (gk ++ [j]).length (iv (gk ++ [j]))) := by rw [List.length_append, iv_app]; exact hown'
        have hgrow2 := hgrow
        rw [← HUV.out] at hgrow2
        have HROW : Hid (w2.ownsRow (w.heap.size + 1) 22 1 (.slice (some ⟨g, 0, none⟩) G.length gc) (G).length (vs)) := HG1.out.1.kept hgrow2 (own_ne HG1.out.1 (HG1.out.2.2.1 k (by first | exact hkG | simp)) (by decide))
        have hc2 : w2.cell? ⟨g, k, none⟩ = some u := by rw [HROW.out.cellAt k (by first | omega | (simp; omega))]; exact get_of (by rw [HG1.out.2.1]; first | exact hkG | simp) HUV.out
        have hf2 := HROW.out.frozenAt k
        have HPUT : Hid (Grp (w2.setCell ⟨g, k, none⟩ u') (w.heap.size + 1) (.slice (some ⟨g, 0, none⟩) G.length gc) ((G).set k (gk ++ [j])) ((vs).set k u')) := HG1.out.put (by first | exact hkG | simp) HOU2.out hgrow2 (by rw [HUV.out]; simpa using hat) rfl
        have HOW2 : Hid (w2.ownsMap Tryd.prog 25 (plainElem Tryd.prog 3) w.heap.size (j + 1) D) := (HOW.out.alloc _).kept hgrow (by intro e; have := own_block HOU.out _ e.symm; omega)
        have HLW2 : Hid (Below w.heap.size w w2) := (below_alloc HLW.out _).grown hgrow (by simp; omega) (fun b hb => by have := own_block HOU.out b hb; omega)
        have hsz2 : w.heap.size + 1 ≤ w2.heap.size := by have := hgrow.size; simp at this; omega
        obtain ⟨au, cau, rfl⟩ := own_slice HOU2.out
        clear hown' hgrow hgrow2 hat hcell
        have HGS : Hid (w2.grownBy (w2.setCell ⟨g, k, none⟩ (.slice au (gk ++ [j]).length cau)) (some g)) := (HROW.out.stored k _).2
        generalize (gk ++ [j]).length = gl at *
        go_wp2
        go_roundw
        case rel => exact ⟨j + 1, by omega, by go_num, D, by rw [HFIN.out]; exact HMF.out, HOW2.out.kept HGS.out (by have := HGB.out; simp; omega), ⟨_, by rw [HFIN.out, HGK.out]; exact HPUT.out⟩, HLW2.out.setCell (by have := HGB.out; simp; omega) _, by simp; omega⟩
        case measure => simp [intOf]; omega
      | none =>
        rw [hw] at HHAS
        have hhas : Maps.has D (kl (S.getD j [])) = false := HHAS.1
        have HWH : Hid (whichG S (S.getD j []) G = none) := hw
        have HMP : Hid (MapOk S (G ++ [[j]]) (D.put (kl (S.getD j [])) (.lit (.int .i64 (G.length : Int))))) := mapOk_put HMO.out j HKS.out hw
        clear HHAS hw
        generalize kl (S.getD j []) = kk at *
        obtain ⟨av, cv, rfl⟩ := own_slice HCS.out.1
        have hwf : (Lit.int .i64 (G.length : Int)).wf = true := by simp [Lit.wf, IntKind.min, IntKind.max, IntKind.signed, IntKind.bits]; omega
        go_wp2_with (first | (at_lookup; refine wpList_lookup_own_ok_int _ rfl _ _ 59 rfl 25 3 .i64 sig_keyed Tryd.underlying59 Tryd.underlying3 (zero_int _) w.heap.size j D rfl (HOM.out.alloc _) _ kk rfl hkey ?_; intro c hat hwc; clear hat hwc) | (at_mapUpdate; refine wpList_mapUpdate_own _ rfl _ _ _ 59 rfl 25 3 sig_keyed Tryd.underlying59 _ w.heap.size j D rfl (HOM.out.alloc _) (by unfold maxLen; omega) _ _ kk rfl rfl hkey (.lit (.int .i64 (G.length : Int))) [] (plainElem_int Tryd.underlying3 hwf) ?_; intro w1 hown1 hgrow1; have HOM1 : Hid (w1.ownsMap Tryd.prog 25 (plainElem Tryd.prog 3) w.heap.size (j + 1) (D.put kk (.lit (.int .i64 (G.length : Int))))) := hown1; have HG1' : Hid (Grp w1 (w.heap.size + 1) (.slice av G.length cv) G vs) := HCS.out.below hgrow1 (by omega); have HLW1 : Hid (Below w.heap.size w w1) := (below_alloc HL.out _).grown hgrow1 (by simp; omega) (fun b hb => by cases hb; omega); have hszw1 : w.heap.size + 1 ≤ w1.heap.size := (by have := hgrow1.size; simp at this; omega); clear hown1 hgrow1) | (at_builtin; refine wpList_append_own _ rfl _ _ 45 rfl (w.heap.size + 1) 22 i1 (.slice none 0 0) 1 24 Tryd.underlying45 hj0 hy0 hy1 hy2 rfl (by decide) _ _ _ rfl (HG1'.out.1.alloc _) ⟨w1.heap.size, 0, none⟩ 1 1 [.slice none 0 0] rfl rfl ?c1 ?c2 ?c3 ?c4 ?c5 ?_))
        case c1 => exact cell_one_new _ _ _
        case c2 => intro z hz; simp at hz; subst hz; rfl
        case c3 => unfold maxLen; omega
        case c4 => omega
        case c5 => simp; omega
        intro v2 w3 hown2 hgrow2 _
        have HG2 : Hid (Grp w3 (w.heap.size + 1) v2 (G ++ [[]]) (vs ++ [.slice none 0 0])) := (HG1'.out.later (below_a1 _ _)).more hown2 hgrow2
        have HOM2 : Hid (w3.ownsMap Tryd.prog 25 (plainElem Tryd.prog 3) w.heap.size (j + 1) (D.put kk (.lit (.int .i64 (G.length : Int))))) := (HOM1.out.alloc _).kept hgrow2 (by intro e; have := own_block HG1'.out.1 _ e.symm; omega)
        have HLW3 : Hid (Below w.heap.size w w3) := (below_alloc HLW1.out _).grown hgrow2 (by simp; omega) (fun b hb => by have := own_block HG1'.out.1 b hb; omega)
        have hszw3 : w.heap.size + 1 ≤ w3.heap.size := by have := hgrow2.size; simp at this; omega
        clear hown2 hgrow2
        have HFIN0 : Hid (groupsTo S (j + 1) = (G ++ [[]]).set G.length ((G ++ [[]]).getD G.length [] ++ [j])) := by
          rw [Hid, set_last]
          conv => lhs; unfold groupsTo
          rw [HG0.out, HWH.out]
        have HMF0 : Hid (MapOk S ((G ++ [[]]).set G.length ((G ++ [[]]).getD G.length [] ++ [j])) (D.put kk (.lit (.int .i64 (G.length : Int))))) := by rw [set_last]; exact HMP.out
        have hgk4 : ((G ++ [[]]).getD G.length []).length ≤ j := by rw [getD_app, if_neg (by omega), Nat.sub_self]; simp
        have hkG : G.length < (G ++ [[]]).length := by simp
        generalize G ++ [[]] = G' at *
        generalize vs ++ [Value.slice none 0 0] = vs' at *
        generalize D.put kk (.lit (.int .i64 (G.length : Int))) = D' at *
        obtain ⟨g, gc, rfl, hgb⟩ := HG2.out.form (by omega)
        have HGB : Hid (w.heap.size + 1 ≤ g) := hgb
        clear hgb
        have hixg := fun w => index_grp g G.length (G').length gc (by first | exact hkG | simp) w
        have hcell := HG2.out.cell G.length (by first | exact hkG | simp)
        obtain ⟨u, hu⟩ : ∃ u, (vs').getD G.length undef = u := ⟨_, rfl⟩
        rw [hu] at hcell
        have HUV : Hid ((vs').getD G.length undef = u) := hu
        obtain ⟨gk, hgk⟩ : ∃ gk, (G').getD G.length [] = gk := ⟨_, rfl⟩
        have HGK : Hid ((G').getD G.length [] = gk) := hgk
        have hgkl : gk.length ≤ j := by rw [← hgk]; exact hgk4
        have HOU : Hid ((w3).ownsRow (w.heap.size + 1) 3 1 u gk.length (iv gk)) := by rw [← hu, ← hgk]; exact HG2.out.2.2.1 G.length (by first | exact hkG | simp)
        clear hu hgk hgk4
        have HG1 : Hid (Grp ((w3).alloc (.cells #[.int .i64 (j : Int)] 3)) (w.heap.size + 1) (.slice (some ⟨g, 0, none⟩) G'.length gc) (G') (vs')) := HG2.out.later (below_a1 _ _)
        (try (rw [hixg]; simp only [Result.andThen_ok]))
        go_wp2_with (at_builtin; refine wpList_append_own_at _ rfl _ _ 22 rfl (w.heap.size + 1) 3 i0 (.int .i64 0) 1 8 Tryd.underlying22 hi hz0 hz1 hz2 rfl (by decide) _ _ _ rfl (HOU.out.alloc _) ⟨w3.heap.size, 0, none⟩ 1 1 [.int .i64 (j : Int)] rfl rfl ?c1 ?c2 ?c3 ?c4 ?c5 ?_)
        case c1 => have h := cell_one_new (w3) (.int .i64 (j : Int)) 3; simpa only [World.size_alloc] using h
        case c2 => intro z hz; simp at hz; subst hz; rfl
        case c3 => unfold maxLen; omega
        case c4 => omega
        case c5 => simp; omega
        intro u' w2 hown' hgrow _ hat
        have HOU2 : Hid (w2.ownsRow (w.heap.size + 1) 3 1 u' (gk ++ [j]).length (iv (gk ++ [j]))) := by rw [List.length_append, iv_app]; exact hown'
        have hgrow2 := hgrow
        rw [← HUV.out] at hgrow2
        have HROW : Hid (w2.ownsRow (w.heap.size + 1) 22 1 (.slice (some ⟨g, 0, none⟩) G'.length gc) (G').length (vs')) := HG1.out.1.kept hgrow2 (own_ne HG1.out.1 (HG1.out.2.2.1 G.length (by first | exact hkG | simp)) (by decide))
        have hc2 : w2.cell? ⟨g, G.length, none⟩ = some u := by rw [HROW.out.cellAt G.length (by first | omega | (simp; omega))]; exact get_of (by rw [HG1.out.2.1]; first | exact hkG | simp) HUV.out
        have hf2 := HROW.out.frozenAt G.length
        have HPUT : Hid (Grp (w2.setCell ⟨g, G.length, none⟩ u') (w.heap.size + 1) (.slice (some ⟨g, 0, none⟩) G'.length gc) ((G').set G.length (gk ++ [j])) ((vs').set G.length u')) := HG1.out.put (by first | exact hkG | simp) HOU2.out hgrow2 (by rw [HUV.out]; simpa using hat) rfl
        have HOW2 : Hid (w2.ownsMap Tryd.prog 25 (plainElem Tryd.prog 3) w.heap.size (j + 1) D') := (HOM2.out.alloc _).kept hgrow (by intro e; have := own_block HOU.out _ e.symm; omega)
        have HLW2 : Hid (Below w.heap.size w w2) := (below_alloc HLW3.out _).grown hgrow (by simp; omega) (fun b hb => by have := own_block HOU.out b hb; omega)
        have hsz2 : w.heap.size + 1 ≤ w2.heap.size := by have := hgrow.size; simp at this; omega
        obtain ⟨au, cau, rfl⟩ := own_slice HOU2.out
        clear hown' hgrow hgrow2 hat hcell
        have HGS : Hid (w2.grownBy (w2.setCell ⟨g, G.length, none⟩ (.slice au (gk ++ [j]).length cau)) (some g)) := (HROW.out.stored G.length _).2
        generalize (gk ++ [j]).length = gl at *
        go_wp2
        go_roundw
        case rel => exact ⟨j + 1, by omega, by go_num, D', by rw [HFIN0.out]; exact HMF0.out, HOW2.out.kept HGS.out (by have := HGB.out; simp; omega), ⟨_, by rw [HFIN0.out, HGK.out]; exact HPUT.out⟩, HLW2.out.setCell (by have := HGB.out; simp; omega) _, by simp; omega⟩
        case measure => simp [intOf]; omega
    · have e : j = n := by omega
      subst e
      go_wp2
      go_ret
      exact ⟨_, vs, rfl, by exact ⟨own_mono HGR.out.1 (by omega), HGR.out.2.1, fun i hi => own_mono (HGR.out.2.2.1 i hi) (by omega), HGR.out.2.2.2⟩, HL.out⟩
end Go.Proofs.YthenkidhcfholaaDoor
