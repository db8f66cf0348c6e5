/- What the document's answer tells of Groups, walked. -/
import Derived.Test.YthenkidhcfholaaDoorSigZ
import Derived.RegionTactic
import Derived.Deep.RegionHeld3
import Derived.BigRegion
namespace Go.Proofs.YthenkidhcfholaaDoor
open Go.ChangeShapes Go.WideShapes Go.ChangeAt Go.RowKit


set_option maxRecDepth 10000 in
set_option maxHeartbeats 3200000 in
theorem rgroups_any (w : World) (v0 : Value) (S : List (List Nat)) (hv : SLst w v0 S) :
    Calls Tryd.prog 32 #[v0] w fun e w' => ∃ v vs, e = .returned v ∧ Grp w' w.heap.size v (groupsTo S S.length) vs ∧ Below w.heap.size w w' := by
  obtain ⟨i0, hi, hz0, hz1, hz2⟩ := info_parts info_int
  obtain ⟨i1, hj0, hy0, hy1, hy2⟩ := info_parts info_ints
  obtain ⟨a, cap, rfl, hbig, hok, hl⟩ := hv
  have HC : Hid (∀ i, i < S.length → ∃ x, a = some x ∧ Row8 w (x.add (i * 8)) (sc (S.getD i []))) := by
    intro i hi
    rcases hl with rfl | ⟨x, hx, hc⟩
    · exact absurd hi (by simp)
    · exact ⟨x, hx, hc i hi⟩
  have HOK : Hid (∀ s ∈ S, Ok s) := hok
  clear hl hok
  generalize hn : S.length = n at *
  have HN : Hid (S.length = n) := hn
  clear hn
  go_enter Tryd.func32, Tryd.ntmps32
  go_wp2
  go_loopw [3, 4] (fun v i wr => ∃ j : Nat, j ≤ n ∧ i = .int .i64 j ∧ (∃ vs, Grp wr w.heap.size v (groupsTo S j) vs) ∧ Below w.heap.size w wr) (fun _ i _ => n - (intOf i).toNat)
  case atStart => exact ⟨0, Nat.zero_le _, rfl, ⟨[], World.ownsRow_nil _ _ _ _, rfl, fun i hi => absurd hi (by simp [groupsTo]), fun i j hi => absurd hi (by simp [groupsTo])⟩, Below.refl _ _⟩
  case round =>
    obtain ⟨j, hj, rfl, ⟨vs0, hgr⟩, hbel⟩ := hrel
    have HG0 : Hid (Grp wr w.heap.size u3 (groupsTo S j) vs0) := hgr
    have HL0 : Hid (Below w.heap.size w wr) := hbel
    clear hgr hbel
    by_cases hlt : j < n
    · have hd : decide ((j : Int) < (n : Int)) = true := by simp; omega
      have HFN : Hid (Fine (groupsTo S j) j) := fine_groupsTo S j
      have hgl : (groupsTo S j).length ≤ j := HFN.out.2.2.1
      obtain ⟨x, rfl, hrow⟩ := HC.out j hlt
      have HJ8 : Hid (Row8 w (x.add (j * 8)) (sc (S.getD j []))) := hrow
      have HKJ : Hid (Ok (S.getD j [])) := ok_at HOK.out (by rw [HN.out]; exact hlt)
      have hzj : (sc (S.getD j [])).size = 8 := by rw [sc_size]; exact HKJ.out.1
      have HLK : Hid (Look S (groupsTo S j) j 0 false (groupsTo S j)) := look_start S j
      have hbd : j < 2199023255552 := by omega
      clear hrow
      obtain ⟨av, cv, rfl⟩ := own_slice HG0.out.1
      generalize hgn : (groupsTo S j).length = gn at *
      have HGN : Hid ((groupsTo S j).length = gn) := hgn
      clear hgn
      go_wp2
      go_loopw [5, 6] (fun f k wr => ∃ m : Nat, m ≤ gn ∧ k = .int .i64 m ∧ ∃ fb G vs, f = .bool fb ∧ Look S (groupsTo S j) j m fb G ∧ Grp wr w.heap.size (.slice av gn cv) G vs ∧ Below w.heap.size w wr) (fun _ k _ => gn - (intOf k).toNat)
      case atStart => exact ⟨0, Nat.zero_le _, rfl, false, _, _, rfl, HLK.out, HG0.out, HL0.out⟩
      case round =>
        obtain ⟨m, hm, rfl, fb, G, vs, rfl, hlk, hgr, hbel⟩ := hrel
        have HLK1 : Hid (Look S (groupsTo S j) j m fb G) := hlk
        have HGR : Hid (Grp wr w.heap.size (.slice av gn cv) G vs) := hgr
        have HLR : Hid (Below w.heap.size w wr) := hbel
        have HGL : Hid (G.length = gn) := by rw [Hid, hlk.len]; exact HGN.out
        clear hlk hgr hbel
        by_cases hmlt : m < gn
        · have hd2 : decide ((m : Int) < (gn : Int)) = true := by simp; omega
          have hmn : (m : Int) < (gn : Int) := by omega
          obtain ⟨g, cg, hfm, _⟩ := HGR.out.form (by rw [HGL.out]; omega)
          obtain rfl : av = some ⟨g, 0, none⟩ := by simp at hfm; exact hfm.1
          clear hfm
          have hmG : m < G.length := by rw [HGL.out]; exact hmlt
          obtain ⟨u, hu⟩ : ∃ u, vs.getD m undef = u := ⟨_, rfl⟩
          have HUV : Hid (vs.getD m undef = u) := hu
          obtain ⟨gk, hgk⟩ : ∃ gk, G.getD m [] = gk := ⟨_, rfl⟩
          have HGK : Hid (G.getD m [] = gk) := hgk
          have hgkl : gk.length ≤ j + 1 := by rw [← hgk]; exact HLK1.out.small m hmG
          have hgk0 : gk ≠ [] := by rw [← hgk]; exact HLK1.out.ne m hmG
          obtain ⟨p, hp⟩ : ∃ p, gk.headD 0 = p := ⟨_, rfl⟩
          have HP : Hid (gk.headD 0 = p) := hp
          have HPH : Hid (((groupsTo S j).getD m []).headD 0 = p) := by rw [Hid, ← HLK1.out.head m hmG, hgk, hp]
          have hpj : p < j := by
            have hm0 : m < (groupsTo S j).length := by rw [HGN.out]; exact hmlt
            have hmem : (groupsTo S j).getD m [] ∈ groupsTo S j := by
              have : (groupsTo S j).getD m [] = (groupsTo S j)[m] := by simp [hm0]
              rw [this]; exact List.getElem_mem hm0
            have hne := HFN.out.1 _ hmem
            have hlt2 := HFN.out.2.1 _ hmem
            have hph := HPH.out
            cases hc : (groupsTo S j).getD m [] with
            | nil => exact absurd hc hne
            | cons q r =>
              rw [hc] at hph hlt2
              have := hlt2 q (by simp)
              simp at hph
              omega
          have hrowu : wr.ownsRow w.heap.size 3 1 u gk.length (iv gk) := by rw [← hu, ← hgk]; exact HGR.out.2.2.1 m hmG
          obtain ⟨gu, cu, rfl⟩ : ∃ gu cu, u = .slice (some ⟨gu, 0, none⟩) gk.length cu := by
            rcases hrowu.2 with ⟨_, h0⟩ | ⟨gu, cu, cur, hv, _⟩
            · exact absurd (List.length_eq_zero_iff.1 h0) hgk0
            · exact ⟨gu, cu, hv⟩
          have hglp : 0 < gk.length := List.length_pos_iff.2 hgk0
          have HCL : Hid (∀ W : World, Grp W w.heap.size (.slice (some ⟨g, 0, none⟩) gn cv) G vs → W.cell? ⟨g, m, none⟩ = some (.slice (some ⟨gu, 0, none⟩) gk.length cu) ∧ W.cell? ⟨gu, 0, none⟩ = some (.int .i64 (p : Int))) := by
            intro W hW
            have hW2 := hW
            rw [← HGL.out] at hW2
            refine ⟨by rw [hW2.cell m hmG, HUV.out], ?_⟩
            have h3 := hW.2.2.1 m hmG
            rw [HUV.out, HGK.out] at h3
            rw [h3.cellAt 0 (by omega)]
            cases hc : gk with
            | nil => exact absurd hc hgk0
            | cons q r =>
              have := HP.out
              rw [hc] at this
              simp at this
              subst this
              rfl
          obtain ⟨x', hx', hrp⟩ := HC.out p (by omega)
          obtain rfl : x = x' := by simpa using hx'
          have HP8 : Hid (Row8 w (x.add (p * 8)) (sc (S.getD p []))) := hrp
          have HKP : Hid (Ok (S.getD p [])) := ok_at HOK.out (by rw [HN.out]; omega)
          have hzp : (sc (S.getD p [])).size = 8 := by rw [sc_size]; exact HKP.out.1
          have HSM : Hid (∀ w, Calls Tryd.prog 42 #[.agg (sc (S.getD p [])), .agg (sc (S.getD j []))] w fun e w' => e = .returned (.bool (S.getD p [] == S.getD j [])) ∧ Below w.heap.size w w') := fun w => rsame_any _ _ HKP.out HKJ.out w
          have HIS : Hid (isOf S (S.getD j []) ((groupsTo S j).getD m []) = (S.getD p [] == S.getD j [])) := by rw [Hid]; unfold isOf; rw [HPH.out]
          have hpn : (p : Int) < (n : Int) := by omega
          have hjn : (j : Int) < (n : Int) := by omega
          clear hrp hx' hrowu hu hgk hp
          generalize (S.getD p [] == S.getD j []) = b at *
          generalize sc (S.getD p []) = cp at *
          generalize sc (S.getD j []) = cj at *
          have hpkp := pack8 cp hzp
          have hpkj := pack8 cj hzj
          have hixg := fun w => index_grp g m gn cv hmlt w
          go_wp2
          go_region_held3 (fun w' => w'.cell? ⟨g, m, none⟩ = some (.slice (some ⟨gu, 0, none⟩) gk.length cu) ∧ w'.cell? ⟨gu, 0, none⟩ = some (.int .i64 (p : Int)) ∧ (w'.cell? (x.add (p * 8)) = some (cp[0]'(by omega)) ∧ w'.cell? ⟨(x.add (p * 8)).block, (x.add (p * 8)).off + 1, none⟩ = some (cp[1]'(by omega)) ∧ w'.cell? ⟨(x.add (p * 8)).block, (x.add (p * 8)).off + 2, none⟩ = some (cp[2]'(by omega)) ∧ w'.cell? ⟨(x.add (p * 8)).block, (x.add (p * 8)).off + 3, none⟩ = some (cp[3]'(by omega)) ∧ w'.cell? ⟨(x.add (p * 8)).block, (x.add (p * 8)).off + 4, none⟩ = some (cp[4]'(by omega)) ∧ w'.cell? ⟨(x.add (p * 8)).block, (x.add (p * 8)).off + 5, none⟩ = some (cp[5]'(by omega)) ∧ w'.cell? ⟨(x.add (p * 8)).block, (x.add (p * 8)).off + 6, none⟩ = some (cp[6]'(by omega)) ∧ w'.cell? ⟨(x.add (p * 8)).block, (x.add (p * 8)).off + 7, none⟩ = some (cp[7]'(by omega))) ∧ (w'.cell? (x.add (j * 8)) = some (cj[0]'(by omega)) ∧ w'.cell? ⟨(x.add (j * 8)).block, (x.add (j * 8)).off + 1, none⟩ = some (cj[1]'(by omega)) ∧ w'.cell? ⟨(x.add (j * 8)).block, (x.add (j * 8)).off + 2, none⟩ = some (cj[2]'(by omega)) ∧ w'.cell? ⟨(x.add (j * 8)).block, (x.add (j * 8)).off + 3, none⟩ = some (cj[3]'(by omega)) ∧ w'.cell? ⟨(x.add (j * 8)).block, (x.add (j * 8)).off + 4, none⟩ = some (cj[4]'(by omega)) ∧ w'.cell? ⟨(x.add (j * 8)).block, (x.add (j * 8)).off + 5, none⟩ = some (cj[5]'(by omega)) ∧ w'.cell? ⟨(x.add (j * 8)).block, (x.add (j * 8)).off + 6, none⟩ = some (cj[6]'(by omega)) ∧ w'.cell? ⟨(x.add (j * 8)).block, (x.add (j * 8)).off + 7, none⟩ = some (cj[7]'(by omega)))) (exact ⟨(by have h := (HCL.out _ HGR.out).1; exact h), (by have h := (HCL.out _ HGR.out).2; exact h), (by have h := row8_cells (HP8.out.later hzp HLR.out) hzp; exact h), (by have h := row8_cells (HJ8.out.later hzj HLR.out) hzj; exact h)⟩) (first | (go_at_call 42; refine (HSM.out _).mono ?_; rintro e y ⟨rfl, hb⟩; have HGR : Hid (Grp y w.heap.size (.slice (some ⟨g, 0, none⟩) gn cv) G vs) := Grp.later (by exact HGR.out) hb; have HLR : Hid (Below w.heap.size w y) := below_then HLR.out ⟨hb.os, hb.tape, hb.output, hb.size, hb.block⟩; clear hb))
          clear HSM
          cases hb : b
          · -- not the same
            have HLN : Hid (Look S (groupsTo S j) j (m + 1) fb G) := by
              cases fb
              · exact look_miss HLK1.out (by rw [HIS.out, hb])
              · exact look_past HLK1.out
            go_wp2
            go_roundw
            case rel => exact ⟨m + 1, by omega, by go_num, fb, G, vs, rfl, HLN.out, HGR.out, HLR.out⟩
            case measure => simp [intOf]; omega
          · cases fb
            · -- found here
              have HHIT : Hid (Look S (groupsTo S j) j (m + 1) true (G.set m (gk ++ [j]))) := by
                have h := look_hit HLK1.out hmG (by rw [HIS.out, hb])
                rw [HGK.out] at h
                exact h
              have hcell := (HCL.out _ HGR.out).1
              have HOU : Hid (y.ownsRow w.heap.size 3 1 (.slice (some ⟨gu, 0, none⟩) gk.length cu) gk.length (iv gk)) := by
                have h := HGR.out.2.2.1 m hmG
                rw [HUV.out, HGK.out] at h
                exact h
              have HG1 : Hid (Grp (y.alloc (.cells #[.int .i64 (j : Int)] 3)) w.heap.size (.slice (some ⟨g, 0, none⟩) gn cv) G vs) := HGR.out.later (below_a1 _ _)
              have hszy : w.heap.size ≤ y.heap.size := HLR.out.size
              go_wp2_with (at_builtin; refine wpList_append_own_at _ rfl _ _ 22 rfl w.heap.size 3 i0 (.int .i64 0) 1 8 Tryd.underlying22 hi hz0 hz1 hz2 rfl (by decide) _ _ _ rfl (HOU.out.alloc _) ⟨y.heap.size, 0, none⟩ 1 1 [.int .i64 (j : Int)] rfl rfl ?c1 ?c2 ?c3 ?c4 ?c5 ?_)
              case c1 => exact cell_one_new _ _ _
              case c2 => intro z hz; simp at hz; subst hz; rfl
              case c3 => unfold maxLen; omega
              case c4 => omega
              case c5 => simp; omega
              intro u' w2 hown' hgrow _ hat
              have HOU2 : Hid (w2.ownsRow w.heap.size 3 1 u' (gk ++ [j]).length (iv (gk ++ [j]))) := by rw [List.length_append, iv_app]; exact hown'
              have hgrow2 := hgrow
              rw [← HUV.out] at hgrow2
              have HROW : Hid (w2.ownsRow w.heap.size 22 1 (.slice (some ⟨g, 0, none⟩) G.length cv) G.length vs) := by
                have h := HG1.out.1.kept hgrow2 (own_ne HG1.out.1 (HG1.out.2.2.1 m hmG) (by decide))
                rw [HGL.out] at h ⊢
                exact h
              have hc2 : w2.cell? ⟨g, m, none⟩ = some (.slice (some ⟨gu, 0, none⟩) gk.length cu) := by rw [HROW.out.cellAt m (by omega)]; exact get_of (by rw [HG1.out.2.1]; exact hmG) HUV.out
              have hf2 := HROW.out.frozenAt m
              have HPUT : Hid (Grp (w2.setCell ⟨g, m, none⟩ u') w.heap.size (.slice (some ⟨g, 0, none⟩) gn cv) (G.set m (gk ++ [j])) (vs.set m u')) := HG1.out.put hmG HOU2.out hgrow2 (by rw [HUV.out]; simpa using hat) (by rw [HGL.out])
              have HLW2 : Hid (Below w.heap.size w w2) := (below_alloc HLR.out _).grown hgrow (by simp; omega) (fun b hb => own_block HOU.out b hb)
              have HGG : Hid (w.heap.size ≤ g) := own_block HG1.out.1 g rfl
              obtain ⟨au, cau, rfl⟩ := own_slice HOU2.out
              clear hown' hgrow hgrow2 hat hcell
              generalize (gk ++ [j]).length = gl at *
              go_wp2
              go_roundw
              case rel => exact ⟨m + 1, by omega, by go_num, true, _, _, rfl, HHIT.out, HPUT.out, HLW2.out.setCell (by simp; exact HGG.out) _⟩
              case measure => simp [intOf]; omega
            · have HLN : Hid (Look S (groupsTo S j) j (m + 1) true G) := look_past HLK1.out
              go_wp2
              go_roundw
              case rel => exact ⟨m + 1, by omega, by go_num, true, G, vs, rfl, HLN.out, HGR.out, HLR.out⟩
              case measure => simp [intOf]; omega
        · have e : m = gn := by omega
          subst e
          cases fb
          · have hnn : G = groupsTo S j ∧ groupsTo S (j + 1) = G ++ [[j]] := look_none (by rw [HGN.out]; exact HLK1.out)
            have HFI : Hid (groupsTo S (j + 1) = G ++ [[j]]) := hnn.2
            have HFRESH : Hid (∀ i, i < G.length → ∀ q, (vs.getD i undef).ownBlock = some q → q < wr.heap.size) := fun i hi q hq => ((HGR.out.2.2.1 i hi).lt q hq).2
            have hszr : w.heap.size ≤ wr.heap.size := HLR.out.size
            have HU1 : Hid ((wr.alloc (.cells #[.int .i64 (j : Int)] 3)).ownsRow w.heap.size 3 1 (.slice (some ⟨wr.heap.size, 0, none⟩) 1 1) 1 (iv [j])) := ⟨rfl, .inr ⟨wr.heap.size, 1, #[.int .i64 (j : Int)], rfl, hszr, heap_alloc_new _ _, Nat.le_refl _, by unfold maxLen; omega, rfl, rfl⟩⟩
            have HG2 : Hid (Grp ((wr.alloc (.cells #[.int .i64 (j : Int)] 3)).alloc (.cells #[.slice (some ⟨wr.heap.size, 0, none⟩) 1 1] 22)) w.heap.size (.slice av m cv) G vs) := HGR.out.later (below_a2 _ _ _)
            clear hnn
            go_wp2_with (at_builtin; refine wpList_append_own _ rfl _ _ 45 rfl w.heap.size 22 i1 (.slice none 0 0) 1 24 Tryd.underlying45 hj0 hy0 hy1 hy2 rfl (by decide) _ _ _ rfl HG2.out.1 ⟨wr.heap.size + 1, 0, none⟩ 1 1 [.slice (some ⟨wr.heap.size, 0, none⟩) 1 1] rfl rfl ?c1 ?c2 ?c3 ?c4 ?c5 ?_)
            case c1 => have h := cell_one_new (wr.alloc (.cells #[.int .i64 (j : Int)] 3)) (.slice (some ⟨wr.heap.size, 0, none⟩) 1 1) 22; simpa only [World.size_alloc] using h
            case c2 => intro z hz; simp at hz; subst hz; rfl
            case c3 => rw [HGL.out]; unfold maxLen; omega
            case c4 => rw [HGL.out]; omega
            case c5 => simp; omega
            intro v2 w3 hown2 hgrow2 _
            have HG3 : Hid (Grp w3 w.heap.size v2 (G ++ [[j]]) (vs ++ [.slice (some ⟨wr.heap.size, 0, none⟩) 1 1])) := HG2.out.more1 (HU1.out.alloc _) (fun i hi => by
              cases hq : (vs.getD i undef).ownBlock with
              | none => exact ⟨Or.inl rfl, Or.inr (by simp [Value.ownBlock])⟩
              | some q =>
                have := HFRESH.out i hi q hq
                exact ⟨Or.inr (by simp [Value.ownBlock]; omega), Or.inr (by simp [Value.ownBlock]; omega)⟩) hown2 hgrow2
            have HLW3 : Hid (Below w.heap.size w w3) := (below_alloc (below_alloc HLR.out _) _).grown hgrow2 (by simp; omega) (fun b hb => own_block HG2.out.1 b hb)
            clear hown2 hgrow2
            go_wp2
            go_roundw
            case rel => exact ⟨j + 1, by omega, by go_num, ⟨_, by rw [HFI.out]; exact HG3.out⟩, HLW3.out⟩
            case measure => simp [intOf]; omega
          · have HFI : Hid (G = groupsTo S (j + 1)) := HLK1.out.yes rfl
            go_wp2
            go_roundw
            case rel => exact ⟨j + 1, by omega, by go_num, ⟨vs, by rw [← HFI.out]; exact HGR.out⟩, HLR.out⟩
            case measure => simp [intOf]; omega
    · have e : j = n := by omega
      subst e
      go_wp2
      go_ret
      exact ⟨_, vs0, rfl, HG0.out, HL0.out⟩
end Go.Proofs.YthenkidhcfholaaDoor
