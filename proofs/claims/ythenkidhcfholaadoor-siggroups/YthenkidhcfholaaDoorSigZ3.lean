/- The law of groups, walked. -/
import Derived.Test.YthenkidhcfholaaDoorSigZ2
import Derived.Test.YthenkidhcfholaaDoorSigS
namespace Go.Proofs.YthenkidhcfholaaDoor
open Go.ChangeShapes Go.WideShapes Go.ChangeAt Go.RowKit

set_option maxRecDepth 10000 in
set_option maxHeartbeats 1600000 in
theorem groups_walk (v0 : Value) (S : List (List Nat)) (w : World) (hT : Tab w) (w0 : SLst w v0 S) :
    Calls Tryd.prog 7 #[v0] w fun e w' => e = .returned (.bool true) ∧ Below w.heap.size w w' := by
  have HT : Hid (Tab w) := hT
  have HS : Hid (SLst w v0 S) := w0
  obtain ⟨a, cap, rfl, hbig, hrest⟩ := w0
  clear hT hrest
  have HG : Hid (∀ (w : World) (v : Value), SLst w v S → Calls Tryd.prog 31 #[v] w fun e w' => ∃ v vs, e = .returned v ∧ Grp w' w.heap.size v (groupsTo S S.length) vs ∧ Below w.heap.size w w') := fun w v h => groups_any w v S h
  have HR : Hid (∀ (w : World) (v : Value), SLst w v S → Calls Tryd.prog 32 #[v] w fun e w' => ∃ v vs, e = .returned v ∧ Grp w' w.heap.size v (groupsTo S S.length) vs ∧ Below w.heap.size w w') := fun w v h => rgroups_any w v S h
  have HFN : Hid (Fine (groupsTo S S.length) S.length) := fine_groupsTo S S.length
  have hgn : (groupsTo S S.length).length ≤ 2199023255552 := by have := HFN.out.2.2.1; omega
  have hmk := fun (w : World) => make_sigs w S.length hbig
  obtain ⟨i0, hi, hz0, hz1, hz2⟩ := info_parts info_int
  go_enter Tryd.func7, Tryd.ntmps7
  go_wp2_with fail
  refine (shown_any _ HT.out).mono ?_
  rintro e x1 ⟨rfl, hb⟩
  have HL1 : Hid (Below w.heap.size w x1) := hb
  obtain ⟨x2, hcp, hin, hb2, hsz2⟩ := copy_sigs x1 S a cap 3 (HS.out.later hb)
  have HIN : Hid (SLst x2 (.slice (some ⟨x1.heap.size, 0, none⟩) S.length S.length) S) := hin
  have HL2 : Hid (Below w.heap.size w x2) := below_then hb hb2
  clear hb hin hb2 hsz2
  go_wp2_with fail
  refine (HG.out _ _ HIN.out).mono ?_
  rintro e x3 ⟨va, vs, rfl, hga, hb⟩
  have HA3 : Hid (Grp x3 x2.heap.size va (groupsTo S S.length) vs) := hga
  have HL3 : Hid (Below x2.heap.size x2 x3) := hb
  clear hga hb
  go_wp2_with fail
  refine (HR.out _ _ (HS.out.later (below_then HL2.out HL3.out))).mono ?_
  rintro e x4 ⟨vb, us, rfl, hgb, hb⟩
  have HB4 : Hid (Grp x4 x3.heap.size vb (groupsTo S S.length) us) := hgb
  have HA4 : Hid (Grp x4 x2.heap.size va (groupsTo S S.length) vs) := HA3.out.later hb
  have HL4 : Hid (Below x2.heap.size x2 x4) := below_then HL3.out hb
  have HZ34 : Hid (x2.heap.size ≤ x3.heap.size ∧ x3.heap.size ≤ x4.heap.size) := ⟨HL3.out.size, hb.size⟩
  clear hgb hb
  go_wp2_with fail
  refine (groupsEq_any _ _ _ _ _ (HA4.out.lst (by omega)) (HB4.out.lst (by omega))).mono ?_
  rintro e x5 ⟨rfl, hq⟩
  have hb : Below x4.heap.size x4 x5 := by obtain ⟨q, rfl⟩ := hq; exact below_drawn (Below.refl _ _) q
  have HA5 : Hid (Grp x5 x2.heap.size va (groupsTo S S.length) vs) := HA4.out.later hb
  have HB5 : Hid (Grp x5 x3.heap.size vb (groupsTo S S.length) us) := HB4.out.later hb
  have HL5 : Hid (Below x2.heap.size x2 x5) := below_then HL4.out hb
  have HZ5 : Hid (x4.heap.size ≤ x5.heap.size) := hb.size
  clear hb hq
  simp only [beq_self_eq_true]
  have HOV : Hid (∀ u, va = u → Out x3.heap.size x4.heap.size u) := fun u e g hg => Or.inl (by rw [← e] at hg; exact (HA3.out.1.lt g hg).2)
  have HOI : Hid (∀ i, i < (groupsTo S S.length).length → Out x3.heap.size x4.heap.size (vs.getD i undef)) := fun i hi g hg => Or.inl ((HA3.out.2.2.1 i hi).lt g hg).2
  have HGL : Hid (∀ q, q < (groupsTo S S.length).length → ((groupsTo S S.length).getD q []).length ≤ 2199023255552) := fun q hq => by
    have := HFN.out.2.2.2 ((groupsTo S S.length).getD q []) (by
      have e : (groupsTo S S.length).getD q [] = (groupsTo S S.length)[q] := by simp [hq]
      rw [e]; exact List.getElem_mem hq)
    omega
  obtain ⟨aa, ca, rfl⟩ := own_slice HA5.out.1
  generalize hG : groupsTo S S.length = G at *
  clear hG
  have HW5 : Hid (Wst G x3.heap.size x2 x4 (.slice aa G.length ca) vb us 0 0 x5 vs (G.map iv)) := wst_start HA5.out HOI.out (HOV.out _ rfl) HB5.out HB4.out HL5.out HZ5.out
  clear HOI HOV HA4 HA3
  generalize hn : G.length = n at *
  have HN : Hid (G.length = n) := hn
  clear hn
  go_wp2
  go_loopw [8] (fun i wr => ∃ j : Nat, j ≤ n ∧ i = .int .i64 j ∧ ∃ vs X, Wst G x3.heap.size x2 x4 (.slice aa n ca) vb us j 0 wr vs X) (fun i _ => n - (intOf i).toNat)
  case atStart => exact ⟨0, Nat.zero_le _, rfl, _, _, HW5.out⟩
  case round =>
    obtain ⟨j, hj, rfl, vs1, X1, hst⟩ := hrel
    have HST : Hid (Wst G x3.heap.size x2 x4 (.slice aa n ca) vb us j 0 wr vs1 X1) := hst
    clear hst
    by_cases hlt : j < n
    · have hd : decide ((j : Int) < (n : Int)) = true := by simp; omega
      have hjn : (j : Int) < (n : Int) := by omega
      have hjG : j < G.length := by rw [HN.out]; exact hlt
      obtain ⟨g, cg, hfm, hgb⟩ := HST.out.grp.form (by rw [HST.out.len]; omega)
      obtain rfl : aa = some ⟨g, 0, none⟩ := by simp at hfm; exact hfm.1
      have HGB : Hid (x2.heap.size ≤ g) := hgb
      clear hfm hgb
      have hixg := fun w => index_grp g j n ca hlt w
      obtain ⟨au, cu, hu⟩ := own_slice (HST.out.row hjG (Nat.zero_le _))
      have HU : Hid (vs1.getD j undef = .slice au (G.getD j []).length cu) := hu
      have hml := HGL.out j hlt
      clear hu
      generalize hm : (G.getD j []).length = m at *
      have HM : Hid ((G.getD j []).length = m) := hm
      clear hm
      go_wp2
      go_loopw [9] (fun i wr => ∃ k : Nat, k ≤ m ∧ i = .int .i64 k ∧ ∃ X, Wst G x3.heap.size x2 x4 (.slice (some ⟨g, 0, none⟩) n ca) vb us j k wr vs1 X) (fun i _ => m - (intOf i).toNat)
      case atStart => exact ⟨0, Nat.zero_le _, rfl, _, HST.out⟩
      case round =>
        obtain ⟨k, hk, rfl, X, hst⟩ := hrel
        have HSK : Hid (Wst G x3.heap.size x2 x4 (.slice (some ⟨g, 0, none⟩) n ca) vb us j k wr vs1 X) := hst
        clear hst
        have hca : wr.cell? ⟨g, j, none⟩ = some (.slice au m cu) := by
          have hv := HSK.out.grp
          have hx : X.length = n := by rw [HSK.out.len, HN.out]
          rw [← HU.out]
          subst hx
          exact hv.cell j hlt
        by_cases hklt : k < m
        · have hkn : (k : Int) < (m : Int) := by omega
          have HRW : Hid (wr.ownsRow x2.heap.size 3 1 (.slice au m cu) m (over j k ++ (iv (G.getD j [])).drop k)) := by
            have := HSK.out.row hjG (by rw [HM.out]; omega)
            rw [HU.out, HM.out] at this
            exact this
          obtain ⟨gi, rfl⟩ : ∃ gi, au = some ⟨gi, 0, none⟩ := by
            rcases HRW.out.2 with ⟨e, h0⟩ | ⟨gi, c', cur, e, _⟩
            · omega
            · simp at e; exact ⟨gi, e.1⟩
          have hXl : (over j k ++ (iv (G.getD j [])).drop k).length = m := by
            have e2 : (iv (G.getD j [])).length = m := by rw [← HM.out]; simp [iv]
            rw [List.length_append, over_len, List.length_drop, e2]; omega
          obtain ⟨z, hz⟩ : ∃ z, (over j k ++ (iv (G.getD j [])).drop k)[k]? = some z := ⟨_, List.getElem?_eq_getElem (by omega)⟩
          have hcc : wr.cell? ⟨gi, k, none⟩ = some z := by rw [HRW.out.cellAt k (by omega), hz]
          have hfz := HRW.out.frozenAt k
          have HNX : Hid (∃ X', Wst G x3.heap.size x2 x4 (.slice (some ⟨g, 0, none⟩) n ca) vb us j (k + 1) (wr.setCell ⟨gi, k, none⟩ (.int .i64 (-1000 * (j : Int) - (k : Int)))) vs1 X') := HSK.out.step hjG (by rw [HM.out]; exact hklt) HU.out
          clear hz hXl
          go_wp2
          go_roundw
          case rel => obtain ⟨X', hX'⟩ := HNX.out; exact ⟨k + 1, by omega, by go_num, X', by simpa using hX'⟩
          case measure => simp [intOf]; omega
        · have e : k = m := by omega
          subst e
          have HSA : Hid (Wst G x3.heap.size x2 x4 (.slice (some ⟨g, 0, none⟩) n ca) vb us j k (wr.alloc (.cells #[.int .i64 (-1000 * (j : Int) - 500)] 3)) vs1 X) := HSK.out.later (below_a1 _ _)
          have HRW : Hid (wr.ownsRow x2.heap.size 3 1 (.slice au k cu) k (over j k)) := by
            have := HSK.out.row hjG (by rw [HM.out]; omega)
            rw [HU.out, HM.out, List.drop_eq_nil_of_le (by rw [← HM.out]; simp [iv]), List.append_nil] at this
            exact this
          go_wp2_with (at_builtin; refine wpList_append_own_at _ rfl _ _ 22 rfl x2.heap.size 3 i0 (.int .i64 0) 1 8 Tryd.underlying22 hi hz0 hz1 hz2 rfl (by decide) _ _ _ rfl (HRW.out.alloc _) ⟨wr.heap.size, 0, none⟩ 1 1 [.int .i64 (-1000 * (j : Int) - 500)] rfl rfl ?c1 ?c2 ?c3 ?c4 ?c5 ?_)
          case c1 => exact cell_one_new _ _ _
          case c2 => intro z hz; simp at hz; subst hz; rfl
          case c3 => unfold maxLen; omega
          case c4 => omega
          case c5 => have := HSK.out.bel.size; simp; omega
          intro u' w5 hown' hgrow _ hat
          have HOU2 : Hid (w5.ownsRow x2.heap.size 3 1 u' (overAll j k).length (overAll j k)) := by unfold overAll; rw [List.length_append, over_len]; exact hown'
          have HNX : Hid (∃ X', Wst G x3.heap.size x2 x4 (.slice (some ⟨g, 0, none⟩) n ca) vb us (j + 1) 0 (w5.setCell ⟨g, j, none⟩ u') (vs1.set j u') X') := by
            have h1 := HSA.out
            have h2 := HOU2.out
            rw [← HM.out] at h1 h2
            exact h1.next hjG h2 (by rw [HU.out]; exact hgrow) (by rw [HU.out, World.size_alloc]; exact hat) (by rw [HN.out])
          have HROW : Hid (w5.ownsRow x2.heap.size 22 1 (.slice (some ⟨g, 0, none⟩) n ca) n vs1) := by
            have h1 := HSA.out.grp.1
            rw [HSA.out.len, HN.out] at h1
            exact h1.kept hgrow (own_ne h1 (HRW.out.alloc _) (by decide))
          have hc5 : w5.cell? ⟨g, j, none⟩ = some (.slice au k cu) := by rw [HROW.out.cellAt j (by omega)]; exact get_of (by rw [HSA.out.grp.2.1, HSA.out.len]; exact hjG) HU.out
          have hf5 := HROW.out.frozenAt j
          obtain ⟨au2, cau2, rfl⟩ := own_slice HOU2.out
          clear hown' hgrow hat hca
          generalize (overAll j k).length = ol at *
          go_wp2
          go_roundw
          case rel => obtain ⟨X', hX'⟩ := HNX.out; exact ⟨j + 1, by omega, by go_num, _, X', hX'⟩
          case measure => simp [intOf]; omega
    · have e : j = n := by omega
      subst e
      have hd : decide ((j : Int) < (j : Int)) = false := by simp
      go_wp2
      obtain ⟨x6, rfl⟩ : ∃ x6, x6 = wr := ⟨_, rfl⟩
      have HL6 : Hid (Below x2.heap.size x2 x6) := HST.out.bel
      have HB6 : Hid (Grp x6 x3.heap.size vb G us) := HST.out.b
      have HCK : Hid (∀ q, q < j → ∃ g gi cq, aa = some ⟨g, 0, none⟩ ∧ x6.cell? ⟨g, q, none⟩ = some (.slice (some ⟨gi, 0, none⟩) ((G.getD q []).length + 1) cq) ∧ x6.cell? ⟨gi, (G.getD q []).length, none⟩ = some (.int .i64 (-1000 * (q : Int) - 500)) ∧ ∀ k, k < (G.getD q []).length → x6.cell? ⟨gi, k, none⟩ = some (.int .i64 (-1000 * (q : Int) - (k : Int)))) := wst_cells HST.out HN.out
      clear HST HW5 HA5 HB5
      clear hd
      go_loopw [10] (fun i wr => ∃ q : Nat, q ≤ j ∧ i = .int .i64 q ∧ ∃ z, wr = x6.drewN z) (fun i _ => j - (intOf i).toNat)
      case atStart => exact ⟨0, Nat.zero_le _, rfl, 0, rfl⟩
      case round =>
        obtain ⟨q, hq, rfl, hwr⟩ := hrel
        have HW : Hid (∃ z, wr = x6.drewN z) := hwr
        clear hwr
        by_cases hlt : q < j
        · have hqj : (q : Int) < (j : Int) := by omega
          obtain ⟨g, gi, cq, rfl, hc1, hc2, hc3⟩ := HCK.out q hlt
          have HC1 : Hid (x6.cell? ⟨g, q, none⟩ = some (.slice (some ⟨gi, 0, none⟩) ((G.getD q []).length + 1) cq)) := hc1
          have HC3 : Hid (∀ k, k < (G.getD q []).length → x6.cell? ⟨gi, k, none⟩ = some (.int .i64 (-1000 * (q : Int) - (k : Int)))) := hc3
          have hd1 : wr.cell? ⟨g, q, none⟩ = some (.slice (some ⟨gi, 0, none⟩) ((G.getD q []).length + 1) cq) := by obtain ⟨z, rfl⟩ := HW.out; exact hc1
          have hd2 : wr.cell? ⟨gi, (G.getD q []).length, none⟩ = some (.int .i64 (-1000 * (q : Int) - 500)) := by obtain ⟨z, rfl⟩ := HW.out; exact hc2
          have hml := HGL.out q hlt
          clear hc1 hc2 hc3
          generalize (G.getD q []).length = m at *
          have hixg := fun w => index_grp g q j ca hlt w
          have hne : ((-1000 * (q : Int) - 500) != (-1000 * (q : Int) - 500)) = false := by simp
          go_wp2
          go_quiet (fail)
          go_wp2
          clear hd2 hne hd1
          go_loopw [11] (fun i wr => ∃ k : Nat, k ≤ m ∧ i = .int .i64 k ∧ ∃ z, wr = x6.drewN z) (fun i _ => m - (intOf i).toNat)
          case atStart => exact ⟨0, Nat.zero_le _, rfl, by obtain ⟨q, rfl⟩ := HW.out; exact ⟨_, World.drewN_drewN _ _ _⟩⟩
          case round =>
            obtain ⟨k, hk, rfl, hwr⟩ := hrel
            have HW2 : Hid (∃ z, wr = x6.drewN z) := hwr
            clear hwr
            have hd1 : wr.cell? ⟨g, q, none⟩ = some (.slice (some ⟨gi, 0, none⟩) (m + 1) cq) := by obtain ⟨z, rfl⟩ := HW2.out; exact HC1.out
            by_cases hklt : k < m
            · have hd2 : wr.cell? ⟨gi, k, none⟩ = some (.int .i64 (-1000 * (q : Int) - (k : Int))) := by obtain ⟨z, rfl⟩ := HW2.out; exact HC3.out k hklt
              have hkm : (k : Int) < (m : Int) := by omega
              have hkm1 : (k : Int) < (m : Int) + 1 := by omega
              have hne : ((-1000 * (q : Int) - (k : Int)) != (-1000 * (q : Int) - (k : Int))) = false := by simp
              go_wp2
              go_roundw
              case rel => exact ⟨k + 1, by omega, by go_num, HW2.out⟩
              case measure => simp [intOf]; omega
            · have e : k = m := by omega
              subst e
              go_wp2
              go_roundw
              case rel => exact ⟨q + 1, by omega, by go_num, HW2.out⟩
              case measure => simp [intOf]; omega
        · have e : q = j := by omega
          subst e
          have HL7 : Hid (Below x2.heap.size x2 wr) := by obtain ⟨z, rfl⟩ := HW.out; exact below_drawn HL6.out z
          have HB7 : Hid (Grp wr x3.heap.size vb G us) := by obtain ⟨z, rfl⟩ := HW.out; exact HB6.out.later (below_drawn (Below.refl _ _) z)
          clear HCK
          go_wp2
          obtain ⟨x7, rfl⟩ : ∃ x7, x7 = wr := ⟨_, rfl⟩
          clear HW
          generalize hy : (⟨x1.heap.size, 0, none⟩ : Addr) = y at *
          clear hy
          have HY : Hid (∀ i, i < S.length → Row8 x2 (y.add (i * 8)) (sc (S.getD i []))) := by
            obtain ⟨a', cap', he, _, _, hl⟩ := HIN.out
            intro i hi
            rcases hl with rfl | ⟨x, hx, hc⟩
            · exact absurd hi (by simp)
            · simp at he
              obtain ⟨rfl, _⟩ := he
              cases hx
              exact hc i hi
          have HX : Hid (∀ i, i < S.length → ∃ x, a = some x ∧ Row8 w (x.add (i * 8)) (sc (S.getD i []))) := by
            obtain ⟨a', cap', he, _, _, hl⟩ := HS.out
            intro i hi
            rcases hl with rfl | ⟨x, hx, hc⟩
            · exact absurd hi (by simp)
            · simp at he
              obtain ⟨rfl, _⟩ := he
              exact ⟨x, hx, hc i hi⟩
          have HOK : Hid (∀ s ∈ S, Ok s) := by obtain ⟨_, _, _, _, h, _⟩ := HS.out; exact h
          generalize hl : S.length = n at *
          have HSL : Hid (S.length = n) := hl
          clear hl
          go_loopw [12] (fun i wr => ∃ p : Nat, p ≤ n ∧ i = .int .i64 p ∧ ∃ z, wr = x7.drewN z) (fun i _ => n - (intOf i).toNat)
          case atStart => exact ⟨0, Nat.zero_le _, rfl, 0, rfl⟩
          case round =>
            obtain ⟨p, hp, rfl, hwr⟩ := hrel
            have HW : Hid (∃ z, wr = x7.drewN z) := hwr
            clear hwr
            have HL8 : Hid (Below x2.heap.size x2 wr) := by obtain ⟨z, rfl⟩ := HW.out; exact below_drawn HL7.out z
            have HB8 : Hid (Grp wr x3.heap.size vb G us) := by obtain ⟨z, rfl⟩ := HW.out; exact HB7.out.later (below_drawn (Below.refl _ _) z)
            by_cases hlt : p < n
            · obtain ⟨x, rfl, hrow⟩ := HX.out p hlt
              have hs : Ok (S.getD p []) := ok_at HOK.out (by rw [HSL.out]; exact hlt)
              have hz : (sc (S.getD p [])).size = 8 := by rw [sc_size]; exact hs.1
              have HX8 : Hid (Row8 wr (x.add (p * 8)) (sc (S.getD p []))) := hrow.later hz (below_then HL2.out HL8.out)
              have HY8 : Hid (Row8 wr (y.add (p * 8)) (sc (S.getD p []))) := (HY.out p hlt).later hz HL8.out
              have hnq : ∀ w, (binOp .neq 25 (.agg (sc (S.getD p []))) (.agg (sc (S.getD p [])))).run Tryd.prog w = .ok (.bool false) w := fun w => by have := neq_sig (S.getD p []) (S.getD p []) hs.1 hs.1 w; rw [beq_self_eq_true] at this; exact this
              clear hrow hs
              generalize sc (S.getD p []) = cs at *
              have hpk := pack8 cs hz
              have c8x := row8_cells HX8.out hz
              have c8y := row8_cells HY8.out hz
              have hpn : (p : Int) < (n : Int) := by omega
              go_wp2
              go_quiet (fail)
              go_wp2
              go_roundw
              case rel => exact ⟨p + 1, by omega, by go_num, by obtain ⟨q, rfl⟩ := HW.out; exact ⟨_, World.drewN_drewN _ _ _⟩⟩
              case measure => simp [intOf]; omega
            · have e : p = n := by omega
              subst e
              have HIN8 : Hid (SLst wr (.slice (some y) p p) S) := HIN.out.later HL8.out
              clear HW
              go_wp2_with fail
              refine (HG.out _ _ HIN8.out).mono ?_
              rintro e x9 ⟨vc, ts, rfl, hgc, hb⟩
              have HC9 : Hid (Grp x9 wr.heap.size vc G ts) := hgc
              have HB9 : Hid (Grp x9 x3.heap.size vb G us) := HB8.out.later hb
              have HL9 : Hid (Below w.heap.size w x9) := below_then (below_then HL2.out HL8.out) hb
              clear hgc hb
              go_wp2_with fail
              refine (groupsEq_any _ _ _ _ _ (HC9.out.lst (by rw [HN.out]; omega)) (HB9.out.lst (by rw [HN.out]; omega))).mono ?_
              rintro e x10 ⟨rfl, hq⟩
              have HL10 : Hid (Below w.heap.size w x10) := by obtain ⟨q, rfl⟩ := hq; exact below_drawn HL9.out q
              clear hq
              simp only [beq_self_eq_true]
              go_wp2
              go_ret
              exact ⟨rfl, HL10.out⟩
end Go.Proofs.YthenkidhcfholaaDoor
