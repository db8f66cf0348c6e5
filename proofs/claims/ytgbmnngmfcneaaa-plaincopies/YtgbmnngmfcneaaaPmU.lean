/- Call: the document's. -/
import Derived.Test.YtgbmnngmfcneaaaPmT
import Derived.Test.YtgbmnngmfcneaaaPmH
namespace Go.Proofs.Ytgbmnngmfcneaaa.Pl
open Go.ChangeShapes Go.WideShapes Go.ChangeAt Go.RowKit
attribute [local go_sem ↓] Go.wp_at_zero Go.wp_at_succ

theorem kc_nth {C : Pc.Cf} {cs : List Co} (h : C.R.take cs.length = cs.map kcOf) {i : Nat} (hi : i < cs.length) : Pc.nthR C.R i = ((nthC cs i).kd, (nthC cs i).cap) := by
  have e : (C.R.take cs.length)[i]? = (cs.map kcOf)[i]? := by rw [h]
  rw [List.getElem?_take, if_pos hi, List.getElem?_map, at_nthC hi] at e
  unfold Pc.nthR
  rw [List.getD_eq_getElem?_getD, e]
  rfl
theorem ar1_pos {call : Int} {n : Nat} (h : arV 1 call = (n : Int)) : n ≠ 0 := by
  have h : ar1 call = (n : Int) := h
  unfold ar1 at h
  repeat' split at h
  all_goals omega
set_option maxRecDepth 100000 in
theorem rcall_any {w : World} {B X : Nat} {F Z : List Nat} {raw : List Int} {cs : List Co} {va : Value} {a : List Int} (h : DtAt w B X F Z raw cs) (r call : Int) (ha : Nl w va a) (hB : B ≤ w.heap.size) (hd : a.length ≠ 0 → ∀ x n cp, va = .slice (some x) n cp → x.block ∉ F) :
    Calls Try.prog 15 #[.pointer (some ⟨X, 0, none⟩), .int .i64 r, .int .i64 call, va] w fun e w' => e = .returned (.tuple #[.int .i64 (callS cs r call a).1.1, .int .i64 (callS cs r call a).1.2.1, .int .i64 (callS cs r call a).1.2.2]) ∧ ∃ F', DtAt w' B X F' Z raw (callS cs r call a).2 ∧ Next F F' w w' := by
  have hat := h
  obtain ⟨C, vr, rv, cv, V, P, hs, hlen⟩ := h
  obtain ⟨h6, _, h1⟩ := hs.cells
  have hc8 := hs.c8
  have hXl := heap_lt hs.hX
  unfold callS
  by_cases hr0 : 0 ≤ r
  · by_cases hr1 : r < (cs.length : Int)
    · rw [if_pos ⟨hr0, hr1⟩]
      obtain ⟨i, rfl⟩ : ∃ i : Nat, r = (i : Int) := ⟨r.toNat, by omega⟩
      rw [show ((i : Int)).toNat = i from rfl]
      have hi : i < cs.length := by omega
      obtain ⟨g, cap, L, rfl, hcol, hrow⟩ := hs.col hi
      have hkc := kc_nth hs.kc hi
      obtain ⟨ar, rcap, rfl, hrl, hrc, _, hrr⟩ := hs.rg
      obtain ⟨x, rfl, hxb, hcr⟩ := hrr.resolve_left (by omega)
      obtain ⟨q1, q2⟩ := hcr i (by omega)
      rw [hkc] at q1 q2
      have HF : Hid (∀ w1 w' v' p' c', Below w.heap.size w w1 → c'.kd = (nthC cs i).kd → c'.cap = (nthC cs i).cap → ShAt w' B g (i * 3) ((L.set (i * 3 + 1) v').set (i * 3 + 2) p') c' v' p' → Keep (g :: ((V i).ownBlock.toList ++ (P i).ownBlock.toList)) w1 w' → Fr w1 (V i) v' → Fr w1 (P i) p' → ∃ F', DtAt w' B X F' Z raw (cs.set i c') ∧ Next F F' w w') := fun w1 w' v' p' c' hb k1 k2 hc hk hf1 hf2 => by
        obtain ⟨h1, h2⟩ := (hs.keep (G := []) (Keep.of_below hb []) (by simp) (by simp)).did hi rfl (hcol.later hb).hg hc (hrow w' _ v' p' k1 hc.hg) hk hf1 hf2 k1 k2
        exact ⟨_, ⟨_, _, _, _, _, _, h1, by rw [List.length_set]; exact hlen⟩, (Next.of_below hb F).trans h2⟩
      have HA : Hid (∀ w' : World, Below w.heap.size w w' → Calls Try.prog 31 #[.int .i64 (nthC cs i).kd, .int .i64 call] w' fun e w'' => e = .returned (.int .i64 (arV (nthC cs i).kd call)) ∧ w'' = w') := fun w' _ => ar19_any w' _ _
      have HL : Hid (∀ w' : World, Below w.heap.size w w' → ShAt w' B g (i * 3) L (nthC cs i) (V i) (P i) ∧ Nl w' va a ∧ B ≤ w'.heap.size) := fun w' hb => ⟨hcol.later hb, ha.later hb (Nat.le_refl _), Nat.le_trans hB hb.size⟩
      have HDJ : Hid (a.length ≠ 0 → ∀ x n cp, va = .slice (some x) n cp → (V i).ownBlock ≠ some x.block) := fun h0 x n cp e hb => hd h0 x n cp e (hs.rows.iv i hi _ hb)
      have hok := hcol.ok
      have HS : Hid (DtAt w B X F Z raw cs) := hat
      obtain ⟨a2, c2, rfl⟩ := nl_slice ha
      have hal := (nl_cells ha).2.1
      have hd0 : decide ((i : Int) < 0) = false := by simp
      have hd1 : decide (((cs.length : Nat) : Int) ≤ (i : Int)) = false := by simp; omega
      have hiR : (i : Int) < (C.R.length : Int) := by omega
      have hiT : (i : Int) < (cs.length : Int) := by omega
      have HSS : Hid (cs.set i (nthC cs i) = cs) := list_set_self (at_nthC hi)
      clear hat hs hcol hrow ha hd hB hr1 hr0 hrr hcr hrl hrc hkc hlen
      generalize nthC cs i = c at *
      by_cases har : arV c.kd call = (a.length : Int)
      · have hkk : c.kd = 1 ∨ c.kd = 2 ∨ c.kd = 3 ∨ c.kd = 4 := by
          have := hok.k1
          have := hok.k4
          omega
        obtain ⟨kd, cp, vs, ps⟩ := c
        dsimp only at *
        rcases hkk with rfl | rfl | rfl | rfl
        · have HCL : Hid (∀ w' : World, Below w.heap.size w w' → Calls Try.prog 32 #[.pointer (some ⟨g, i * 3, none⟩), .int .i64 call, .slice a2 a.length c2] w' (Dod w' B g (i * 3) L (V i) (P i) (cntV ⟨1, cp, vs, ps⟩ call a))) := fun w' hb => by
            obtain ⟨hs, hn, hb'⟩ := HL.out w' hb
            exact counts_any call hs hn har rfl (HDJ.out (ar1_pos har))
          have HV : Hid (actV ⟨1, cp, vs, ps⟩ call a = (((cntV ⟨1, cp, vs, ps⟩ call a).1.1, (cntV ⟨1, cp, vs, ps⟩ call a).1.2, 0), (cntV ⟨1, cp, vs, ps⟩ call a).2)) := by unfold actV; rw [Hid, if_pos har]; rfl
          have HKC : Hid ((cntV ⟨1, cp, vs, ps⟩ call a).2.kd = 1 ∧ (cntV ⟨1, cp, vs, ps⟩ call a).2.cap = cp) := cntV_kc _ _ _
          rw [HV.out]
          generalize cntV ⟨1, cp, vs, ps⟩ call a = y at *
          rw [har] at HA
          clear har HL HDJ HSS HS HV hok
          go_enter Try.func15, Try.ntmps15
          go_wp2_with fail
          refine (HA.out _ (below_a1 _ _)).mono ?_
          rintro e w1 ⟨rfl, hw1⟩
          obtain rfl := hw1.symm
          have HB1 : Hid (Below w.heap.size w (w.alloc (.cells #[.int .i64 1, .int .i64 cp] 77))) := below_a1 _ _
          go_wp2_with fail
          refine (HCL.out _ HB1.out).mono ?_
          rintro e w2 ⟨rfl, v', p', hc, hk, hf1, hf2⟩
          have HE := HF.out _ w2 v' p' y.2 HB1.out HKC.out.1 HKC.out.2 hc hk hf1 hf2
          have HE2 : Hid (∃ F', DtAt w2 B X F' Z raw (cs.set i y.2) ∧ Next F F' w w2) := HE
          clear hc hk hf1 hf2 HE HF HCL HA
          go_wp2_with fail
          go_ret3
          exact ⟨rfl, HE2.out⟩
        · have HCL : Hid (∀ w' : World, Below w.heap.size w w' → Calls Try.prog 33 #[.pointer (some ⟨g, i * 3, none⟩), .int .i64 cp, .int .i64 call, .slice a2 a.length c2] w' (Dod w' B g (i * 3) L (V i) (P i) (queV ⟨2, cp, vs, ps⟩ call a))) := fun w' hb => by
            obtain ⟨hs, hn, hb'⟩ := HL.out w' hb
            exact queues_any call hs hn har rfl hb'
          have HV : Hid (actV ⟨2, cp, vs, ps⟩ call a = (((queV ⟨2, cp, vs, ps⟩ call a).1.1, (queV ⟨2, cp, vs, ps⟩ call a).1.2, 0), (queV ⟨2, cp, vs, ps⟩ call a).2)) := by unfold actV; rw [Hid, if_pos har]; rfl
          have HKC : Hid ((queV ⟨2, cp, vs, ps⟩ call a).2.kd = 2 ∧ (queV ⟨2, cp, vs, ps⟩ call a).2.cap = cp) := queV_kc _ _ _
          rw [HV.out]
          generalize queV ⟨2, cp, vs, ps⟩ call a = y at *
          rw [har] at HA
          clear har HL HDJ HSS HS HV hok
          go_enter Try.func15, Try.ntmps15
          go_wp2_with fail
          refine (HA.out _ (below_a1 _ _)).mono ?_
          rintro e w1 ⟨rfl, hw1⟩
          obtain rfl := hw1.symm
          have HB1 : Hid (Below w.heap.size w (w.alloc (.cells #[.int .i64 2, .int .i64 cp] 77))) := below_a1 _ _
          go_wp2_with fail
          refine (HCL.out _ HB1.out).mono ?_
          rintro e w2 ⟨rfl, v', p', hc, hk, hf1, hf2⟩
          have HE := HF.out _ w2 v' p' y.2 HB1.out HKC.out.1 HKC.out.2 hc hk hf1 hf2
          have HE2 : Hid (∃ F', DtAt w2 B X F' Z raw (cs.set i y.2) ∧ Next F F' w w2) := HE
          clear hc hk hf1 hf2 HE HF HCL HA
          go_wp2_with fail
          go_ret3
          exact ⟨rfl, HE2.out⟩
        · have HCL : Hid (∀ w' : World, Below w.heap.size w w' → Calls Try.prog 34 #[.pointer (some ⟨g, i * 3, none⟩), .int .i64 cp, .int .i64 call, .slice a2 a.length c2] w' (Dod w' B g (i * 3) L (V i) (P i) (dicV ⟨3, cp, vs, ps⟩ call a))) := fun w' hb => by
            obtain ⟨hs, hn, hb'⟩ := HL.out w' hb
            exact dicts_any call hs hn har rfl hb'
          have HV : Hid (actV ⟨3, cp, vs, ps⟩ call a = (((dicV ⟨3, cp, vs, ps⟩ call a).1.1, (dicV ⟨3, cp, vs, ps⟩ call a).1.2, 0), (dicV ⟨3, cp, vs, ps⟩ call a).2)) := by unfold actV; rw [Hid, if_pos har]; rfl
          have HKC : Hid ((dicV ⟨3, cp, vs, ps⟩ call a).2.kd = 3 ∧ (dicV ⟨3, cp, vs, ps⟩ call a).2.cap = cp) := dicV_kc _ _ _
          rw [HV.out]
          generalize dicV ⟨3, cp, vs, ps⟩ call a = y at *
          rw [har] at HA
          clear har HL HDJ HSS HS HV hok
          go_enter Try.func15, Try.ntmps15
          go_wp2_with fail
          refine (HA.out _ (below_a1 _ _)).mono ?_
          rintro e w1 ⟨rfl, hw1⟩
          obtain rfl := hw1.symm
          have HB1 : Hid (Below w.heap.size w (w.alloc (.cells #[.int .i64 3, .int .i64 cp] 77))) := below_a1 _ _
          go_wp2_with fail
          refine (HCL.out _ HB1.out).mono ?_
          rintro e w2 ⟨rfl, v', p', hc, hk, hf1, hf2⟩
          have HE := HF.out _ w2 v' p' y.2 HB1.out HKC.out.1 HKC.out.2 hc hk hf1 hf2
          have HE2 : Hid (∃ F', DtAt w2 B X F' Z raw (cs.set i y.2) ∧ Next F F' w w2) := HE
          clear hc hk hf1 hf2 HE HF HCL HA
          go_wp2_with fail
          go_ret3
          exact ⟨rfl, HE2.out⟩
        · have HCL : Hid (∀ w' : World, Below w.heap.size w w' → Calls Try.prog 35 #[.pointer (some ⟨g, i * 3, none⟩), .int .i64 cp, .int .i64 call, .slice a2 a.length c2] w' (Dod w' B g (i * 3) L (V i) (P i) (chaV ⟨4, cp, vs, ps⟩ call a))) := fun w' hb => by
            obtain ⟨hs, hn, hb'⟩ := HL.out w' hb
            exact chains_any call hs hn har rfl hb'
          have HV : Hid (actV ⟨4, cp, vs, ps⟩ call a = (((chaV ⟨4, cp, vs, ps⟩ call a).1.1, (chaV ⟨4, cp, vs, ps⟩ call a).1.2, 0), (chaV ⟨4, cp, vs, ps⟩ call a).2)) := by unfold actV; rw [Hid, if_pos har]; rfl
          have HKC : Hid ((chaV ⟨4, cp, vs, ps⟩ call a).2.kd = 4 ∧ (chaV ⟨4, cp, vs, ps⟩ call a).2.cap = cp) := chaV_kc _ _ _
          rw [HV.out]
          generalize chaV ⟨4, cp, vs, ps⟩ call a = y at *
          rw [har] at HA
          clear har HL HDJ HSS HS HV hok
          go_enter Try.func15, Try.ntmps15
          go_wp2_with fail
          refine (HA.out _ (below_a1 _ _)).mono ?_
          rintro e w1 ⟨rfl, hw1⟩
          obtain rfl := hw1.symm
          have HB1 : Hid (Below w.heap.size w (w.alloc (.cells #[.int .i64 4, .int .i64 cp] 77))) := below_a1 _ _
          go_wp2_with fail
          refine (HCL.out _ HB1.out).mono ?_
          rintro e w2 ⟨rfl, v', p', hc, hk, hf1, hf2⟩
          have HE := HF.out _ w2 v' p' y.2 HB1.out HKC.out.1 HKC.out.2 hc hk hf1 hf2
          have HE2 : Hid (∃ F', DtAt w2 B X F' Z raw (cs.set i y.2) ∧ Next F F' w w2) := HE
          clear hc hk hf1 hf2 HE HF HCL HA
          go_wp2_with fail
          go_ret3
          exact ⟨rfl, HE2.out⟩
      · have HV : Hid (actV c call a = ((0, 0, 1), c)) := by unfold actV; rw [Hid, if_neg har]
        have hne : (arV c.kd call == (a.length : Int)) = false := beq_eq_false_iff_ne.2 har
        rw [HV.out, HSS.out]
        clear har hok HF HL HDJ
        go_enter Try.func15, Try.ntmps15
        go_wp2_with fail
        refine (HA.out _ (below_a1 _ _)).mono ?_
        rintro e w1 ⟨rfl, hw1⟩
        obtain rfl := hw1.symm
        go_wp2_with fail
        go_ret3
        exact ⟨rfl, F, HS.out.later (below_a1 _ _), Next.of_below (below_a1 _ _) F⟩
    · rw [if_neg (fun h => hr1 h.2)]
      obtain ⟨a1, k1, rfl⟩ := own_slice hs.cr
      have HS : Hid (DtAt w B X F Z raw cs) := hat
      have hd0 : decide (r < 0) = false := by simp; omega
      have hd1 : decide (((cs.length : Nat) : Int) ≤ r) = true := by simp; omega
      clear hat hs ha hd hB hr1 hr0 h6 hlen
      go_enter Try.func15, Try.ntmps15
      go_wp2_with fail
      go_ret3
      exact ⟨rfl, F, HS.out, Next.refl _ _⟩
  · rw [if_neg (fun h => hr0 h.1)]
    have HS : Hid (DtAt w B X F Z raw cs) := hat
    have hd0 : decide (r < 0) = true := by simp; omega
    clear hat hs ha hd hB hr0 h6 h1 hlen
    go_enter Try.func15, Try.ntmps15
    go_wp2_with fail
    go_ret3
    exact ⟨rfl, F, HS.out, Next.refl _ _⟩
end Go.Proofs.Ytgbmnngmfcneaaa.Pl
