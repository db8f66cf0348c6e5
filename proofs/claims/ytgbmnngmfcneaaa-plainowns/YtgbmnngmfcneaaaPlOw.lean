/- PlainOwns walked. -/
import Derived.Test.YtgbmnngmfcneaaaPlNw
import Derived.Test.YtgbmnngmfcneaaaPlNm
namespace Go.Proofs.Ytgbmnngmfcneaaa.Pl
open Go.ChangeShapes Go.WideShapes Go.ChangeAt Go.RowKit
attribute [local go_sem ↓] Go.wp_at_zero Go.wp_at_succ

def owC (cs : List Co) (s : Stp) : List Co := (callS cs s.r s.c s.a).2
set_option maxRecDepth 100000 in
set_option maxHeartbeats 4000000 in
theorem owns_walk {w : World} {vc vl : Value} {c : Pc.Cf} {S : List Stp} (h : Pc.CfV w vc c) (hl : Sl w vl S) : Calls Try.prog 5 #[vc, vl] w fun e w' => e = .returned (.bool true) ∧ Below w.heap.size w w' := by
  obtain ⟨q, hq⟩ : ∃ q, Pc.okC c = q := ⟨_, rfl⟩
  obtain ⟨la, lc, hle, hlen0, _⟩ := id hl
  cases q with
  | false =>
    have HB : Hid (∀ w' : World, Below w.heap.size w w' → Calls Try.prog 8 #[vc] w' fun e w'' => e = .returned (.tuple #[.pointer none, .pointer none, .bool true]) ∧ Below w'.heap.size w' w'') := fun w' hb => both_no (h.later hb (Nat.le_refl _)) hq
    obtain ⟨vr, rfl, hR⟩ := h
    obtain ⟨ar, cap, rfl, -⟩ := hR
    obtain ⟨rw0, b, d, s, mu, t, R⟩ := c
    unfold Pc.cfA at *
    dsimp only at *
    clear hq hl hlen0
    subst hle
    go_enter Try.func5, Try.ntmps5
    go_wp2_with fail
    refine (HB.out _ (below_a1 _ _)).mono ?_
    rintro e w1 ⟨rfl, hb⟩
    have HF : Hid (Below w.heap.size w w1) := below_then (below_a1 _ _) hb
    clear hb HB
    go_wp2_with fail
    go_ret
    exact ⟨rfl, HF.out⟩
  | true =>
    have HB : Hid (∀ w' : World, Below w.heap.size w w' → Calls Try.prog 8 #[vc] w' fun e w'' => ∃ X F Y G Z, e = .returned (.tuple #[.pointer (some ⟨X, 0, none⟩), .pointer (some ⟨Y, 0, none⟩), .bool true]) ∧ Du w'' w'.heap.size X F Y G Z (newRaw c) (newCs c) ∧ Below w'.heap.size w' w'') := fun w' hb => both_yes (h.later hb (Nat.le_refl _)) hq
    have HL : Hid (Sl w vl S) := hl
    have HLN : Hid (S.length ≤ 17592186044416) := hlen0
    generalize newRaw c = raw at *
    generalize newCs c = cs at *
    obtain ⟨vr, rfl, hR⟩ := h
    obtain ⟨ar, cap, rfl, -⟩ := hR
    obtain ⟨rw0, b, d, s, mu, t, R⟩ := c
    unfold Pc.cfA at *
    dsimp only at *
    clear hq hl hlen0
    subst hle
    go_enter Try.func5, Try.ntmps5
    go_wp2_with fail
    refine (HB.out _ (below_a1 _ _)).mono ?_
    rintro e w1 ⟨X, F, Y, G, Z, rfl, hdu, hb⟩
    have HB1 : Hid (Below w.heap.size w w1) := below_then (below_a1 _ _) hb
    obtain ⟨B, hB⟩ : ∃ B, B = (w.alloc (.cells #[.int .i64 rw0, .int .i64 b, .int .i64 d, .int .i64 s, .bool mu, .int .i64 t, .slice ar R.length cap] 24)).heap.size := ⟨_, rfl⟩
    rw [← hB] at hdu
    have HWB : Hid (w.heap.size ≤ B) := by rw [Hid, hB]; simp
    have HD0 : Hid (Du w1 B X F Y G Z raw cs) := hdu
    clear hb HB hdu hB
    go_wp2_with fail
    have HCL : Hid (∀ j, j < S.length → ∃ x u, la = some x ∧ ((S.getD j st0).a.length ≠ 0 → ∀ y m cp, u = .slice (some y) m cp → y.block < w.heap.size) ∧ (∃ ua uc, u = .slice ua (S.getD j st0).a.length uc) ∧ ∀ w', Below B w1 w' → w'.cell? ⟨(x.add (j * 6)).block, (x.add (j * 6)).off + 3, none⟩ = some (.int .i64 (S.getD j st0).r) ∧ w'.cell? ⟨(x.add (j * 6)).block, (x.add (j * 6)).off + 4, none⟩ = some (.int .i64 (S.getD j st0).c) ∧ w'.cell? ⟨(x.add (j * 6)).block, (x.add (j * 6)).off + 5, none⟩ = some u ∧ Nl w' u (S.getD j st0).a) := fun j hj => by
      obtain ⟨a2, cap2, hv2, _, hl2⟩ := HL.out
      injection hv2 with f1 f2 f3
      subst f1
      obtain ⟨x, rfl, hxb, hc⟩ := hl2.resolve_left (by omega)
      obtain ⟨u, q0, q1, q2, q3, q4, q5, hn, _⟩ := hc j hj
      refine ⟨x, u, rfl, fun hne y m cp e => ?_, nl_slice hn, fun w' hb => ?_⟩
      · obtain ⟨a3, cap3, hv3, _, _, _, _, hh⟩ := hn
        rw [e] at hv3
        injection hv3 with g1 g2 g3
        obtain ⟨y', hy', hlt, _⟩ := hh.resolve_left hne
        rw [← g1] at hy'
        injection hy' with hy'
        rw [hy']
        exact hlt
      · have hbw : Below w.heap.size w w' := HB1.out.trans (hb.mono HWB.out)
        exact ⟨cell_later hbw (a := ⟨(x.add (j * 6)).block, (x.add (j * 6)).off + 3, none⟩) (by rw [add_block]; exact hxb) q3, cell_later hbw (a := ⟨(x.add (j * 6)).block, (x.add (j * 6)).off + 4, none⟩) (by rw [add_block]; exact hxb) q4, cell_later hbw (a := ⟨(x.add (j * 6)).block, (x.add (j * 6)).off + 5, none⟩) (by rw [add_block]; exact hxb) q5, hn.later hbw (Nat.le_refl _)⟩
    clear HL
    go_loopw [8] (fun iv wr => ∃ (j : Nat) (F G : List Nat), j ≤ S.length ∧ iv = .int .i64 (j : Int) ∧ Hid (Du wr B X F Y G Z raw ((S.take j).foldl owC cs)) ∧ Below B w1 wr) (fun iv _ => S.length - (intOf iv).toNat)
    case atStart => exact ⟨0, F, G, Nat.zero_le _, rfl, by simpa [Hid] using HD0.out, Below.refl _ _⟩
    case round =>
      obtain ⟨j, F, G, hj, rfl, HD, hbel⟩ := hrel
      have HBR : Hid (Below B w1 wr) := hbel
      clear hbel
      by_cases hlt : j < S.length
      · have d1 : decide ((j : Int) < (S.length : Int)) = true := by simpa using hlt
        have HIW : Hid (wrap64 ((j : Int) + 1) = ((j + 1 : Nat) : Int)) := pw_wrap hlt HLN.out
        obtain ⟨x, u, rfl, hub, ⟨ua, uc, rfl⟩, hcells⟩ := HCL.out j hlt
        have HUB : Hid ((S.getD j st0).a.length ≠ 0 → ∀ y m cp, Value.slice ua (S.getD j st0).a.length uc = .slice (some y) m cp → y.block < w.heap.size) := hub
        have HCE : Hid (∀ w', Below B w1 w' → w'.cell? ⟨(x.add (j * 6)).block, (x.add (j * 6)).off + 3, none⟩ = some (.int .i64 (S.getD j st0).r) ∧ w'.cell? ⟨(x.add (j * 6)).block, (x.add (j * 6)).off + 4, none⟩ = some (.int .i64 (S.getD j st0).c) ∧ w'.cell? ⟨(x.add (j * 6)).block, (x.add (j * 6)).off + 5, none⟩ = some (.slice ua (S.getD j st0).a.length uc) ∧ Nl w' (.slice ua (S.getD j st0).a.length uc) (S.getD j st0).a) := hcells
        have HFO : Hid ((S.take (j + 1)).foldl owC cs = owC ((S.take j).foldl owC cs) (S.getD j st0)) := fold_snoc owC st0 S cs hlt
        generalize (S.take j).foldl owC cs = cs' at *
        generalize S.getD j st0 = sj at *
        obtain ⟨q3, q4, q5, hn⟩ := HCE.out wr HBR.out
        have H1 : Hid (Calls Try.prog 13 #[.slice ua sj.a.length uc] wr fun e w' => ∃ v', e = .returned v' ∧ w'.ownsRow wr.heap.size 2 1 v' sj.a.length (numC sj.a) ∧ Below wr.heap.size wr w') := rnums_any hn
        have HSX : Hid ((∀ y ∈ sj.a, Sx y) ∧ sj.a.length ≤ 17592186044416) := ⟨hn.w64, (nl_cells hn).2.1⟩
        clear hub hcells hn HCL
        go_wp2_with fail
        refine H1.out.mono ?_
        rintro e w2 ⟨va, rfl, ho2, hb2⟩
        have HO2 : Hid (w2.ownsRow wr.heap.size 2 1 va sj.a.length (numC sj.a)) := ho2
        obtain ⟨va1, vc1, rfl⟩ := own_slice ho2
        have HB2 : Hid (Below wr.heap.size wr w2) := hb2
        have HBB2 : Hid (Below B w1 w2) := HBR.out.trans (hb2.mono HD.out.wB)
        obtain ⟨p3, p4, p5, hn2⟩ := HCE.out w2 HBB2.out
        have hlt0 := HD.out.lt
        have H2 : Hid (Calls Try.prog 14 #[.pointer (some ⟨X, 0, none⟩), .int .i64 sj.r, .int .i64 sj.c, .slice va1 sj.a.length vc1] (w2.drewN 1) fun e w'' => e = .returned (.tuple #[.int .i64 (callS cs' sj.r sj.c sj.a).1.1, .int .i64 (callS cs' sj.r sj.c sj.a).1.2.1, .int .i64 (callS cs' sj.r sj.c sj.a).1.2.2]) ∧ ∃ F', StAt w'' B X F' raw (callS cs' sj.r sj.c sj.a).2 ∧ Next F F' (w2.drewN 1) w'') := by
          have hbd := below_drawn (Below.refl w2.heap.size w2) 1
          refine call_any ((HD.out.s.later hb2).later hbd) sj.r sj.c ((Nl.of_own ho2 HSX.out.2 HSX.out.1).later hbd (Nat.le_refl _)) (Nat.le_trans HD.out.wB (Nat.le_trans hb2.size hbd.size)) (fun _ y m cp e hm => ?_)
          injection e with e1 _ _
          subst e1
          have := (own_block ho2 y.block rfl).1
          have := hlt0.1 _ hm
          omega
        clear ho2 hb2 H1 q3 q4 q5 hn2 hlt0 p5
        go_wp2_with fail
        generalize hcs2 : callS cs' sj.r sj.c sj.a = x2 at *
        have HC2 : Hid (owC cs' sj = x2.2) := by unfold owC; rw [Hid, hcs2]
        have HX2 : Hid (callS cs' sj.r sj.c sj.a = x2) := hcs2
        clear hcs2
        go_cut [] (fun wx => ∃ F', StAt wx B X F' raw x2.2 ∧ Next F F' w2 wx)
        case first =>
          go_region_with ((go_at_call 14; refine H2.out.mono ?_; rintro e w3 ⟨rfl, F', hst, hx⟩))
          all_goals
            have HG : Hid (∃ F', StAt w3 B X F' raw x2.2 ∧ Next F F' w2 w3) := ⟨F', hst, (Next.of_below (below_drawn (Below.refl w2.heap.size w2) 1) F).trans hx⟩
            clear hst hx
            go_wp2_with fail
            go_meet
            exact HG.out
        case rest =>
        obtain ⟨F', hst, hx⟩ := hcut
        obtain ⟨w3, hw3⟩ : ∃ w3, w3 = wc := ⟨_, rfl⟩
        subst hw3
        have HDL : Hid (Du w2 B X F Y G Z raw cs') := HD.out.later HB2.out
        have HGO := HDL.out.goS hx
        have HB23 : Hid (Below B w2 w3) := HDL.out.bel hx
        have HBB3 : Hid (Below B w1 w3) := HBB2.out.trans HB23.out
        obtain ⟨r3, r4, r5, hn3⟩ := HCE.out w3 HBB3.out
        have H3 : Hid (Calls Try.prog 15 #[.pointer (some ⟨Y, 0, none⟩), .int .i64 sj.r, .int .i64 sj.c, .slice ua sj.a.length uc] (w3.drewN 1) fun e w'' => e = .returned (.tuple #[.int .i64 x2.1.1, .int .i64 x2.1.2.1, .int .i64 x2.1.2.2]) ∧ ∃ G', DtAt w'' B Y G' Z raw x2.2 ∧ Next G G' (w3.drewN 1) w'') := by
          have hbd := below_drawn (Below.refl w3.heap.size w3) 1
          have := rcall_any (HGO.1.later hbd) sj.r sj.c (hn3.later hbd (Nat.le_refl _)) (Nat.le_trans HGO.2.2.2 hbd.size) (fun hne y m cp e hm => by
            have := HUB.out hne y m cp e
            have := HWB.out
            have := (HD.out.d.lo.1 _ hm).1
            omega)
          rw [HX2.out] at this
          exact this
        have HDU3 : Hid (∀ w4 G', DtAt w4 B Y G' Z raw x2.2 → Next G G' w3 w4 → Du w4 B X F' Y G' Z raw x2.2 ∧ Below B w3 w4) := fun w4 G' hd hm =>
          ⟨HDL.out.go hst hx hd hm, hm.below HGO.2.2.2 (fun b hb => (HD.out.d.lo.1 b hb).1)⟩
        have HNF : Hid (∀ b, (Value.slice va1 sj.a.length vc1).ownBlock = some b → b ∉ F' ∧ b < w3.heap.size ∧ b ∉ G ∧ b ∉ Z ∧ B ≤ b) := fun b hb => by
          obtain ⟨o1, o2⟩ := own_block HO2.out b hb
          have hlt0 := HD.out.lt
          refine ⟨fun hm => ?_, Nat.lt_of_lt_of_le o2 hx.1.size, fun hm => by have := hlt0.2.1 b hm; omega, fun hm => by have := hlt0.2.2 b hm; omega, Nat.le_trans HD.out.wB o1⟩
          rcases hx.2 b hm with h1 | h1
          · have := hlt0.1 b h1; omega
          · omega
        have HO3 : Hid (w3.ownsRow wr.heap.size 2 1 (.slice va1 sj.a.length vc1) sj.a.length (numC sj.a)) := own_keep HO2.out hx.1 (fun b hb hm => by have := (own_block HO2.out b hb).1; have := HD.out.lt.1 b hm; omega)
        clear hst hx H2 HO2 p3 p4 HGO hn3
        go_wp2_with fail
        go_cut [] (fun wx => ∃ G', Du wx B X F' Y G' Z raw x2.2 ∧ Next G G' w3 wx ∧ Below B w3 wx)
        case first =>
          go_region_with ((go_at_call 15; refine H3.out.mono ?_; rintro e w4 ⟨rfl, G', hd, hm⟩))
          all_goals
            have HG : Hid (∃ G', Du w4 B X F' Y G' Z raw x2.2 ∧ Next G G' w3 w4 ∧ Below B w3 w4) := by
              have hm' : Next G G' w3 w4 := (Next.of_below (below_drawn (Below.refl w3.heap.size w3) 1) G).trans hm
              obtain ⟨g1, g2⟩ := HDU3.out w4 G' hd hm'
              exact ⟨G', g1, hm', g2⟩
            clear hd hm
            go_wp2_with fail
            go_meet
            exact HG.out
        case rest =>
        obtain ⟨G', hdu, hm, hb34⟩ := hcut
        obtain ⟨w4, hw4⟩ : ∃ w4, w4 = wc := ⟨_, rfl⟩
        subst hw4
        have HDU : Hid (Du w4 B X F' Y G' Z raw x2.2) := hdu
        have HBB4 : Hid (Below B w1 w4) := HBB3.out.trans hb34
        obtain ⟨s3, s4, s5, hn4⟩ := HCE.out w4 HBB4.out
        have HO4 : Hid (w4.ownsRow wr.heap.size 2 1 (.slice va1 sj.a.length vc1) sj.a.length (numC sj.a)) := own_keep HO3.out hm.1 (fun b hb hmm => (HNF.out b hb).2.2.1 hmm)
        have HNF4 : Hid (∀ b, (Value.slice va1 sj.a.length vc1).ownBlock = some b → b ∉ F' ∧ b ∉ G' ∧ b ∉ Z ∧ B ≤ b) := fun b hb => by
          obtain ⟨n1, n2, n3, n4, n5⟩ := HNF.out b hb
          refine ⟨n1, fun hmm => ?_, n4, n5⟩
          rcases hm.2 b hmm with h1 | h1
          · exact n3 h1
          · omega
        have H4 : Hid (Calls Try.prog 16 #[.slice va1 sj.a.length vc1, .slice ua sj.a.length uc] w4 fun e w' => e = .returned (.bool true) ∧ Below w4.heap.size w4 w') := by
          have := same_any (Nl.of_own HO4.out HSX.out.2 HSX.out.1) hn4
          exact this.mono (fun e w' ⟨h1, h2⟩ => ⟨by simpa using h1, h2⟩)
        clear hdu hm hb34 H3 HO3 r3 r4 r5 hn4 HDU3 HNF
        go_wp2_with fail
        refine (H4.out).mono ?_
        rintro e w5 ⟨rfl, hb5⟩
        have HDU5 : Hid (Du w5 B X F' Y G' Z raw x2.2) := HDU.out.later hb5
        have HBB5 : Hid (Below B w1 w5) := HBB4.out.trans (hb5.mono HDU.out.wB)
        obtain ⟨Q, hQ⟩ : ∃ Q, Q = wr.heap.size := ⟨_, rfl⟩
        have HO5 : Hid (w5.ownsRow Q 2 1 (.slice va1 sj.a.length vc1) sj.a.length (numC sj.a)) := by rw [hQ]; exact own_keep HO4.out (Keep.of_below hb5 []) (by simp)
        clear hQ
        clear hb5 H4 HO4 HDU s3 s4 s5 HB23 HBB3 HBB2 HBB4
        go_wp2_with fail
        go_loopw [11] (fun kv wk => ∃ (k : Nat), k ≤ sj.a.length ∧ kv = .int .i64 (k : Int) ∧ Hid (∃ xs, wk.ownsRow Q 2 1 (.slice va1 sj.a.length vc1) sj.a.length xs) ∧ Hid (Du wk B X F' Y G' Z raw x2.2) ∧ Below B w1 wk) (fun kv _ => sj.a.length - (intOf kv).toNat)
        case atStart => exact ⟨0, Nat.zero_le _, rfl, ⟨_, HO5.out⟩, HDU5.out, HBB5.out⟩
        case round =>
          obtain ⟨k, hk, rfl, HOK, HDK, hbk⟩ := hrel
          have HBK : Hid (Below B w1 wr) := hbk
          clear hbk
          by_cases hkl : k < sj.a.length
          · have d2 : decide ((k : Int) < (sj.a.length : Int)) = true := by simpa using hkl
            have HKW : Hid (wrap64 ((k : Int) + 1) = ((k + 1 : Nat) : Int)) := pw_wrap hkl HSX.out.2
            obtain ⟨xs, ho⟩ := HOK.out
            cases va1 with
            | none =>
              exfalso
              rcases ho.2 with ⟨_, h1⟩ | ⟨_, _, _, e, _⟩
              · omega
              · cases e
            | some ya =>
            obtain ⟨ga, rfl⟩ := own_at0 ho
            obtain ⟨⟨z, hz⟩, hf⟩ := own_some ho k (by omega)
            obtain ⟨n1, n2, n3, n4⟩ := HNF4.out ga rfl
            have HFN : Hid ((∃ xs, (wr.setCell ⟨ga, k, none⟩ (.int .i64 3)).ownsRow Q 2 1 (.slice (some ⟨ga, 0, none⟩) sj.a.length vc1) sj.a.length xs) ∧ Du (wr.setCell ⟨ga, k, none⟩ (.int .i64 3)) B X F' Y G' Z raw x2.2 ∧ Below B w1 (wr.setCell ⟨ga, k, none⟩ (.int .i64 3))) := by
              have hkp : Keep [ga] wr (wr.setCell ⟨ga, k, none⟩ (.int .i64 3)) := Keep.setCell (Keep.refl _ _) _ _ (Or.inl (by simp))
              exact ⟨⟨_, own_set2 ho _ _⟩, HDK.out.keep hkp (fun b hb hm => n1 (by simp at hm; rw [← hm]; exact hb)) (fun b hb hm => n2 (by simp at hm; rw [← hm]; exact hb)) (fun b hb hm => n3 (by simp at hm; rw [← hm]; exact hb)), HBK.out.trans (hkp.below HDK.out.wB (fun b hb => by simp at hb; rw [hb]; exact n4))⟩
            clear ho HOK HDK n1 n2 n3 n4
            go_wp2_with fail
            go_roundw
            case rel => exact ⟨k + 1, hkl, by first | rw [HKW.out] | go_num, HFN.out.1, HFN.out.2.1, HFN.out.2.2⟩
            case measure =>
              try rw [HKW.out]
              exact sh_less hkl
          · obtain rfl : k = sj.a.length := Nat.le_antisymm hk (Nat.not_lt.1 hkl)
            have d2 : decide ((sj.a.length : Int) < (sj.a.length : Int)) = false := by simp
            have HFN : Hid (Du wr B X F' Y G' Z raw ((S.take (j + 1)).foldl owC cs)) := by rw [HFO.out, HC2.out]; exact HDK.out
            clear HOK HDK
            go_wp2_with fail
            go_roundw
            case rel => exact ⟨j + 1, F', G', hlt, by first | rw [HIW.out] | go_num, HFN.out, HBK.out⟩
            case measure =>
              try rw [HIW.out]
              exact sh_less hlt
      · obtain rfl : j = S.length := Nat.le_antisymm hj (Nat.not_lt.1 hlt)
        have d1 : decide ((S.length : Int) < (S.length : Int)) = false := by simp
        rw [List.take_length] at HD
        generalize S.foldl owC cs = ce at *
        obtain ⟨wq, rfl⟩ : ∃ wq, wq = wr := ⟨_, rfl⟩
        have HQ : Hid (∀ w', Below wq.heap.size wq w' → Below w.heap.size w w') := fun w' hb => (HB1.out.trans (HBR.out.mono HWB.out)).trans (hb.mono (Nat.le_trans HWB.out HD.out.wB))
        have HRW : Hid (Calls Try.prog 17 #[.pointer (some ⟨X, 0, none⟩)] wq fun e w' => ∃ u, e = .returned u ∧ w'.ownsRow wq.heap.size 2 1 u raw.length (numC raw) ∧ Below wq.heap.size wq w') := raw_any HD.out.s
        have HSP : Hid (∀ w', Below wq.heap.size wq w' → Calls Try.prog 18 #[.pointer (some ⟨X, 0, none⟩)] w' fun e w'' => ∃ v V P G, e = .returned v ∧ ShO w'' w'.heap.size G v ce V P ∧ Below w'.heap.size w' w'') := fun w' hb => shapes_any (HD.out.s.later hb)
        have HAL : Hid (∀ w', Below wq.heap.size wq w' → Calls Try.prog 12 #[.pointer (some ⟨X, 0, none⟩), .pointer (some ⟨Y, 0, none⟩)] w' fun e w'' => e = .returned (.bool true) ∧ Below w'.heap.size w' w'') := fun w' hb => alike_any (HD.out.later hb)
        have HR64 : Hid (raw.length ≤ 64) := by
          obtain ⟨_, _, _, _, hs⟩ := HD.out.s
          exact hs.r64
        have HC8 : Hid (ce.length ≤ 8 ∧ ∀ i, i < ce.length → CoOk (nthC ce i)) := by
          obtain ⟨_, _, _, _, hs⟩ := HD.out.s
          exact ⟨hs.c8, hs.rows.ok⟩
        clear HD HCL HBR HD0
        go_wp2_with fail
        refine HRW.out.mono ?_
        rintro e w6 ⟨u, rfl, ho6, hb6⟩
        have HO6 : Hid (w6.ownsRow wq.heap.size 2 1 u raw.length (numC raw)) := ho6
        obtain ⟨ra, rc, rfl⟩ := own_slice ho6
        have HB6 : Hid (Below wq.heap.size wq w6) := hb6
        clear ho6 hb6 HRW
        go_wp2_with fail
        go_loopw [13] (fun kv wk => ∃ (k : Nat), k ≤ raw.length ∧ kv = .int .i64 (k : Int) ∧ Hid (∃ xs, wk.ownsRow wq.heap.size 2 1 (.slice ra raw.length rc) raw.length xs) ∧ Below wq.heap.size wq wk) (fun kv _ => raw.length - (intOf kv).toNat)
        case atStart => exact ⟨0, Nat.zero_le _, rfl, ⟨_, HO6.out⟩, HB6.out⟩
        case round =>
          obtain ⟨k, hk, rfl, HOK, hbk⟩ := hrel
          have HBK : Hid (Below wq.heap.size wq wr) := hbk
          clear hbk
          by_cases hkl : k < raw.length
          · have d2 : decide ((k : Int) < (raw.length : Int)) = true := by simpa using hkl
            have HKW : Hid (wrap64 ((k : Int) + 1) = ((k + 1 : Nat) : Int)) := pw_wrap hkl (by have := HR64.out; omega)
            obtain ⟨xs, ho⟩ := HOK.out
            cases ra with
            | none =>
              exfalso
              rcases ho.2 with ⟨_, h1⟩ | ⟨_, _, _, e, _⟩
              · omega
              · cases e
            | some ya =>
            obtain ⟨ga, rfl⟩ := own_at0 ho
            obtain ⟨⟨z, hz⟩, hf⟩ := own_some ho k (by omega)
            have HFN : Hid ((∃ xs, (wr.setCell ⟨ga, k, none⟩ (.int .i64 5)).ownsRow wq.heap.size 2 1 (.slice (some ⟨ga, 0, none⟩) raw.length rc) raw.length xs) ∧ Below wq.heap.size wq (wr.setCell ⟨ga, k, none⟩ (.int .i64 5))) := by
              have hkp : Keep [ga] wr (wr.setCell ⟨ga, k, none⟩ (.int .i64 5)) := Keep.setCell (Keep.refl _ _) _ _ (Or.inl (by simp))
              exact ⟨⟨_, own_set2 ho _ _⟩, HBK.out.trans (hkp.below HBK.out.size (fun b hb => by simp at hb; rw [hb]; exact (own_block ho ga rfl).1))⟩
            clear ho HOK
            go_wp2_with fail
            go_roundw
            case rel => exact ⟨k + 1, hkl, by first | rw [HKW.out] | go_num, HFN.out.1, HFN.out.2⟩
            case measure =>
              try rw [HKW.out]
              exact sh_less hkl
          · obtain rfl : k = raw.length := Nat.le_antisymm hk (Nat.not_lt.1 hkl)
            have d2 : decide ((raw.length : Int) < (raw.length : Int)) = false := by simp
            clear HOK
            obtain ⟨wt, rfl⟩ : ∃ wt, wt = wr := ⟨_, rfl⟩
            have H7 := HSP.out wt HBK.out
            have H7' : Hid (Calls Try.prog 18 #[.pointer (some ⟨X, 0, none⟩)] wt fun e w'' => ∃ v V P G, e = .returned v ∧ ShO w'' wt.heap.size G v ce V P ∧ Below wt.heap.size wt w'') := H7
            clear H7 HSP HO6 HB6
            go_wp2_with fail
            refine H7'.out.mono ?_
            rintro e w8 ⟨vs, V, P, G2, rfl, hso, hb8⟩
            have HSO : Hid (SoS w8 wt.heap.size vs ce.length V P (fun i => (nthC ce i).vs.length) (fun i => (nthC ce i).ps.length)) := SoS.of hso
            have HB8 : Hid (Below wq.heap.size wq w8) := below_then HBK.out hb8
            have HQT : Hid (wq.heap.size ≤ wt.heap.size) := HBK.out.size
            obtain ⟨sa, sc, rfl⟩ := own_slice hso.row
            clear hso hb8 H7'
            go_wp2_with fail
            go_loopw [15] (fun kv wk => ∃ (k : Nat), k ≤ ce.length ∧ kv = .int .i64 (k : Int) ∧ Hid (SoS wk wt.heap.size (.slice sa ce.length sc) ce.length V P (fun i => (nthC ce i).vs.length) (fun i => (nthC ce i).ps.length)) ∧ Below wq.heap.size wq wk) (fun kv _ => ce.length - (intOf kv).toNat)
            case atStart => exact ⟨0, Nat.zero_le _, rfl, HSO.out, HB8.out⟩
            case round =>
              obtain ⟨i, hi, rfl, HSI, hbi⟩ := hrel
              have HBI : Hid (Below wq.heap.size wq wr) := hbi
              clear hbi
              by_cases hil : i < ce.length
              · have d3 : decide ((i : Int) < (ce.length : Int)) = true := by simpa using hil
                have HIW : Hid (wrap64 ((i : Int) + 1) = ((i + 1 : Nat) : Int)) := sh_wrap hil (Nat.le_trans HC8.out.1 (by decide))
                cases sa with
                | none =>
                  exfalso
                  obtain ⟨kd, hr⟩ := HSI.out.row
                  rcases hr.2 with ⟨_, h1⟩ | ⟨_, _, _, e, _⟩
                  · omega
                  · cases e
                | some ys =>
                obtain ⟨gs, rfl⟩ : ∃ gs, ys = ⟨gs, 0, none⟩ := by
                  obtain ⟨kd, hr⟩ := HSI.out.row
                  exact own_at0 hr
                have HGS : Hid (wt.heap.size ≤ gs) := by
                  obtain ⟨kd, hr⟩ := HSI.out.row
                  exact (own_block hr gs rfl).1
                obtain ⟨xa, xc, hVi⟩ : ∃ xa xc, V i = .slice xa (nthC ce i).vs.length xc := by
                  obtain ⟨xs, hx⟩ := HSI.out.vs i hil
                  exact own_slice hx
                obtain ⟨pa, pc, hPi⟩ : ∃ pa pc, P i = .slice pa (nthC ce i).ps.length pc := by
                  obtain ⟨xs, hx⟩ := HSI.out.ps i hil
                  exact own_slice hx
                have HVI : Hid (V i = .slice xa (nthC ce i).vs.length xc) := hVi
                have HPI : Hid (P i = .slice pa (nthC ce i).ps.length pc) := hPi
                have HLV : Hid ((nthC ce i).vs.length ≤ 16 ∧ (nthC ce i).ps.length ≤ 16) := by
                  have h1 := HC8.out.2 i hil
                  have h2 := h1.vm
                  have h3 := h1.pm
                  have h4 := h1.c16
                  exact ⟨by omega, by omega⟩
                have HWV : Hid (∀ w', SoS w' wt.heap.size (.slice (some ⟨gs, 0, none⟩) ce.length sc) ce.length V P (fun i => (nthC ce i).vs.length) (fun i => (nthC ce i).ps.length) → Below wq.heap.size wq w' → ∀ k, k < (nthC ce i).vs.length → ∃ gx, xa = some ⟨gx, 0, none⟩ ∧ (∃ z, w'.cell? ⟨gx, k, none⟩ = some z) ∧ w'.frozen? ⟨gx, k, none⟩ = false ∧ SoS (w'.setCell ⟨gx, k, none⟩ (.int .i64 6)) wt.heap.size (.slice (some ⟨gs, 0, none⟩) ce.length sc) ce.length V P (fun i => (nthC ce i).vs.length) (fun i => (nthC ce i).ps.length) ∧ Below wq.heap.size wq (w'.setCell ⟨gx, k, none⟩ (.int .i64 6))) := fun w' hs hb k hk => by
                  obtain ⟨xs, hx⟩ := hs.vs i hil
                  rw [HVI.out] at hx
                  cases xa with
                  | none =>
                    exfalso
                    rcases hx.2 with ⟨_, h1⟩ | ⟨_, _, _, e, _⟩
                    · have : (nthC ce i).vs.length = 0 := h1
                      omega
                    · cases e
                  | some yx =>
                    obtain ⟨gx, rfl⟩ := own_at0 hx
                    have hs1 := own_some hx k (by simpa using hk)
                    obtain ⟨kd, hr⟩ := hs.row
                    have hne : (Value.slice (some ⟨gs, 0, none⟩) ce.length sc).ownBlock ≠ some gx := fun e => by
                      simp [Value.ownBlock] at e
                      subst e
                      exact rows_apart hr hx (Ne.symm shape_ne.1) gs rfl rfl
                    have hkp : Keep [gx] w' (w'.setCell ⟨gx, k, none⟩ (.int .i64 6)) := Keep.setCell (Keep.refl _ _) _ _ (Or.inl (by simp))
                    exact ⟨gx, rfl, hs1.1, hs1.2, hs.put gx k _ hne, hb.trans (hkp.below hb.size (fun b hb => by simp at hb; rw [hb]; exact Nat.le_trans HQT.out (own_block hx gx rfl).1))⟩
                have HWP : Hid (∀ w', SoS w' wt.heap.size (.slice (some ⟨gs, 0, none⟩) ce.length sc) ce.length V P (fun i => (nthC ce i).vs.length) (fun i => (nthC ce i).ps.length) → Below wq.heap.size wq w' → ∀ k, k < (nthC ce i).ps.length → ∃ gx, pa = some ⟨gx, 0, none⟩ ∧ (∃ z, w'.cell? ⟨gx, k * 2 + 1, none⟩ = some z) ∧ w'.frozen? ⟨gx, k * 2 + 1, none⟩ = false ∧ SoS (w'.setCell ⟨gx, k * 2 + 1, none⟩ (.int .i64 7)) wt.heap.size (.slice (some ⟨gs, 0, none⟩) ce.length sc) ce.length V P (fun i => (nthC ce i).vs.length) (fun i => (nthC ce i).ps.length) ∧ Below wq.heap.size wq (w'.setCell ⟨gx, k * 2 + 1, none⟩ (.int .i64 7))) := fun w' hs hb k hk => by
                  obtain ⟨xs, hx⟩ := hs.ps i hil
                  rw [HPI.out] at hx
                  cases pa with
                  | none =>
                    exfalso
                    rcases hx.2 with ⟨_, h1⟩ | ⟨_, _, _, e, _⟩
                    · have : (nthC ce i).ps.length = 0 := h1
                      omega
                    · cases e
                  | some yx =>
                    obtain ⟨gx, rfl⟩ := own_at0 hx
                    have hk2 : k * 2 + 1 < (nthC ce i).ps.length * 2 := by omega
                    have hs1 := own_some hx (k * 2 + 1) hk2
                    obtain ⟨kd, hr⟩ := hs.row
                    have hne : (Value.slice (some ⟨gs, 0, none⟩) ce.length sc).ownBlock ≠ some gx := fun e => by
                      simp [Value.ownBlock] at e
                      subst e
                      exact rows_apart hr hx (Ne.symm shape_ne.2) gs rfl rfl
                    have hkp : Keep [gx] w' (w'.setCell ⟨gx, k * 2 + 1, none⟩ (.int .i64 7)) := Keep.setCell (Keep.refl _ _) _ _ (Or.inl (by simp))
                    exact ⟨gx, rfl, hs1.1, hs1.2, hs.put gx (k * 2 + 1) _ hne, hb.trans (hkp.below hb.size (fun b hb => by simp at hb; rw [hb]; exact Nat.le_trans HQT.out (own_block hx gx rfl).1))⟩
                obtain ⟨nv, hnv⟩ : ∃ nv, nv = (nthC ce i).vs.length := ⟨_, rfl⟩
                obtain ⟨np, hnp⟩ : ∃ np, np = (nthC ce i).ps.length := ⟨_, rfl⟩
                rw [← hnv] at HWV HVI HLV
                rw [← hnp] at HWP HPI HLV
                obtain ⟨wi, rfl⟩ : ∃ wi, wi = wr := ⟨_, rfl⟩
                have c1 := HSI.out.at hil
                have hiT : (i : Int) < (ce.length : Int) := by omega
                have z1 : wi.cell? ⟨gs, i * 3 + 1, none⟩ = some (.slice xa nv xc) := by rw [c1.2.1, HVI.out]
                clear c1 hVi hPi hnv hnp HSO HB8
                go_wp2_with fail
                go_loopw [16] (fun kv wk => ∃ (k : Nat), k ≤ nv ∧ kv = .int .i64 (k : Int) ∧ Hid (SoS wk wt.heap.size (.slice (some ⟨gs, 0, none⟩) ce.length sc) ce.length V P (fun i => (nthC ce i).vs.length) (fun i => (nthC ce i).ps.length)) ∧ Below wq.heap.size wq wk) (fun kv _ => nv - (intOf kv).toNat)
                case atStart => exact ⟨0, Nat.zero_le _, rfl, HSI.out, HBI.out⟩
                case round =>
                  obtain ⟨k, hk, rfl, HSK, hbk⟩ := hrel
                  have HBK2 : Hid (Below wq.heap.size wq wr) := hbk
                  have c1 := HSK.out.at hil
                  have z2 : wr.cell? ⟨gs, i * 3 + 1, none⟩ = some (.slice xa nv xc) := by rw [c1.2.1, HVI.out]
                  clear hbk c1 z1
                  by_cases hkl : k < nv
                  · have d4 : decide ((k : Int) < (nv : Int)) = true := by simpa using hkl
                    have HKW : Hid (wrap64 ((k : Int) + 1) = ((k + 1 : Nat) : Int)) := sh_wrap hkl (Nat.le_trans HLV.out.1 (by decide))
                    obtain ⟨gx, rfl, ⟨zz, hz⟩, hf, hso, hbo⟩ := HWV.out wr HSK.out HBK2.out k hkl
                    have HFN : Hid (SoS (wr.setCell ⟨gx, k, none⟩ (.int .i64 6)) wt.heap.size (.slice (some ⟨gs, 0, none⟩) ce.length sc) ce.length V P (fun i => (nthC ce i).vs.length) (fun i => (nthC ce i).ps.length) ∧ Below wq.heap.size wq (wr.setCell ⟨gx, k, none⟩ (.int .i64 6))) := ⟨hso, hbo⟩
                    clear hso hbo HWV HWP HSK
                    go_wp2_with fail
                    go_roundw
                    case rel => exact ⟨k + 1, hkl, by first | rw [HKW.out] | go_num, HFN.out.1, HFN.out.2⟩
                    case measure =>
                      try rw [HKW.out]
                      exact sh_less hkl
                  · obtain rfl : k = nv := Nat.le_antisymm hk (Nat.not_lt.1 hkl)
                    have d4 : decide ((k : Int) < (k : Int)) = false := by simp
                    obtain ⟨wv, rfl⟩ : ∃ wv, wv = wr := ⟨_, rfl⟩
                    have c2 := HSK.out.at hil
                    have z3 : wv.cell? ⟨gs, i * 3 + 2, none⟩ = some (.slice pa np pc) := by rw [c2.2.2.1, HPI.out]
                    clear c2 HWV HSI
                    go_wp2_with fail
                    go_loopw [17] (fun kv wk => ∃ (m : Nat), m ≤ np ∧ kv = .int .i64 (m : Int) ∧ Hid (SoS wk wt.heap.size (.slice (some ⟨gs, 0, none⟩) ce.length sc) ce.length V P (fun i => (nthC ce i).vs.length) (fun i => (nthC ce i).ps.length)) ∧ Below wq.heap.size wq wk) (fun kv _ => np - (intOf kv).toNat)
                    case atStart => exact ⟨0, Nat.zero_le _, rfl, HSK.out, HBK2.out⟩
                    case round =>
                      obtain ⟨m, hm, rfl, HSM, hbm⟩ := hrel
                      have HBM : Hid (Below wq.heap.size wq wr) := hbm
                      have c3 := HSM.out.at hil
                      have z4 : wr.cell? ⟨gs, i * 3 + 2, none⟩ = some (.slice pa np pc) := by rw [c3.2.2.1, HPI.out]
                      obtain ⟨⟨zk, hzk⟩, -, -, hfk⟩ := c3
                      clear hbm z3 z2
                      by_cases hml : m < np
                      · have d5 : decide ((m : Int) < (np : Int)) = true := by simpa using hml
                        have HMW : Hid (wrap64 ((m : Int) + 1) = ((m + 1 : Nat) : Int)) := sh_wrap hml (Nat.le_trans HLV.out.2 (by decide))
                        obtain ⟨gx, rfl, ⟨zz, hz⟩, hf, hso, hbo⟩ := HWP.out wr HSM.out HBM.out m hml
                        have HFN : Hid (SoS (wr.setCell ⟨gx, m * 2 + 1, none⟩ (.int .i64 7)) wt.heap.size (.slice (some ⟨gs, 0, none⟩) ce.length sc) ce.length V P (fun i => (nthC ce i).vs.length) (fun i => (nthC ce i).ps.length) ∧ Below wq.heap.size wq (wr.setCell ⟨gx, m * 2 + 1, none⟩ (.int .i64 7))) := ⟨hso, hbo⟩
                        clear hso hbo HWP HSM hzk hfk
                        go_wp2_with fail
                        go_roundw
                        case rel => exact ⟨m + 1, hml, by first | rw [HMW.out] | go_num, HFN.out.1, HFN.out.2⟩
                        case measure =>
                          try rw [HMW.out]
                          exact sh_less hml
                      · obtain rfl : m = np := Nat.le_antisymm hm (Nat.not_lt.1 hml)
                        have d5 : decide ((m : Int) < (m : Int)) = false := by simp
                        have HFN : Hid (SoS (wr.setCell ⟨gs, i * 3, none⟩ (.int .i64 9)) wt.heap.size (.slice (some ⟨gs, 0, none⟩) ce.length sc) ce.length V P (fun i => (nthC ce i).vs.length) (fun i => (nthC ce i).ps.length) ∧ Below wq.heap.size wq (wr.setCell ⟨gs, i * 3, none⟩ (.int .i64 9))) := by
                          have hkp : Keep [gs] wr (wr.setCell ⟨gs, i * 3, none⟩ (.int .i64 9)) := Keep.setCell (Keep.refl _ _) _ _ (Or.inl (by simp))
                          exact ⟨HSM.out.kind hil 9, HBM.out.trans (hkp.below HBM.out.size (fun b hb => by simp at hb; rw [hb]; exact Nat.le_trans HQT.out HGS.out))⟩
                        clear HSM HWP HSK
                        go_wp2_with fail
                        go_roundw
                        case rel => exact ⟨i + 1, hil, by first | rw [HIW.out] | go_num, HFN.out.1, HFN.out.2⟩
                        case measure =>
                          try rw [HIW.out]
                          exact sh_less hil
              · obtain rfl : i = ce.length := Nat.le_antisymm hi (Nat.not_lt.1 hil)
                have d3 : decide ((ce.length : Int) < (ce.length : Int)) = false := by simp
                have H9 : Hid (Calls Try.prog 12 #[.pointer (some ⟨X, 0, none⟩), .pointer (some ⟨Y, 0, none⟩)] wr fun e w'' => e = .returned (.bool true) ∧ Below wr.heap.size wr w'') := HAL.out wr HBI.out
                clear HSI HAL HSO
                go_wp2_with fail
                refine H9.out.mono ?_
                rintro e w9 ⟨rfl, hb9⟩
                have HFF : Hid (Below w.heap.size w w9) := HQ.out w9 (below_then HBI.out hb9)
                clear hb9 H9
                go_wp2_with fail
                go_ret
                exact ⟨rfl, HFF.out⟩
end Go.Proofs.Ytgbmnngmfcneaaa.Pl
