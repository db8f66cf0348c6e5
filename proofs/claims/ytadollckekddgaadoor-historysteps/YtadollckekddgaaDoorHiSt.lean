/- The law of the beginnings of a history. -/
import Derived.Test.YtadollckekddgaaDoorHiSd
import Derived.Test.YtadollckekddgaaDoorHiSh
import Derived.Deep.Cut
import Derived.Deep.CutRange
import Derived.Deep.DeepCutAuto
import Derived.Deep.CutBlock
namespace Go.Proofs.YtadollckekddgaaDoor.Hi
open Go.ChangeShapes Go.WideShapes Go.ChangeAt Go.RowKit
set_option linter.unusedVariables false

theorem inc_st {a b : Nat} (h : b ≤ 925925926000) (hab : a ≤ b) : wrap64 ((a : Int) + 1) = (a : Int) + 1 := by
  have h1 : (a : Int) ≤ 925925926000 := by omega
  unfold wrap64
  omega
set_option maxRecDepth 1000000 in
set_option maxHeartbeats 8000000 in
theorem steps_walk {w : World} {v : Value} {H : List Ev} {a c : Addr} (h : EvL w v H) (he : ErrAt w a c) (hy : TyAt w) : Calls Tryd.prog 3 #[v] w fun e w' => e = .returned (.bool true) ∧ Below w.heap.size w w' := by
  obtain ⟨sa, cap, hv, _, hc1, hc2, hc3, _⟩ := id h
  subst hv
  have HSH : Hid (Calls Tryd.prog 4 #[] w fun e w' => e = .returned (.bool true) ∧ Below w.heap.size w w') := shown_any he
  have HT0 : Hid (∀ w', Below w.heap.size w w' → Calls Tryd.prog 5 #[.slice sa H.length cap] w' fun e w'' => ∃ u z k, e = .returned (.tuple #[u, .int .i64 z, .int .i64 k]) ∧ (H.length ≤ good H → z = 0) ∧ (¬ H.length ≤ good H → z = 14 ∧ k = (good H : Int)) ∧ Below w'.heap.size w' w'') := fun w' hb => (txs_st (h.later hb (Nat.le_refl _)) (he.later hb (Nat.le_refl _)) (hy.later hb (Nat.le_refl _)) (Nat.le_refl _)).mono fun e w'' hq => by
    obtain ⟨u, L, h1, _, _, _, h5⟩ := hq
    exact ⟨u, _, _, h1, fun h => if_pos h, fun h => ⟨if_neg h, if_neg h⟩, h5⟩
  have HTY : Hid (∀ w' n, Below w.heap.size w w' → n ≤ H.length → n ≤ good H → Calls Tryd.prog 5 #[.slice sa n cap] w' fun e w'' => ∃ u p, e = .returned (.tuple #[u, .int .i64 0, .int .i64 0]) ∧ readD (H.take n) = some p ∧ w''.ownsRow w'.heap.size 33 6 u p.txs.length (t6s p.txs) ∧ p.txs.length ≤ 925925926000 ∧ Below w'.heap.size w' w'') := fun w' n hb hn hg => (txs_st (h.later hb (Nat.le_refl _)) (he.later hb (Nat.le_refl _)) (hy.later hb (Nat.le_refl _)) hn).mono fun e w'' hq => by
    obtain ⟨u, L, h1, h2, h3, _, h5⟩ := hq
    obtain ⟨p, hp, rfl⟩ := h3 hg
    refine ⟨u, p, ?_, hp, h2, ?_, h5⟩
    · rw [h1]; unfold stE stK; rw [if_pos hg, if_pos hg]
    · have := len_le H n p hn hp
      have := h.len
      omega
  have HTN : Hid (∀ w' n, Below w.heap.size w w' → n ≤ H.length → ¬ n ≤ good H → Calls Tryd.prog 5 #[.slice sa n cap] w' fun e w'' => ∃ u, e = .returned (.tuple #[u, .int .i64 14, .int .i64 (good H : Int)]) ∧ w''.ownsRow w'.heap.size 33 6 u 0 [] ∧ Below w'.heap.size w' w'') := fun w' n hb hn hg => (txs_st (h.later hb (Nat.le_refl _)) (he.later hb (Nat.le_refl _)) (hy.later hb (Nat.le_refl _)) hn).mono fun e w'' hq => by
    obtain ⟨u, L, h1, h2, _, h4, h5⟩ := hq
    have h6 := h4 (by omega)
    obtain rfl := List.length_eq_zero_iff.1 h6
    refine ⟨u, ?_, h2, h5⟩
    rw [h1]; unfold stE stK; rw [if_neg hg, if_neg hg]
  have HOR : Hid (∀ w' n p, Below w.heap.size w w' → n ≤ H.length → readD (H.take n) = some p → Calls Tryd.prog 6 #[.slice sa n cap] w' (OStW w' p)) := fun w' n p hb hn hp => order_st (h.later hb (Nat.le_refl _)) (he.later hb (Nat.le_refl _)) hn hp
  unfold OStW at HOR
  have HNN : Hid (H.length ≤ 925925926000) := h.len
  have HWN : Hid (good H ≤ H.length) := good_le H
  have HCP : Hid (H.length ≤ cap ∧ (sa = none → cap = 0)) := ⟨hc1, hc3⟩
  generalize good H = W at *
  generalize H.length = N at *
  clear h he hy hc1 hc3
  go_enter Tryd.func3, Tryd.ntmps3
  go_wp2_with fail
  refine HSH.out.mono ?_
  rintro e x1 ⟨rfl, hb1⟩
  have HB1 : Hid (Below w.heap.size w x1) := hb1
  clear hb1
  go_wp2_with fail
  refine (HT0.out _ HB1.out).mono ?_
  rintro e x2 ⟨u0, z, k, rfl, hz1, hz2, hb2⟩
  have HB2 : Hid (Below w.heap.size w x2) := below_then HB1.out hb2
  clear hb2
  go_upto_if 28 with fail
  go_cut [7] (fun s7 wx => s7 = .int .i64 (W : Int) ∧ wx = x2)
  case first =>
    by_cases hg : N ≤ W
    · obtain rfl := hz1 hg
      have hNW : (N : Int) = (W : Int) := by have := HWN.out; omega
      clear hz1 hz2 hg
      go_wp2_with fail
      go_meet
      exact ⟨by rw [hNW], rfl⟩
    · obtain ⟨rfl, rfl⟩ := hz2 hg
      clear hz1 hz2 hg
      go_wp2_with fail
      go_meet
      exact ⟨rfl, rfl⟩
  case rest =>
    obtain ⟨rfl, hx⟩ := hcut
    subst hx
    have hw0 : decide ((W : Int) < 0) = false := by simp
    have hw1 : decide ((N : Int) < (W : Int)) = false := by have := HWN.out; simp; omega
    have hw1N : decide (N < W) = false := by have := HWN.out; simp; omega
    clear hz1 hz2
    go_wp2_with fail
    go_loopw [8] (fun nv wr => ∃ n : Nat, nv = .int .i64 (n : Int) ∧ Hid (n ≤ N + 1) ∧ Hid (Below w.heap.size w wr)) (fun nv _ => N + 1 - (intOf nv).toNat)
    case atStart => exact ⟨0, rfl, Nat.zero_le _, HB2.out⟩
    case round =>
      obtain ⟨n, rfl, HN, HB⟩ := hrel
      by_cases hlt : n ≤ N
      · have hd : decide ((n : Int) ≤ (N : Int)) = true := by simp; omega
        have hdN : decide (n ≤ N) = true := by simp; omega
        have hwn : Hid (wrap64 ((n : Int) + 1) = (n : Int) + 1) := inc_st HNN.out hlt
        have HMS : Hid (N + 1 - (n + 1) < N + 1 - n) := by rw [Hid]; omega
        have HNL : Hid (n ≤ N) := hlt
        have hnc : (n : Int) ≤ (cap : Int) := by have := HCP.out.1; omega
        clear hlt
        by_cases hg : n ≤ W
        · have hg1 : decide ((n : Int) ≤ (W : Int)) = true := by simp; omega
          have hg1N : decide (n ≤ W) = true := by simp; omega
          have hg2 : decide ((W : Int) < (n : Int)) = false := by simp; omega
          have hg2N : decide (W < n) = false := by simp; omega
          have HTC : Hid (∀ w', Below w.heap.size w w' → Calls Tryd.prog 5 #[.slice sa n cap] w' fun e w'' => ∃ u p, e = .returned (.tuple #[u, .int .i64 0, .int .i64 0]) ∧ readD (H.take n) = some p ∧ w''.ownsRow w'.heap.size 33 6 u p.txs.length (t6s p.txs) ∧ p.txs.length ≤ 925925926000 ∧ Below w'.heap.size w' w'') := fun w' hb => HTY.out w' n hb HNL.out hg
          have HGW : Hid (n ≤ W) := hg
          clear hg
          go_wp2_with fail
          refine (HTC.out _ HB.out).mono ?_
          rintro e x3 ⟨u, p, rfl, hp, ho, hpl, hb3⟩
          have HOP : Hid (x3.ownsRow wr.heap.size 33 6 u p.txs.length (t6s p.txs)) := ho
          have HPL : Hid (p.txs.length ≤ 925925926000) := hpl
          have HB3 : Hid (Below w.heap.size w x3) := below_then HB.out hb3
          have HORC : Hid (∀ w', Below w.heap.size w w' → Calls Tryd.prog 6 #[.slice sa n cap] w' fun e w'' => ∃ u f, e = .returned (.tuple #[u, .int .i64 0]) ∧ IL w'' u (ordL f p.txs.length) ∧ Rs p f ∧ Below w'.heap.size w' w'') := fun w' hb => HOR.out w' n p hb HNL.out hp
          clear ho hb3 hpl hp HTC
          by_cases hnw : n = W
          · subst hnw
            have hnn : decide ((n : Int) = (n : Int)) = true := by simp
            have hnnN : decide (n = n) = true := by simp
            go_wp2_with fail
            refine (HORC.out _ HB3.out).mono ?_
            rintro e x4 ⟨uo, f, rfl, hil, hrs, hb4⟩
            obtain ⟨oa, oc, rfl, hol, hoc, _, hnil, hlo⟩ := hil
            rw [ordL_len] at hol hoc hlo ⊢
            have HB4 : Hid (Below w.heap.size w x4) := below_then HB3.out hb4
            obtain ⟨ua, uc, rfl⟩ := own_slice HOP.out
            have hO4 : x4.ownsRow wr.heap.size 33 6 (.slice ua p.txs.length uc) p.txs.length (t6s p.txs) := own_keep HOP.out (Keep.of_below hb4 []) (by simp)
            obtain ⟨s, hs⟩ : ∃ s : Nat → Int, ∀ i, s i = (nt p.txs (f i)).st := ⟨_, fun _ => rfl⟩
            have HF : Hid ((∀ i, i < p.txs.length → f i < p.txs.length) ∧ (∀ i j, i < j → j < p.txs.length → f i ≠ f j) ∧ (∀ i j, i < j → j < p.txs.length → s i ≠ 0 → s j ≠ 0 → s i < s j) ∧ ∀ i, i < p.txs.length → s i ≠ 0 → 0 < s i) :=
              ⟨hrs.lt, hrs.inj, fun i j h1 h2 h3 h4 => by simp only [hs] at h3 h4 ⊢; exact hrs.up i j h1 h2 h3 h4, fun i h1 h2 => by simp only [hs] at h2 ⊢; exact hrs.pos i h1 h2⟩
            have HCT : Hid (∀ i, i < p.txs.length → ∃ g, ua = some ⟨g, 0, none⟩ ∧ g < x4.heap.size ∧ x4.cell? ⟨g, f i * 6 + 3, none⟩ = some (.int .i64 (s i))) := fun i hi => by
              obtain ⟨g, h1, _, h3, h4⟩ := row6 hO4 rfl (hrs.lt i hi)
              exact ⟨g, h1, h3, by rw [hs]; exact h4 3 (by decide)⟩
            have HLO : Hid (p.txs.length = 0 ∨ ∃ x, oa = some x ∧ x.block < x4.heap.size ∧ ∀ i, i < p.txs.length → x4.cell? (x.add i) = some (.int .i64 (f i : Int))) := by
              rcases hlo with h0 | ⟨x, h1, h2, h3⟩
              · exact Or.inl h0
              · exact Or.inr ⟨x, h1, h2, fun i hi => by rw [h3 i hi, ordL_ni hi]⟩
            have hmk := make_boolS x4 p.txs.length HPL.out
            have HM0 : Hid ((x4.alloc (.cells (bQ (fun _ => false) p.txs.length) 4)).heap[x4.heap.size]? = some (.cells (bQ (mkS f 0) p.txs.length) 4 (0, 0))) := by
              rw [mkS_zero]
              exact heap_alloc_new _ _
            have HA0 : Hid (Below x4.heap.size x4 (x4.alloc (.cells (bQ (fun _ => false) p.txs.length) 4))) := below_a1 _ _
            have hmm : ((p.txs.length : Int) == (p.txs.length : Int)) = true := by simp
            have hmmN : (p.txs.length == p.txs.length) = true := by simp
            clear hol hoc hnil hlo hO4 hrs hs hb4 HOP HORC
            obtain ⟨g3, hg3⟩ : ∃ g3, x4.heap.size = g3 := ⟨_, rfl⟩
            have HG3 : Hid (x4.heap.size = g3) := hg3
            obtain ⟨x5, hx5⟩ : ∃ x5, x4.alloc (.cells (bQ (fun _ => false) p.txs.length) 4) = x5 := ⟨_, rfl⟩
            rw [hx5] at HM0 HA0 hmk
            rw [hg3] at HM0 hmk HA0 HCT HLO
            generalize p.txs.length = M at *
            clear hg3 hx5
            go_wp2_with fail
            go_loopw [15, 16] (fun lv iv wr => ∃ (i : Nat) (last : Int), iv = .int .i64 (i : Int) ∧ lv = .int .i64 last ∧ Hid (i ≤ M) ∧ Hid (∀ m, i ≤ m → m < M → s m ≠ 0 → last < s m) ∧ Hid (wr.heap[g3]? = some (.cells (bQ (mkS f i) M) 4 (0, 0))) ∧ Hid (Below g3 x4 wr)) (fun _ iv _ => M - (intOf iv).toNat)
            case atStart => exact ⟨0, 0, rfl, rfl, Nat.zero_le _, fun m _ h2 h3 => HF.out.2.2.2 m h2 h3, HM0.out, HA0.out⟩
            case round =>
              obtain ⟨i, last, rfl, rfl, HI, HL, HM, HBy⟩ := hrel
              by_cases hlt : i < M
              · have hid : decide ((i : Int) < (M : Int)) = true := by simp; omega
                have hidN : decide (i < M) = true := by simp; omega
                have hwi : Hid (wrap64 ((i : Int) + 1) = (i : Int) + 1) := inc_st HPL.out (Nat.le_of_lt hlt)
                have HMI : Hid (M - (i + 1) < M - i) := by rw [Hid]; omega
                have HIL : Hid (i < M) := hlt
                have hil : (i : Int) < (M : Int) := by omega
                obtain ⟨x, rfl, hxb, hc⟩ := HLO.out.resolve_left (by omega)
                obtain ⟨gu, rfl, hgl, hct⟩ := HCT.out i hlt
                have hqM : f i < M := HF.out.1 i hlt
                have HNO : Hid (mkS f i (f i) = false) := mkS_no HF.out.2.1 hlt
                have hq0 : decide ((f i : Int) < 0) = false := by simp
                have hq1 : decide ((M : Int) ≤ (f i : Int)) = false := by simp; omega
                have hq1N : decide (M ≤ f i) = false := by simp; omega
                have hqz : (f i : Int) < (M : Int) := by omega
                have hxw : x.block < x4.heap.size := by rw [HG3.out]; exact hxb
                have hgw : gu < x4.heap.size := by rw [HG3.out]; exact hgl
                have hsz := HBy.out.size
                have hgl3 : g3 < wr.heap.size := heap_lt HM.out
                have ci : wr.cell? (x.add i) = some (.int .i64 (f i : Int)) := by rw [HBy.out.cell (by rw [add_block]; exact hxb), hc i hlt]
                have hxi : (x.add i).block < wr.heap.size := by rw [add_block]; exact Nat.lt_of_lt_of_le hxw hsz
                have cs : wr.cell? ⟨g3, f i, none⟩ = some (.bool false) := by rw [cell_at HM.out, bQ_get _ hqM, HNO.out]
                have hfz : wr.frozen? ⟨g3, f i, none⟩ = false := frozen_at HM.out _
                have ct : wr.cell? ⟨gu, f i * 6 + 3, none⟩ = some (.int .i64 (s i)) := by rw [HBy.out.cell (by exact hgl)]; exact hct
                have hgi : gu < wr.heap.size := Nat.lt_of_lt_of_le hgw hsz
                have ci2 : (wr.setCell ⟨g3, f i, none⟩ (.bool true)).cell? (x.add i) = some (.int .i64 (f i : Int)) := by rw [cell_setS hxi (by rw [add_block]; omega)]; exact ci
                have ct2 : (wr.setCell ⟨g3, f i, none⟩ (.bool true)).cell? ⟨gu, f i * 6 + 3, none⟩ = some (.int .i64 (s i)) := by rw [cell_setS (by exact hgi) (by show gu ≠ g3; omega)]; exact ct
                have HM2 : Hid ((wr.setCell ⟨g3, f i, none⟩ (.bool true)).heap[g3]? = some (.cells (bQ (mkS f (i + 1)) M) 4 (0, 0))) := by
                  rw [Hid, heap_set HM.out, bQ_set f hqM]
                have HBy2 : Hid (Below g3 x4 (wr.setCell ⟨g3, f i, none⟩ (.bool true))) := HBy.out.setCell (Nat.le_refl _) _
                have HLN : Hid (∀ m, i + 1 ≤ m → m < M → s m ≠ 0 → s i ≠ 0 → s i < s m) := fun m h1 h2 h3 h4 => HF.out.2.2.1 i m h1 h2 h4 h3
                have HLI : Hid (s i ≠ 0 → last < s i) := fun h0 => HL.out i (Nat.le_refl _) hlt h0
                clear hct hc hxb hgl hlt hxw hgw hsz
                generalize hq : f i = q at *
                generalize hsi : s i = si at *
                clear hq
                by_cases h0 : si = 0
                · subst h0
                  go_wp2_with fail
                  go_roundw
                  case rel => exact ⟨i + 1, last, by first | (rw [hwi.out]; go_num) | go_num, rfl, HIL.out, fun m h1 h2 h3 => HL.out m (Nat.le_of_succ_le h1) h2 h3, HM2.out, HBy2.out⟩
                  case measure => first | (rw [hwi.out]; simpa [intOf] using HMI.out) | (simpa [intOf] using HMI.out)
                · have d0 : (si == 0) = false := by simpa using h0
                  have d1 : decide (si ≤ last) = false := by have := HLI.out h0; simp; omega
                  have HN0 : Hid (si ≠ 0) := h0
                  have hls : last < si := HLI.out h0
                  have hls2 : ¬ si ≤ last := by omega
                  have hls3 : decide (last < si) = true := by simpa using hls
                  clear h0
                  go_wp2_with fail
                  go_roundw
                  case rel => exact ⟨i + 1, si, by first | (rw [hwi.out]; go_num) | go_num, rfl, HIL.out, fun m h1 h2 h3 => HLN.out m h1 h2 h3 HN0.out, HM2.out, HBy2.out⟩
                  case measure => first | (rw [hwi.out]; simpa [intOf] using HMI.out) | (simpa [intOf] using HMI.out)
              · obtain rfl : i = M := by have := HI.out; omega
                have hid : decide ((i : Int) < (i : Int)) = false := by simp
                have hidN : decide (i < i) = false := by simp
                have HW5 : Hid (Below w.heap.size w wr) := below_then HB4.out (by rw [HG3.out]; exact HBy.out)
                clear hlt
                go_wp2_with fail
                go_roundw
                case rel => exact ⟨n + 1, by first | (rw [hwn.out]; go_num) | go_num, Nat.succ_le_succ HNL.out, by first | exact HW5.out | exact below_drawn HW5.out _⟩
                case measure => first | (rw [hwn.out]; simpa [intOf] using HMS.out) | (simpa [intOf] using HMS.out)
          · have hnn : ((n : Int) == (W : Int)) = false := by simp; omega
            have hnnN : (n == W) = false := by simp; omega
            go_wp2_with fail
            go_roundw
            case rel => exact ⟨n + 1, by first | (rw [hwn.out]; go_num) | go_num, Nat.succ_le_succ HNL.out, by first | exact HB3.out | exact below_drawn HB3.out _⟩
            case measure => first | (rw [hwn.out]; simpa [intOf] using HMS.out) | (simpa [intOf] using HMS.out)
        · have hg1 : decide ((n : Int) ≤ (W : Int)) = false := by simp; omega
          have hg1N : decide (n ≤ W) = false := by simp; omega
          have hg2 : decide ((W : Int) < (n : Int)) = true := by simp; omega
          have hg2N : decide (W < n) = true := by simp; omega
          have hnn : ((n : Int) == (W : Int)) = false := by simp; omega
          have hnnN : (n == W) = false := by simp; omega
          have hww : ((W : Int) == (W : Int)) = true := by simp
          have hwwN : (W == W) = true := by simp
          have HTC : Hid (∀ w', Below w.heap.size w w' → Calls Tryd.prog 5 #[.slice sa n cap] w' fun e w'' => ∃ u, e = .returned (.tuple #[u, .int .i64 14, .int .i64 (W : Int)]) ∧ w''.ownsRow w'.heap.size 33 6 u 0 [] ∧ Below w'.heap.size w' w'') := fun w' hb => HTN.out w' n hb HNL.out hg
          clear hg
          go_wp2_with fail
          refine (HTC.out _ HB.out).mono ?_
          rintro e x3 ⟨u, rfl, ho, hb3⟩
          obtain ⟨ua, uc, rfl⟩ := own_slice ho
          have HB3 : Hid (Below w.heap.size w x3) := below_then HB.out hb3
          clear ho hb3
          go_wp2_with fail
          go_roundw
          case rel => exact ⟨n + 1, by first | (rw [hwn.out]; go_num) | go_num, Nat.succ_le_succ HNL.out, by first | exact HB3.out | exact below_drawn HB3.out _⟩
          case measure => first | (rw [hwn.out]; simpa [intOf] using HMS.out) | (simpa [intOf] using HMS.out)
      · have hd : decide ((n : Int) ≤ (N : Int)) = false := by simp; omega
        have hdN : decide (n ≤ N) = false := by simp; omega
        clear hlt
        go_wp2_with fail
        go_ret
        exact ⟨rfl, by first | exact HB.out | exact below_drawn HB.out _⟩
end Go.Proofs.YtadollckekddgaaDoor.Hi
