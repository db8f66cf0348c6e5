/- BackEnds walked. -/
import Derived.Test.YtbmmicfdnfpcaaaBkX
import Derived.Deep.CutBlock
import Derived.Deep.DeepCutAuto
namespace Go.Proofs.Ytbmmicfdnfpcaaa
open Go.ChangeShapes Go.WideShapes Go.ChangeAt Go.RowKit
attribute [local go_sem ↓] Go.wp_at_zero Go.wp_at_succ

set_option maxRecDepth 100000 in
set_option maxHeartbeats 6400000 in
theorem ends_walk (w : World) (raw : Int) (mu : Bool) (stamp : Int) {wv av : Value} {S : List Wt} {A : List At} (hS : WL w wv S) (hv : ∀ i, i < S.length → W64 (S.getD i noWt).v) (hA : BLst w av A) :
    Calls Try.prog 4 #[.agg #[.int .i64 raw, .bool mu, .int .i64 stamp, wv, av]] w fun e w' => e = .returned (.bool true) ∧ Below w.heap.size w w' := by
  obtain ⟨i0, hi, hz0, hz1, hz2⟩ := info_parts info_wr
  have HS : Hid (∀ w : World, Calls Try.prog 6 #[] w fun e w' => e = .returned (.bool true) ∧ Below w.heap.size w w') := bshown_any
  obtain ⟨s, hs1, hs16, hse⟩ : ∃ s : Nat, 1 ≤ s ∧ s ≤ 16 ∧ raw % 16 = (s : Int) - 1 := ⟨(raw % 16 + 1).toNat, by omega, by omega, by omega⟩
  obtain ⟨st, ht1, ht2, hte⟩ : ∃ st : Nat, 1 ≤ st ∧ st ≤ 1000 ∧ stamp % 1000 = (st : Int) - 1 := ⟨(stamp % 1000 + 1).toNat, by omega, by omega, by omega⟩
  have HP : Hid (∀ w : World, Calls Try.prog 22 #[.int .i64 raw, .int .i64 16] w fun e w' => e = .returned (.int .i64 ((s : Int) - 1)) ∧ w' = w) := fun w => by rw [← hse]; exact gpick_any raw 16 (by decide) (by decide) w
  have HPT : Hid (∀ w : World, Calls Try.prog 22 #[.int .i64 stamp, .int .i64 1000] w fun e w' => e = .returned (.int .i64 ((st : Int) - 1)) ∧ w' = w) := fun w => by rw [← hte]; exact gpick_any stamp 1000 (by decide) (by decide) w
  have HP8 : Hid (∀ x w, Calls Try.prog 22 #[.int .i64 x, .int .i64 8] w fun e w' => e = .returned (.int .i64 (x % 8)) ∧ w' = w) := fun x w => gpick_any x 8 (by decide) (by decide) w
  have HN : Hid (∀ w : World, Calls Try.prog 10 #[.int .i64 8, .int .i64 (s : Int)] w fun e w' => ∃ p F, e = .returned (.tuple #[p, .int .i64 0]) ∧ p ≠ .pointer none ∧ MemAt w' w.heap.size p 8 s [] F ∧ Below w.heap.size w w') := fun w => new_yes w 8 s (by decide) ⟨hs1, hs16⟩
  have HF : Hid (∀ (w : World) lv, WL w lv (inW S 24) → Calls Try.prog 7 #[.agg #[.int .i64 0, .int .i64 (s : Int), .int .i64 0, .int .i64 0, .bool mu, .int .i64 0, .slice none 0 0], .int .i64 (st : Int), lv] w fun e w' => ∃ Z u, e = .returned (.tuple #[.pointer (some ⟨Z, 0, none⟩), .int .i64 0]) ∧ w.heap.size ≤ Z ∧ BRow w' Z (enP s st S) (bkNew (enP s st S) mu) u ∧ w'.ownsRow w.heap.size 36 2 u (enP s st S).W.length (wtC (enP s st S).W) ∧ (∀ k, u.ownBlock = some k → k ≠ Z) ∧ Below w.heap.size w w') := fun w lv hl => by
    refine (bnew_any w 0 0 0 mu 0 (.slice none 0 0) (P := enP s st S) hl hs1 hs16 (by unfold enP; simp only; omega) (by unfold enP; simp only; omega) (inW_len _ _)).mono ?_
    rintro e w' ⟨hb, hh⟩
    rw [if_pos (show tkB ((enP s st S).s : Int) (enP s st S).st (enP s st S).W = true from enP_tk hs1 hs16 ht1 ht2 hv)] at hh
    obtain ⟨Z, u, rfl, h1, h2, h3, h4⟩ := hh
    exact ⟨Z, u, rfl, h1, h2, h3, h4, hb⟩
  have HOK : Hid (BpOk (enP s st S)) := enP_ok hs1 hs16 ht1 ht2 hv
  have HBG : Hid (1 ≤ s ∧ s ≤ 16 ∧ 1 ≤ st ∧ st ≤ 1000) := ⟨hs1, hs16, ht1, ht2⟩
  have w1 : IntKind.i64.wrap (1 + ((s : Int) - 1)) = (s : Int) := by rw [IntKind.wrap_i64]; omega
  have w1b : 1 + ((s : Int) - 1) = (s : Int) := by omega
  have w1c : wrap64 (s : Int) = (s : Int) := by unfold wrap64; omega
  have w2b : 1 + ((st : Int) - 1) = (st : Int) := by omega
  have w2c : wrap64 (st : Int) = (st : Int) := by unfold wrap64; omega
  obtain ⟨a, cap, rfl, hbig, hl⟩ := hS
  have HD : Hid (∀ w' i, Below w.heap.size w w' → i < S.length → ∃ x, a = some x ∧ x.block < w.heap.size ∧ w'.cell? (x.add (i * 2)) = some (.int .i64 (S.getD i noWt).c) ∧ w'.cell? ((x.add (i * 2)).add 1) = some (.int .i64 (S.getD i noWt).v)) := fun w' i k hi => by
    rcases hl with h | ⟨x, e1, e2, e3⟩
    · rw [h] at hi; simp at hi
    · exact ⟨x, e1, e2, (k.cell (p := x.add (i * 2)) (by rw [add_block]; exact e2)).trans (e3 i hi).1, (k.cell (p := (x.add (i * 2)).add 1) (by rw [add_block, add_block]; exact e2)).trans (e3 i hi).2⟩
  obtain ⟨la, lcap, rfl, hlbig, _, hll⟩ := hA
  have HAD : Hid (∀ w' i, Below w.heap.size w w' → i < A.length → ∃ x, la = some x ∧ x.block < w.heap.size ∧ Row6 w' (x.add (i * 6)) (A.getD i noAt)) := fun w' i k hi => by
    rcases hll with h | ⟨x, e1, e2, e3⟩
    · rw [h] at hi; simp at hi
    · exact ⟨x, e1, e2, (e3 i hi).later k (by rw [add_block]; exact e2)⟩
  clear hll
  have HV : Hid (∀ i, i < S.length → W64 (S.getD i noWt).v) := hv
  have HSN : Hid (∀ q, q < S.length → inW S (q + 1) = inW S q ++ [⟨(S.getD q noWt).c % 8, (S.getD q noWt).v⟩]) := fun q h => inW_snoc h
  have HTK : Hid (∀ q, q = 24 ∨ (q = S.length ∧ q ≤ 24) → inW S q = inW S 24) := fun q h => inW_end h
  have HLN : Hid (∀ q, (inW S q).length ≤ q) := fun q => inW_len S q
  have HEN : Hid (∀ w' M Z u k b L R, EW w w' M Z s st S u k b L R → k < 3298534883328 → HO (enP s st S) L → Calls Try.prog 15 #[.pointer (some ⟨Z, 0, none⟩), .pointer (some ⟨M, 0, none⟩), .int .i64 1] w' fun e w'' => ∃ k' y b' L', e = .returned (.agg #[.int .i64 k', .int .i64 0, .int .i64 0, .bool y]) ∧ (k' = 0 ∨ k' = 2 ∨ k' = 3) ∧ (b.nx = 0 → k' = 0 ∧ b' = b) ∧ EW w w'' M Z s st S u (k + 1) b' L' R ∧ HO (enP s st S) L' ∧ mB (enP s st S) b' ≤ mB (enP s st S) b - 1) := fun w' M Z u k b L R h hk ho => en_step h hk hv ho
  have HW8 : Hid (∀ x ∈ inW S 24, 0 ≤ x.c ∧ x.c < 8 ∧ W64 x.v) := inW_cell hv
  obtain ⟨m, HM24⟩ : ∃ m, Hid ((inW S 24).length = m) := ⟨_, rfl⟩
  have hmm : m ≤ 24 := by have h := inW_len S 24; rw [HM24.out] at h; exact h
  clear hse hte hs1 hs16 ht1 ht2 hv hl
  generalize hn : S.length = n at *
  clear hn
  go_enter Try.func4, Try.ntmps4
  go_wp2_with fail
  refine (HS.out _).mono ?_
  rintro e y1 ⟨rfl, hb1⟩
  have HB1 : Hid (Below w.heap.size w y1) := by first | exact hb1 | exact below_then (below_a1 _ _) hb1
  clear hb1 HS
  go_wp2_with fail
  refine (HP.out _).mono ?_
  rintro e y2 ⟨rfl, rfl⟩
  go_wp2_with fail
  refine (HPT.out _).mono ?_
  rintro e y3 ⟨rfl, rfl⟩
  go_upto_block 0 with fail
  simp only [w2c]
  go_cut [11] (fun s11 wx => wx.ownsRow w.heap.size 36 2 s11 m (wtC (inW S 24)) ∧ Below w.heap.size w wx)
  case first =>
    go_wp2_with fail
    go_loopw [11, 12] (fun ov iv wr => ∃ q : Nat, q ≤ n ∧ q ≤ 24 ∧ iv = .int .i64 q ∧ wr.ownsRow w.heap.size 36 2 ov (inW S q).length (wtC (inW S q)) ∧ Below w.heap.size w wr) (fun _ iv _ => 24 - (intOf iv).toNat)
    case atStart => exact ⟨0, Nat.zero_le _, by omega, rfl, by simpa [inW, wtC] using World.ownsRow_nil _ _ _ _, HB1.out⟩
    case round =>
      obtain ⟨q, hq, hq4, rfl, how, hb⟩ := hrel
      have HO : Hid (wr.ownsRow w.heap.size 36 2 u11 (inW S q).length (wtC (inW S q))) := how
      have HB : Hid (Below w.heap.size w wr) := hb
      clear how hb
      by_cases hlt : q < n ∧ q < 24
      · obtain ⟨hlt, hlt4⟩ := hlt
        have d1 : decide ((q : Int) < (n : Int)) = true := by simp; omega
        have d2 : decide ((q : Int) < 24) = true := by simp; omega
        have hx1 : (q : Int) < (n : Int) := by omega
        obtain ⟨x, rfl, hxb, c0', c1'⟩ := HD.out _ q HB.out hlt
        rw [add_pos' _ _ (by decide)] at c1'
        have HS2 := HSN.out q hlt
        have hl4 := HLN.out q
        generalize S.getD q noWt = wt at *
        obtain ⟨wc, wv⟩ := wt
        simp only at c0' c1' HS2
        have HPK : Hid (∀ w, Calls Try.prog 22 #[.int .i64 wc, .int .i64 8] w fun e w' => e = .returned (.int .i64 (wc % 8)) ∧ w' = w) := HP8.out wc
        obtain ⟨av, cv, rfl⟩ := own_slice HO.out
        have HAP : Hid (wtC (inW S q ++ [⟨wc % 8, wv⟩]) = wtC (inW S q) ++ [.int .i64 (wc % 8), .int .i64 wv]) := by rw [Hid, wtC_app]; rfl
        have hlen : (wtC (inW S q)).length = (inW S q).length * 2 := wtC_len _
        generalize hK : inW S q = K at *
        generalize hm : K.length = m at *
        have HKM : Hid (K.length = m) := hm
        have hsz := HB.out.size
        generalize wc % (8 : Int) = wc' at *
        clear hK hm
        go_wp2_with fail
        go_region_law ((first | (refine step_lies_wide _ (by rfl) _ _ _ (by rfl) w.heap.size 36 i0 _ 2 16 Try.underlying25 hi hz0 hz1 hz2 rfl (by omega) (.slice av m cv) m (wtC K) (by rfl) ((HO.out.alloc _).drew) ⟨wr.heap.size, 0, none⟩ 1 1 [.int .i64 wc', .int .i64 wv] (by rfl) (by rfl) (World.news_of_block (cs := #[.int .i64 wc', .int .i64 wv]) (t := 36) (fr := (0, 0)) (heap_alloc_new wr _)) (by simp [Value.oneCell']) (by omega) (by unfold maxLen; omega) (by omega) (by simp; omega) (wr.heap.size + 1) (by simp) ?_; intro gg cap' w3 hown1 hgrow hat hlt2) | (go_simp; go_at_call 22; refine (HPK.out _).mono ?_; rintro e w' ⟨rfl, rfl⟩)))
        all_goals
          have HO3 : Hid (w3.ownsRow w.heap.size 36 2 (.slice (some ⟨gg, 0, none⟩) (m + 1) cap') (K ++ [Wt.mk wc' wv]).length (wtC (K ++ [Wt.mk wc' wv]))) := by
            rw [Hid, HAP.out, List.length_append, HKM.out]; exact hown1
          have HB3 : Hid (Below w.heap.size w w3) := (below_drawn (below_alloc HB.out _) 1).grown hgrow (by simp; omega) (fun b hb => (own_block HO.out b hb).1)
          clear hown1 hgrow hat hlt2
          go_wp2
          go_roundw
          case rel => exact ⟨q + 1, by omega, by omega, by go_num, by rw [HS2]; exact HO3.out, HB3.out⟩
          case measure => simp [intOf]; omega
      · have hend : q = 24 ∨ (q = n ∧ q ≤ 24) := by omega
        have HE := HTK.out q hend
        rw [HE, HM24.out] at HO
        have hx : (q : Int) < (n : Int) ∧ ¬ (q : Int) < 24 ∨ ¬ (q : Int) < (n : Int) := by omega
        rcases hx with ⟨hx1, hx2⟩ | hx1
        · go_wp2
          go_meet
          exact ⟨HO.out, HB.out⟩
        · go_wp2
          go_meet
          exact ⟨HO.out, HB.out⟩
  case rest =>
    obtain ⟨hown0, hbel0⟩ := hcut
    obtain ⟨av, cv, rfl⟩ := own_slice hown0
    have HB : Hid (Below w.heap.size w wc) := hbel0
    have HOP : Hid (wc.ownsRow w.heap.size 36 2 (.slice av m cv) m (wtC (inW S 24))) := hown0
    have HWL : Hid (WL wc (.slice av m cv) (inW S 24)) := WL.of_own (by rw [HM24.out]; exact hown0) (by have h := HM24.out; omega)
    clear hown0 hbel0 HSN HTK HD HB1 HP8 HP HPT
    obtain ⟨R, hR1, hR2⟩ := own_rows HOP.out
    have HRW : Hid (∀ w' : World, (∀ z ∈ R, w'.heap[z.1]? = some z.2) → w'.ownsRow w.heap.size 36 2 (.slice av m cv) m (wtC (inW S 24))) := hR2
    have HRR : Hid (∀ z ∈ R, wc.heap[z.1]? = some z.2) := hR1
    clear hR1 hR2 HOP
    have HOWN : Hid (slotV (st : Int) (s : Int) = (st : Int) % (s : Int)) := by
      obtain ⟨q1, q2, _, _⟩ := HBG.out
      rw [Hid]
      unfold slotV
      rw [if_pos (sizeOk_iff.mpr ⟨by omega, by omega⟩)]
    go_wp2_with fail
    refine (HF.out _ _ HWL.out).mono ?_
    rintro e z1 ⟨Z, u, rfl, hZ, hr, ho, hne, hbz⟩
    have HE1 : Hid (wc.heap.size ≤ Z ∧ BRow z1 Z (enP s st S) (bkNew (enP s st S) mu) u ∧ z1.ownsRow wc.heap.size 36 2 u (enP s st S).W.length (wtC (enP s st S).W) ∧ (∀ k, u.ownBlock = some k → k ≠ Z) ∧ Below w.heap.size w z1 ∧ Below wc.heap.size wc z1) := ⟨hZ, hr, ho, hne, below_then HB.out hbz, hbz⟩
    clear hZ hr ho hne hbz
    go_wp2_with fail
    refine (HN.out _).mono ?_
    rintro e z2 ⟨p, F2, rfl, _, hm2, hb2⟩
    obtain ⟨M, rfl⟩ := hm2.ptr
    have HE2 : Hid (EW w z2 M Z s st S u 0 (bkNew (enP s st S) mu) [] R) := ew_new HOK.out HB.out HE1.out.1 HE1.out.2.1 HE1.out.2.2.1 HE1.out.2.2.2.1 HE1.out.2.2.2.2.1 hm2 hb2 (fun z hz => ⟨row_on (row_on (HRR.out z hz) HE1.out.2.2.2.2.2) hb2, heap_lt (HRR.out z hz)⟩)
    clear hm2 hb2 HE1 HRR HWL
    have hsz : (s : Int) ≠ 0 := by have := HBG.out.1; omega
    obtain ⟨ow, HOW⟩ : ∃ ow : Int, Hid (ow = slotV (st : Int) (s : Int)) := ⟨_, rfl⟩
    have hown : (st : Int).tmod (s : Int) = ow := by rw [HOW.out, HOWN.out]; exact Int.tmod_eq_emod_of_nonneg (by omega)
    have hbo : 0 ≤ ow ∧ ow < (s : Int) := by rw [HOW.out]; exact slotB_bd HOK.out (st : Int)
    have how : wrap64 ow = ow := by have := HBG.out.2.1; unfold wrap64; omega
    have how2 : IntKind.i64.wrap ow = ow := by have := HBG.out.2.1; rw [IntKind.wrap_i64]; omega
    clear hbo
    generalize hna : A.length = na at *
    clear hna
    go_upto_block 2 with fail
    try simp only [how]
    clear HF HN
    go_cut [18] (fun _ wx => ∃ (b : Bk) (L : List Ac), EW w wx M Z s st S u na b L R)
    case first =>
      go_wp2_with fail
      go_loopw [18] (fun iv wr => ∃ (i : Nat) (b : Bk) (L : List Ac), i ≤ na ∧ iv = .int .i64 i ∧ EW w wr M Z s st S u i b L R) (fun iv _ => na - (intOf iv).toNat)
      case atStart => exact ⟨0, _, [], by omega, rfl, HE2.out⟩
      case round =>
        obtain ⟨i, b, L, hi, rfl, hew⟩ := hrel
        have HEW : Hid (EW w wr M Z s st S u i b L R) := hew
        clear hew HE2
        by_cases hlt : i < na
        · have hlt' : (i : Int) < (na : Int) := by omega
          obtain ⟨x, rfl, hxb, r0, r1, r2, r3, r4, r5⟩ := HAD.out _ i HEW.out.bel hlt
          rw [add_pos' _ _ (by decide)] at r1 r2 r3 r4 r5
          generalize A.getD i noAt = y at *
          obtain ⟨yk, yt, ⟨ak, ai, aj⟩, yv⟩ := y
          simp only at r0 r1 r2 r3 r4 r5
          have HST : Hid ((ak = 2 ∨ ak = 3) → ai ≠ ow → ∀ w', Below wr.heap.size wr w' → Calls Try.prog 13 #[(.pointer (some ⟨M, 0, none⟩)), .int .i64 (-1), .agg #[.int .i64 ak, .int .i64 ai, .int .i64 aj], .int .i64 yv] w' fun e w'' => (∃ r, e = .returned (.int .i64 r)) ∧ ∃ L', EW w w'' M Z s st S u (i + 1) b L' R) := fun h1 h2 w' hb => (ew_store (HEW.out.later hb) (by omega) ⟨ak, ai, aj⟩ yv h1 (by rw [← HOW.out]; exact h2)).mono fun _ _ q => ⟨q.1, _, q.2⟩
          have HSP : Hid (∀ w', Below wr.heap.size wr w' → Calls Try.prog 15 #[.pointer (some ⟨Z, 0, none⟩), (.pointer (some ⟨M, 0, none⟩)), .int .i64 1] w' fun e w'' => (∃ k y, e = .returned (.agg #[.int .i64 k, .int .i64 0, .int .i64 0, .bool y])) ∧ ∃ b' L', EW w w'' M Z s st S u (i + 1) b' L' R) := fun w' hb => (ew_step (HEW.out.later hb) (by omega)).mono fun _ _ q => ⟨⟨_, _, q.1⟩, _, _, q.2⟩
          have HNX : Hid (EW w wr M Z s st S u (i + 1) b L R) := ⟨HEW.out.bw, HEW.out.ei, by have := HEW.out.len; omega⟩
          by_cases ka : yk = 1 ∧ (ak = 2 ∨ ak = 3) ∧ ai ≠ ow
          · obtain ⟨rfl, ka1, ka2⟩ := ka
            have HS3 : Hid (∀ w', Below wr.heap.size wr w' → Calls Try.prog 13 #[(.pointer (some ⟨M, 0, none⟩)), .int .i64 (-1), .agg #[.int .i64 ak, .int .i64 ai, .int .i64 aj], .int .i64 yv] w' fun e w'' => (∃ r, e = .returned (.int .i64 r)) ∧ ∃ L', EW w w'' M Z s st S u (i + 1) b L' R) := HST.out ka1 ka2
            have hak : ak = 2 ∨ (¬ ak = 2 ∧ ak = 3) := by omega
            clear HST HSP HNX ka1
            rcases hak with rfl | ⟨ka1, rfl⟩
            all_goals
              go_wp2_with fail
              go_region_with ((go_at_call 13; refine (HS3.out _ (by first | exact Below.refl _ _ | exact below_drawn (Below.refl _ _) 1)).mono ?_; rintro e z4 ⟨⟨rr, rfl⟩, L4, h4⟩))
              all_goals
                have HE4 : Hid (EW w z4 M Z s st S u (i + 1) b L4 R) := h4
                clear h4
                go_wp2
                go_roundw
                case rel => exact ⟨i + 1, b, L4, by omega, by go_num, HE4.out⟩
                case measure => simp [intOf]; omega
          · have hkc : (yk = 1 ∧ ¬ ak = 2 ∧ ¬ ak = 3) ∨ (yk = 1 ∧ ak = 2 ∧ ai = ow) ∨ (yk = 1 ∧ ¬ ak = 2 ∧ ak = 3 ∧ ai = ow) ∨ (¬ yk = 1 ∧ yk = 2) ∨ (¬ yk = 1 ∧ ¬ yk = 2) := by
              clear r0 r1 r2 r3 r4 r5
              omega
            clear HST ka
            rcases hkc with ⟨rfl, q1, q2⟩ | ⟨rfl, rfl, rfl⟩ | ⟨rfl, q1, rfl, rfl⟩ | ⟨q1, rfl⟩ | ⟨q1, q2⟩
            · go_wp2
              go_roundw
              case rel => exact ⟨i + 1, b, L, by omega, by go_num, HNX.out⟩
              case measure => simp [intOf]; omega
            · go_wp2
              go_roundw
              case rel => exact ⟨i + 1, b, L, by omega, by go_num, HNX.out⟩
              case measure => simp [intOf]; omega
            · go_wp2
              go_roundw
              case rel => exact ⟨i + 1, b, L, by omega, by go_num, HNX.out⟩
              case measure => simp [intOf]; omega
            · go_wp2_with fail
              refine (HSP.out _ (by first | exact Below.refl _ _ | exact below_drawn (Below.refl _ _) _)).mono ?_
              rintro e z4 ⟨⟨kk, yy, rfl⟩, b4, L4, h4⟩
              have HE4 : Hid (EW w z4 M Z s st S u (i + 1) b4 L4 R) := h4
              clear h4 HSP HNX
              go_wp2
              go_roundw
              case rel => exact ⟨i + 1, b4, L4, by omega, by go_num, HE4.out⟩
              case measure => simp [intOf]; omega
            · go_wp2
              go_roundw
              case rel => exact ⟨i + 1, b, L, by omega, by go_num, HNX.out⟩
              case measure => simp [intOf]; omega
        · obtain rfl : i = na := by omega
          have hnn : ¬ (i : Int) < (i : Int) := by omega
          go_wp2
          go_meet
          exact ⟨b, L, HEW.out⟩
    case rest =>
      obtain ⟨b, L, hew0⟩ := hcut
      have HEW : Hid (EW w wc M Z s st S u na b L R) := hew0
      clear hew0 HE2 HAD
      have b1 : wrap64 ((st : Int) - (s : Int)) = (st : Int) - (s : Int) := by obtain ⟨_, _, _, _⟩ := HBG.out; unfold wrap64; omega
      have b2 : wrap64 ((st : Int) - (s : Int) + 1) = (st : Int) - (s : Int) + 1 := by obtain ⟨_, _, _, _⟩ := HBG.out; unfold wrap64; omega
      go_upto_block 4 with fail
      try simp only [b1, b2]
      go_cut [19] (fun _ wx => ∃ (L : List Ac), EW w wx M Z s st S u (na + 16) b L R ∧ HO (enP s st S) L)
      case first =>
        go_wp2_with fail
        go_loopw [19] (fun iv wr => ∃ (j : Nat) (L : List Ac), j < s ∧ iv = .int .i64 ((st : Int) - (s : Int) + 1 + (j : Int)) ∧ EW w wr M Z s st S u (na + j) b L R ∧ HT (enP s st S) L ((st : Int) - (s : Int) + 1 + (j : Int))) (fun iv _ => ((st : Int) - intOf iv).toNat)
        case atStart => exact ⟨0, L, by have := HBG.out.1; omega, by simp, HEW.out, by have h := ht_first (enP s st S) L; rw [show ((0 : Nat) : Int) = 0 from rfl, Int.add_zero]; exact h⟩
        case round =>
          obtain ⟨j, L1, hj, rfl, hew, hht⟩ := hrel
          have HEW1 : Hid (EW w wr M Z s st S u (na + j) b L1 R ∧ HT (enP s st S) L1 ((st : Int) - (s : Int) + 1 + (j : Int))) := ⟨hew, hht⟩
          clear hew hht HEW
          have hbg := HBG.out
          obtain ⟨kz, hkz⟩ : ∃ kz : Int, kz = (st : Int) - (s : Int) + 1 + (j : Int) := ⟨_, rfl⟩
          have HKZ : Hid (kz = (st : Int) - (s : Int) + 1 + (j : Int)) := hkz
          rw [← hkz] at HEW1 ⊢
          by_cases hlt : kz < (st : Int)
          · have hlt' : kz < (st : Int) := hlt
            by_cases hk1 : kz ≥ 1
            · have HST : Hid (∀ w', Below wr.heap.size wr w' → Calls Try.prog 13 #[(.pointer (some ⟨M, 0, none⟩)), .int .i64 (-1), .agg #[.int .i64 2, .int .i64 (slotV kz s), .int .i64 0], .int .i64 (2 * kz + 1)] w' fun e w'' => (∃ r, e = .returned (.int .i64 r)) ∧ ∃ L', EW w w'' M Z s st S u (na + (j + 1)) b L' R ∧ HT (enP s st S) L' (kz + 1)) := fun w' hb => (ew_store (HEW1.out.1.later hb) (by omega) (hdB (enP s st S) kz) (2 * kz + 1) (Or.inl rfl) (slot_ne2 hbg.1 hbg.2.1 hlt (by omega))).mono fun _ _ q => ⟨q.1, _, q.2, ht_store HOK.out HEW1.out.2 hlt rfl⟩
              have c1 : slotV kz (s : Int) = kz.tmod (s : Int) := by
                unfold slotV
                rw [if_pos (sizeOk_iff.mpr ⟨by omega, by omega⟩)]
                exact (Int.tmod_eq_emod_of_nonneg (by omega)).symm
              obtain ⟨sl, hsl⟩ : ∃ sl, kz.tmod (s : Int) = sl := ⟨_, rfl⟩
              rw [c1, hsl] at HST
              have hslb : 0 ≤ sl ∧ sl < (s : Int) := by rw [← hsl, ← c1]; exact slotB_bd HOK.out kz
              have e1 : wrap64 sl = sl := by unfold wrap64; omega
              have e2 : IntKind.i64.wrap sl = sl := by rw [IntKind.wrap_i64]; omega
              have e3 : wrap64 (2 * kz) = 2 * kz := by unfold wrap64; omega
              have e4 : wrap64 (2 * kz + 1) = 2 * kz + 1 := by unfold wrap64; omega
              have e5 : IntKind.i64.wrap (2 * kz) = 2 * kz := by rw [IntKind.wrap_i64]; omega
              have e6 : IntKind.i64.wrap (2 * kz + 1) = 2 * kz + 1 := by rw [IntKind.wrap_i64]; omega
              have e7 : wrap64 (kz + 1) = kz + 1 := by unfold wrap64; omega
              have HNUM : Hid (j + 1 < s ∧ kz + 1 = (st : Int) - (s : Int) + 1 + ((j + 1 : Nat) : Int)) := ⟨by omega, by omega⟩
              clear hkz hslb c1 hbg
              go_wp2_with fail
              refine (HST.out _ (by first | exact Below.refl _ _ | exact below_drawn (Below.refl _ _) _)).mono ?_
              rintro e z5 ⟨⟨rr, rfl⟩, L5, h5, h6⟩
              have HE5 : Hid (EW w z5 M Z s st S u (na + (j + 1)) b L5 R ∧ HT (enP s st S) L5 (kz + 1)) := ⟨h5, h6⟩
              clear h5 h6 HST HEW1
              go_wp2
              go_roundw
              case rel => exact ⟨j + 1, L5, HNUM.out.1, by rw [e7, ← HNUM.out.2], by rw [← HNUM.out.2]; exact HE5.out⟩
              case measure => rw [e7]; simp [intOf]; omega
            · have e7 : wrap64 (kz + 1) = kz + 1 := by unfold wrap64; omega
              have HNUM : Hid (j + 1 < s ∧ kz + 1 = (st : Int) - (s : Int) + 1 + ((j + 1 : Nat) : Int)) := ⟨by omega, by omega⟩
              have HNX : Hid (EW w wr M Z s st S u (na + (j + 1)) b L1 R ∧ HT (enP s st S) L1 (kz + 1)) := ⟨HEW1.out.1.mono (by omega), ht_skip _ _ (by omega)⟩
              clear hkz hbg
              go_wp2
              go_roundw
              case rel => exact ⟨j + 1, L1, HNUM.out.1, by rw [e7, ← HNUM.out.2], by rw [← HNUM.out.2]; exact HNX.out⟩
              case measure => simp [intOf]; omega
          · have HH : Hid (EW w wr M Z s st S u (na + 16) b L1 R ∧ HO (enP s st S) L1) := ⟨HEW1.out.1.mono (by omega), ht_all (by have h := HEW1.out.2; rw [show kz = (st : Int) by omega] at h; exact h)⟩
            have hkst : ¬ kz < (st : Int) := hlt
            clear hkz hbg
            go_wp2
            go_meet
            exact ⟨L1, HH.out⟩
      case rest =>
        obtain ⟨L1, hew1, hho1⟩ := hcut
        have HH : Hid (EW w wc M Z s st S u (na + 16) b L1 R ∧ HO (enP s st S) L1) := ⟨hew1, hho1⟩
        clear hew1 hho1 HEW b1 b2 hown how how2 hsz w1 w1b w1c w2b w2c hi hz0 hz1 hz2
        have b3 : wrap64 ((m : Int) + 11) = (m : Int) + 11 := by unfold wrap64; omega
        go_upto_block 6 with fail
        go_cut [20] (fun _ wx => ∃ (b : Bk) (L : List Ac), EW w wx M Z s st S u (na + 16 + (m + 11)) b L R ∧ HO (enP s st S) L ∧ b.nx = 0)
        case first =>
          go_wp2_with fail
          go_loopw [20] (fun iv wr => ∃ (t : Nat) (b : Bk) (L : List Ac), t ≤ m + 11 ∧ iv = .int .i64 t ∧ EW w wr M Z s st S u (na + 16 + t) b L R ∧ HO (enP s st S) L ∧ mB (enP s st S) b ≤ m + 11 - t) (fun iv _ => m + 11 - (intOf iv).toNat)
          case atStart => exact ⟨0, b, L1, by omega, rfl, HH.out.1, HH.out.2, by have h := mB_le HH.out.1.ei.ok; have h2 : (enP s st S).W.length = m := HM24.out; rw [h2] at h; simpa using h⟩
          case round =>
            obtain ⟨t, b, L2, ht, rfl, hew, hho, hmb⟩ := hrel
            have HE6 : Hid (EW w wr M Z s st S u (na + 16 + t) b L2 R ∧ HO (enP s st S) L2 ∧ mB (enP s st S) b ≤ m + 11 - t) := ⟨hew, hho, hmb⟩
            clear hew hho hmb HH
            by_cases hlt2 : t < m + 11
            · have hlt3 : (t : Int) < (m : Int) + 11 := by omega
              have HSP : Hid (Calls Try.prog 15 #[.pointer (some ⟨Z, 0, none⟩), (.pointer (some ⟨M, 0, none⟩)), .int .i64 1] wr fun e w' => ∃ k y b' L', e = .returned (.agg #[.int .i64 k, .int .i64 0, .int .i64 0, .bool y]) ∧ (k = 0 ∨ k = 2 ∨ k = 3) ∧ EW w w' M Z s st S u (na + 16 + (t + 1)) b' L' R ∧ HO (enP s st S) L' ∧ mB (enP s st S) b' ≤ m + 11 - (t + 1)) := (HEN.out _ _ _ _ _ _ _ _ HE6.out.1 (by omega) HE6.out.2.1).mono fun _ _ ⟨k, y, b', L', q1, q2, _, q3, q4, q5⟩ => ⟨k, y, b', L', q1, q2, q3, q4, by have := HE6.out.2.2; omega⟩
              go_wp2_with fail
              refine HSP.out.mono ?_
              rintro e z6 ⟨k, y, b6, L6, rfl, hk6, h6, h7, h8⟩
              have HE7 : Hid (EW w (z6.alloc (.cells #[.int .i64 k, .int .i64 0, .int .i64 0, .bool y] 52)) M Z s st S u (na + 16 + (t + 1)) b6 L6 R ∧ HO (enP s st S) L6 ∧ mB (enP s st S) b6 ≤ m + 11 - (t + 1)) := ⟨h6.later (below_a1 _ _), h7, h8⟩
              clear h6 h7 h8 HSP HE6
              rcases hk6 with rfl | rfl | rfl
              all_goals
                go_wp2
                go_roundw
                case rel => exact ⟨t + 1, b6, L6, by omega, by go_num, HE7.out⟩
                case measure => simp [intOf]; omega
            · obtain rfl : t = m + 11 := by omega
              have hb0 : b.nx = 0 := mB_zero HE6.out.1.ei.ok (by have := HE6.out.2.2; omega)
              have HB0 : Hid (b.nx = 0) := hb0
              have hnn : ¬ ((m + 11 : Nat) : Int) < (m : Int) + 11 := by omega
              clear hb0
              go_wp2
              go_meet
              exact ⟨b, L2, HE6.out.1, HE6.out.2.1, HB0.out⟩
        case rest =>
          obtain ⟨b5, L5, hew5, hho5, hb05⟩ := hcut
          have HE5 : Hid (EW w wc M Z s st S u (na + 16 + (m + 11)) b5 L5 R ∧ HO (enP s st S) L5 ∧ b5.nx = 0) := ⟨hew5, hho5, hb05⟩
          clear hew5 hho5 hb05 HH b3
          have HSP : Hid (Calls Try.prog 15 #[.pointer (some ⟨Z, 0, none⟩), (.pointer (some ⟨M, 0, none⟩)), .int .i64 1] wc fun e w' => ∃ y L', e = .returned (.agg #[.int .i64 0, .int .i64 0, .int .i64 0, .bool y]) ∧ EW w w' M Z s st S u (na + 16 + (m + 11) + 1) b5 L' R) := (HEN.out _ _ _ _ _ _ _ _ HE5.out.1 (by omega) HE5.out.2.1).mono fun _ _ ⟨k, y, b', L', q1, _, q2, q3, _, _⟩ => by
            obtain ⟨rfl, rfl⟩ := q2 HE5.out.2.2
            exact ⟨y, L', q1, q3⟩
          have HB5 : Hid (b5.nx = 0) := HE5.out.2.2
          have HOB : Hid (0 ≤ ow ∧ ow < (s : Int)) := by rw [Hid, HOW.out]; exact slotB_bd HOK.out (st : Int)
          clear HE5 HEN
          go_wp2_with fail
          refine HSP.out.mono ?_
          rintro e z7 ⟨y7, L7, rfl, h7⟩
          generalize hNN : na + 16 + (m + 11) + 1 = NN at h7
          have HE7 : Hid (EW w (z7.alloc (.cells #[.int .i64 0, .int .i64 0, .int .i64 0, .bool y7] 52)) M Z s st S u NN b5 L7 ((z7.heap.size, .cells #[.int .i64 0, .int .i64 0, .int .i64 0, .bool y7] 52) :: R)) := h7.more _
          have HLF : Hid (Calls Try.prog 18 #[.pointer (some ⟨Z, 0, none⟩)] (z7.alloc (.cells #[.int .i64 0, .int .i64 0, .int .i64 0, .bool y7] 52)) fun e w' => e = .returned (.int .i64 0) ∧ EW w w' M Z s st S u NN b5 L7 ((z7.heap.size, .cells #[.int .i64 0, .int .i64 0, .int .i64 0, .bool y7] 52) :: R)) := ew_left HE7.out HB5.out
          clear h7 HSP hNN HE7
          go_wp2_with fail
          refine HLF.out.mono ?_
          rintro e z8 ⟨rfl, h8⟩
          have HPK : Hid (Calls Try.prog 23 #[.pointer (some ⟨M, 0, none⟩), .agg #[.int .i64 2, .int .i64 ow, .int .i64 0]] z8 fun e w' => e = .returned (.tuple #[.int .i64 (2 * (st : Int) + 1), .int .i64 0]) ∧ EW w w' M Z s st S u NN b5 L7 ((z7.heap.size, .cells #[.int .i64 0, .int .i64 0, .int .i64 0, .bool y7] 52) :: R)) := by
            have hq := ew_peek h8 ⟨2, ow, 0⟩ (by have h := HOB.out; simp [isAd, h.1, h.2])
            rw [HOW.out, ew_head h8 HB5.out, ← HOW.out] at hq
            exact hq
          clear h8 HLF HOB
          go_wp2_with fail
          refine HPK.out.mono ?_
          rintro e z9 ⟨rfl, h9⟩
          have a0 : z9.cell? ⟨z7.heap.size, 0, none⟩ = some (.int .i64 0) := by rw [cell_at (h9.row _ (List.mem_cons_self ..))]; rfl
          have HE9 : Hid (EW w z9 M Z s st S u NN b5 L7 R) := h9.fewer
          clear h9 HPK
          have g1 : wrap64 (2 * (st : Int)) = 2 * (st : Int) := by have := HBG.out.2.2.2; unfold wrap64; omega
          have g2 : wrap64 (2 * (st : Int) + 1) = 2 * (st : Int) + 1 := by have := HBG.out.2.2.2; unfold wrap64; omega
          go_upto_block 8 with fail
          clear a0 g1 g2 HOW HBG HLN HV hbig
          go_wp2_with fail
          go_loopw [26] (fun iv wr => ∃ i : Nat, i ≤ m ∧ iv = .int .i64 i ∧ EW w wr M Z s st S u NN b5 L7 R) (fun iv _ => m - (intOf iv).toNat)
          case atStart => exact ⟨0, by omega, rfl, HE9.out⟩
          case round =>
            obtain ⟨i, hi', rfl, hew⟩ := hrel
            obtain ⟨x6, rfl⟩ : ∃ x6, x6 = wr := ⟨_, rfl⟩
            have HEA : Hid (EW w x6 M Z s st S u NN b5 L7 R) := hew
            clear hew HE9
            by_cases hlt : i < m
            · have hlt' : (i : Int) < (m : Int) := by omega
              have hown6 := HRW.out x6 HEA.out.row
              obtain ⟨g, cap2, hfm, -⟩ := hown6.form (by omega)
              simp at hfm
              obtain ⟨rfl, rfl⟩ := hfm
              have HCL : Hid (∀ w', Below x6.heap.size x6 w' → ∀ i, i < m → w'.cell? ⟨g, i * 2, none⟩ = some (.int .i64 ((inW S 24).getD i noWt).c) ∧ w'.cell? ⟨g, i * 2 + 1, none⟩ = some (.int .i64 ((inW S 24).getD i noWt).v)) := fun w' hb i hi => own_wr (W := inW S 24) (by rw [HM24.out]; exact HRW.out w' (fun z hz => row_on (HEA.out.row z hz) hb)) i (by rw [HM24.out]; exact hi)
              obtain ⟨ci0, ci1⟩ := HCL.out _ (Below.refl _ _) i hlt
              obtain ⟨ic, iv, HIX⟩ : ∃ ic iv, Hid ((inW S 24).getD i noWt = ⟨ic, iv⟩) := ⟨_, _, rfl⟩
              rw [HIX.out] at ci0 ci1
              simp only at ci0 ci1
              have HL0 : Hid (lastW ((inW S 24).take (i + 1)) ic = some iv) := by
                rw [Hid, lastW_take (by rw [HM24.out]; exact hlt), HIX.out]
                exact if_pos rfl
              have HC8 : Hid (0 ≤ ic ∧ ic < 8) := by
                have h := HW8.out _ (show (inW S 24).getD i noWt ∈ inW S 24 by rw [List.getD_eq_getElem?_getD, List.getElem?_eq_getElem (by rw [HM24.out]; exact hlt)]; simp)
                rw [HIX.out] at h
                exact ⟨h.1, h.2.1⟩
              have g3 : wrap64 ((i : Int) + 1) = (i : Int) + 1 := by unfold wrap64; omega
              clear hown6
              go_wp2
              go_loopw [27, 28] (fun vv kv wr => ∃ (k : Nat) (v : Int), i + 1 ≤ k ∧ k ≤ m ∧ kv = .int .i64 k ∧ vv = .int .i64 v ∧ lastW ((inW S 24).take k) ic = some v ∧ Below x6.heap.size x6 wr) (fun _ kv _ => m - (intOf kv).toNat)
              case atStart => exact ⟨i + 1, iv, by omega, by omega, by first | rfl | simp, rfl, HL0.out, Below.refl _ _⟩
              case round =>
                obtain ⟨k, v, hk1, hk2, rfl, rfl, hlw, hbw⟩ := hrel
                have HBW : Hid (Below x6.heap.size x6 wr) := hbw
                clear hbw ci0 ci1
                have HLW : Hid (lastW ((inW S 24).take k) ic = some v) := hlw
                clear hlw HL0
                by_cases hkm : k < m
                · have hkm' : (k : Int) < (m : Int) := by omega
                  obtain ⟨ck0, ck1⟩ := HCL.out _ HBW.out k hkm
                  obtain ⟨ci0, ci1⟩ := HCL.out _ HBW.out i hlt
                  rw [HIX.out] at ci0 ci1
                  simp only at ci0 ci1
                  have HLT : Hid (lastW ((inW S 24).take (k + 1)) ic = if ((inW S 24).getD k noWt).c = ic then some ((inW S 24).getD k noWt).v else lastW ((inW S 24).take k) ic) := lastW_take (by rw [HM24.out]; exact hkm) ic
                  generalize (inW S 24).getD k noWt = xk at *
                  obtain ⟨kc, kv⟩ := xk
                  simp only at ck0 ck1 HLT
                  have g4 : wrap64 ((k : Int) + 1) = (k : Int) + 1 := by unfold wrap64; omega
                  by_cases hce : kc = ic
                  · subst hce
                    go_wp2_with fail
                    go_quiet (fail)
                    go_wp2
                    go_roundw
                    case rel => exact ⟨k + 1, kv, by omega, by omega, by go_num, rfl, by rw [HLT.out]; simp, below_drawn HBW.out _⟩
                    case measure => simp [intOf]; omega
                  · have hcb : (kc == ic) = false := by simp [hce]
                    go_wp2_with fail
                    go_quiet (fail)
                    go_wp2
                    go_roundw
                    case rel => exact ⟨k + 1, v, by omega, by omega, by go_num, rfl, by rw [HLT.out, if_neg hce]; exact HLW.out, below_drawn HBW.out _⟩
                    case measure => simp [intOf]; omega
                · obtain rfl : k = m := by omega
                  have hlw : lastW (inW S 24) ic = some v := by have h := HLW.out; rw [← HM24.out, List.take_length] at h; exact h
                  obtain ⟨ci0, ci1⟩ := HCL.out _ HBW.out i hlt
                  rw [HIX.out] at ci0 ci1
                  simp only at ci0 ci1
                  have HPK : Hid (Calls Try.prog 23 #[.pointer (some ⟨M, 0, none⟩), .agg #[.int .i64 4, .int .i64 ic, .int .i64 0]] wr fun e w' => e = .returned (.tuple #[.int .i64 v, .int .i64 0]) ∧ EW w w' M Z s st S u NN b5 L7 R) := by
                    have hq := ew_peek (HEA.out.later HBW.out) ⟨4, ic, 0⟩ (by have := HC8.out; simp [isAd, this.1, this.2])
                    rw [ew_cell HEA.out HB5.out hlw] at hq
                    exact hq
                  have hnn : ¬ (k : Int) < (k : Int) := by omega
                  clear hlw
                  go_wp2_with fail
                  refine HPK.out.mono ?_
                  rintro e z10 ⟨rfl, h10⟩
                  have HE10 : Hid (EW w z10 M Z s st S u NN b5 L7 R) := h10
                  clear h10 HPK
                  go_wp2
                  go_roundw
                  case rel => exact ⟨i + 1, by omega, by go_num, HE10.out⟩
                  case measure => simp [intOf]; omega
            · obtain rfl : i = m := by omega
              have hnn : ¬ (i : Int) < (i : Int) := by omega
              go_wp2
              go_ret
              exact ⟨rfl, HEA.out.bel⟩
end Go.Proofs.Ytbmmicfdnfpcaaa
