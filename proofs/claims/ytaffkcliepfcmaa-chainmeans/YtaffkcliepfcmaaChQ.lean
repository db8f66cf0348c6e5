/- ChainMeans, walked: over cells the calls do what rising keys do. -/
import Derived.Test.YtaffkcliepfcmaaChMf
import Derived.Test.YtaffkcliepfcmaaChSx
import Derived.Test.YtaffkcliepfcmaaCoA
import Derived.Deep.LoopGhost
import Derived.Deep.CutBlock
import Derived.Deep.DeepCutAuto
namespace Go.Proofs.Ytaffkcliepfcmaa.Ch
open Go.ChangeShapes Go.WideShapes Go.ChangeAt Go.RowKit
attribute [local go_sem ↓] Go.wp_at_zero Go.wp_at_succ

/-- The cells, the keys that are meant, and the shape's variable, as they lie. -/
structure CQ (w0 wr : World) (n gc cap gs : Nat) (C : List Int) (vw : Value) (K : List Int) : Prop where
  bel : Below w0.heap.size w0 wr
  rc : wr.ownsRow w0.heap.size 2 1 (.slice (some ⟨gc, 0, none⟩) (2 * n + 3) cap) (2 * n + 3) (numC C)
  nl : Nl wr vw K
  ap : ∀ b m c, vw = .slice (some b) m c → b.block ≠ gc ∧ b.block ≠ gs
  sh : ∃ old : Array Value, old.size = 3 ∧ wr.heap[gs]? = some (.cells old 35 (0, 0))
theorem CQ.later {w0 wr w' : World} {n gc cap gs : Nat} {C : List Int} {vw : Value} {K : List Int} (h : CQ w0 wr n gc cap gs C vw K) (hb : Below wr.heap.size wr w') : CQ w0 w' n gc cap gs C vw K := by
  obtain ⟨old, hz, ho⟩ := h.sh
  exact ⟨h.bel.trans (hb.mono h.bel.size), own_keep h.rc (Keep.of_below hb []) (by simp), h.nl.later hb (Nat.le_refl _), h.ap, old, hz, by rw [hb.block _ (heap_lt ho)]; exact ho⟩
theorem CQ.done {w0 wr w4 : World} {n gc cap gs : Nat} {C C' : List Int} {vw : Value} {K : List Int} (h : CQ w0 wr n gc cap gs C vw K) (hk : Keep [gc] wr w4) (hr : w4.ownsRow w0.heap.size 2 1 (.slice (some ⟨gc, 0, none⟩) (2 * n + 3) cap) (2 * n + 3) (numC C')) : CQ w0 w4 n gc cap gs C' vw K := by
  obtain ⟨old, hz, ho⟩ := h.sh
  have hgs : gs ≠ gc := fun e => own_ne h.rc ho (by decide) (by rw [e]; rfl)
  exact ⟨h.bel.trans (hk.below h.bel.size (by simpa using (own_block h.rc gc rfl).1)), hr, h.nl.keep hk (fun a m c e => by simpa using (h.ap a m c e).1), h.ap, old, hz, by rw [hk.block _ (heap_lt ho) (by simpa using hgs)]; exact ho⟩
theorem CQ.mean {w0 wr w' : World} {n gc cap gs : Nat} {C : List Int} {vw v' : Value} {K K' : List Int} (h : CQ w0 wr n gc cap gs C vw K) (hb : Below wr.heap.size wr w') (hn : Nl w' v' K') (hv : v' = vw ∨ ∀ b m c, v' = .slice (some b) m c → wr.heap.size ≤ b.block) : CQ w0 w' n gc cap gs C v' K' := by
  obtain ⟨old, hz, ho⟩ := h.sh
  refine ⟨h.bel.trans (hb.mono h.bel.size), own_keep h.rc (Keep.of_below hb []) (by simp), hn, fun b m c e => ?_, old, hz, by rw [hb.block _ (heap_lt ho)]; exact ho⟩
  rcases hv with rfl | hv
  · exact h.ap b m c e
  · have h1 := hv b m c e
    have h2 := (own_block h.rc gc rfl).2
    have h3 := heap_lt ho
    omega
theorem rq_of {m : Nat} {c : Int} {n : Nat} (hm : m ≤ 16) (h : arV c = n) : rightV 0 m c n = true := by
  unfold rightV takesV
  simp only [Bool.and_eq_true, decide_eq_true_eq]
  omega
/-- A call, done over the cells. -/
theorem dq_any {w0 wr : World} {n gc cap gs : Nat} {c : Int} {A C : List Int} {L Fr : List Nat} {vw va : Value} {K : List Int} (hn : n ≤ 16) (hq : CQ w0 wr n gc cap gs C vw K) (hi : CInv n C L Fr) (hS : ∀ x ∈ C, Sx x) (ha : Nl wr va A) (hr : rightV 0 n c A.length = true) :
    Calls Try.prog 12 #[.slice (some ⟨gc, 0, none⟩) (2 * n + 3) cap, .int .i64 0, .int .i64 (n : Int), .int .i64 c, va] wr fun e w'' => e = .returned (.tuple #[.int .i64 (meanV n c A (kys C L)).2.1, .int .i64 (meanV n c A (kys C L)).2.2, .bool true]) ∧ ∃ C' L' Fr', CQ w0 w'' n gc cap gs C' vw K ∧ CInv n C' L' Fr' ∧ (∀ x ∈ C', Sx x) ∧ kys C' L' = (meanV n c A (kys C L)).1 := by
  obtain ⟨L', Fr', h1, h2, h3⟩ := call_means hn hr hi hS ha.w64
  have hrun := run_first (most := (n : Int)) (call := c) (A := A) (C := C) hr (by have := hi.len; omega)
  refine (done_run 0 (n : Int) c ha hr hq.rc).mono ?_
  rintro e w'' ⟨e1, e2, e3⟩
  rw [hrun] at e1 e2
  simp only at e1 e2
  exact ⟨by rw [h3]; exact e1, _, L', Fr', hq.done e3 e2, h1, h2, by rw [h3]⟩
theorem mq_wrap {n i : Nat} (hn : n ≤ 17592186044416) (hi : i < n) : wrap64 ((i : Int) + 1) = ((i + 1 : Nat) : Int) := by
  unfold wrap64
  omega
theorem mq_lt (i n : Nat) (h : i < n) : decide ((i : Int) < (n : Int)) = true := by simpa using h
theorem mq_ge (i n : Nat) (h : ¬ i < n) : decide ((i : Int) < (n : Int)) = false := by simpa using h
theorem mq_less {i k : Nat} (h : i < k) : k - (i + 1) < k - i := by omega
set_option maxRecDepth 100000 in
set_option maxHeartbeats 4000000 in
theorem means_no {w : World} (m : Int) {vc v : Value} {L : List Int} {S : List (Int × List Int)} (hc : Nl w vc L) (hv : Cl w v S) (he : (outS m L).2.2 = 1 ∨ (outS m L).2.2 = 12) : Calls Try.prog 4 #[.int .i64 m, vc, v] w fun e w' => e = .returned (.bool true) ∧ Below w.heap.size w w' := by
  have HSH : Hid (∀ w' : World, Below w.heap.size w w' → Calls Try.prog 8 #[.int .i64 m, vc] w' fun e w'' => ∃ u, e = .returned (.tuple #[.agg (shC (outS m L).1 u (.slice none 0 0)), .int .i64 (outS m L).2.2]) ∧ w''.ownsRow w'.heap.size 2 1 u (outS m L).2.1.length (numC (outS m L).2.1) ∧ Below w'.heap.size w' w'') := fun w' hb => shape_any m (hc.later hb (Nat.le_refl _))
  have HRH : Hid (∀ w' : World, Below w.heap.size w w' → Calls Try.prog 9 #[.int .i64 m, vc] w' fun e w'' => ∃ u, e = .returned (.tuple #[.agg (shC (outS m L).1 u (.slice none 0 0)), .int .i64 (outS m L).2.2]) ∧ w''.ownsRow w'.heap.size 2 1 u (outS m L).2.1.length (numC (outS m L).2.1) ∧ Below w'.heap.size w' w'') := fun w' hb => rshape_any m (hc.later hb (Nat.le_refl _))
  obtain ⟨ca, ccap, rfl⟩ := nl_slice hc
  obtain ⟨la, lcap, rfl, hSl, hl⟩ := hv
  clear hl hc
  generalize (outS m L).1 = K at *
  generalize (outS m L).2.2 = E at *
  generalize (outS m L).2.1 = V at *
  rcases he with rfl | rfl
  all_goals
    go_enter Try.func4, Try.ntmps4
    go_wp2_with fail
    refine (HSH.out _ (Below.refl _ _)).mono ?_
    rintro e w2 ⟨u2, rfl, ho2, hb2⟩
    have HB2 : Hid (Below w.heap.size w w2) := hb2
    obtain ⟨w3, hs3, hr3, hb3, hz3⟩ := new_sh (P := Try.prog) (w := w2) (t := 35) (z := #[.int .i64 0, .slice none 0 0, .slice none 0 0]) rfl (shC_size K u2 (.slice none 0 0)) (shC_one K u2 ho2)
    have HB3 : Hid (Below w.heap.size w w3) := below_then HB2.out hb3
    have hc2 : (shC K u2 (.slice none 0 0)).size = 3 := rfl
    generalize hk2 : shC K u2 (.slice none 0 0) = k2 at *
    clear hb2 ho2 hb3 hr3 HSH HB2 hk2
    go_wp2_with fail
    refine (HRH.out _ HB3.out).mono ?_
    rintro e w4 ⟨u4, rfl, ho4, hb4⟩
    obtain ⟨w5, hs5, hr5, hb5, hz5⟩ := new_sh (P := Try.prog) (w := w4) (t := 35) (z := #[.int .i64 0, .slice none 0 0, .slice none 0 0]) rfl (shC_size K u4 (.slice none 0 0)) (shC_one K u4 ho4)
    have HB4 : Hid (Below w.heap.size w w5) := below_then (below_then HB3.out hb4) hb5
    have hc4 : (shC K u4 (.slice none 0 0)).size = 3 := rfl
    generalize hk4 : shC K u4 (.slice none 0 0) = k4 at *
    clear hb4 ho4 HRH HB3 hk4 hr5 hb5
    go_wp2_with fail
    go_ret
    exact ⟨rfl, HB4.out⟩
set_option maxRecDepth 100000 in
set_option maxHeartbeats 4000000 in
theorem means_yes {w : World} (n : Nat) (hn16 : n ≤ 16) {vc v : Value} {L : List Int} {Ln Fr : List Nat} {S : List (Int × List Int)} (hc : Nl w vc L) (hv : Cl w v S) (hinv : CInv n L Ln Fr) : Calls Try.prog 4 #[.int .i64 (n : Int), vc, v] w fun e w' => e = .returned (.bool true) ∧ Below w.heap.size w w' := by
  have HSH : Hid (∀ (w' : World) (v' : Value) (C : List Int) (L Fr : List Nat), CInv n C L Fr → Nl w' v' C → Calls Try.prog 8 #[.int .i64 (n : Int), v'] w' fun e w'' => ∃ u, e = .returned (.tuple #[.agg (shC 4 u (.slice none 0 0)), .int .i64 0]) ∧ w''.ownsRow w'.heap.size 2 1 u (kys C L).length (numC (kys C L)) ∧ Below w'.heap.size w' w'') := fun w' v' C L Fr hi h => by
    have := shape_any (n : Int) h
    rw [out_inv hn16 hi] at this
    exact this
  have HRH : Hid (∀ w' : World, Below w.heap.size w w' → Calls Try.prog 9 #[.int .i64 (n : Int), vc] w' fun e w'' => ∃ u, e = .returned (.tuple #[.agg (shC 4 u (.slice none 0 0)), .int .i64 0]) ∧ w''.ownsRow w'.heap.size 2 1 u (kys L Ln).length (numC (kys L Ln)) ∧ Below w'.heap.size w' w'') := fun w' hb => by
    have := rshape_any (n : Int) (hc.later hb (Nat.le_refl _))
    rw [out_inv hn16 hinv] at this
    exact this
  obtain ⟨ca, ccap, rfl⟩ := nl_slice hc
  have HNC : Hid (∀ w' : World, Below w.heap.size w w' → Nl w' (.slice ca L.length ccap) L) := fun w' hb => hc.later hb (Nat.le_refl _)
  obtain ⟨la, lcap, rfl, hSl, hl⟩ := hv
  have HEL : Hid (∀ i, i < S.length → ∃ x u, la = some x ∧ ∀ w' : World, Below w.heap.size w w' → w'.cell? (x.add (i * 2)) = some (.int .i64 (S.getD i (0, [])).1) ∧ w'.cell? ⟨(x.add (i * 2)).block, (x.add (i * 2)).off + 1, none⟩ = some u ∧ Nl w' u (S.getD i (0, [])).2) := fun i hi => by
    obtain ⟨x, hx, hxb, hc⟩ := hl.resolve_left (by omega)
    obtain ⟨u, h1, h2, h3⟩ := hc i hi
    exact ⟨x, u, hx, fun w' hb => ⟨cell_later hb (by rw [add_block]; exact hxb) h1, cell_later (a := ⟨(x.add (i * 2)).block, (x.add (i * 2)).off + 1, none⟩) hb (show (x.add (i * 2)).block < _ by rw [add_block]; exact hxb) h2, h3.later hb (Nat.le_refl _)⟩⟩
  have HCW : Hid (∀ x ∈ L, Sx x) := hc.w64
  have HVS : Hid ((kys L Ln).length ≤ 17592186044416 ∧ ∀ x ∈ kys L Ln, Sx x) := by
    have h1 := hinv.most
    have h2 := hinv.node
    have h3 := hinv.len
    refine ⟨by rw [kys_len]; omega, fun x hx => ?_⟩
    simp only [kys, List.mem_map] at hx
    obtain ⟨i, hi, rfl⟩ := hx
    have := h2 i (by simp [hi])
    have h9 : ky i < L.length := by unfold ky; omega
    rw [nth_at h9]
    exact hc.w64 _ (List.getElem_mem h9)
  have HI0 : Hid (CInv n L Ln Fr) := hinv
  have HLn : Hid (L.length = 2 * n + 3) := hinv.len
  have HSH0 : Hid (Calls Try.prog 8 #[.int .i64 (n : Int), .slice ca L.length ccap] w fun e w'' => ∃ u, e = .returned (.tuple #[.agg (shC 4 u (.slice none 0 0)), .int .i64 0]) ∧ w''.ownsRow w.heap.size 2 1 u (kys L Ln).length (numC (kys L Ln)) ∧ Below w.heap.size w w'') := HSH.out w _ L Ln Fr hinv (HNC.out w (Below.refl _ _))
  clear hl hc hinv
  generalize hVV : kys L Ln = V at *
  have HVV : Hid (kys L Ln = V) := hVV
  clear hVV
  go_enter Try.func4, Try.ntmps4
  go_wp2_with fail
  refine HSH0.out.mono ?_
  rintro e w2 ⟨u2, rfl, ho2, hb2⟩
  have HB2 : Hid (Below w.heap.size w w2) := hb2
  obtain ⟨w3, hs3, hr3, hb3, hz3⟩ := new_sh (P := Try.prog) (w := w2) (t := 35) (z := #[.int .i64 0, .slice none 0 0, .slice none 0 0]) rfl (shC_size 4 u2 (.slice none 0 0)) (shC_one 4 u2 ho2)
  have HB3 : Hid (Below w.heap.size w w3) := below_then HB2.out hb3
  have HV3 : Hid (Nl w3 u2 V ∧ w3.heap[w2.heap.size]? = some (.cells (shC 4 u2 (.slice none 0 0)) 35 (0, 0))) := ⟨(Nl.of_own ho2 HVS.out.1 HVS.out.2).later hb3 (Nat.le_refl _), hr3⟩
  have hc2 : (shC 4 u2 (.slice none 0 0)).size = 3 := rfl
  generalize hk2 : shC 4 u2 (.slice none 0 0) = k2 at hs3 hc2 ⊢
  have HGL0 : Hid (w.heap.size ≤ w2.heap.size) := HB2.out.size
  clear hb2 ho2 hb3 hr3 HSH0 HB2 hk2
  go_wp2_with fail
  refine (HRH.out _ HB3.out).mono ?_
  rintro e w3' ⟨u4, rfl, ho4, hb3'⟩
  obtain ⟨w4, hs5, hr5, hb5, hz5⟩ := new_sh (P := Try.prog) (w := w3') (t := 35) (z := #[.int .i64 0, .slice none 0 0, .slice none 0 0]) rfl (shC_size 4 u4 (.slice none 0 0)) (shC_one 4 u4 ho4)
  have hb4 := below_then hb3' hb5
  have HB4 : Hid (Below w.heap.size w w4) := below_then HB3.out hb4
  have HV4 : Hid (Nl w4 u2 V ∧ w4.heap[w2.heap.size]? = some (.cells (shC 4 u2 (.slice none 0 0)) 35 (0, 0))) := ⟨HV3.out.1.later hb4 (Nat.le_refl _), by rw [hb4.block _ (heap_lt HV3.out.2)]; exact HV3.out.2⟩
  have hc4 : (shC 4 u4 (.slice none 0 0)).size = 3 := rfl
  generalize hk4 : shC 4 u4 (.slice none 0 0) = k4 at hc4 hs5 ⊢
  clear hb4 ho4 HRH HB3 hk4 HV3 hs3 hz3 hr5 hb5 hb3'
  go_wp2_with fail
  refine (numbers_any (HNC.out _ HB4.out)).mono ?_
  rintro e w5 ⟨v5, rfl, ho5, hb5⟩
  have HB5 : Hid (Below w.heap.size w w5) := below_then HB4.out hb5
  have HV5 : Hid (Nl w5 u2 V ∧ w5.heap[w2.heap.size]? = some (.cells (shC 4 u2 (.slice none 0 0)) 35 (0, 0))) := ⟨HV4.out.1.later hb5 (Nat.le_refl _), by rw [hb5.block _ (heap_lt HV4.out.2)]; exact HV4.out.2⟩
  have HO5 : Hid (w5.ownsRow w.heap.size 2 1 v5 L.length (numC L)) := own_base ho5 HB4.out.size
  obtain ⟨gc, gcap, hv5⟩ : ∃ gc gcap, v5 = .slice (some ⟨gc, 0, none⟩) (2 * n + 3) gcap := by
    rcases HO5.out.2 with ⟨_, h0⟩ | ⟨g, cap, cur, e, _⟩
    · rw [HLn.out] at h0; exact absurd h0 (Nat.succ_ne_zero _)
    · exact ⟨g, cap, by rw [e, HLn.out]⟩
  subst hv5
  rw [HLn.out] at HO5
  obtain ⟨ua, uc, hu2⟩ := nl_slice HV5.out.1
  subst hu2
  obtain ⟨gs, hgs⟩ : ∃ gs, gs = w2.heap.size := ⟨_, rfl⟩
  rw [← hgs] at HV5 HGL0 ⊢
  have s1 : w5.cell? ⟨gs, 1, none⟩ = some (.slice ua V.length uc) := by rw [cell_at HV5.out.2]; rfl
  clear hb5 ho5 HV4 HB4 hs5 hz5 hgs
  go_wp2_with fail
  refine (numbers_any HV5.out.1).mono ?_
  rintro e w6 ⟨v6, rfl, ho6, hb6⟩
  have HQ6 : Hid (CQ w w6 n gc gcap gs L v6 V) := by
    refine ⟨below_then HB5.out hb6, own_keep HO5.out (Keep.of_below hb6 []) (by simp), Nl.of_own ho6 HVS.out.1 HVS.out.2, fun b m c e => ?_, _, rfl, by rw [hb6.block _ (heap_lt HV5.out.2)]; exact HV5.out.2⟩
    have h1 := (own_block ho6 b.block (by rw [e]; rfl)).1
    have h2 := (own_block HO5.out gc rfl).2
    have h3 := heap_lt HV5.out.2
    omega
  obtain ⟨va6, vc6, rfl⟩ := own_slice ho6
  clear ho6 hb6 s1 HV5 HO5 HB5 hc2 hc4
  generalize hSn : S.length = sn at *
  clear hSn
  go_wp2_with fail
  go_loopg [12, 13] sn (fun gh kv iv wr => ∃ (i : Nat) (C : List Int) (Lc Fc : List Nat), gh = sn - i ∧ i ≤ sn ∧ iv = .int .i64 (i : Int) ∧ CQ w wr n gc gcap gs C kv (kys C Lc) ∧ CInv n C Lc Fc ∧ ∀ x ∈ C, Sx x)
  case atStart => exact ⟨0, L, Ln, Fr, rfl, Nat.zero_le _, rfl, by rw [HVV.out]; exact HQ6.out, HI0.out, HCW.out⟩
  case round =>
    obtain ⟨i, C, Lc, Fc, rfl, hi2, rfl, hqm, hin, hsx⟩ := hrel
    have HIN : Hid (CInv n C Lc Fc ∧ ∀ x ∈ C, Sx x) := ⟨hin, hsx⟩
    have HKL : Hid ((kys C Lc).length ≤ 90) := by have : (kys C Lc).length ≤ 90 := (by have := hin.most; rw [kys_len]; omega); exact this
    obtain ⟨KK, hKK⟩ : ∃ KK, kys C Lc = KK := ⟨_, rfl⟩
    rw [hKK] at hqm HKL
    have HKK : Hid (kys C Lc = KK) := hKK
    have HQR : Hid (CQ w wr n gc gcap gs C u12 KK) := hqm
    obtain ⟨ra, rcap, rfl⟩ := nl_slice hqm.nl
    clear hqm hin hsx hKK HQ6 HI0 HCW HVV
    by_cases hlt : i < sn
    · have hd := mq_lt i sn hlt
      have HIW : Hid (wrap64 ((i : Int) + 1) = ((i + 1 : Nat) : Int)) := mq_wrap hSl hlt
      obtain ⟨x, u, rfl, hel⟩ := HEL.out i hlt
      generalize (S.getD i (0, [])).1 = c at hel
      generalize (S.getD i (0, [])).2 = A at hel
      have HE : Hid (∀ w' : World, Below w.heap.size w w' → w'.cell? (x.add (i * 2)) = some (.int .i64 c) ∧ w'.cell? ⟨(x.add (i * 2)).block, (x.add (i * 2)).off + 1, none⟩ = some u ∧ Nl w' u A) := hel
      obtain ⟨l0, l1, hnl⟩ := hel wr HQR.out.bel
      obtain ⟨ua', uc', rfl⟩ := nl_slice hnl
      clear hel hnl
      have HC : Hid (∀ (w : World) (c : Int), Calls Try.prog 11 #[.int .i64 c] w fun e w' => e = .returned (.int .i64 (arV c)) ∧ w' = w) := fun w c => rarity_any w c
      by_cases har : arV c = (A.length : Int)
      · have hq1 : (arV c == (A.length : Int)) = true := by simpa using har
        have HAR : Hid (arV c = (A.length : Int)) := har
        clear har
        go_wp2_with fail
        go_quiet ((go_at_call 11; refine Calls.quiet_of_same (HC.out _ _)))
        obtain ⟨w3, hw3⟩ : ∃ w3, w3 = wr.drewN nq := ⟨_, rfl⟩
        have HQ3 : Hid (CQ w w3 n gc gcap gs C (.slice ra KK.length rcap) KK) := by rw [Hid, hw3]; exact HQR.out.later (below_drawn (Below.refl _ _) _)
        obtain ⟨m0, m1, _⟩ := HE.out w3 HQ3.out.bel
        rw [← hw3]
        clear hw3 l0 l1 HC HQR
        have HRR : Hid (rightV 0 n c A.length = true) := rq_of hn16 HAR.out
        obtain ⟨rm, hrm⟩ : ∃ rm, meanV n c A KK = rm := ⟨_, rfl⟩
        have HDC : Hid (∀ w' : World, CQ w w' n gc gcap gs C (.slice ra KK.length rcap) KK → Calls Try.prog 12 #[.slice (some ⟨gc, 0, none⟩) (2 * n + 3) gcap, .int .i64 0, .int .i64 (n : Int), .int .i64 c, .slice ua' A.length uc'] w' fun e w'' => e = .returned (.tuple #[.int .i64 rm.2.1, .int .i64 rm.2.2, .bool true]) ∧ ∃ C' L' Fr', CQ w w'' n gc gcap gs C' (.slice ra KK.length rcap) KK ∧ CInv n C' L' Fr' ∧ (∀ x ∈ C', Sx x) ∧ kys C' L' = rm.1) := fun w' hq => by
          have := dq_any hn16 hq HIN.out.1 HIN.out.2 (HE.out w' hq.bel).2.2 HRR.out
          rw [HKK.out, hrm] at this
          exact this
        have HMN : Hid (∀ (w' : World) (C' : List Int), CQ w w' n gc gcap gs C' (.slice ra KK.length rcap) KK → Calls Try.prog 13 #[.slice ra KK.length rcap, .int .i64 (n : Int), .int .i64 c, .slice ua' A.length uc'] w' fun e w'' => ∃ v', e = .returned (.tuple #[v', .int .i64 rm.2.1, .int .i64 rm.2.2]) ∧ CQ w w'' n gc gcap gs C' v' rm.1) := fun w' C' hq => by
          refine (means_all hq.nl HKL.out (HE.out w' hq.bel).2.2 HRR.out).mono ?_
          rw [hrm]
          rintro e w'' ⟨v', h1, h2, h3, h4⟩
          exact ⟨v', h1, hq.mean h2 h3 h4⟩
        clear hrm
        go_wp2_with fail
        go_cut [14, 15, 16] (fun v0 c0 f0 wx => v0 = .int .i64 rm.2.1 ∧ c0 = .int .i64 rm.2.2 ∧ f0 = .bool true ∧ ∃ C' L' Fr', CQ w wx n gc gcap gs C' (.slice ra KK.length rcap) KK ∧ CInv n C' L' Fr' ∧ (∀ x ∈ C', Sx x) ∧ kys C' L' = rm.1)
        case first =>
          go_region_held3 (fun w' => w'.cell? (x.add (i * 2)) = some (.int .i64 c) ∧ w'.cell? ⟨(x.add (i * 2)).block, (x.add (i * 2)).off + 1, none⟩ = some (.slice ua' A.length uc')) (first | go_keep | exact hS) (first
            | (go_at_call 12; refine (HDC.out _ (HQ3.out.later (bl_drew1 _))).mono ?_; rintro e w4 ⟨rfl, hq4⟩; have hS : w4.cell? (x.add (i * 2)) = some (.int .i64 c) ∧ w4.cell? ⟨(x.add (i * 2)).block, (x.add (i * 2)).off + 1, none⟩ = some (.slice ua' A.length uc') := by obtain ⟨_, _, _, hq5, _⟩ := hq4; exact ⟨(HE.out w4 hq5.bel).1, (HE.out w4 hq5.bel).2.1⟩))
          go_wp2_with fail
          go_meet
          exact ⟨rfl, rfl, rfl, hq4⟩
        case rest =>
          obtain ⟨rfl, rfl, rfl, C', L', Fr', hdn, hi', hs', hk'⟩ := hcut
          have HDN : Hid (CQ w wc n gc gcap gs C' (.slice ra KK.length rcap) KK) := hdn
          have HI' : Hid (CInv n C' L' Fr' ∧ (∀ x ∈ C', Sx x) ∧ kys C' L' = rm.1) := ⟨hi', hs', hk'⟩
          obtain ⟨l0, l1, _⟩ := HE.out wc hdn.bel
          clear hdn HQ3 m0 m1 HDC hi' hs' hk'
          generalize hr1 : rm.2.1 = r1 at *
          generalize hr2 : rm.2.2 = r2 at *
          clear hr1 hr2
          go_wp2_with fail
          go_cut [17, 18, 19] (fun v0 c0 f0 wx => c0 = .int .i64 r1 ∧ f0 = .int .i64 r2 ∧ CQ w wx n gc gcap gs C' v0 rm.1)
          case first =>
            go_region_held3 (fun w' => w'.cell? (x.add (i * 2)) = some (.int .i64 c) ∧ w'.cell? ⟨(x.add (i * 2)).block, (x.add (i * 2)).off + 1, none⟩ = some (.slice ua' A.length uc')) (first | go_keep | exact hS) (first
              | (go_at_call 13; refine (HMN.out _ _ (HDN.out.later (bl_drew1 _))).mono ?_; rintro e w4 ⟨v4, rfl, hq4⟩; have hS : w4.cell? (x.add (i * 2)) = some (.int .i64 c) ∧ w4.cell? ⟨(x.add (i * 2)).block, (x.add (i * 2)).off + 1, none⟩ = some (.slice ua' A.length uc') := ⟨(HE.out w4 hq4.bel).1, (HE.out w4 hq4.bel).2.1⟩))
            go_wp2_with fail
            go_meet
            exact ⟨rfl, rfl, hq4⟩
          case rest =>
            obtain ⟨rfl, rfl, hdm⟩ := hcut
            have HDM : Hid (CQ w wc n gc gcap gs C' u17 rm.1) := hdm
            clear hdm HDN l0 l1 HMN HE
            go_wp2_with fail
            go_roundg (sn - (i + 1))
            case rel => exact ⟨i + 1, C', L', Fr', rfl, hlt, by first | rw [HIW.out] | go_num, by rw [HI'.out.2.2]; exact HDM.out, HI'.out.1, HI'.out.2.1⟩
            case measure => exact mq_less hlt
      · have hq1 : (arV c == (A.length : Int)) = false := by simpa using har
        clear har
        go_wp2_with fail
        go_quiet ((go_at_call 11; refine Calls.quiet_of_same (HC.out _ _)))
        go_wp2_with fail
        go_roundg (sn - (i + 1))
        case rel => exact ⟨i + 1, C, Lc, Fc, rfl, hlt, by first | rw [HIW.out] | go_num, by rw [HKK.out]; exact HQR.out.later (below_drawn (Below.refl _ _) _), HIN.out⟩
        case measure => exact mq_less hlt
    · have hd := mq_ge i sn hlt
      have HN : Hid (Nl wr (.slice (some ⟨gc, 0, none⟩) (2 * n + 3) gcap) C) := by
        have h1 := HIN.out.1.len
        have h2 := HQR.out.rc
        rw [← h1] at h2 ⊢
        exact Nl.of_own h2 (by omega) HIN.out.2
      obtain ⟨old, hold, hogs⟩ := HQR.out.sh
      have HSH2 := HSH.out wr _ C Lc Fc HIN.out.1 HN.out
      rw [HKK.out] at HSH2
      have HSH3 : Hid (Calls Try.prog 8 #[.int .i64 (n : Int), .slice (some ⟨gc, 0, none⟩) (2 * n + 3) gcap] wr fun e w'' => ∃ u, e = .returned (.tuple #[.agg (shC 4 u (.slice none 0 0)), .int .i64 0]) ∧ w''.ownsRow wr.heap.size 2 1 u KK.length (numC KK) ∧ Below wr.heap.size wr w'') := HSH2
      clear HEL HSH HSH2 HN
      go_wp2_with fail
      refine HSH3.out.mono ?_
      rintro e w4 ⟨u4, rfl, ho4, hb4⟩
      have HQ4 : Hid (CQ w w4 n gc gcap gs C (.slice ra KK.length rcap) KK) := HQR.out.later hb4
      have hg4 : w4.heap[gs]? = some (.cells old 35 (0, 0)) := by rw [hb4.block _ (heap_lt hogs)]; exact hogs
      have hst := store_sh (P := Try.prog) hg4 hold (shC_size 4 u4 (.slice none 0 0)) (shC_one 4 u4 ho4)
      have HG5 : Hid ((w4.setRow gs (shC 4 u4 (.slice none 0 0))).heap[gs]? = some (.cells (shC 4 u4 (.slice none 0 0)) 35 (0, 0))) := setRow_heap _ _ _ _ _ _ hg4
      obtain ⟨w5', hw5⟩ : ∃ w5', w5' = w4.setRow gs (shC 4 u4 (.slice none 0 0)) := ⟨_, rfl⟩
      rw [← hw5] at hst HG5
      have HK5 : Hid (Keep [gs] w4 w5') := by rw [Hid, hw5]; exact Keep.row _ _ _
      have HN5 : Hid (Nl w5' u4 KK ∧ Nl w5' (.slice ra KK.length rcap) KK ∧ Below w.heap.size w w5') := by
        have hu : w5'.ownsRow wr.heap.size 2 1 u4 KK.length (numC KK) := own_keep ho4 HK5.out (fun b hb => by simp; exact fun e => own_ne ho4 hg4 (by decide) (by rw [hb, e]))
        exact ⟨Nl.of_own hu (by have := HKL.out; omega) HQ4.out.nl.w64, HQ4.out.nl.keep HK5.out (fun a m c e => by simpa using (HQ4.out.ap a m c e).2), HQ4.out.bel.trans (HK5.out.below HQ4.out.bel.size (by simpa using HGL0.out))⟩
      obtain ⟨za, zc, hu4⟩ := nl_slice HN5.out.1
      subst hu4
      have a1 : w5'.cell? ⟨gs, 1, none⟩ = some (.slice za KK.length zc) := by rw [cell_at HG5.out]; rfl
      have hc4 : (shC 4 (.slice za KK.length zc) (.slice none 0 0)).size = 3 := rfl
      generalize hk4 : shC 4 (.slice za KK.length zc) (.slice none 0 0) = k5 at hst hc4 ⊢
      have HSA : Hid (Calls Try.prog 14 #[.slice za KK.length zc, .slice ra KK.length rcap] w5' fun e w'' => e = .returned (.bool true) ∧ Below w5'.heap.size w5' w'') := by have := same_any HN5.out.1 HN5.out.2.1; simp at this; exact this
      have HB5 : Hid (Below w.heap.size w w5') := HN5.out.2.2
      clear hb4 ho4 hg4 hw5 hk4 HSH3 HK5 HQ4 hogs HG5 HN5 HQR HIN
      go_wp2_with fail
      refine HSA.out.mono ?_
      rintro e w6 ⟨rfl, hb6⟩
      go_wp2_with fail
      go_ret
      exact ⟨rfl, below_then HB5.out hb6⟩
theorem chmeans_walk {w : World} (m : Int) {vc v : Value} {L : List Int} {S : List (Int × List Int)} (hc : Nl w vc L) (hv : Cl w v S) : Calls Try.prog 4 #[.int .i64 m, vc, v] w fun e w' => e = .returned (.bool true) ∧ Below w.heap.size w w' := by
  rcases out_cases m L with h | ⟨n, Ln, Fr, rfl, hn, hi, _⟩
  · exact means_no m hc hv h
  · exact means_yes n hn hc hv hi
end Go.Proofs.Ytaffkcliepfcmaa.Ch
