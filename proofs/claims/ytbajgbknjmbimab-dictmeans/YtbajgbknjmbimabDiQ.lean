/- DictMeans, walked: over cells the calls do what keys with their values do. -/
import Derived.Test.YtbajgbknjmbimabDiMf
import Derived.Test.YtbajgbknjmbimabCoA
namespace Go.Proofs.Ytbajgbknjmbimab.Di
open Go.ChangeShapes Go.WideShapes Go.ChangeAt Go.RowKit
attribute [local go_sem ↓] Go.wp_at_zero Go.wp_at_succ

/-- Both rows as they lie, and the shape's variable. -/
structure QM (w0 wr : World) (n gc cap gs : Nat) (vp : Value) (C : List Int) (P : List (Int × Int)) : Prop where
  bel : Below w0.heap.size w0 wr
  rc : wr.ownsRow w0.heap.size 2 1 (.slice (some ⟨gc, 0, none⟩) (3 * n + 1) cap) (3 * n + 1) (numC C)
  rp : wr.ownsRow w0.heap.size 39 2 vp P.length (prC P)
  ne : vp.ownBlock ≠ some gc
  sh : ∃ old : Array Value, old.size = 3 ∧ wr.heap[gs]? = some (.cells old 34 (0, 0))
theorem QM.later {w0 wr w' : World} {n gc cap gs : Nat} {vp : Value} {C : List Int} {P : List (Int × Int)} (h : QM w0 wr n gc cap gs vp C P) (hb : Below wr.heap.size wr w') : QM w0 w' n gc cap gs vp C P := by
  obtain ⟨old, hz, ho⟩ := h.sh
  exact ⟨h.bel.trans (hb.mono h.bel.size), own_keep h.rc (Keep.of_below hb []) (by simp), own_keep h.rp (Keep.of_below hb []) (by simp), h.ne, old, hz, by rw [hb.block _ (heap_lt ho)]; exact ho⟩
/-- Behind a call over the cells. -/
theorem QM.done {w0 wr w4 : World} {n gc cap gs : Nat} {vp : Value} {C C' : List Int} {P : List (Int × Int)} (h : QM w0 wr n gc cap gs vp C P) (hk : Keep [gc] wr w4) (hr : w4.ownsRow w0.heap.size 2 1 (.slice (some ⟨gc, 0, none⟩) (3 * n + 1) cap) (3 * n + 1) (numC C')) : QM w0 w4 n gc cap gs vp C' P := by
  obtain ⟨old, hz, ho⟩ := h.sh
  have hgs : gs ≠ gc := fun e => own_ne h.rc ho (by decide) (by rw [e]; rfl)
  exact ⟨h.bel.trans (hk.below h.bel.size (by simpa using (own_block h.rc gc rfl).1)), hr, own_keep h.rp hk (fun b hb => by simp; exact fun e => h.ne (by rw [hb, e])), h.ne, old, hz, by rw [hk.block _ (heap_lt ho) (by simpa using hgs)]; exact ho⟩
/-- Behind what is meant. -/
theorem QM.mean {w0 wr w4 : World} {n gc cap gs : Nat} {vp v' : Value} {C : List Int} {P P' : List (Int × Int)} (h : QM w0 wr n gc cap gs vp C P) (hk : Keep vp.ownBlock.toList wr w4) (hr : w4.ownsRow w0.heap.size 39 2 v' P'.length (prC P')) (hv : ∀ b, v'.ownBlock = some b → vp.ownBlock = some b ∨ wr.heap.size ≤ b) : QM w0 w4 n gc cap gs v' C P' := by
  obtain ⟨old, hz, ho⟩ := h.sh
  have hm : ∀ b, b ∈ vp.ownBlock.toList → vp.ownBlock = some b := fun b hb => by simpa using hb
  refine ⟨h.bel.trans (hk.below h.bel.size (fun b hb => (own_block h.rp b (hm b hb)).1)), own_keep h.rc hk (fun b hb hc => ?_), hr, fun e => ?_, old, hz, ?_⟩
  · simp [Value.ownBlock] at hb
    subst hb
    exact h.ne (hm _ hc)
  · rcases hv gc e with h1 | h1
    · exact h.ne h1
    · have := (own_block h.rc gc rfl).2; omega
  · rw [hk.block _ (heap_lt ho) (fun hc => own_ne h.rp ho (by decide) (hm _ hc))]
    exact ho
theorem right_of {m : Nat} {c : Int} {n : Nat} (hm : m ≤ 16) (h : arV c = n) : rightV 0 m c n = true := by
  unfold rightV takesV
  simp only [Bool.and_eq_true, decide_eq_true_eq]
  omega
theorem err_no {m : Int} {l : List Int} (h : (okS m l && rgS m l) = false) : errS m l = 1 ∨ errS m l = 12 := by
  unfold errS
  cases h1 : okS m l <;> cases h2 : rgS m l <;> simp_all
theorem err_yes {m : Int} {l : List Int} (h : (okS m l && rgS m l) = true) : errS m l = 0 ∧ kindS m l = 3 ∧ valS m l = inS l m.toNat := by
  unfold errS kindS valS
  cases h1 : okS m l <;> cases h2 : rgS m l <;> simp_all
theorem shP_one (k : Int) {w : World} {base n : Nat} {v : Value} {xs : List Value} (h : w.ownsRow base 39 2 v n xs) : (shC k (.slice none 0 0) v).all (·.oneCell') = true := by
  obtain ⟨a, c, rfl⟩ := own_slice h
  simp [shC, Value.oneCell']
theorem ris_at : ∀ {Z : List (Int × Int)}, Ris Z → ∀ i (hi : i + 1 < Z.length), (Z[i]).1 < (Z[i + 1]).1
  | [], _, i, hi => by simp at hi
  | [_], _, i, hi => by simp at hi
  | a :: b :: l, h, 0, _ => (List.pairwise_cons.1 h).1 b (by simp)
  | a :: b :: l, h, i + 1, hi => ris_at (Z := b :: l) (List.pairwise_cons.1 h).2 i (by simpa using hi)
theorem DInv.tells {n : Nat} {C : List Int} {P : List (Int × Int)} (h : DInv n C P) : ∃ Z, inS C n = Z ∧ Z.length = P.length ∧ (∀ i (hi : i < Z.length), ∃ q, ∃ hq : q < P.length, plV (Z[i]).1 P = (q : Int) ∧ (P[q]).1 = (Z[i]).1 ∧ (P[q]).2 = (Z[i]).2) ∧ (∀ i (hi : i + 1 < Z.length), (Z[i]).1 < (Z[i + 1]).1) := by
  refine ⟨_, rfl, h.says.2.2.length_eq.symm, fun i hi => ?_, ris_at (in_ris h.al)⟩
  obtain ⟨hq, e⟩ := h.at hi
  exact ⟨_, hq, by unfold plV; rw [if_pos hq], by rw [e], by rw [e]⟩
/-- The pair that is told, and the pair that is meant, as they lie. -/
structure LastW (w' : World) (z p : Addr) (Z : List (Int × Int)) (i q : Nat) (hi : i < Z.length) : Prop where
  f0 : w'.cell? (z.add (i * 2)) = some (.int .i64 (Z[i]).1)
  f1 : w'.cell? ⟨(z.add (i * 2)).block, (z.add (i * 2)).off + 1, none⟩ = some (.int .i64 (Z[i]).2)
  f2 : w'.cell? (p.add (q * 2)) = some (.int .i64 (Z[i]).1)
  f3 : w'.cell? ⟨(p.add (q * 2)).block, (p.add (q * 2)).off + 1, none⟩ = some (.int .i64 (Z[i]).2)
  f4 : ∀ j (hj : j < Z.length), w'.cell? (z.add (j * 2)) = some (.int .i64 (Z[j]).1)
def LastC (w : World) (za ra : Option Addr) (Z : List (Int × Int)) (i q : Nat) (hi : i < Z.length) : Prop := ∃ z p, za = some z ∧ ra = some p ∧ ∀ w' : World, Below w.heap.size w w' → LastW w' z p Z i q hi
theorem last_cells {w : World} {za ra : Option Addr} {zn zc rn rc : Nat} {Z P : List (Int × Int)} (hz : Pl w (.slice za zn zc) Z) (hp : Pl w (.slice ra rn rc) P) {i q : Nat} (hi : i < Z.length) (hq : q < P.length) (e1 : (P[q]).1 = (Z[i]).1) (e2 : (P[q]).2 = (Z[i]).2) : LastC w za ra Z i q hi := by
  obtain ⟨z, rfl, _⟩ := pl_cells hz hi
  obtain ⟨p, rfl, _⟩ := pl_cells hp hq
  refine ⟨z, p, rfl, rfl, fun w' hb => ?_⟩
  obtain ⟨z', h1, _, h2, h3⟩ := pl_cells (hz.later hb) hi
  injection h1 with h1
  subst h1
  obtain ⟨p', h1, _, h4, h5⟩ := pl_cells (hp.later hb) hq
  injection h1 with h1
  subst h1
  rw [e1] at h4
  rw [e2] at h5
  refine ⟨h2, h3, h4, h5, fun j hj => ?_⟩
  obtain ⟨z', h1, _, h6, _⟩ := pl_cells (hz.later hb) hj
  injection h1 with h1
  subst h1
  exact h6
theorem mq_wrap {n i : Nat} (hn : n ≤ 17592186044416) (hi : i < n) : wrap64 ((i : Int) + 1) = ((i + 1 : Nat) : Int) := by
  unfold wrap64
  omega
theorem mq_lt (i n : Nat) (h : i < n) : decide ((i : Int) < (n : Int)) = true := by simpa using h
theorem mq_ge (i n : Nat) (h : ¬ i < n) : decide ((i : Int) < (n : Int)) = false := by simpa using h
set_option maxRecDepth 100000 in
set_option maxHeartbeats 4000000 in
theorem means_walk {w : World} (m : Int) {vc v : Value} {L : List Int} {S : List (Int × List Int)} (hc : Nl w vc L) (hv : Cl w v S) : Calls Try.prog 4 #[.int .i64 m, vc, v] w fun e w' => e = .returned (.bool true) ∧ Below w.heap.size w w' := by
  have HSH : Hid (∀ w' : World, Below w.heap.size w w' → Calls Try.prog 8 #[.int .i64 m, vc] w' fun e w'' => ∃ u, e = .returned (.tuple #[.agg (shC (kindS m L) (.slice none 0 0) u), .int .i64 (errS m L)]) ∧ w''.ownsRow w'.heap.size 39 2 u (valS m L).length (prC (valS m L)) ∧ Below w'.heap.size w' w'') := fun w' hb => shape_any m (hc.later hb (Nat.le_refl _))
  have HRH : Hid (∀ w' : World, Below w.heap.size w w' → Calls Try.prog 9 #[.int .i64 m, vc] w' fun e w'' => ∃ u, e = .returned (.tuple #[.agg (shC (kindS m L) (.slice none 0 0) u), .int .i64 (errS m L)]) ∧ w''.ownsRow w'.heap.size 39 2 u (valS m L).length (prC (valS m L)) ∧ Below w'.heap.size w' w'') := fun w' hb => rshape_any m (hc.later hb (Nat.le_refl _))
  obtain ⟨ca, ccap, rfl⟩ := nl_slice hc
  have HNC : Hid (∀ w' : World, Below w.heap.size w w' → Nl w' (.slice ca L.length ccap) L) := fun w' hb => hc.later hb (Nat.le_refl _)
  obtain ⟨la, lcap, rfl, hSl, hl⟩ := hv
  have HEL : Hid (∀ i, i < S.length → ∃ x u, la = some x ∧ ∀ w' : World, Below w.heap.size w w' → w'.cell? (x.add (i * 2)) = some (.int .i64 (S.getD i (0, [])).1) ∧ w'.cell? ⟨(x.add (i * 2)).block, (x.add (i * 2)).off + 1, none⟩ = some u ∧ Nl w' u (S.getD i (0, [])).2) := fun i hi => by
    obtain ⟨x, hx, hxb, hc⟩ := hl.resolve_left (by omega)
    obtain ⟨u, h1, h2, h3⟩ := hc i hi
    exact ⟨x, u, hx, fun w' hb => ⟨cell_later hb (by rw [add_block]; exact hxb) h1, cell_later (a := ⟨(x.add (i * 2)).block, (x.add (i * 2)).off + 1, none⟩) hb (show (x.add (i * 2)).block < _ by rw [add_block]; exact hxb) h2, h3.later hb (Nat.le_refl _)⟩⟩
  have HCW : Hid (∀ x ∈ L, Sx x) := hc.w64
  clear hl hc
  cases hq : okS m L && rgS m L with
  | false =>
    have he := err_no hq
    generalize kindS m L = K at *
    generalize errS m L = E at *
    generalize valS m L = V at *
    clear hq HNC HEL
    rcases he with rfl | rfl
    all_goals
      go_enter Try.func4, Try.ntmps4
      go_wp2_with fail
      refine (HSH.out _ (Below.refl _ _)).mono ?_
      rintro e w2 ⟨u2, rfl, ho2, hb2⟩
      have HB2 : Hid (Below w.heap.size w w2) := hb2
      obtain ⟨w3, hs3, hr3, hb3, hz3⟩ := new_sh (P := Try.prog) (w := w2) (t := 34) (z := #[.int .i64 0, .slice none 0 0, .slice none 0 0]) rfl (shC_size K (.slice none 0 0) u2) (shP_one K ho2)
      have HB3 : Hid (Below w.heap.size w w3) := below_then HB2.out hb3
      have hc2 : (shC K (.slice none 0 0) u2).size = 3 := rfl
      generalize hk2 : shC K (.slice none 0 0) u2 = k2 at *
      clear hb2 ho2 hb3 hr3 HSH HB2 hk2
      go_wp2_with fail
      refine (HRH.out _ HB3.out).mono ?_
      rintro e w4 ⟨u4, rfl, ho4, hb4⟩
      obtain ⟨w5, hs5, hr5, hb5, hz5⟩ := new_sh (P := Try.prog) (w := w4) (t := 34) (z := #[.int .i64 0, .slice none 0 0, .slice none 0 0]) rfl (shC_size K (.slice none 0 0) u4) (shP_one K ho4)
      have HB4 : Hid (Below w.heap.size w w5) := below_then (below_then HB3.out hb4) hb5
      have hc4 : (shC K (.slice none 0 0) u4).size = 3 := rfl
      generalize hk4 : shC K (.slice none 0 0) u4 = k4 at *
      clear hb4 ho4 HRH HB3 hk4 hr5 hb5
      go_wp2_with fail
      go_ret
      exact ⟨rfl, HB4.out⟩
  | true =>
    obtain ⟨e1, e2, e3⟩ := err_yes hq
    rw [e1, e2, e3] at HSH HRH
    simp only [Bool.and_eq_true] at hq
    obtain ⟨hlen, hm1, hm2⟩ := okS_len hq.1
    obtain ⟨n, rfl⟩ := Int.eq_ofNat_of_zero_le hm1
    have hn16 : n ≤ 16 := by omega
    have HI0 : Hid (DInv n L (inS L n)) := DInv.of hn16 hq.1 hq.2 HCW.out
    rw [Int.toNat_natCast] at HSH HRH
    have HV16 : Hid ((inS L n).length ≤ 16) := Nat.le_trans HI0.out.len hn16
    have HLn : Hid (L.length = 3 * n + 1) := by have : L.length = 3 * n + 1 := (by omega); exact this
    clear e1 e2 e3 hq hm1 hm2 hlen
    generalize hVV : inS L n = V at *
    clear hVV
    go_enter Try.func4, Try.ntmps4
    go_wp2_with fail
    refine (HSH.out _ (Below.refl _ _)).mono ?_
    rintro e w2 ⟨u2, rfl, ho2, hb2⟩
    have HB2 : Hid (Below w.heap.size w w2) := hb2
    obtain ⟨w3, hs3, hr3, hb3, hz3⟩ := new_sh (P := Try.prog) (w := w2) (t := 34) (z := #[.int .i64 0, .slice none 0 0, .slice none 0 0]) rfl (shC_size 3 (.slice none 0 0) u2) (shP_one 3 ho2)
    have HB3 : Hid (Below w.heap.size w w3) := below_then HB2.out hb3
    have HV3 : Hid (Pl w3 u2 V ∧ w3.heap[w2.heap.size]? = some (.cells (shC 3 (.slice none 0 0) u2) 34 (0, 0))) := ⟨(Pl.of_own ho2).later hb3, hr3⟩
    have hc2 : (shC 3 (.slice none 0 0) u2).size = 3 := rfl
    generalize hk2 : shC 3 (.slice none 0 0) u2 = k2 at hs3 hc2 ⊢
    have HGL0 : Hid (w.heap.size ≤ w2.heap.size) := HB2.out.size
    clear hb2 ho2 hb3 hr3 HSH HB2 hk2
    go_wp2_with fail
    refine (HRH.out _ HB3.out).mono ?_
    rintro e w3' ⟨u4, rfl, ho4, hb3'⟩
    obtain ⟨w4, hs5, hr5, hb5, hz5⟩ := new_sh (P := Try.prog) (w := w3') (t := 34) (z := #[.int .i64 0, .slice none 0 0, .slice none 0 0]) rfl (shC_size 3 (.slice none 0 0) u4) (shP_one 3 ho4)
    have hb4 := below_then hb3' hb5
    have HB4 : Hid (Below w.heap.size w w4) := below_then HB3.out hb4
    have HV4 : Hid (Pl w4 u2 V ∧ w4.heap[w2.heap.size]? = some (.cells (shC 3 (.slice none 0 0) u2) 34 (0, 0))) := ⟨HV3.out.1.later hb4, by rw [hb4.block _ (heap_lt HV3.out.2)]; exact HV3.out.2⟩
    have hc4 : (shC 3 (.slice none 0 0) u4).size = 3 := rfl
    generalize hk4 : shC 3 (.slice none 0 0) u4 = k4 at hc4 hs5 ⊢
    clear hb4 ho4 HRH HB3 hk4 HV3 hs3 hz3 hr5 hb5 hb3'
    go_wp2_with fail
    refine (numbers_any (HNC.out _ HB4.out)).mono ?_
    rintro e w5 ⟨v5, rfl, ho5, hb5⟩
    have HB5 : Hid (Below w.heap.size w w5) := below_then HB4.out hb5
    have HV5 : Hid (Pl w5 u2 V ∧ w5.heap[w2.heap.size]? = some (.cells (shC 3 (.slice none 0 0) u2) 34 (0, 0))) := ⟨HV4.out.1.later hb5, by rw [hb5.block _ (heap_lt HV4.out.2)]; exact HV4.out.2⟩
    have HO5 : Hid (w5.ownsRow w.heap.size 2 1 v5 L.length (numC L)) := own_base ho5 HB4.out.size
    obtain ⟨gc, gcap, hv5⟩ : ∃ gc gcap, v5 = .slice (some ⟨gc, 0, none⟩) (3 * n + 1) gcap := by
      rcases HO5.out.2 with ⟨_, h0⟩ | ⟨g, cap, cur, e, _⟩
      · rw [HLn.out] at h0; exact absurd h0 (Nat.succ_ne_zero _)
      · exact ⟨g, cap, by rw [e, HLn.out]⟩
    subst hv5
    rw [HLn.out] at HO5
    obtain ⟨ua, uc, hu2⟩ : ∃ a c, u2 = .slice a V.length c := by obtain ⟨a, c, e, _⟩ := HV5.out.1; exact ⟨a, c, e⟩
    subst hu2
    obtain ⟨gs, hgs⟩ : ∃ gs, gs = w2.heap.size := ⟨_, rfl⟩
    rw [← hgs] at HV5 HGL0 ⊢
    clear hb5 ho5 HV4 HB4 hs5 hz5 hgs
    have HQ5 : Hid (∀ (wx : World) (pv : Value), Below w5.heap.size w5 wx → wx.ownsRow w5.heap.size 39 2 pv V.length (prC V) → QM w wx n gc gcap gs pv L V) := fun wx pv hbx ho => by
      refine ⟨below_then HB5.out hbx, own_keep HO5.out (Keep.of_below hbx []) (by simp), own_base ho HB5.out.size, fun e => ?_, _, rfl, by rw [hbx.block _ (heap_lt HV5.out.2)]; exact HV5.out.2⟩
      have h1 := (own_block ho gc e).1
      have h2 := (own_block HO5.out gc rfl).2
      omega
    obtain ⟨i0, hi0, hz0, hz1, hz2⟩ := info_parts info_pair
    go_upto_block 0 with fail
    go_cut [12] (fun pv wx => QM w wx n gc gcap gs pv L V)
    case first =>
      go_wp2_with fail
      go_loopg [12, 13] V.length (fun gh pv iv wr => ∃ i : Nat, V.length - i = gh ∧ i ≤ V.length ∧ iv = .int .i64 (i : Int) ∧ Below w5.heap.size w5 wr ∧ wr.ownsRow w5.heap.size 39 2 pv i (prC (V.take i)))
      case atStart => exact ⟨0, rfl, Nat.zero_le _, rfl, Below.refl _ _, World.ownsRow_nil _ _ _ _⟩
      case round =>
        obtain ⟨i, rfl, hi, rfl, hbr, hor⟩ := hrel
        have HBR : Hid (Below w5.heap.size w5 wr) := hbr
        have HOR : Hid (wr.ownsRow w5.heap.size 39 2 u12 i (prC (V.take i))) := hor
        have s2 : wr.cell? ⟨gs, 2, none⟩ = some (.slice ua V.length uc) := cell_later hbr (heap_lt HV5.out.2) (by rw [cell_at HV5.out.2]; rfl)
        clear hbr hor
        by_cases hlt : i < V.length
        · obtain ⟨x, rfl, hxb, x0, x1⟩ := pl_cells (HV5.out.1.later HBR.out) hlt
          have d1 := mq_lt i V.length hlt
          have HVT : Hid (prC (V.take (i + 1)) = prC (V.take i) ++ [.int .i64 (V[i]).1, .int .i64 (V[i]).2]) := by rw [Hid, List.take_succ_eq_append_getElem hlt]; exact prC_snoc _ _ _
          have HIW : Hid (wrap64 ((i : Int) + 1) = ((i + 1 : Nat) : Int)) := pv_wrap hlt HV16.out
          have hi16 : i ≤ 16 := Nat.le_trans hi HV16.out
          have hwr : w5.heap.size ≤ wr.heap.size := HBR.out.size
          generalize (V[i]).1 = zk at *
          generalize (V[i]).2 = zv at *
          obtain ⟨pa, pc, rfl⟩ := own_slice HOR.out
          clear hxb
          go_wp2_with (at_builtin; refine list_lies_wide _ rfl _ _ 32 rfl w5.heap.size 39 i0 _ 2 16 Try.underlying32 hi0 hz0 hz1 hz2 rfl (by decide) _ _ _ rfl (HOR.out.alloc _) ⟨wr.heap.size, 0, none⟩ 1 1 [.int .i64 zk, .int .i64 zv] rfl rfl ?c1 ?c2 ?c3 ?c4 ?c5 ?c6 _ rfl ?_)
          case c1 => exact World.news_of_block (cs := #[.int .i64 zk, .int .i64 zv]) (t := 39) (fr := (0, 0)) (heap_alloc_new _ _)
          case c2 => intro u hu; simp at hu; rcases hu with rfl | rfl <;> rfl
          case c3 => decide
          case c4 => unfold maxLen; omega
          case c5 => omega
          case c6 => simp; omega
          intro g cp w6 hown hgrow hat _
          have HO6 : Hid (w6.ownsRow w5.heap.size 39 2 (.slice (some ⟨g, 0, none⟩) (i + 1) cp) (i + 1) (prC (V.take (i + 1)))) := by rw [Hid, HVT.out]; exact hown
          have HB6 : Hid (Below w5.heap.size w5 w6) := (below_alloc HBR.out _).grown hgrow (by simp; omega) (fun b hb => (own_block HOR.out b hb).1)
          clear hown hgrow hat s2 x0 x1
          go_wp2_with fail
          go_roundg (V.length - (i + 1))
          case rel => exact ⟨i + 1, rfl, hlt, by first | rw [HIW.out] | go_num, HB6.out, HO6.out⟩
          case measure => exact pv_less hlt
        · have d1 := mq_ge i V.length hlt
          obtain rfl : i = V.length := Nat.le_antisymm hi (Nat.le_of_not_lt hlt)
          have HE : Hid (QM w wr n gc gcap gs u12 L V) := HQ5.out wr u12 HBR.out (by have := HOR.out; rw [List.take_length] at this; exact this)
          clear hi hlt
          go_wp2_with fail
          go_meet
          exact HE.out
    case rest =>
      have HQM : Hid (QM w wc n gc gcap gs u12 L V) := hcut
      clear hcut HQ5 HV5 HO5 HB5 hi0 hz0 hz1 hz2
      generalize hSn : S.length = sn at *
      clear hSn
      go_wp2_with fail
      go_loopg [12, 14] sn (fun gh pv iv wr => ∃ (i : Nat) (C : List Int) (P : List (Int × Int)), gh = sn - i ∧ i ≤ sn ∧ iv = .int .i64 (i : Int) ∧ QM w wr n gc gcap gs pv C P ∧ DInv n C P)
      case atStart => exact ⟨0, L, V, rfl, Nat.zero_le _, rfl, HQM.out, HI0.out⟩
      case round =>
        obtain ⟨i, C, P, rfl, hi2, rfl, hqm, hin⟩ := hrel
        have HQR : Hid (QM w wr n gc gcap gs u12 C P) := hqm
        have HIN : Hid (DInv n C P) := hin
        obtain ⟨ra, rcap, rfl⟩ := own_slice hqm.rp
        clear hqm hin HQM HI0
        by_cases hlt : i < sn
        · have hd := mq_lt i sn hlt
          have HIW : Hid (wrap64 ((i : Int) + 1) = ((i + 1 : Nat) : Int)) := mq_wrap hSl hlt
          obtain ⟨x, u, rfl, hel⟩ := HEL.out i hlt
          generalize (S.getD i (0, [])).1 = c at hel
          generalize (S.getD i (0, [])).2 = A at hel
          have HE : Hid (∀ w' : World, Below w.heap.size w w' → w'.cell? (x.add (i * 2)) = some (.int .i64 c) ∧ w'.cell? ⟨(x.add (i * 2)).block, (x.add (i * 2)).off + 1, none⟩ = some u ∧ Nl w' u A) := hel
          obtain ⟨l0, l1, hnl⟩ := hel wr HQR.out.bel
          obtain ⟨ua', uc', rfl⟩ := nl_slice hnl
          clear hel hnl
          have HC : Hid (∀ (w : World) (c : Int), Calls Try.prog 11 #[.int .i64 c] w fun e w' => e = .returned (.int .i64 (arV c)) ∧ w' = w) := fun w c => rarity_any w c
          by_cases har : arV c = (A.length : Int)
          · have hq1 : (arV c == (A.length : Int)) = true := by simpa using har
            have HAR : Hid (arV c = (A.length : Int)) := har
            clear har
            go_wp2_with fail
            go_quiet ((go_at_call 11; refine Calls.quiet_of_same (HC.out _ _)))
            obtain ⟨w3, hw3⟩ : ∃ w3, w3 = wr.drewN nq := ⟨_, rfl⟩
            have HQ3 : Hid (QM w w3 n gc gcap gs (.slice ra P.length rcap) C P) := by rw [Hid, hw3]; exact HQR.out.later (below_drawn (Below.refl _ _) _)
            obtain ⟨m0, m1, _⟩ := HE.out w3 HQ3.out.bel
            rw [← hw3]
            clear hw3 l0 l1 HC HQR
            obtain ⟨C', hrun, hI'⟩ := mean_run HIN.out HAR.out (HE.out w3 HQ3.out.bel).2.2.w64
            have HRUN : Hid (runM 0 (mostW (n : Int) + 1) (mkM 0 (n : Int) c A) C 0 = (C', (meanV n c A P).2.1, (meanV n c A P).2.2, true)) := hrun
            obtain ⟨rm, hrm⟩ : ∃ rm, meanV (n : Int) c A P = rm := ⟨_, rfl⟩
            rw [hrm] at HRUN hI'
            have HI' : Hid (DInv n C' rm.1) := hI'
            have HP16 : Hid (P.length ≤ 16) := Nat.le_trans HIN.out.len hn16
            have HDC : Hid (∀ w' : World, QM w w' n gc gcap gs (.slice ra P.length rcap) C P → Calls Try.prog 12 #[.slice (some ⟨gc, 0, none⟩) (3 * n + 1) gcap, .int .i64 0, .int .i64 (n : Int), .int .i64 c, .slice ua' A.length uc'] w' fun e w'' => e = .returned (.tuple #[.int .i64 rm.2.1, .int .i64 rm.2.2, .bool true]) ∧ QM w w'' n gc gcap gs (.slice ra P.length rcap) C' P) := fun w' hq => by
              refine (done_run 0 (n : Int) c (HE.out w' hq.bel).2.2 (right_of hn16 HAR.out) hq.rc).mono ?_
              rintro e w'' ⟨h1, h2, h3⟩
              rw [HRUN.out] at h1 h2
              exact ⟨h1, hq.done h3 h2⟩
            have HMN : Hid (∀ w' : World, QM w w' n gc gcap gs (.slice ra P.length rcap) C' P → Calls Try.prog 13 #[.slice ra P.length rcap, .int .i64 (n : Int), .int .i64 c, .slice ua' A.length uc'] w' fun e w'' => ∃ v', e = .returned (.tuple #[v', .int .i64 rm.2.1, .int .i64 rm.2.2]) ∧ QM w w'' n gc gcap gs v' C' rm.1) := fun w' hq => by
              refine (means_any (n : Int) c hq.rp hq.bel.size HP16.out (HE.out w' hq.bel).2.2 HAR.out).mono ?_
              rw [hrm]
              rintro e w'' ⟨⟨v', h1, h2, h3⟩, h4⟩
              exact ⟨v', h1, hq.mean h4 h2 h3⟩
            clear hrun hI' HRUN hrm
            go_wp2_with fail
            go_cut [15, 16, 17] (fun v0 c0 f0 wx => v0 = .int .i64 rm.2.1 ∧ c0 = .int .i64 rm.2.2 ∧ f0 = .bool true ∧ QM w wx n gc gcap gs (.slice ra P.length rcap) C' P)
            case first =>
              go_region_held3 (fun w' => w'.cell? (x.add (i * 2)) = some (.int .i64 c) ∧ w'.cell? ⟨(x.add (i * 2)).block, (x.add (i * 2)).off + 1, none⟩ = some (.slice ua' A.length uc')) (first | go_keep | exact hS) (first
                | (go_at_call 12; refine (HDC.out _ (HQ3.out.later (bl_drew1 _))).mono ?_; rintro e w4 ⟨rfl, hq4⟩; have hS : w4.cell? (x.add (i * 2)) = some (.int .i64 c) ∧ w4.cell? ⟨(x.add (i * 2)).block, (x.add (i * 2)).off + 1, none⟩ = some (.slice ua' A.length uc') := ⟨(HE.out w4 hq4.bel).1, (HE.out w4 hq4.bel).2.1⟩))
              go_wp2_with fail
              go_meet
              exact ⟨rfl, rfl, rfl, hq4⟩
            case rest =>
              obtain ⟨rfl, rfl, rfl, hdn⟩ := hcut
              have HDN : Hid (QM w wc n gc gcap gs (.slice ra P.length rcap) C' P) := hdn
              obtain ⟨l0, l1, _⟩ := HE.out wc hdn.bel
              clear hdn HQ3 m0 m1 HDC
              generalize hr1 : rm.2.1 = r1 at *
              generalize hr2 : rm.2.2 = r2 at *
              clear hr1 hr2
              go_wp2_with fail
              go_cut [18, 19, 20] (fun v0 c0 f0 wx => c0 = .int .i64 r1 ∧ f0 = .int .i64 r2 ∧ QM w wx n gc gcap gs v0 C' rm.1)
              case first =>
                go_region_held3 (fun w' => w'.cell? (x.add (i * 2)) = some (.int .i64 c) ∧ w'.cell? ⟨(x.add (i * 2)).block, (x.add (i * 2)).off + 1, none⟩ = some (.slice ua' A.length uc')) (first | go_keep | exact hS) (first
                  | (go_at_call 13; refine (HMN.out _ (HDN.out.later (bl_drew1 _))).mono ?_; rintro e w4 ⟨v4, rfl, hq4⟩; have hS : w4.cell? (x.add (i * 2)) = some (.int .i64 c) ∧ w4.cell? ⟨(x.add (i * 2)).block, (x.add (i * 2)).off + 1, none⟩ = some (.slice ua' A.length uc') := ⟨(HE.out w4 hq4.bel).1, (HE.out w4 hq4.bel).2.1⟩))
                go_wp2_with fail
                go_meet
                exact ⟨rfl, rfl, hq4⟩
              case rest =>
                obtain ⟨rfl, rfl, hdm⟩ := hcut
                have HDM : Hid (QM w wc n gc gcap gs u18 C' rm.1) := hdm
                clear hdm HDN l0 l1 HMN HE
                go_wp2_with fail
                go_roundg (sn - (i + 1))
                case rel => exact ⟨i + 1, C', rm.1, rfl, hlt, by first | rw [HIW.out] | go_num, HDM.out, HI'.out⟩
                case measure => exact pv_less hlt
          · have hq1 : (arV c == (A.length : Int)) = false := by simpa using har
            clear har
            go_wp2_with fail
            go_quiet ((go_at_call 11; refine Calls.quiet_of_same (HC.out _ _)))
            go_wp2_with fail
            go_roundg (sn - (i + 1))
            case rel => exact ⟨i + 1, C, P, rfl, hlt, by first | rw [HIW.out] | go_num, HQR.out.later (below_drawn (Below.refl _ _) _), HIN.out⟩
            case measure => exact pv_less hlt
        · have hd := mq_ge i sn hlt
          have HN : Hid (Nl wr (.slice (some ⟨gc, 0, none⟩) (3 * n + 1) gcap) C) := by
            have h1 := HIN.out.lc
            have h2 := HQR.out.rc
            rw [← h1] at h2 ⊢
            exact Nl.of_own h2 (by omega) HIN.out.cw
          have HSH2 : Hid (∀ w' : World, Nl w' (.slice (some ⟨gc, 0, none⟩) (3 * n + 1) gcap) C → Calls Try.prog 8 #[.int .i64 (n : Int), .slice (some ⟨gc, 0, none⟩) (3 * n + 1) gcap] w' fun e w'' => ∃ u, e = .returned (.tuple #[.agg (shC 3 (.slice none 0 0) u), .int .i64 0]) ∧ w''.ownsRow w'.heap.size 39 2 u (inS C n).length (prC (inS C n)) ∧ Below w'.heap.size w' w'') := fun w' h => by
            have := shape_any (n : Int) h
            obtain ⟨s1, s2, s3⟩ := HIN.out.says
            obtain ⟨t1, t2, t3⟩ := err_yes (m := (n : Int)) (l := C) (by rw [s1, s2]; rfl)
            rw [t1, t2, t3, Int.toNat_natCast] at this
            exact this
          obtain ⟨old, hold, hogs⟩ := HQR.out.sh
          obtain ⟨Z, hZ, hzl, hzat, hzri⟩ := HIN.out.tells
          rw [hZ] at HSH2
          have HAT : Hid (∀ i (hi : i < Z.length), ∃ q, ∃ hq : q < P.length, plV (Z[i]).1 P = (q : Int) ∧ (P[q]).1 = (Z[i]).1 ∧ (P[q]).2 = (Z[i]).2) := hzat
          have HRI : Hid (∀ i (hi : i + 1 < Z.length), (Z[i]).1 < (Z[i + 1]).1) := hzri
          have h16 : P.length ≤ 16 := Nat.le_trans HIN.out.len hn16
          clear hZ hzat hzri
          clear HEL
          go_wp2_with fail
          refine (HSH2.out _ HN.out).mono ?_
          rintro e w4 ⟨u4, rfl, ho4, hb4⟩
          have HQ4 : Hid (QM w w4 n gc gcap gs (.slice ra P.length rcap) C P) := HQR.out.later hb4
          have hg4 : w4.heap[gs]? = some (.cells old 34 (0, 0)) := by rw [hb4.block _ (heap_lt hogs)]; exact hogs
          have hst := store_sh (P := Try.prog) hg4 hold (shC_size 3 (.slice none 0 0) u4) (shP_one 3 ho4)
          have HG5 : Hid ((w4.setRow gs (shC 3 (.slice none 0 0) u4)).heap[gs]? = some (.cells (shC 3 (.slice none 0 0) u4) 34 (0, 0))) := setRow_heap _ _ _ _ _ _ hg4
          obtain ⟨w5', hw5⟩ : ∃ w5', w5' = w4.setRow gs (shC 3 (.slice none 0 0) u4) := ⟨_, rfl⟩
          rw [← hw5] at hst HG5
          have HK5 : Hid (Keep [gs] w4 w5') := by rw [Hid, hw5]; exact Keep.row _ _ _
          have HN5 : Hid (Pl w5' u4 Z ∧ Pl w5' (.slice ra P.length rcap) P ∧ Below w.heap.size w w5') := by
            have hu : w5'.ownsRow wr.heap.size 39 2 u4 Z.length (prC Z) := own_keep ho4 HK5.out (fun b hb => by simp; exact fun e => own_ne ho4 hg4 (by decide) (by rw [hb, e]))
            have hr : w5'.ownsRow w.heap.size 39 2 (.slice ra P.length rcap) P.length (prC P) := own_keep HQ4.out.rp HK5.out (fun b hb => by simp; exact fun e => own_ne HQ4.out.rp hg4 (by decide) (by rw [hb, e]))
            exact ⟨Pl.of_own hu, Pl.of_own hr, HQ4.out.bel.trans (HK5.out.below HQ4.out.bel.size (by simpa using HGL0.out))⟩
          obtain ⟨za, zc, hu4⟩ : ∃ a c, u4 = .slice a Z.length c := by obtain ⟨a, c, e, _⟩ := HN5.out.1; exact ⟨a, c, e⟩
          subst hu4
          rw [hzl] at HN5 HG5 hst ⊢
          have a2 : w5'.cell? ⟨gs, 2, none⟩ = some (.slice za P.length zc) := by rw [cell_at HG5.out]; rfl
          have hc4 : (shC 3 (.slice none 0 0) (.slice za P.length zc)).size = 3 := rfl
          generalize hk4 : shC 3 (.slice none 0 0) (.slice za P.length zc) = k5 at hst hc4 ⊢
          clear hb4 ho4 hg4 hw5 hk4 HSH2 HN HK5 HQ4 hogs
          have HW5 : Hid (Below w.heap.size w w5') := HN5.out.2.2
          have HA2 : Hid (∀ w' : World, Below w5'.heap.size w5' w' → w'.cell? ⟨gs, 2, none⟩ = some (.slice za P.length zc)) := fun w' hb => cell_later hb (heap_lt HG5.out) a2
          have HPC : Hid (∀ (w' : World) (key : Int), Below w5'.heap.size w5' w' → Calls Try.prog 14 #[.slice ra P.length rcap, .int .i64 key] w' fun e w'' => e = .returned (.int .i64 (plV key P)) ∧ Below w'.heap.size w' w'') := fun w' key hb => place_any (HN5.out.2.1.later hb) h16 key
          have HLC : Hid (∀ (i q : Nat) (hi : i < Z.length) (hq : q < P.length), (P[q]).1 = (Z[i]).1 → (P[q]).2 = (Z[i]).2 → LastC w5' za ra Z i q hi) := fun i q hi hq e1 e2 => last_cells HN5.out.1 HN5.out.2.1 hi hq e1 e2
          clear HN5 HG5 HIN HQR
          go_wp2_with fail
          clear hst a2
          go_loopg [21] P.length (fun gh iv wr => ∃ j : Nat, P.length - j = gh ∧ j ≤ P.length ∧ iv = .int .i64 (j : Int) ∧ Below w5'.heap.size w5' wr)
          case atStart => exact ⟨0, rfl, Nat.zero_le _, rfl, Below.refl _ _⟩
          case round =>
            obtain ⟨j, rfl, hj, rfl, hbr⟩ := hrel
            have HBR : Hid (Below w5'.heap.size w5' wr) := hbr
            have a2 := HA2.out wr hbr
            clear hbr
            by_cases hjl : j < P.length
            · have d1 := mq_lt j P.length hjl
              have hjz : j < Z.length := by rw [hzl]; exact hjl
              obtain ⟨q, hq, hpv, e1, e2⟩ := HAT.out j hjz
              obtain ⟨z, p, rfl, rfl, hcl⟩ := HLC.out j q hjz hq e1 e2
              have HCL : Hid (∀ w' : World, Below w5'.heap.size w5' w' → LastW w' z p Z j q hjz) := hcl
              obtain ⟨x0, _, _, _, _⟩ := hcl wr HBR.out
              have HPK := HPC.out wr (Z[j]).1 HBR.out
              rw [hpv] at HPK
              have HPK' : Hid (Calls Try.prog 14 #[.slice (some p) P.length rcap, .int .i64 (Z[j]).1] wr fun e w'' => e = .returned (.int .i64 (q : Int)) ∧ Below wr.heap.size wr w'') := HPK
              have HIW : Hid (wrap64 ((j : Int) + 1) = ((j + 1 : Nat) : Int)) := pv_wrap hjl h16
              clear hcl HPK hpv e1 e2 HPC HLC
              go_wp2_with fail
              refine HPK'.out.mono ?_
              rintro e w6 ⟨rfl, hb6⟩
              have HB6 : Hid (Below w5'.heap.size w5' w6) := below_then HBR.out hb6
              have b2 := HA2.out w6 HB6.out
              obtain ⟨y0, y1, y2, y3, y4⟩ := HCL.out w6 HB6.out
              have dq : decide ((q : Int) < 0) = false := by simp
              have dq2 := mq_lt q P.length hq
              have hnq : ∀ w : World, (binOp .neq 39 (.agg #[.int .i64 (Z[j]).1, .int .i64 (Z[j]).2]) (.agg #[.int .i64 (Z[j]).1, .int .i64 (Z[j]).2])).run Try.prog w = .ok (.bool false) w := fun w => neq_pair _ _ w
              clear hb6 HPK' x0 a2 HBR
              by_cases hj0 : 0 < j
              · have dj : decide ((0 : Int) < (j : Int)) = true := by simpa using hj0
                obtain ⟨n1, n2, n3⟩ := pn_facts hj0 (Nat.le_trans hj h16)
                have hj1 : j - 1 < Z.length := Nat.lt_of_le_of_lt (Nat.sub_le _ _) hjz
                have y5 := y4 (j - 1) hj1
                have hrs : (Z[j - 1]).1 < (Z[j]).1 := by
                  have := HRI.out (j - 1) (by omega)
                  simpa [Nat.sub_add_cancel hj0] using this
                have dr : decide ((Z[j]).1 ≤ (Z[j - 1]).1) = false := by simpa using hrs
                have hj1P : j - 1 < P.length := by omega
                clear y4
                generalize (Z[j - 1]).1 = zp at *
                generalize (Z[j]).1 = zk at *
                generalize (Z[j]).2 = zv at *
                go_wp2_with fail
                go_quiet (fail)
                go_wp2_with fail
                go_roundg (P.length - (j + 1))
                case rel => exact ⟨j + 1, rfl, hjl, by first | rw [HIW.out] | go_num, below_drawn HB6.out _⟩
                case measure => exact pv_less hjl
              · have dj : decide ((0 : Int) < (j : Int)) = false := by simpa using hj0
                clear y4
                generalize (Z[j]).1 = zk at *
                generalize (Z[j]).2 = zv at *
                go_wp2_with fail
                go_quiet (fail)
                go_wp2_with fail
                go_roundg (P.length - (j + 1))
                case rel => exact ⟨j + 1, rfl, hjl, by first | rw [HIW.out] | go_num, below_drawn HB6.out _⟩
                case measure => exact pv_less hjl
            · have d1 := mq_ge j P.length hjl
              have HE : Hid (Below w.heap.size w wr) := below_then HW5.out HBR.out
              go_wp2_with fail
              go_ret
              exact ⟨rfl, HE.out⟩
end Go.Proofs.Ytbajgbknjmbimab.Di
