/- QueueMeans, walked: over cells the calls do what a row does of which the first one is taken. -/
import Derived.Test.YtkikogalaejnlabQuV
import Derived.Test.YtkikogalaejnlabQuI
import Derived.Test.YtkikogalaejnlabCoA
namespace Go.Proofs.Ytkikogalaejnlab.Qu
open Go.ChangeShapes Go.WideShapes Go.ChangeAt Go.RowKit
attribute [local go_sem ↓] Go.wp_at_zero Go.wp_at_succ

/-- Both rows as they lie. -/
structure QM (w0 wr : World) (m gc cap : Nat) (vr : Value) (C W : List Int) : Prop where
  bel : Below w0.heap.size w0 wr
  rc : wr.ownsRow w0.heap.size 2 1 (.slice (some ⟨gc, 0, none⟩) (m + 2) cap) (m + 2) (numC C)
  rw : wr.ownsRow w0.heap.size 2 1 vr W.length (numC W)
  ne : vr.ownBlock ≠ some gc
  inv : MInv m C W
theorem QM.later {w0 wr w' : World} {m gc cap : Nat} {vr : Value} {C W : List Int} (h : QM w0 wr m gc cap vr C W) (hb : Below wr.heap.size wr w') : QM w0 w' m gc cap vr C W :=
  ⟨h.bel.trans (hb.mono h.bel.size), own_keep h.rc (Keep.of_below hb []) (by simp), own_keep h.rw (Keep.of_below hb []) (by simp), h.ne, h.inv⟩
/-- Behind a call over the cells. -/
structure DnM (w0 wr : World) (m gc cap gs : Nat) (vr : Value) (C W : List Int) : Prop where
  bel : Below w0.heap.size w0 wr
  rc : wr.ownsRow w0.heap.size 2 1 (.slice (some ⟨gc, 0, none⟩) (m + 2) cap) (m + 2) (numC C)
  rw : wr.ownsRow w0.heap.size 2 1 vr W.length (numC W)
  ne : vr.ownBlock ≠ some gc
  sh : ∃ old : Array Value, old.size = 3 ∧ wr.heap[gs]? = some (.cells old 34 (0, 0))
theorem DnM.of {w0 wr w4 : World} {m gc cap gs : Nat} {vr : Value} {C C' W : List Int} (h : QM w0 wr m gc cap vr C W) (hs : ∃ old : Array Value, old.size = 3 ∧ wr.heap[gs]? = some (.cells old 34 (0, 0))) (hk : Keep [gc] wr w4) (hr : w4.ownsRow w0.heap.size 2 1 (.slice (some ⟨gc, 0, none⟩) (m + 2) cap) (m + 2) (numC C')) : DnM w0 w4 m gc cap gs vr C' W := by
  obtain ⟨old, hz, ho⟩ := hs
  have hgs : gs ≠ gc := fun e => own_ne h.rc ho (by decide) (by rw [e]; rfl)
  exact ⟨h.bel.trans (hk.below h.bel.size (by simpa using (own_block h.rc gc rfl).1)), hr, own_keep h.rw hk (fun b hb => by simp; exact fun e => h.ne (by rw [hb, e])), h.ne, old, hz, by rw [hk.block _ (heap_lt ho) (by simpa using hgs)]; exact ho⟩
theorem DnM.back {w0 wr : World} {m gc cap gs : Nat} {vr : Value} {C W : List Int} (h : DnM w0 wr m gc cap gs vr C W) (hi : MInv m C W) : QM w0 wr m gc cap vr C W ∧ ∃ old : Array Value, old.size = 3 ∧ wr.heap[gs]? = some (.cells old 34 (0, 0)) := ⟨⟨h.bel, h.rc, h.rw, h.ne, hi⟩, h.sh⟩
theorem DnM.push {w0 wr w5 : World} {m gc cap gs g cp : Nat} {o : Obj} {vr : Value} {C W : List Int} {y : Int} (h : DnM w0 wr m gc cap gs vr C W) (hi : MInv m C (W ++ [y])) (hown : w5.ownsRow w0.heap.size 2 1 (.slice (some ⟨g, 0, none⟩) (W.length + 1) cp) (W.length + 1) (numC (W ++ [y]))) (hg : (wr.alloc o).grownBy w5 vr.ownBlock) (hat : vr.ownBlock = some g ∨ g = wr.heap.size + 1) :
    QM w0 w5 m gc cap (.slice (some ⟨g, 0, none⟩) (W.length + 1) cp) C (W ++ [y]) ∧ ∃ old : Array Value, old.size = 3 ∧ w5.heap[gs]? = some (.cells old 34 (0, 0)) := by
  obtain ⟨old, hz, ho⟩ := h.sh
  have hgc := (own_block h.rc gc rfl).2
  have hk : Keep (match vr.ownBlock with | some b => [b] | none => []) wr w5 := ((Keep.refl _ _).alloc o).grown hg (fun b hb => by rw [hb]; simp)
  have hmem : ∀ b, b ∈ (match vr.ownBlock with | some b => [b] | none => []) → vr.ownBlock = some b := fun b hb => by
    cases hv : vr.ownBlock with
    | none => rw [hv] at hb; simp at hb
    | some c => rw [hv] at hb; simp at hb; rw [hb]
  refine ⟨⟨h.bel.trans (hk.below h.bel.size (fun b hb => (own_block h.rw b (hmem b hb)).1)), own_keep h.rc hk (fun b hb hc => ?_), by rw [List.length_append]; exact hown, fun e => ?_, hi⟩, old, hz, ?_⟩
  · simp [Value.ownBlock] at hb
    subst hb
    exact h.ne (hmem _ hc)
  · simp [Value.ownBlock] at e
    subst e
    rcases hat with h1 | h1
    · exact h.ne h1
    · omega
  · rw [hk.block _ (heap_lt ho) (fun hc => own_ne h.rw ho (by decide) (hmem _ hc))]
    exact ho
theorem DnM.tail {w0 wr w5 : World} {m gc cap gs : Nat} {vr v5 : Value} {C W T : List Int} (h : DnM w0 wr m gc cap gs vr C W) (hi : MInv m C T) (hown : w5.ownsRow wr.heap.size 2 1 v5 T.length (numC T)) (hb : Below wr.heap.size wr w5) :
    QM w0 w5 m gc cap v5 C T ∧ ∃ old : Array Value, old.size = 3 ∧ w5.heap[gs]? = some (.cells old 34 (0, 0)) := by
  obtain ⟨old, hz, ho⟩ := h.sh
  refine ⟨⟨below_then h.bel hb, own_keep h.rc (Keep.of_below hb []) (by simp), own_base hown h.bel.size, fun e => ?_, hi⟩, old, hz, by rw [hb.block _ (heap_lt ho)]; exact ho⟩
  have h7 := (own_block hown gc e).1
  have h8 := (own_block h.rc gc rfl).2
  omega
theorem own_cap {w : World} {base n k cap : Nat} {a : Option Addr} {t : TypeId} {xs : List Value} (h : w.ownsRow base t 1 (.slice a k cap) n xs) : n ≤ cap := by
  rcases h.2 with ⟨e, h0⟩ | ⟨g, cap', cur, e, _, _, h1, _⟩
  · omega
  · injection e with _ _ e
    omega
theorem nl_tail {w : World} {base g cap : Nat} {W : List Int} (h : w.ownsRow base 2 1 (.slice (some ⟨g, 0, none⟩) W.length cap) W.length (numC W)) (hw : ∀ x ∈ W.drop 1, Sx x) (hl : 0 < W.length) (hm : W.length ≤ 16) : Nl w (if cap = 1 then Value.slice (some ⟨g, 0, none⟩) 0 0 else Value.slice (some ⟨g, 1, none⟩) (W.length - 1) (cap - 1)) (W.drop 1) := by
  have hc := own_cap h
  have hcm : cap ≤ 9223372036854775807 := by
    rcases h.2 with ⟨e, h0⟩ | ⟨g', cap', cur, e, _, _, h1, h2, _⟩
    · omega
    · injection e with _ _ e
      unfold maxLen at h2
      omega
  have hg := (own_block h g rfl).2
  by_cases h1 : cap = 1
  · rw [if_pos h1]
    have h0 : (W.drop 1).length = 0 := by rw [List.length_drop]; omega
    exact ⟨_, 0, by rw [h0], by omega, by omega, ⟨by omega, fun e => by cases e⟩, hw, Or.inl h0⟩
  · rw [if_neg h1]
    refine ⟨some ⟨g, 1, none⟩, cap - 1, by rw [List.length_drop], by rw [List.length_drop]; omega, by rw [List.length_drop]; omega, ⟨by omega, fun e => by cases e⟩, hw, ?_⟩
    by_cases h2 : W.length = 1
    · exact Or.inl (by rw [List.length_drop]; omega)
    · refine Or.inr ⟨⟨g, 1, none⟩, rfl, hg, fun j hj => ?_⟩
      rw [List.length_drop] at hj
      have e1 : nth (W.drop 1) j = nth W (1 + j) := by simp [nth, Nat.add_comm]
      rw [add_off, e1]
      exact own_cells h (1 + j) _ (numC_get W (1 + j) (by omega))
theorem right_of {m : Nat} {c : Int} {n : Nat} (hm : m ≤ 16) (h : arV c = n) : rightV 0 m c n = true := by
  unfold rightV takesV
  simp only [Bool.and_eq_true, decide_eq_true_eq]
  omega
theorem err_no {m : Int} {l : List Int} (h : (okS m l && rgS m l) = false) : errS m l = 1 ∨ errS m l = 12 := by
  unfold errS
  cases h1 : okS m l <;> cases h2 : rgS m l <;> simp_all
theorem err_yes {m : Int} {l : List Int} (h : (okS m l && rgS m l) = true) : errS m l = 0 ∧ kindS m l = 2 ∧ valS m l = rowS m l := by
  unfold errS kindS valS
  cases h1 : okS m l <;> cases h2 : rgS m l <;> simp_all
theorem mq_wrap {n i : Nat} (hn : n ≤ 17592186044416) (hi : i < n) : wrap64 ((i : Int) + 1) = ((i + 1 : Nat) : Int) := by
  unfold wrap64
  omega
theorem mq_less {n i : Nat} (hi : i < n) : n - (i + 1) < n - i := by omega
set_option maxRecDepth 100000 in
set_option maxHeartbeats 2000000 in
theorem means_walk {w : World} (m : Int) {vc v : Value} {L : List Int} {S : List (Int × List Int)} (hc : Nl w vc L) (hv : Cl w v S) : Calls Try.prog 4 #[.int .i64 m, vc, v] w fun e w' => e = .returned (.bool true) ∧ Below w.heap.size w w' := by
  have HSH : Hid (∀ w' : World, Below w.heap.size w w' → Calls Try.prog 7 #[.int .i64 m, vc] w' fun e w'' => ∃ u, e = .returned (.tuple #[.agg (shC (kindS m L) u (.slice none 0 0)), .int .i64 (errS m L)]) ∧ w''.ownsRow w'.heap.size 2 1 u (valS m L).length (numC (valS m L)) ∧ Below w'.heap.size w' w'') := fun w' hb => shape_any m (hc.later hb (Nat.le_refl _))
  have HRH : Hid (∀ w' : World, Below w.heap.size w w' → Calls Try.prog 8 #[.int .i64 m, vc] w' fun e w'' => ∃ u, e = .returned (.tuple #[.agg (shC (kindS m L) u (.slice none 0 0)), .int .i64 (errS m L)]) ∧ w''.ownsRow w'.heap.size 2 1 u (valS m L).length (numC (valS m L)) ∧ Below w'.heap.size w' w'') := fun w' hb => rshape_any m (hc.later hb (Nat.le_refl _))
  obtain ⟨ca, ccap, rfl⟩ := nl_slice hc
  have HNC : Hid (∀ w' : World, Below w.heap.size w w' → Nl w' (.slice ca L.length ccap) L) := fun w' hb => hc.later hb (Nat.le_refl _)
  obtain ⟨la, lcap, rfl, hSl, hl⟩ := hv
  have HEL : Hid (∀ i, i < S.length → ∃ x u, la = some x ∧ ∀ w' : World, Below w.heap.size w w' → w'.cell? (x.add (i * 2)) = some (.int .i64 (S.getD i (0, [])).1) ∧ w'.cell? ⟨(x.add (i * 2)).block, (x.add (i * 2)).off + 1, none⟩ = some u ∧ Nl w' u (S.getD i (0, [])).2) := fun i hi => by
    obtain ⟨x, hx, hxb, hc⟩ := hl.resolve_left (by omega)
    obtain ⟨u, h1, h2, h3⟩ := hc i hi
    exact ⟨x, u, hx, fun w' hb => ⟨cell_later hb (by rw [add_block]; exact hxb) h1, cell_later (a := ⟨(x.add (i * 2)).block, (x.add (i * 2)).off + 1, none⟩) hb (show (x.add (i * 2)).block < _ by rw [add_block]; exact hxb) h2, h3.later hb (Nat.le_refl _)⟩⟩
  have HCW : Hid (∀ x ∈ L, Sx x) := hc.w64
  clear hl hc
  obtain ⟨i0, hi0, hz0, hz1, hz2⟩ := info_parts info_i64
  cases hq : okS m L && rgS m L with
  | false =>
    have he := err_no hq
    generalize kindS m L = K at *
    generalize errS m L = E at *
    generalize valS m L = V at *
    clear hq HNC HEL hi0 hz0 hz1 hz2
    rcases he with rfl | rfl
    · go_enter Try.func4, Try.ntmps4
      go_wp2_with fail
      refine (HSH.out _ (Below.refl _ _)).mono ?_
      rintro e w2 ⟨u2, rfl, ho2, hb2⟩
      have HB2 : Hid (Below w.heap.size w w2) := hb2
      obtain ⟨w3, hs3, hr3, hb3, hz3⟩ := new_sh (P := Try.prog) (w := w2) (t := 34) (z := #[.int .i64 0, .slice none 0 0, .slice none 0 0]) rfl (shC_size K u2 (.slice none 0 0)) (shC_one K u2 ho2)
      have HB3 : Hid (Below w.heap.size w w3) := below_then HB2.out hb3
      have hc2 : (shC K u2 (.slice none 0 0)).size = 3 := rfl
      generalize hk2 : shC K u2 (.slice none 0 0) = k2 at *
      clear hb2 ho2 hb3 hr3 HSH HB2 hk2
      go_wp2_with fail
      refine (HRH.out _ HB3.out).mono ?_
      rintro e w4 ⟨u4, rfl, ho4, hb4⟩
      obtain ⟨w5, hs5, hr5, hb5, hz5⟩ := new_sh (P := Try.prog) (w := w4) (t := 34) (z := #[.int .i64 0, .slice none 0 0, .slice none 0 0]) rfl (shC_size K u4 (.slice none 0 0)) (shC_one K u4 ho4)
      have HB4 : Hid (Below w.heap.size w w5) := below_then (below_then HB3.out hb4) hb5
      have hc4 : (shC K u4 (.slice none 0 0)).size = 3 := rfl
      generalize hk4 : shC K u4 (.slice none 0 0) = k4 at *
      clear hb4 ho4 HRH HB3 hk4 hr5 hb5
      go_wp2_with fail
      go_ret
      exact ⟨rfl, HB4.out⟩
    · go_enter Try.func4, Try.ntmps4
      go_wp2_with fail
      refine (HSH.out _ (Below.refl _ _)).mono ?_
      rintro e w2 ⟨u2, rfl, ho2, hb2⟩
      have HB2 : Hid (Below w.heap.size w w2) := hb2
      obtain ⟨w3, hs3, hr3, hb3, hz3⟩ := new_sh (P := Try.prog) (w := w2) (t := 34) (z := #[.int .i64 0, .slice none 0 0, .slice none 0 0]) rfl (shC_size K u2 (.slice none 0 0)) (shC_one K u2 ho2)
      have HB3 : Hid (Below w.heap.size w w3) := below_then HB2.out hb3
      have hc2 : (shC K u2 (.slice none 0 0)).size = 3 := rfl
      generalize hk2 : shC K u2 (.slice none 0 0) = k2 at *
      clear hb2 ho2 hb3 hr3 HSH HB2 hk2
      go_wp2_with fail
      refine (HRH.out _ HB3.out).mono ?_
      rintro e w4 ⟨u4, rfl, ho4, hb4⟩
      obtain ⟨w5, hs5, hr5, hb5, hz5⟩ := new_sh (P := Try.prog) (w := w4) (t := 34) (z := #[.int .i64 0, .slice none 0 0, .slice none 0 0]) rfl (shC_size K u4 (.slice none 0 0)) (shC_one K u4 ho4)
      have HB4 : Hid (Below w.heap.size w w5) := below_then (below_then HB3.out hb4) hb5
      have hc4 : (shC K u4 (.slice none 0 0)).size = 3 := rfl
      generalize hk4 : shC K u4 (.slice none 0 0) = k4 at *
      clear hb4 ho4 HRH HB3 hk4 hr5 hb5
      go_wp2_with fail
      go_ret
      exact ⟨rfl, HB4.out⟩
  | true =>
    obtain ⟨e1, e2, e3⟩ := err_yes hq
    rw [e1, e2, e3] at HSH HRH
    simp only [Bool.and_eq_true] at hq
    obtain ⟨hlen, hm1, hm2⟩ := okS_len hq.1
    obtain ⟨mm, rfl⟩ := Int.eq_ofNat_of_zero_le hm1
    have HI0 : Hid (MInv mm L (rowS (mm : Int) L)) := MInv.of (by omega) hq.1 hq.2 HCW.out
    generalize rowS (mm : Int) L = V at *
    have hm16 : mm ≤ 16 := by omega
    clear e1 e2 e3 hq hm1 hm2
    go_enter Try.func4, Try.ntmps4
    go_wp2_with fail
    refine (HSH.out _ (Below.refl _ _)).mono ?_
    rintro e w2 ⟨u2, rfl, ho2, hb2⟩
    have HB2 : Hid (Below w.heap.size w w2) := hb2
    obtain ⟨w3, hs3, hr3, hb3, hz3⟩ := new_sh (P := Try.prog) (w := w2) (t := 34) (z := #[.int .i64 0, .slice none 0 0, .slice none 0 0]) rfl (shC_size 2 u2 (.slice none 0 0)) (shC_one 2 u2 ho2)
    have HB3 : Hid (Below w.heap.size w w3) := below_then HB2.out hb3
    have HV3 : Hid (Nl w3 u2 V ∧ w3.heap[w2.heap.size]? = some (.cells (shC 2 u2 (.slice none 0 0)) 34 (0, 0))) := ⟨(Nl.of_own ho2 (by have := HI0.out.lm; omega) HI0.out.ww).later hb3 (Nat.le_refl _), hr3⟩
    have hc2 : (shC 2 u2 (.slice none 0 0)).size = 3 := rfl
    generalize hk2 : shC 2 u2 (.slice none 0 0) = k2 at hs3 hc2 ⊢
    have HGL0 : Hid (w.heap.size ≤ w2.heap.size) := HB2.out.size
    clear hb2 ho2 hb3 hr3 HSH HB2 hk2
    go_wp2_with fail
    refine (HRH.out _ HB3.out).mono ?_
    rintro e w3' ⟨u4, rfl, ho4, hb3'⟩
    obtain ⟨w4, hs5, hr5, hb5, hz5⟩ := new_sh (P := Try.prog) (w := w3') (t := 34) (z := #[.int .i64 0, .slice none 0 0, .slice none 0 0]) rfl (shC_size 2 u4 (.slice none 0 0)) (shC_one 2 u4 ho4)
    have hb4 := below_then hb3' hb5
    have HB4 : Hid (Below w.heap.size w w4) := below_then HB3.out hb4
    have HV4 : Hid (Nl w4 u2 V ∧ w4.heap[w2.heap.size]? = some (.cells (shC 2 u2 (.slice none 0 0)) 34 (0, 0))) := ⟨HV3.out.1.later hb4 (Nat.le_refl _), by rw [hb4.block _ (heap_lt HV3.out.2)]; exact HV3.out.2⟩
    have hc4 : (shC 2 u4 (.slice none 0 0)).size = 3 := rfl
    generalize hk4 : shC 2 u4 (.slice none 0 0) = k4 at hc4 hs5 ⊢
    clear hb4 ho4 HRH HB3 hk4 HV3 hs3 hz3 hr5 hb5 hb3'
    go_wp2_with fail
    refine (numbers_any (HNC.out _ HB4.out)).mono ?_
    rintro e w5 ⟨v5, rfl, ho5, hb5⟩
    have HB5 : Hid (Below w.heap.size w w5) := below_then HB4.out hb5
    have HV5 : Hid (Nl w5 u2 V ∧ w5.heap[w2.heap.size]? = some (.cells (shC 2 u2 (.slice none 0 0)) 34 (0, 0))) := ⟨HV4.out.1.later hb5 (Nat.le_refl _), by rw [hb5.block _ (heap_lt HV4.out.2)]; exact HV4.out.2⟩
    have a1 : w5.cell? ⟨w2.heap.size, 1, none⟩ = some u2 := by rw [cell_at HV5.out.2]; rfl
    have HO5 : Hid (w5.ownsRow w.heap.size 2 1 v5 L.length (numC L)) := own_base ho5 HB4.out.size
    clear hb5 ho5 HV4 HB4
    go_wp2_with fail
    refine (numbers_any HV5.out.1).mono ?_
    rintro e w6 ⟨v6, rfl, ho6, hb6⟩
    obtain ⟨gc, gcap, hv5⟩ : ∃ gc gcap, v5 = .slice (some ⟨gc, 0, none⟩) (mm + 2) gcap := by
      have hll : L.length = mm + 2 := by omega
      rcases HO5.out.2 with ⟨_, h0⟩ | ⟨g, cap, cur, e, _⟩
      · omega
      · exact ⟨g, cap, by rw [e, hll]⟩
    have HQ6 : Hid (QM w w6 mm gc gcap v6 L V) := by
      have h5 := HO5.out
      have hll : L.length = mm + 2 := by omega
      rw [hv5, hll] at h5
      refine ⟨below_then HB5.out hb6, own_keep h5 (Keep.of_below hb6 []) (by simp), own_base ho6 HB5.out.size, fun e => ?_, HI0.out⟩
      have h7 := (own_block ho6 gc e).1
      have h8 := (own_block h5 gc rfl).2
      omega
    have HSV : Hid (∃ old : Array Value, old.size = 3 ∧ w6.heap[w2.heap.size]? = some (.cells old 34 (0, 0))) := ⟨_, rfl, by rw [hb6.block _ (heap_lt HV5.out.2)]; exact HV5.out.2⟩
    subst hv5
    clear ho6 hb6 HO5 HV5 HB5 a1 HI0 hs5 hz5
    go_wp2_with fail
    generalize hns : S.length = n at *
    have HS6 : Hid (∃ old : Array Value, old.size = 3 ∧ w6.heap[w2.heap.size]? = some (.cells old 34 (0, 0))) := HSV.out
    have HGL : Hid (w.heap.size ≤ w2.heap.size) := HGL0.out
    generalize hgs : w2.heap.size = gs at HS6 HGL
    clear HSV HGL0
    go_loopg [12, 13] n (fun gh rv iv wr => ∃ (i : Nat) (C W : List Int), gh = n - i ∧ i ≤ n ∧ iv = .int .i64 i ∧ QM w wr mm gc gcap rv C W ∧ ∃ old : Array Value, old.size = 3 ∧ wr.heap[gs]? = some (.cells old 34 (0, 0)))
    case atStart => exact ⟨0, L, V, by omega, by omega, rfl, HQ6.out, HS6.out⟩
    case round =>
      obtain ⟨i, C, W, rfl, hi2, rfl, hqm, hgo⟩ := hrel
      have HQM : Hid (QM w wr mm gc gcap u12 C W) := hqm
      have HGO : Hid (∃ old : Array Value, old.size = 3 ∧ wr.heap[gs]? = some (.cells old 34 (0, 0))) := hgo
      obtain ⟨ra, rcap, rfl⟩ := own_slice hqm.rw
      clear hqm HQ6 HS6 hgo
      by_cases hlt : i < n
      · have hd : decide ((i : Int) < (n : Int)) = true := by simp; omega
        have HIW : Hid (wrap64 ((i : Int) + 1) = ((i + 1 : Nat) : Int)) := mq_wrap hSl hlt
        obtain ⟨x, u, rfl, hel⟩ := HEL.out i hlt
        generalize (S.getD i (0, [])).1 = c at hel
        generalize (S.getD i (0, [])).2 = A at hel
        have HE : Hid (∀ w' : World, Below w.heap.size w w' → w'.cell? (x.add (i * 2)) = some (.int .i64 c) ∧ w'.cell? ⟨(x.add (i * 2)).block, (x.add (i * 2)).off + 1, none⟩ = some u ∧ Nl w' u A) := hel
        obtain ⟨l0, l1, hnl⟩ := hel wr HQM.out.bel
        obtain ⟨ua, uc, rfl⟩ := nl_slice hnl
        clear hel hnl
        by_cases har : arV c = (A.length : Int)
        · have hq1 : (arV c == (A.length : Int)) = true := by simpa using har
          have HC : ∀ (w : World) (c : Int), Calls Try.prog 10 #[.int .i64 c] w fun e w' => e = .returned (.int .i64 (arV c)) ∧ w' = w := fun w c => rarity_any w c
          go_wp2_with fail
          go_quiet ((go_at_call 10; refine Calls.quiet_of_same (HC _ _)))
          obtain ⟨w3, hw3⟩ : ∃ w3, w3 = wr.drewN nq := ⟨_, rfl⟩
          have HQ3 : Hid (QM w w3 mm gc gcap (.slice ra W.length rcap) C W ∧ ∃ old : Array Value, old.size = 3 ∧ w3.heap[gs]? = some (.cells old 34 (0, 0))) := by rw [Hid, hw3]; exact ⟨HQM.out.later (below_drawn (Below.refl _ _) _), HGO.out⟩
          obtain ⟨m0, m1, _⟩ := HE.out w3 HQ3.out.1.bel
          rw [← hw3]
          clear hw3 l0 l1 HC HQM HGO
          obtain ⟨rs, hrs⟩ : ∃ rs, runM 0 6 (mkM 0 (mm : Int) c A) C 0 = rs := ⟨_, rfl⟩
          have HDC : Hid (∀ w' : World, QM w w' mm gc gcap (.slice ra W.length rcap) C W → Calls Try.prog 11 #[.slice (some ⟨gc, 0, none⟩) (mm + 2) gcap, .int .i64 0, .int .i64 (mm : Int), .int .i64 c, .slice ua A.length uc] w' fun e w'' => e = .returned (.tuple #[.int .i64 rs.2.1, .int .i64 rs.2.2.1, .bool rs.2.2.2]) ∧ w''.ownsRow w.heap.size 2 1 (.slice (some ⟨gc, 0, none⟩) (mm + 2) gcap) (mm + 2) (numC rs.1) ∧ Keep [gc] w' w'') := fun w' hq => by
            rw [← hrs]
            exact done_run _ _ _ (HE.out w' hq.bel).2.2 (right_of hm16 har) hq.rc
          go_wp2_with fail
          go_cut [14, 15, 16] (fun v0 c0 f0 wx => v0 = .int .i64 rs.2.1 ∧ c0 = .int .i64 rs.2.2.1 ∧ f0 = .bool rs.2.2.2 ∧ DnM w wx mm gc gcap gs (.slice ra W.length rcap) rs.1 W)
          case first =>
            go_region_held3 (fun w' => w'.cell? (x.add (i * 2)) = some (.int .i64 c) ∧ w'.cell? ⟨(x.add (i * 2)).block, (x.add (i * 2)).off + 1, none⟩ = some (.slice ua A.length uc)) (first | go_keep | exact hS) (first
              | (go_at_call 11; refine (HDC.out _ (HQ3.out.1.later (bl_drew1 _))).mono ?_; rintro e w4 ⟨rfl, hr4, hk4⟩; have hq4 := DnM.of (HQ3.out.1.later (bl_drew1 _)) (w4 := w4) HQ3.out.2 hk4 hr4; have hS : w4.cell? (x.add (i * 2)) = some (.int .i64 c) ∧ w4.cell? ⟨(x.add (i * 2)).block, (x.add (i * 2)).off + 1, none⟩ = some (.slice ua A.length uc) := ⟨(HE.out w4 hq4.bel).1, (HE.out w4 hq4.bel).2.1⟩))
            go_wp2_with fail
            go_meet
            exact ⟨rfl, rfl, rfl, hq4⟩
          case rest =>
            obtain ⟨rfl, rfl, rfl, hdn⟩ := hcut
            have HDN : Hid (DnM w wc mm gc gcap gs (.slice ra W.length rcap) rs.1 W) := hdn
            obtain ⟨l0, l1, hnl⟩ := HE.out wc hdn.bel
            have HI : Hid (MInv mm C W) := HQ3.out.1.inv
            have hal := (call_of (right_of hm16 har)).2.2.2.2
            clear hdn HQ3 m0 m1 HDC
            rcases hal with ⟨rfl, hA⟩ | ⟨rfl, hA⟩ | ⟨rfl, hA⟩
            · obtain ⟨_, _, hnc⟩ := nl_cells hnl
              obtain ⟨xa, rfl, hxb, z0⟩ := hnc 0 (by omega)
              rw [add_zero'] at z0
              have hA0 : Hid (∀ x ∈ A, Sx x) := hnl.w64
              rw [hA] at l1
              by_cases hfl : W.length < mm
              · have hq2 : decide ((mm : Int) ≤ (W.length : Int)) = false := by simp; omega
                obtain ⟨C', hC', hI'⟩ := HI.out.put hA0.out hfl
                obtain rfl : (C', 0, 0, true) = rs := by rw [← hrs]; exact hC'.symm
                have HI' : Hid (MInv mm C' (W ++ [nth A 0])) := hI'
                have HNA : Hid (numC (W ++ [nth A 0]) = numC W ++ [.int .i64 (nth A 0)]) := numC_snoc _ _
                generalize nth A 0 = y at *
                clear hrs hnl hnc hC' hI' HI hA0 hxb
                have hsz : w.heap.size ≤ wc.heap.size := HDN.out.bel.size
                go_wp2_with (at_builtin; refine list_lies_wide _ rfl _ _ 30 rfl w.heap.size 2 i0 _ 1 8 Try.underlying30 hi0 hz0 hz1 hz2 rfl (by decide) _ _ _ rfl (HDN.out.rw.alloc _) ⟨wc.heap.size, 0, none⟩ 1 1 [.int .i64 y] rfl rfl (World.news_of_block (cs := #[.int .i64 y]) (t := 2) (fr := (0, 0)) (heap_alloc_new wc _)) (by simp [Value.oneCell']) (by decide) (by unfold maxLen; omega) (by omega) (by simp; omega) _ rfl ?_)
                intro g cp w5 hown' hgrow hat _
                have HQ5 : Hid (QM w w5 mm gc gcap (.slice (some ⟨g, 0, none⟩) (W.length + 1) cp) C' (W ++ [y]) ∧ ∃ old : Array Value, old.size = 3 ∧ w5.heap[gs]? = some (.cells old 34 (0, 0))) := HDN.out.push HI'.out (by rw [HNA.out]; exact hown') hgrow hat
                clear hown' hgrow hat HDN
                go_wp2_with fail
                go_roundg (n - (i + 1))
                case rel => exact ⟨i + 1, C', W ++ [y], rfl, hlt, by first | rw [HIW.out] | go_num, HQ5.out⟩
                case measure => exact mq_less hlt
              · have hge : mm ≤ W.length := by omega
                obtain rfl : (C, 0, 2, true) = rs := by rw [← hrs]; exact (HI.out.full hfl).symm
                have HQ4 : Hid (QM w wc mm gc gcap (.slice ra W.length rcap) C W ∧ ∃ old : Array Value, old.size = 3 ∧ wc.heap[gs]? = some (.cells old 34 (0, 0))) := HDN.out.back HI.out
                clear hrs HDN hnl hnc hxb z0
                go_wp2_with fail
                go_roundg (n - (i + 1))
                case rel => exact ⟨i + 1, C, W, rfl, hlt, by first | rw [HIW.out] | go_num, HQ4.out⟩
                case measure => exact mq_less hlt
            · by_cases hw0 : W.length = 0
              · obtain rfl : (C, 0, 1, true) = rs := by rw [← hrs]; exact (HI.out.none hw0).symm
                have HQ4 : Hid (QM w wc mm gc gcap (.slice ra W.length rcap) C W ∧ ∃ old : Array Value, old.size = 3 ∧ wc.heap[gs]? = some (.cells old 34 (0, 0))) := HDN.out.back HI.out
                rw [hw0] at HQ4 ⊢
                clear hrs HDN hnl
                go_wp2_with fail
                go_roundg (n - (i + 1))
                case rel => exact ⟨i + 1, C, W, rfl, hlt, by first | rw [HIW.out] | go_num, HQ4.out⟩
                case measure => exact mq_less hlt
              · obtain ⟨C', hC', hI'⟩ := HI.out.get (A := A) (by omega)
                obtain rfl : (C', nth W 0, 0, true) = rs := by rw [← hrs]; exact hC'.symm
                have HI' : Hid (MInv mm C' (W.drop 1)) := hI'
                have hwp : 0 < W.length := by omega
                have hw0' : ((W.length : Int) == 0) = false := by simpa using hw0
                obtain ⟨g, hra⟩ : ∃ g, ra = some ⟨g, 0, none⟩ := by
                  rcases HDN.out.rw.2 with ⟨_, h0⟩ | ⟨g, cap, cur, e, _⟩
                  · omega
                  · injection e with e
                    exact ⟨g, e⟩
                subst hra
                have y0 : wc.cell? ⟨g, 0, none⟩ = some (.int .i64 (nth W 0)) := own_cells HDN.out.rw 0 _ (numC_get W 0 hwp)
                have HSL : Hid (∀ v, v = (if rcap = 1 then Value.slice (some ⟨g, 0, none⟩) 0 0 else Value.slice (some ⟨g, 1, none⟩) (W.length - 1) (rcap - 1)) → Nl wc v (W.drop 1)) := fun v hv => by rw [hv]; exact nl_tail HDN.out.rw HI'.out.ww hwp (by have := HI.out.lm; omega)
                have HLC : Hid (W.length ≤ rcap) := own_cap HDN.out.rw
                clear hrs hnl hC' hI' HI hw0
                by_cases hr1 : rcap = 1
                · have hWl : W.length = 1 := by have := HLC.out; omega
                  have HNT : Hid (Nl wc (.slice (some ⟨g, 0, none⟩) 0 0) (W.drop 1)) := HSL.out _ (by rw [if_pos hr1])
                  rw [hWl] at HDN hw0' ⊢
                  subst hr1
                  clear HSL HLC hwp hWl
                  go_wp2_with fail
                  refine (numbers_any HNT.out).mono ?_
                  rintro e w5 ⟨v5, rfl, ho5, hb5⟩
                  have HQ5 : Hid (QM w w5 mm gc gcap v5 C' (W.drop 1) ∧ ∃ old : Array Value, old.size = 3 ∧ w5.heap[gs]? = some (.cells old 34 (0, 0))) := HDN.out.tail HI'.out ho5 hb5
                  clear ho5 hb5 HDN
                  go_wp2_with fail
                  go_roundg (n - (i + 1))
                  case rel => exact ⟨i + 1, C', W.drop 1, rfl, hlt, by first | rw [HIW.out] | go_num, HQ5.out⟩
                  case measure => exact mq_less hlt
                · have HNT : Hid (Nl wc (.slice (some ⟨g, 1, none⟩) (W.length - 1) (rcap - 1)) (W.drop 1)) := HSL.out _ (by rw [if_neg hr1])
                  have hlc := HLC.out
                  clear HSL HLC
                  go_wp2_with fail
                  refine (numbers_any HNT.out).mono ?_
                  rintro e w5 ⟨v5, rfl, ho5, hb5⟩
                  have HQ5 : Hid (QM w w5 mm gc gcap v5 C' (W.drop 1) ∧ ∃ old : Array Value, old.size = 3 ∧ w5.heap[gs]? = some (.cells old 34 (0, 0))) := HDN.out.tail HI'.out ho5 hb5
                  clear ho5 hb5 HDN
                  go_wp2_with fail
                  go_roundg (n - (i + 1))
                  case rel => exact ⟨i + 1, C', W.drop 1, rfl, hlt, by first | rw [HIW.out] | go_num, HQ5.out⟩
                  case measure => exact mq_less hlt
            · obtain rfl : (C, (W.length : Int), 0, true) = rs := by rw [← hrs]; exact HI.out.len.symm
              have HQ4 : Hid (QM w wc mm gc gcap (.slice ra W.length rcap) C W ∧ ∃ old : Array Value, old.size = 3 ∧ wc.heap[gs]? = some (.cells old 34 (0, 0))) := HDN.out.back HI.out
              clear hrs HDN hnl
              go_wp2_with fail
              go_roundg (n - (i + 1))
              case rel => exact ⟨i + 1, C, W, rfl, hlt, by first | rw [HIW.out] | go_num, HQ4.out⟩
              case measure => exact mq_less hlt
        · have hq1 : (arV c == (A.length : Int)) = false := by simpa using har
          have HC : ∀ (w : World) (c : Int), Calls Try.prog 10 #[.int .i64 c] w fun e w' => e = .returned (.int .i64 (arV c)) ∧ w' = w := fun w c => rarity_any w c
          clear har
          go_wp2_with fail
          go_quiet ((go_at_call 10; refine Calls.quiet_of_same (HC _ _)))
          go_wp2_with fail
          go_roundg (n - (i + 1))
          case rel => exact ⟨i + 1, C, W, rfl, hlt, by first | rw [HIW.out] | go_num, HQM.out.later (below_drawn (Below.refl _ _) _), HGO.out⟩
          case measure => exact mq_less hlt
      · have hd : decide ((i : Int) < (n : Int)) = false := by simp; omega
        have HN : Hid (Nl wr (.slice (some ⟨gc, 0, none⟩) (mm + 2) gcap) C) := by
          have h1 := HQM.out.inv.lc
          have h2 := HQM.out.rc
          rw [← h1] at h2 ⊢
          exact Nl.of_own h2 (by omega) HQM.out.inv.cw
        have HSH2 : Hid (∀ w' : World, Nl w' (.slice (some ⟨gc, 0, none⟩) (mm + 2) gcap) C → Calls Try.prog 7 #[.int .i64 (mm : Int), .slice (some ⟨gc, 0, none⟩) (mm + 2) gcap] w' fun e w'' => ∃ u, e = .returned (.tuple #[.agg (shC 2 u (.slice none 0 0)), .int .i64 0]) ∧ w''.ownsRow w'.heap.size 2 1 u W.length (numC W) ∧ Below w'.heap.size w' w'') := fun w' h => by
          have := shape_any (mm : Int) h
          obtain ⟨s1, s2, s3⟩ := HQM.out.inv.says
          obtain ⟨t1, t2, t3⟩ := err_yes (m := (mm : Int)) (l := C) (by rw [s1, s2]; rfl)
          rw [t1, t2, t3, s3] at this
          exact this
        obtain ⟨old, hold, hogs⟩ := HGO.out
        clear HEL
        go_wp2_with fail
        refine (HSH2.out _ HN.out).mono ?_
        rintro e w4 ⟨u4, rfl, ho4, hb4⟩
        have HQ4 : Hid (QM w w4 mm gc gcap (.slice ra W.length rcap) C W) := HQM.out.later hb4
        have hg4 : w4.heap[gs]? = some (.cells old 34 (0, 0)) := by rw [hb4.block _ (heap_lt hogs)]; exact hogs
        have hst := store_sh (P := Try.prog) hg4 hold (shC_size 2 u4 (.slice none 0 0)) (shC_one 2 u4 ho4)
        have HG5 : Hid ((w4.setRow gs (shC 2 u4 (.slice none 0 0))).heap[gs]? = some (.cells (shC 2 u4 (.slice none 0 0)) 34 (0, 0))) := setRow_heap _ _ _ _ _ _ hg4
        obtain ⟨w5, hw5⟩ : ∃ w5, w5 = w4.setRow gs (shC 2 u4 (.slice none 0 0)) := ⟨_, rfl⟩
        rw [← hw5] at hst HG5
        have HK5 : Hid (Keep [gs] w4 w5) := by rw [Hid, hw5]; exact Keep.row _ _ _
        have hgsl : Hid (w.heap.size ≤ gs) := HGL.out
        have HN5 : Hid (Nl w5 u4 W ∧ Nl w5 (.slice ra W.length rcap) W ∧ Below w.heap.size w w5) := by
          have hu : w5.ownsRow wr.heap.size 2 1 u4 W.length (numC W) := own_keep ho4 HK5.out (fun b hb => by simp; exact fun e => own_ne ho4 hg4 (by decide) (by rw [hb, e]))
          have hr : w5.ownsRow w.heap.size 2 1 (.slice ra W.length rcap) W.length (numC W) := own_keep HQ4.out.rw HK5.out (fun b hb => by simp; exact fun e => own_ne HQ4.out.rw hg4 (by decide) (by rw [hb, e]))
          exact ⟨Nl.of_own hu (by have := HQ4.out.inv.lm; omega) HQ4.out.inv.ww, Nl.of_own hr (by have := HQ4.out.inv.lm; omega) HQ4.out.inv.ww, HQ4.out.bel.trans (HK5.out.below HQ4.out.bel.size (by simpa using hgsl.out))⟩
        have a1 : w5.cell? ⟨gs, 1, none⟩ = some u4 := by rw [cell_at HG5.out]; rfl
        have hc4 : (shC 2 u4 (.slice none 0 0)).size = 3 := rfl
        generalize hk4 : shC 2 u4 (.slice none 0 0) = k5 at *
        have HSQ : Hid (Calls Try.prog 12 #[u4, .slice ra W.length rcap] w5 fun e w'' => e = .returned (.bool true) ∧ Below w5.heap.size w5 w'') := by have := same_any HN5.out.1 HN5.out.2.1; rw [decide_eq_true (rfl : W = W)] at this; exact this
        have HBL5 : Hid (Below w.heap.size w w5) := HN5.out.2.2
        clear hb4 ho4 hg4 hw5 hk4 HSH2 HN HK5 HN5 HQ4 hogs HG5
        go_wp2_with fail
        refine HSQ.out.mono ?_
        rintro e w6 ⟨rfl, hb6⟩
        have HB6 : Hid (Below w.heap.size w w6) := below_then HBL5.out hb6
        clear hb6 HSQ
        go_wp2_with fail
        go_ret
        exact ⟨rfl, HB6.out⟩
end Go.Proofs.Ytkikogalaejnlab.Qu
