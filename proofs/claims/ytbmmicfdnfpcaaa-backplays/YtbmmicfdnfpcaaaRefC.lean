/- The document's Load, Store, Swap and Peek. -/
import Derived.Test.YtbmmicfdnfpcaaaRefB
namespace Go.Proofs.Ytbmmicfdnfpcaaa
open Go.ChangeShapes Go.WideShapes Go.ChangeAt Go.RowKit
attribute [local go_sem ↓] Go.wp_at_zero Go.wp_at_succ

theorem rnote_end {w X w1 : World} {base c r R gg cap' n : Nat} {p v : Value} {L : List Ac} {G : List Nat} {x : Ac} (h : RefAt' w base p c r L G R v) (kX : Keep [] w X) (hn : L.length = n)
    (hown1 : w1.ownsRow base 92 8 (.slice (some ⟨gg, 0, none⟩) (n + 1) cap') (n + 1) (logC L ++ (acC x).toList)) (hgrow : X.grownBy w1 v.ownBlock) (hat : v.ownBlock = some gg ∨ w.heap.size ≤ gg) :
    ∃ G', RefAt (w1.setCell ⟨R, 2, none⟩ (.slice (some ⟨gg, 0, none⟩) (n + 1) cap')) base p c r (L ++ [x]) G' ∧ Next G G' w (w1.setCell ⟨R, 2, none⟩ (.slice (some ⟨gg, 0, none⟩) (n + 1) cap')) := by
  have k0 : Keep v.ownBlock.toList w w1 := (kX.mono (fun b hb => by simp at hb)).grown hgrow (fun b hb => Or.inl (by rw [hb]; simp))
  have hm1 : w1.heap[R]? = some (.cells #[.int .i64 (c : Int), .int .i64 (r : Int), v] 67 (0, 0)) := by
    rw [k0.block _ (heap_lt h.m) (fun hm => own_ne h.own h.m (by decide) (by simpa using hm))]; exact h.m
  have hg1 : (Value.slice (some ⟨gg, 0, none⟩) (n + 1) cap').ownBlock ≠ some R := own_ne hown1 hm1 (by decide)
  have kset : Keep [R] w1 (w1.setCell ⟨R, 2, none⟩ (.slice (some ⟨gg, 0, none⟩) (n + 1) cap')) := (Keep.refl _ _).setCell _ _ (Or.inl (by simp))
  refine ⟨_, ⟨R, .slice (some ⟨gg, 0, none⟩) (n + 1) cap', h.p, ?_, ?_, rfl, h.bR⟩, ?_, ?_⟩
  · rw [heap_set hm1]; rfl
  · rw [logC_app, logC_one, List.length_append, hn]
    exact own_keep hown1 kset (fun b hb hm => by simp at hm; subst hm; exact hg1 hb)
  · rw [h.F]
    exact (k0.mono (fun b hb => by simp at hb ⊢; exact Or.inr hb)).trans kset (fun b hb => by simp at hb; subst hb; exact Or.inl (by simp))
  · intro b hb
    rw [h.F]
    simp only [List.mem_cons, Option.mem_toList] at hb ⊢
    rcases hb with rfl | hb
    · simp
    · have hb' : gg = b := by simpa [Value.ownBlock] using hb
      subst hb'
      rcases hat with e | e
      · left; right; exact e
      · exact Or.inr e

set_option maxRecDepth 100000 in
set_option maxHeartbeats 3200000 in
theorem rload_any {w : World} {base : Nat} {p : Value} {c r : Nat} {L : List Ac} {F : List Nat} (h : RefAt w base p c r L F) (hb : base ≤ w.heap.size) (hL : L.length < 3298534883328) (t : Int) (a : Ad) :
    Calls Try.prog 37 #[p, .int .i64 t, .agg (adC a)] w fun e w' => e = .returned (.tuple #[.int .i64 (if isAd c r a then wordOf L a else 0), .int .i64 (if isAd c r a then 0 else 1)]) ∧ ∃ F', RefAt w' base p c r (loadL c r L t a) F' ∧ Next F F' w w' := by
  obtain ⟨k, i, j⟩ := a
  obtain ⟨i0, hi, hz0, hz1, hz2⟩ := info_parts info_acc
  have HI : Hid (∀ w : World, RefAt w base p c r L F → Calls Try.prog 31 #[p, .agg #[.int .i64 k, .int .i64 i, .int .i64 j]] w fun e w' => e = .returned (.bool (isAd c r ⟨k, i, j⟩)) ∧ Below w.heap.size w w') := fun w h => is_any h ⟨k, i, j⟩
  have HW : Hid (∀ w : World, RefAt w base p c r L F → Calls Try.prog 55 #[p, .agg #[.int .i64 k, .int .i64 i, .int .i64 j]] w fun e w' => e = .returned (.int .i64 (wordOf L ⟨k, i, j⟩)) ∧ Below w.heap.size w w') := fun w h => rword_any h (by omega) ⟨k, i, j⟩
  have HR : Hid (∀ w' : World, Below w.heap.size w w' → RefAt w' base p c r L F) := fun w' hb => h.below hb
  obtain ⟨R, v, h⟩ := h
  obtain rfl := h.p
  have HRR : Hid (RefAt' w base (.pointer (some ⟨R, 0, none⟩)) c r L F R v) := h
  obtain ⟨va, vc, rfl⟩ := own_slice h.own
  have HC : Hid (∀ w' : World, Below w.heap.size w w' → w'.cell? ⟨R, 2, none⟩ = some (.slice va L.length vc) ∧ w'.frozen? ⟨R, 2, none⟩ = false ∧ R < w'.heap.size ∧ w'.ownsRow base 92 8 (.slice va L.length vc) L.length (logC L)) := fun w' hb' => by
    have hm : w'.heap[R]? = some (.cells #[.int .i64 (c : Int), .int .i64 (r : Int), .slice va L.length vc] 67 (0, 0)) := by rw [hb'.block _ (heap_lt HRR.out.m)]; exact HRR.out.m
    exact ⟨by rw [cell_at hm]; rfl, frozen_at hm 2, heap_lt hm, own_keep HRR.out.own (Keep.of_below hb' []) (fun _ _ => by simp)⟩
  have hRv : (Value.slice va L.length vc).ownBlock ≠ some R := own_ne h.own h.m (by decide)
  have HVL : Hid (∀ b, (Value.slice va L.length vc).ownBlock = some b → b < w.heap.size) := fun b e => (own_block h.own b e).2
  clear h
  unfold adC loadL
  by_cases ha : isAd c r ⟨k, i, j⟩ = true
  · rw [if_pos ha, if_pos ha, if_pos ha]
    rw [ha] at HI
    generalize wordOf L ⟨k, i, j⟩ = z at *
    generalize hxs : logC L = xs at *
    generalize hn : L.length = n at *
    go_enter Try.func37, Try.ntmps37
    go_wp2_with fail
    refine (HI.out _ (HR.out _ (below_a1 _ _))).mono ?_
    rintro e w1 ⟨rfl, hb1⟩
    have HB1' : Hid (Below (w.alloc (.cells (adC ⟨k, i, j⟩) 46)).heap.size (w.alloc (.cells (adC ⟨k, i, j⟩) 46)) w1) := hb1
    have HB1 : Hid (Below w.heap.size w w1) := below_then (below_a1 _ _) hb1
    clear hb1
    obtain ⟨b0, b1, b2⟩ := box_cells (a := ⟨k, i, j⟩) HB1'.out
    go_wp2_with fail
    refine (HW.out _ (HR.out _ HB1.out)).mono ?_
    rintro e w2 ⟨rfl, hb2⟩
    have HB2' : Hid (Below (w.alloc (.cells (adC ⟨k, i, j⟩) 46)).heap.size (w.alloc (.cells (adC ⟨k, i, j⟩) 46)) w2) := below_then HB1'.out hb2
    have HB2 : Hid (Below w.heap.size w w2) := below_then HB1.out hb2
    clear hb2 b0 b1 b2 HB1 HB1'
    obtain ⟨b0, b1, b2⟩ := box_cells (a := ⟨k, i, j⟩) HB2'.out
    obtain ⟨hc2, hf2, hR2, ho2⟩ := HC.out _ HB2.out
    have HO2 : Hid (w2.ownsRow base 92 8 (.slice va n vc) n xs) := ho2
    have hsz2 : base ≤ w2.heap.size := Nat.le_trans hb HB2.out.size
    have hsw : w.heap.size ≤ w2.heap.size := HB2.out.size
    have hR3 : R < w2.heap.size + 1 := by omega
    clear ho2
    go_wp2_with fail
    go_region_law
      ((refine step_lies_wide _ (by rfl) _ _ _ (by rfl) base 92 i0 _ 8 64 Try.underlying64 hi hz0 hz1 hz2 rfl (by omega) (.slice va n vc) n xs (by rfl) ((HO2.out.alloc _).drew) ⟨w2.heap.size, 0, none⟩ 1 1 [.int .i64 t, .int .i64 1, .int .i64 k, .int .i64 i, .int .i64 j, .int .i64 0, .int .i64 z, .bool false] (by rfl) (by rfl) (World.news_of_block (cs := #[.int .i64 t, .int .i64 1, .int .i64 k, .int .i64 i, .int .i64 j, .int .i64 0, .int .i64 z, .bool false]) (t := 92) (fr := (0, 0)) (heap_alloc_new w2 _)) (by simp [Value.oneCell']) (by omega) (by unfold maxLen; omega) (by omega) (by simp; omega) (w2.heap.size + 1) (by simp) ?_; intro gg cap' w3 hown1 hgrow hat hlt; have hs1 : w3.cell? ⟨R, 2, none⟩ = some (.slice va n vc) := (by rw [hgrow.cell_far _ (by simp; omega) (Ne.symm hRv)]; rw [cl_drew, World.cell?_alloc_past _ _ _ hR2]; exact hc2); have hs2 : w3.frozen? ⟨R, 2, none⟩ = false := (by rw [hgrow.frozen_far _ (by simp; omega) (Ne.symm hRv)]; rw [fr_drew, World.frozen?_alloc_past _ _ _ hR2]; exact hf2)))
    all_goals
      have HE := rnote_end (x := Ac.mk t 1 ⟨k, i, j⟩ 0 z false) HRR.out (((Keep.of_below HB2.out []).alloc _).drewN 1) hn (by rw [hxs]; exact hown1) hgrow (by rcases hat with e | e; exact Or.inl e; exact Or.inr (by omega))
      have HE' : Hid (∃ G', RefAt (w3.setCell ⟨R, 2, none⟩ (.slice (some ⟨gg, 0, none⟩) (n + 1) cap')) base (.pointer (some ⟨R, 0, none⟩)) c r (L ++ [Ac.mk t 1 ⟨k, i, j⟩ 0 z false]) G' ∧ Next F G' w (w3.setCell ⟨R, 2, none⟩ (.slice (some ⟨gg, 0, none⟩) (n + 1) cap'))) := HE
      clear HE hown1 hgrow hat hs1 hs2 b0 b1 b2 hc2 hf2
      go_wp2
      go_ret2
      exact ⟨rfl, HE'.out⟩
  · have hf : isAd c r ⟨k, i, j⟩ = false := by simpa using ha
    rw [if_neg ha, if_neg ha, if_neg ha]
    rw [hf] at HI
    go_enter Try.func37, Try.ntmps37
    go_wp2_with fail
    refine (HI.out _ (HR.out _ (below_a1 _ _))).mono ?_
    rintro e w1 ⟨rfl, hb1⟩
    have HB1 : Hid (Below w.heap.size w w1) := below_then (below_a1 _ _) hb1
    clear hb1
    go_wp2
    go_ret2
    exact ⟨rfl, F, HR.out _ HB1.out, Next.of_below HB1.out F⟩

set_option maxRecDepth 100000 in
set_option maxHeartbeats 3200000 in
theorem rstore_any {w : World} {base : Nat} {p : Value} {c r : Nat} {L : List Ac} {F : List Nat} (h : RefAt w base p c r L F) (hb : base ≤ w.heap.size) (hL : L.length < 3298534883328) (t : Int) (a : Ad) (z : Int) :
    Calls Try.prog 14 #[p, .int .i64 t, .agg (adC a), .int .i64 z] w fun e w' => e = .returned (.int .i64 (if isAd c r a then 0 else 1)) ∧ ∃ F', RefAt w' base p c r (storeL c r L t a z) F' ∧ Next F F' w w' := by
  obtain ⟨k, i, j⟩ := a
  obtain ⟨i0, hi, hz0, hz1, hz2⟩ := info_parts info_acc
  have HI : Hid (∀ w : World, RefAt w base p c r L F → Calls Try.prog 31 #[p, .agg #[.int .i64 k, .int .i64 i, .int .i64 j]] w fun e w' => e = .returned (.bool (isAd c r ⟨k, i, j⟩)) ∧ Below w.heap.size w w') := fun w h => is_any h ⟨k, i, j⟩
  have HW : Hid (∀ w : World, RefAt w base p c r L F → Calls Try.prog 55 #[p, .agg #[.int .i64 k, .int .i64 i, .int .i64 j]] w fun e w' => e = .returned (.int .i64 (wordOf L ⟨k, i, j⟩)) ∧ Below w.heap.size w w') := fun w h => rword_any h (by omega) ⟨k, i, j⟩
  have HR : Hid (∀ w' : World, Below w.heap.size w w' → RefAt w' base p c r L F) := fun w' hb => h.below hb
  obtain ⟨R, v, h⟩ := h
  obtain rfl := h.p
  have HRR : Hid (RefAt' w base (.pointer (some ⟨R, 0, none⟩)) c r L F R v) := h
  obtain ⟨va, vc, rfl⟩ := own_slice h.own
  have HC : Hid (∀ w' : World, Below w.heap.size w w' → w'.cell? ⟨R, 2, none⟩ = some (.slice va L.length vc) ∧ w'.frozen? ⟨R, 2, none⟩ = false ∧ R < w'.heap.size ∧ w'.ownsRow base 92 8 (.slice va L.length vc) L.length (logC L)) := fun w' hb' => by
    have hm : w'.heap[R]? = some (.cells #[.int .i64 (c : Int), .int .i64 (r : Int), .slice va L.length vc] 67 (0, 0)) := by rw [hb'.block _ (heap_lt HRR.out.m)]; exact HRR.out.m
    exact ⟨by rw [cell_at hm]; rfl, frozen_at hm 2, heap_lt hm, own_keep HRR.out.own (Keep.of_below hb' []) (fun _ _ => by simp)⟩
  have hRv : (Value.slice va L.length vc).ownBlock ≠ some R := own_ne h.own h.m (by decide)
  have HVL : Hid (∀ b, (Value.slice va L.length vc).ownBlock = some b → b < w.heap.size) := fun b e => (own_block h.own b e).2
  clear h
  unfold adC storeL
  by_cases ha : isAd c r ⟨k, i, j⟩ = true
  · rw [if_pos ha, if_pos ha]
    rw [ha] at HI
    generalize hxs : logC L = xs at *
    generalize hn : L.length = n at *
    go_enter Try.func14, Try.ntmps14
    go_wp2_with fail
    refine (HI.out _ (HR.out _ (below_a1 _ _))).mono ?_
    rintro e w1 ⟨rfl, hb1⟩
    have HB1' : Hid (Below (w.alloc (.cells (adC ⟨k, i, j⟩) 46)).heap.size (w.alloc (.cells (adC ⟨k, i, j⟩) 46)) w1) := hb1
    have HB1 : Hid (Below w.heap.size w w1) := below_then (below_a1 _ _) hb1
    clear hb1
    obtain ⟨w2, rfl⟩ : ∃ w2, w2 = w1 := ⟨_, rfl⟩
    have HB2' := HB1'
    have HB2 := HB1
    clear HB1 HB1'
    obtain ⟨b0, b1, b2⟩ := box_cells (a := ⟨k, i, j⟩) HB2'.out
    obtain ⟨hc2, hf2, hR2, ho2⟩ := HC.out _ HB2.out
    have HO2 : Hid (w2.ownsRow base 92 8 (.slice va n vc) n xs) := ho2
    have hsz2 : base ≤ w2.heap.size := Nat.le_trans hb HB2.out.size
    have hsw : w.heap.size ≤ w2.heap.size := HB2.out.size
    have hR3 : R < w2.heap.size + 1 := by omega
    clear ho2
    go_wp2_with fail
    go_region_law
      ((refine step_lies_wide _ (by rfl) _ _ _ (by rfl) base 92 i0 _ 8 64 Try.underlying64 hi hz0 hz1 hz2 rfl (by omega) (.slice va n vc) n xs (by rfl) ((HO2.out.alloc _).drew) ⟨w2.heap.size, 0, none⟩ 1 1 [.int .i64 t, .int .i64 2, .int .i64 k, .int .i64 i, .int .i64 j, .int .i64 0, .int .i64 z, .bool false] (by rfl) (by rfl) (World.news_of_block (cs := #[.int .i64 t, .int .i64 2, .int .i64 k, .int .i64 i, .int .i64 j, .int .i64 0, .int .i64 z, .bool false]) (t := 92) (fr := (0, 0)) (heap_alloc_new w2 _)) (by simp [Value.oneCell']) (by omega) (by unfold maxLen; omega) (by omega) (by simp; omega) (w2.heap.size + 1) (by simp) ?_; intro gg cap' w3 hown1 hgrow hat hlt; have hs1 : w3.cell? ⟨R, 2, none⟩ = some (.slice va n vc) := (by rw [hgrow.cell_far _ (by simp; omega) (Ne.symm hRv)]; rw [cl_drew, World.cell?_alloc_past _ _ _ hR2]; exact hc2); have hs2 : w3.frozen? ⟨R, 2, none⟩ = false := (by rw [hgrow.frozen_far _ (by simp; omega) (Ne.symm hRv)]; rw [fr_drew, World.frozen?_alloc_past _ _ _ hR2]; exact hf2)))
    all_goals
      have HE := rnote_end (x := Ac.mk t 2 ⟨k, i, j⟩ 0 z false) HRR.out (((Keep.of_below HB2.out []).alloc _).drewN 1) hn (by rw [hxs]; exact hown1) hgrow (by rcases hat with e | e; exact Or.inl e; exact Or.inr (by omega))
      have HE' : Hid (∃ G', RefAt (w3.setCell ⟨R, 2, none⟩ (.slice (some ⟨gg, 0, none⟩) (n + 1) cap')) base (.pointer (some ⟨R, 0, none⟩)) c r (L ++ [Ac.mk t 2 ⟨k, i, j⟩ 0 z false]) G' ∧ Next F G' w (w3.setCell ⟨R, 2, none⟩ (.slice (some ⟨gg, 0, none⟩) (n + 1) cap'))) := HE
      clear HE hown1 hgrow hat hs1 hs2 b0 b1 b2 hc2 hf2
      go_wp2
      go_ret
      exact ⟨rfl, HE'.out⟩
  · have hf : isAd c r ⟨k, i, j⟩ = false := by simpa using ha
    rw [if_neg ha, if_neg ha]
    rw [hf] at HI
    go_enter Try.func14, Try.ntmps14
    go_wp2_with fail
    refine (HI.out _ (HR.out _ (below_a1 _ _))).mono ?_
    rintro e w1 ⟨rfl, hb1⟩
    have HB1 : Hid (Below w.heap.size w w1) := below_then (below_a1 _ _) hb1
    clear hb1
    go_wp2
    go_ret
    exact ⟨rfl, F, HR.out _ HB1.out, Next.of_below HB1.out F⟩
