/- The program's memory: Load, Store, Swap, Count, Sizes. -/
import Derived.Test.YtbmmicfdnfpcaaaMemD
namespace Go.Proofs.Ytbmmicfdnfpcaaa
open Go.ChangeShapes Go.WideShapes Go.ChangeAt Go.RowKit
attribute [local go_sem ↓] Go.wp_at_zero Go.wp_at_succ

/-- What an access makes of a log. -/
def loadL (c r : Nat) (L : List Ac) (t : Int) (a : Ad) : List Ac := if isAd c r a then L ++ [Ac.mk t 1 a 0 (wordOf L a) false] else L
def storeL (c r : Nat) (L : List Ac) (t : Int) (a : Ad) (z : Int) : List Ac := if isAd c r a then L ++ [Ac.mk t 2 a 0 z false] else L
def swapL (c r : Nat) (L : List Ac) (t : Int) (a : Ad) (o z : Int) : List Ac := if isAd c r a then L ++ [Ac.mk t 3 a o z (wordOf L a == o)] else L

theorem count_any {w : World} {base : Nat} {p : Value} {c r : Nat} {L : List Ac} {F : List Nat} (h : MemAt w base p c r L F) :
    Calls Try.prog 41 #[p] w fun e w' => e = .returned (.int .i64 (L.length : Int)) ∧ w' = w := by
  obtain ⟨M, H, S, C, v, h⟩ := h
  obtain rfl := h.p
  have hc4 : w.cell? ⟨M, 4, none⟩ = some v := by rw [cell_at h.m.m]; rfl
  obtain ⟨a, cap, rfl⟩ := own_slice h.own
  clear h
  go_enter Try.func41, Try.ntmps41
  go_wp2
  go_ret
  exact ⟨rfl, rfl⟩

theorem sizes_any {w : World} {base : Nat} {p : Value} {c r : Nat} {L : List Ac} {F : List Nat} (h : MemAt w base p c r L F) :
    Calls Try.prog 52 #[p] w fun e w' => e = .returned (.tuple #[.int .i64 (c : Int), .int .i64 (r : Int)]) ∧ Below w.heap.size w w' := by
  obtain ⟨M, H, S, C, v, h⟩ := h
  obtain rfl := h.p
  have h1 : w.cell? ⟨M, 1, none⟩ = some (.slice (some ⟨H, 0, none⟩) r r) := by rw [cell_at h.m.m]; rfl
  have h3 : w.cell? ⟨M, 3, none⟩ = some (.slice (some ⟨C, 0, none⟩) c c) := by rw [cell_at h.m.m]; rfl
  clear h
  go_enter Try.func52, Try.ntmps52
  go_wp2
  first | (go_ret2; exact ⟨rfl, Below.refl _ _⟩) | (go_quiet (fail); go_wp2; go_ret2; exact ⟨rfl, below_drawn (Below.refl _ _) _⟩)

set_option maxRecDepth 100000 in
set_option maxHeartbeats 3200000 in
theorem load_any {w : World} {base : Nat} {p : Value} {c r : Nat} {L : List Ac} {F : List Nat} (h : MemAt w base p c r L F) (hb : base ≤ w.heap.size) (hL : L.length < 3298534883328) (t : Int) (a : Ad) :
    Calls Try.prog 84 #[p, .int .i64 t, .agg (adC a)] w fun e w' => e = .returned (.tuple #[.int .i64 (if isAd c r a then wordOf L a else 0), .int .i64 (if isAd c r a then 0 else 1)]) ∧ ∃ F', MemAt w' base p c r (loadL c r L t a) F' ∧ Next F F' w w' := by
  obtain ⟨M, H, S, C, v, h⟩ := h
  obtain rfl := h.p
  have hm := h.m
  have HH : Hid (MemAt' w base (.pointer (some ⟨M, 0, none⟩)) c r L F M H S C v) := h
  have HB : Hid (∀ o, Calls Try.prog 29 #[.pointer (some ⟨M, 0, none⟩), .agg (adC a)] (w.alloc o) fun e w' => e = .returned (ptr_ c r M H S C a) ∧ Below (w.alloc o).heap.size (w.alloc o) w') := fun o => word_any (hm.keep (Keep.of_below (below_a1 _ _) []) (by simp) (by simp) (by simp) (by simp)) h.r h.c a
  clear h
  unfold loadL
  obtain ⟨k, i, j⟩ := a
  by_cases ha : isAd c r ⟨k, i, j⟩ = true
  · have hcell := hm.cell ha
    have HP : Hid (ptr_ c r M H S C ⟨k, i, j⟩ = .pointer (some (at_ M H S C ⟨k, i, j⟩))) := by unfold ptr_; rw [Hid, if_pos ha]
    have HN : Hid (∀ (w1 w2 : World) (v' : Value), Keep [M, H, S, C] w w1 → MemW w2 c r M H S C (wordOf L) v' → w2.ownsRow base 92 8 v' (L ++ [Ac.mk t 1 ⟨k, i, j⟩ 0 (wordOf L ⟨k, i, j⟩) false]).length (logC (L ++ [Ac.mk t 1 ⟨k, i, j⟩ 0 (wordOf L ⟨k, i, j⟩) false])) → (v'.ownBlock = v.ownBlock ∨ ∃ g, v'.ownBlock = some g ∧ w1.heap.size ≤ g) → Keep (M :: v.ownBlock.toList) w1 w2 →
        ∃ F', MemAt w2 base (.pointer (some ⟨M, 0, none⟩)) c r (L ++ [Ac.mk t 1 ⟨k, i, j⟩ 0 (wordOf L ⟨k, i, j⟩) false]) F' ∧ Next F F' w w2) := fun w1 w2 v' k1 m2 o2 hat k2 => next_note HH.out k1 (by rw [wordOf_miss (by rfl)]; exact m2) o2 hat k2
    rw [if_pos ha, if_pos ha, if_pos ha]
    have HQB : Hid ((at_ M H S C ⟨k, i, j⟩).block ∈ [M, H, S, C]) := at_block _ _ _ _ _
    have HCELL : Hid (∀ (w' : World) (v' : Value), MemW w' c r M H S C (wordOf L) v' → w'.cell? (at_ M H S C ⟨k, i, j⟩) = some (.int .i64 (wordOf L ⟨k, i, j⟩))) := fun w' v' hm' => hm'.cell ha
    generalize at_ M H S C ⟨k, i, j⟩ = q at *
    generalize wordOf L ⟨k, i, j⟩ = z at *
    unfold adC
    unfold adC at HB
    go_enter Try.func84, Try.ntmps84
    go_wp2_with fail
    refine (HB.out _).mono ?_
    rintro e w1 ⟨rfl, hb1⟩
    obtain ⟨b0, b1, b2⟩ := box_cells (a := ⟨k, i, j⟩) hb1
    have HBL : Hid (Below w.heap.size w w1) := below_then (below_a1 _ _) hb1
    have HM1 : Hid (MemW w1 c r M H S C (wordOf L) v) := hm.keep (Keep.of_below HBL.out []) (by simp) (by simp) (by simp) (by simp)
    have HO1 : Hid (w1.ownsRow base 92 8 v L.length (logC L)) := own_keep HH.out.own (Keep.of_below HBL.out []) (fun _ _ => by simp)
    have hsz : base ≤ w1.heap.size := Nat.le_trans hb HBL.out.size
    have hc1 : w1.cell? q = some (.int .i64 z) := HCELL.out _ _ HM1.out
    have HNT : Hid (Calls Try.prog 30 #[.pointer (some ⟨M, 0, none⟩), .agg #[.int .i64 t, .int .i64 1, .int .i64 k, .int .i64 i, .int .i64 j, .int .i64 0, .int .i64 z, .bool false]] w1.drew fun e w' => ∃ v', e = .returned (.tuple #[]) ∧ MemW w' c r M H S C (wordOf L) v' ∧ w'.ownsRow base 92 8 v' (L ++ [Ac.mk t 1 ⟨k, i, j⟩ 0 z false]).length (logC (L ++ [Ac.mk t 1 ⟨k, i, j⟩ 0 z false])) ∧ (v'.ownBlock = v.ownBlock ∨ ∃ g, v'.ownBlock = some g ∧ w1.heap.size ≤ g) ∧ Keep (M :: v.ownBlock.toList) w1.drew w') :=
      note_any (w := w1.drew) (x := Ac.mk t 1 ⟨k, i, j⟩ 0 z false) (HM1.out.keep ((Keep.refl [] _).drewN 1) (by simp) (by simp) (by simp) (by simp)) (own_keep HO1.out ((Keep.refl [] _).drewN 1) (fun _ _ => by simp)) hsz hL
    clear hb1
    rw [HP.out]
    go_wp2_with fail
    go_region_with ((go_at_call 30; refine HNT.out.mono ?_; rintro e w2 ⟨v', rfl, m2, o2, hat, k2⟩))
    all_goals
      have hc2 : w2.cell? q = some (.int .i64 z) := HCELL.out _ _ m2
      have HE := HN.out w1.drew w2 v' ((Keep.of_below HBL.out _).drewN 1) m2 o2 hat k2
      have HE' : Hid (∃ F', MemAt w2 base (.pointer (some ⟨M, 0, none⟩)) c r (L ++ [Ac.mk t 1 ⟨k, i, j⟩ 0 z false]) F' ∧ Next F F' w w2) := HE
      clear HE m2 o2 hat k2 HNT hc1 b0 b1 b2
      go_wp2
      go_ret2
      exact ⟨rfl, HE'.out⟩
  · have HP : Hid (ptr_ c r M H S C ⟨k, i, j⟩ = .pointer none) := by unfold ptr_; rw [Hid, if_neg ha]
    rw [if_neg ha, if_neg ha, if_neg ha]
    unfold adC
    unfold adC at HB
    go_enter Try.func84, Try.ntmps84
    go_wp2_with fail
    refine (HB.out _).mono ?_
    rintro e w1 ⟨rfl, hb1⟩
    have HBL : Hid (Below w.heap.size w w1) := below_then (below_a1 _ _) hb1
    clear hb1
    rw [HP.out]
    go_wp2
    go_ret2
    exact ⟨rfl, F, MemAt.below ⟨M, H, S, C, v, HH.out⟩ HBL.out, Next.of_below HBL.out F⟩

set_option maxRecDepth 100000 in
set_option maxHeartbeats 3200000 in
theorem store_any {w : World} {base : Nat} {p : Value} {c r : Nat} {L : List Ac} {F : List Nat} (h : MemAt w base p c r L F) (hb : base ≤ w.heap.size) (hL : L.length < 3298534883328) (t : Int) (a : Ad) (z : Int) :
    Calls Try.prog 13 #[p, .int .i64 t, .agg (adC a), .int .i64 z] w fun e w' => e = .returned (.int .i64 (if isAd c r a then 0 else 1)) ∧ ∃ F', MemAt w' base p c r (storeL c r L t a z) F' ∧ Next F F' w w' := by
  obtain ⟨M, H, S, C, v, h⟩ := h
  obtain rfl := h.p
  have hm := h.m
  have HH : Hid (MemAt' w base (.pointer (some ⟨M, 0, none⟩)) c r L F M H S C v) := h
  have HB : Hid (∀ o, Calls Try.prog 29 #[.pointer (some ⟨M, 0, none⟩), .agg (adC a)] (w.alloc o) fun e w' => e = .returned (ptr_ c r M H S C a) ∧ Below (w.alloc o).heap.size (w.alloc o) w') := fun o => word_any (hm.keep (Keep.of_below (below_a1 _ _) []) (by simp) (by simp) (by simp) (by simp)) h.r h.c a
  clear h
  obtain ⟨k, i, j⟩ := a
  unfold storeL
  by_cases ha : isAd c r ⟨k, i, j⟩ = true
  · have HP : Hid (ptr_ c r M H S C ⟨k, i, j⟩ = .pointer (some (at_ M H S C ⟨k, i, j⟩))) := by unfold ptr_; rw [Hid, if_pos ha]
    have HQB : Hid ((at_ M H S C ⟨k, i, j⟩).block ∈ [M, H, S, C]) := at_block _ _ _ _ _
    have HCELL : Hid (∀ (w' : World) (v' : Value), MemW w' c r M H S C (wordOf L) v' → w'.cell? (at_ M H S C ⟨k, i, j⟩) = some (.int .i64 (wordOf L ⟨k, i, j⟩)) ∧ w'.frozen? (at_ M H S C ⟨k, i, j⟩) = false) := fun w' v' hm' => ⟨hm'.cell ha, hm'.frozen ha⟩
    have HSET : Hid (∀ (w' : World) (v' : Value), MemW w' c r M H S C (wordOf L) v' → MemW (w'.setCell (at_ M H S C ⟨k, i, j⟩) (.int .i64 z)) c r M H S C (wordOf (L ++ [Ac.mk t 2 ⟨k, i, j⟩ 0 z false])) v') := fun w' v' hm' => by
      rw [wordOf_hit (x := Ac.mk t 2 ⟨k, i, j⟩ 0 z false) (Or.inl rfl)]
      exact hm'.set ha z
    rw [if_pos ha, if_pos ha]
    have hcl := (HCELL.out w v hm).1
    generalize at_ M H S C ⟨k, i, j⟩ = q at *
    generalize wordOf L ⟨k, i, j⟩ = u at *
    unfold adC
    unfold adC at HB
    go_enter Try.func13, Try.ntmps13
    go_wp2_with fail
    refine (HB.out _).mono ?_
    rintro e w1 ⟨rfl, hb1⟩
    obtain ⟨b0, b1, b2⟩ := box_cells (a := ⟨k, i, j⟩) hb1
    have HBL : Hid (Below w.heap.size w w1) := below_then (below_a1 _ _) hb1
    have HM1 : Hid (MemW w1 c r M H S C (wordOf L) v) := hm.keep (Keep.of_below HBL.out []) (by simp) (by simp) (by simp) (by simp)
    have HO1 : Hid (w1.ownsRow base 92 8 v L.length (logC L)) := own_keep HH.out.own (Keep.of_below HBL.out []) (fun _ _ => by simp)
    have hsz : base ≤ w1.heap.size := Nat.le_trans hb HBL.out.size
    obtain ⟨hc1, hf1⟩ := HCELL.out _ _ HM1.out
    have hqne : q.block ≠ w.heap.size := fun e => by
      have := World.block_lt_of_cell? _ _ hcl
      omega
    have HKS : Hid (Keep [M, H, S, C] w (w1.setCell q (.int .i64 z))) := (Keep.of_below HBL.out _).setCell _ _ (Or.inl HQB.out)
    have HMS : Hid (MemW (w1.setCell q (.int .i64 z)) c r M H S C (wordOf (L ++ [Ac.mk t 2 ⟨k, i, j⟩ 0 z false])) v) := HSET.out _ _ HM1.out
    have HOS : Hid (World.ownsRow (w1.setCell q (.int .i64 z)) base 92 8 v L.length (logC L)) := own_keep HO1.out ((Keep.refl [M, H, S, C] _).setCell _ _ (Or.inl HQB.out)) (fun b hb hm => by
      simp only [List.mem_cons, List.not_mem_nil, or_false] at hm
      rcases hm with rfl | rfl | rfl | rfl
      · exact own_ne HO1.out HM1.out.m (by decide) hb
      · exact own_ne HO1.out HM1.out.h (by decide) hb
      · exact own_ne HO1.out HM1.out.s (by decide) hb
      · exact own_ne HO1.out HM1.out.c (by decide) hb)
    have HNT : Hid (Calls Try.prog 30 #[.pointer (some ⟨M, 0, none⟩), .agg #[.int .i64 t, .int .i64 2, .int .i64 k, .int .i64 i, .int .i64 j, .int .i64 0, .int .i64 z, .bool false]] (w1.setCell q (.int .i64 z)) fun e w' => ∃ v', e = .returned (.tuple #[]) ∧ MemW w' c r M H S C (wordOf (L ++ [Ac.mk t 2 ⟨k, i, j⟩ 0 z false])) v' ∧ w'.ownsRow base 92 8 v' (L ++ [Ac.mk t 2 ⟨k, i, j⟩ 0 z false]).length (logC (L ++ [Ac.mk t 2 ⟨k, i, j⟩ 0 z false])) ∧ (v'.ownBlock = v.ownBlock ∨ ∃ g, v'.ownBlock = some g ∧ (World.heap (w1.setCell q (.int .i64 z))).size ≤ g) ∧ Keep (M :: v.ownBlock.toList) (w1.setCell q (.int .i64 z)) w') :=
      note_any (w := (w1.setCell q (.int .i64 z))) (x := Ac.mk t 2 ⟨k, i, j⟩ 0 z false) HMS.out HOS.out (by first | exact hsz | simpa using hsz) hL
    have hd0 : World.cell? (w1.setCell q (.int .i64 z)) ⟨w.heap.size, 0, none⟩ = some (.int .i64 k) := by first | exact b0 | (rw [World.cell?_setCell_other _ _ _ _ (fun e => hqne (by rw [e]))]; exact b0)
    have hd1 : World.cell? (w1.setCell q (.int .i64 z)) ⟨w.heap.size, 1, none⟩ = some (.int .i64 i) := by first | exact b1 | (rw [World.cell?_setCell_other _ _ _ _ (fun e => hqne (by rw [e]))]; exact b1)
    have hd2 : World.cell? (w1.setCell q (.int .i64 z)) ⟨w.heap.size, 2, none⟩ = some (.int .i64 j) := by first | exact b2 | (rw [World.cell?_setCell_other _ _ _ _ (fun e => hqne (by rw [e]))]; exact b2)
    clear hb1
    rw [HP.out]
    go_wp2_with fail
    refine HNT.out.mono ?_
    rintro e w2 ⟨v', rfl, m2, o2, hat, k2⟩
    have HE' : Hid (∃ F', MemAt w2 base (.pointer (some ⟨M, 0, none⟩)) c r (L ++ [Ac.mk t 2 ⟨k, i, j⟩ 0 z false]) F' ∧ Next F F' w w2) := next_note HH.out HKS.out m2 o2 hat k2
    clear m2 o2 hat k2 HNT hc1 b0 b1 b2 hd0 hd1 hd2
    go_wp2
    go_ret
    exact ⟨rfl, HE'.out⟩
  · have HP : Hid (ptr_ c r M H S C ⟨k, i, j⟩ = .pointer none) := by unfold ptr_; rw [Hid, if_neg ha]
    rw [if_neg ha, if_neg ha]
    unfold adC
    unfold adC at HB
    go_enter Try.func13, Try.ntmps13
    go_wp2_with fail
    refine (HB.out _).mono ?_
    rintro e w1 ⟨rfl, hb1⟩
    have HBL : Hid (Below w.heap.size w w1) := below_then (below_a1 _ _) hb1
    clear hb1
    rw [HP.out]
    go_wp2
    go_ret
    exact ⟨rfl, F, MemAt.below ⟨M, H, S, C, v, HH.out⟩ HBL.out, Next.of_below HBL.out F⟩
