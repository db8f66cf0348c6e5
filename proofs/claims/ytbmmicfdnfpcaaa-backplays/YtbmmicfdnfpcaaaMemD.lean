/- The program's memory: Load, Store, Swap, Peek, Count, Sizes. -/
import Derived.Test.YtbmmicfdnfpcaaaMemC
namespace Go.Proofs.Ytbmmicfdnfpcaaa
open Go.ChangeShapes Go.WideShapes Go.ChangeAt Go.RowKit
attribute [local go_sem ↓] Go.wp_at_zero Go.wp_at_succ

/-- A memory whose log is L, with all the blocks that are its own. -/
structure MemAt' (w : World) (base : Nat) (p : Value) (c r : Nat) (L : List Ac) (F : List Nat) (M H S C : Nat) (v : Value) : Prop where
  p : p = .pointer (some ⟨M, 0, none⟩)
  m : MemW w c r M H S C (wordOf L) v
  own : w.ownsRow base 92 8 v L.length (logC L)
  F : F = M :: H :: S :: C :: v.ownBlock.toList
  bM : base ≤ M
  bH : base ≤ H
  bS : base ≤ S
  bC : base ≤ C
  c : c < 1000000
  r : r < 1000000
def MemAt (w : World) (base : Nat) (p : Value) (c r : Nat) (L : List Ac) (F : List Nat) : Prop := ∃ M H S C v, MemAt' w base p c r L F M H S C v
/-- Only these blocks change, and become these, or new ones. -/
def Next (F F' : List Nat) (w w' : World) : Prop := Keep F w w' ∧ ∀ b ∈ F', b ∈ F ∨ w.heap.size ≤ b
theorem Next.refl (F : List Nat) (w : World) : Next F F w w := ⟨Keep.refl _ _, fun _ h => Or.inl h⟩
theorem Next.trans {F F' F'' : List Nat} {w w1 w2 : World} (h : Next F F' w w1) (k : Next F' F'' w1 w2) : Next F F'' w w2 :=
  ⟨h.1.trans k.1 (fun b hb => h.2 b hb), fun b hb => by
    rcases k.2 b hb with h1 | h1
    · exact h.2 b h1
    · exact Or.inr (Nat.le_trans h.1.size h1)⟩
theorem Next.of_below {w w' : World} (h : Below w.heap.size w w') (F : List Nat) : Next F F w w' := ⟨Keep.of_below h F, fun _ h => Or.inl h⟩
theorem MemAt.lt {w : World} {base : Nat} {p : Value} {c r : Nat} {L : List Ac} {F : List Nat} (h : MemAt w base p c r L F) : ∀ b ∈ F, base ≤ b ∧ b < w.heap.size := by
  obtain ⟨M, H, S, C, v, h⟩ := h
  intro b hb
  rw [h.F] at hb
  simp only [List.mem_cons, Option.mem_toList] at hb
  rcases hb with rfl | rfl | rfl | rfl | hb
  · exact ⟨h.bM, heap_lt h.m.m⟩
  · exact ⟨h.bH, heap_lt h.m.h⟩
  · exact ⟨h.bS, heap_lt h.m.s⟩
  · exact ⟨h.bC, heap_lt h.m.c⟩
  · exact own_block h.own b (by simpa using hb)
theorem MemAt.keep {w w' : World} {base : Nat} {p : Value} {c r : Nat} {L : List Ac} {F G : List Nat} (h : MemAt w base p c r L F) (k : Keep G w w') (hd : ∀ b ∈ F, b ∉ G) : MemAt w' base p c r L F := by
  obtain ⟨M, H, S, C, v, h⟩ := h
  have hF := h.F
  refine ⟨M, H, S, C, v, h.p, h.m.keep k (hd _ ?_) (hd _ ?_) (hd _ ?_) (hd _ ?_), own_keep h.own k (fun b hb => hd b ?_), h.F, h.bM, h.bH, h.bS, h.bC, h.c, h.r⟩
  all_goals rw [hF]; simp
  rw [hb]; simp
theorem MemAt.below {w w' : World} {base : Nat} {p : Value} {c r : Nat} {L : List Ac} {F : List Nat} (h : MemAt w base p c r L F) (k : Below w.heap.size w w') : MemAt w' base p c r L F := h.keep (Keep.of_below k []) (fun _ _ => by simp)

/-- Behind a word was set (or not) and an access noted. -/
theorem next_note {w w1 w2 : World} {base : Nat} {c r : Nat} {L : List Ac} {F : List Nat} {M H S C : Nat} {v v' : Value} {x : Ac} (h : MemAt' w base (.pointer (some ⟨M, 0, none⟩)) c r L F M H S C v) (k1 : Keep [M, H, S, C] w w1) (m2 : MemW w2 c r M H S C (wordOf (L ++ [x])) v')
    (o2 : w2.ownsRow base 92 8 v' (L ++ [x]).length (logC (L ++ [x]))) (hat : v'.ownBlock = v.ownBlock ∨ ∃ g, v'.ownBlock = some g ∧ w1.heap.size ≤ g) (k2 : Keep (M :: v.ownBlock.toList) w1 w2) :
    ∃ F', MemAt w2 base (.pointer (some ⟨M, 0, none⟩)) c r (L ++ [x]) F' ∧ Next F F' w w2 := by
  refine ⟨_, ⟨M, H, S, C, v', rfl, m2, o2, rfl, h.bM, h.bH, h.bS, h.bC, h.c, h.r⟩, ?_, ?_⟩
  · have k1' : Keep F w w1 := k1.mono (fun b hb => by rw [h.F]; simp at hb ⊢; rcases hb with rfl | rfl | rfl | rfl <;> simp)
    exact k1'.trans k2 (fun b hb => Or.inl (by rw [h.F]; simp at hb ⊢; rcases hb with rfl | hb <;> simp [*]))
  · intro b hb
    rw [h.F]
    simp only [List.mem_cons, Option.mem_toList] at hb ⊢
    rcases hb with rfl | rfl | rfl | rfl | hb
    · simp
    · simp
    · simp
    · simp
    · rcases hat with e | ⟨g, e, hg⟩
      · rw [← e]; exact Or.inl (Or.inr (Or.inr (Or.inr (Or.inr hb))))
      · rw [e] at hb; simp at hb; subst hb; exact Or.inr (Nat.le_trans k1.size hg)

/-- The cells of an address that is boxed. -/
theorem box_cells {w w1 : World} {a : Ad} (hb : Below (w.alloc (.cells (adC a) 46)).heap.size (w.alloc (.cells (adC a) 46)) w1) : w1.cell? ⟨w.heap.size, 0, none⟩ = some (.int .i64 a.k) ∧ w1.cell? ⟨w.heap.size, 1, none⟩ = some (.int .i64 a.i) ∧ w1.cell? ⟨w.heap.size, 2, none⟩ = some (.int .i64 a.j) := by
  have h : w1.heap[w.heap.size]? = some (.cells (adC a) 46 (0, 0)) := by
    rw [hb.block _ (by simp)]; exact heap_alloc_new _ _
  exact ⟨by rw [cell_at h]; rfl, by rw [cell_at h]; rfl, by rw [cell_at h]; rfl⟩

theorem peek_any {w : World} {base : Nat} {p : Value} {c r : Nat} {L : List Ac} {F : List Nat} (h : MemAt w base p c r L F) (a : Ad) :
    Calls Try.prog 23 #[p, .agg (adC a)] w fun e w' => e = .returned (.tuple #[.int .i64 (if isAd c r a then wordOf L a else 0), .int .i64 (if isAd c r a then 0 else 1)]) ∧ Below w.heap.size w w' := by
  obtain ⟨M, H, S, C, v, h⟩ := h
  obtain rfl := h.p
  have hm := h.m
  have HB : Hid (∀ o, Calls Try.prog 29 #[.pointer (some ⟨M, 0, none⟩), .agg (adC a)] (w.alloc o) fun e w' => e = .returned (ptr_ c r M H S C a) ∧ Below (w.alloc o).heap.size (w.alloc o) w') := fun o => word_any (hm.keep (Keep.of_below (below_a1 _ _) []) (by simp) (by simp) (by simp) (by simp)) h.r h.c a
  obtain ⟨k, i, j⟩ := a
  by_cases ha : isAd c r ⟨k, i, j⟩ = true
  · have hcell := hm.cell ha
    have HP : Hid (ptr_ c r M H S C ⟨k, i, j⟩ = .pointer (some (at_ M H S C ⟨k, i, j⟩))) := by unfold ptr_; rw [Hid, if_pos ha]
    rw [if_pos ha, if_pos ha]
    generalize at_ M H S C ⟨k, i, j⟩ = q at *
    generalize wordOf L ⟨k, i, j⟩ = z at *
    unfold adC
    unfold adC at HB
    go_enter Try.func23, Try.ntmps23
    go_wp2_with fail
    refine (HB.out _).mono ?_
    rintro e w1 ⟨rfl, hb1⟩
    have hc1 : w1.cell? q = some (.int .i64 z) := by
      have hlt := World.block_lt_of_cell? _ _ hcell
      rw [hb1.cell (p := q) (by simp; omega), World.cell?_alloc_some _ _ _ (by rw [hcell]; rfl)]
      exact hcell
    have HBL : Hid (Below w.heap.size w w1) := below_then (below_a1 _ _) hb1
    clear hb1
    rw [HP.out]
    go_wp2
    go_ret2
    exact ⟨rfl, HBL.out⟩
  · have HP : Hid (ptr_ c r M H S C ⟨k, i, j⟩ = .pointer none) := by unfold ptr_; rw [Hid, if_neg ha]
    rw [if_neg ha, if_neg ha]
    unfold adC
    unfold adC at HB
    go_enter Try.func23, Try.ntmps23
    go_wp2_with fail
    refine (HB.out _).mono ?_
    rintro e w1 ⟨rfl, hb1⟩
    have HBL : Hid (Below w.heap.size w w1) := below_then (below_a1 _ _) hb1
    clear hb1
    rw [HP.out]
    go_wp2
    go_ret2
    exact ⟨rfl, HBL.out⟩
end Go.Proofs.Ytbmmicfdnfpcaaa
