/- The document's machine of layer 7: Start and Step. -/
import Derived.Test.YtcckdjmbjghbdaaBegF
namespace Go.Proofs.Ytcckdjmbjghbdaa
open Go.ChangeShapes Go.WideShapes Go.ChangeAt Go.RowKit
attribute [local go_sem ↓] Go.wp_at_zero Go.wp_at_succ

/-- The document's machine, with the loads that it keeps. -/
structure RB' (w : World) (base Y s : Nat) (l : List Int) (G : List Nat) (v : Value) : Prop where
  m : w.heap[Y]? = some (.cells #[.int .i64 (s : Int), v] 38 (0, 0))
  own : w.ownsRow base 2 1 v l.length (numC l)
  G : G = Y :: v.ownBlock.toList
  bY : base ≤ Y
def RB (w : World) (base Y s : Nat) (l : List Int) (G : List Nat) : Prop := ∃ v, RB' w base Y s l G v
theorem RB.lt {w : World} {base Y s : Nat} {l : List Int} {G : List Nat} (h : RB w base Y s l G) : ∀ b ∈ G, base ≤ b ∧ b < w.heap.size := by
  obtain ⟨v, h⟩ := h
  intro b hb
  rw [h.G] at hb
  simp only [List.mem_cons, Option.mem_toList] at hb
  rcases hb with rfl | hb
  · exact ⟨h.bY, heap_lt h.m⟩
  · exact own_block h.own b (by simpa using hb)
theorem RB.keep {w w' : World} {base Y s : Nat} {l : List Int} {F G : List Nat} (h : RB w base Y s l G) (k : Keep F w w') (hd : ∀ b ∈ G, b ∉ F) : RB w' base Y s l G := by
  obtain ⟨v, h⟩ := h
  have hG := h.G
  refine ⟨v, ?_, own_keep h.own k (fun b hb => hd b ?_), h.G, h.bY⟩
  · rw [k.block _ (heap_lt h.m) (hd _ (by rw [hG]; simp))]; exact h.m
  · rw [hG, hb]; simp
theorem RB.below {w w' : World} {base Y s : Nat} {l : List Int} {G : List Nat} (h : RB w base Y s l G) (k : Below w.heap.size w w') : RB w' base Y s l G := h.keep (Keep.of_below k []) (fun _ _ => by simp)
theorem RB.cells {w : World} {base Y s : Nat} {l : List Int} {G : List Nat} (h : RB w base Y s l G) : ∃ a cap, w.cell? ⟨Y, 0, none⟩ = some (.int .i64 (s : Int)) ∧ w.cell? ⟨Y, 1, none⟩ = some (.slice a l.length cap) ∧ NLst w (.slice a l.length cap) l := by
  obtain ⟨v, h⟩ := h
  obtain ⟨a, cap, rfl⟩ := own_slice h.own
  refine ⟨a, cap, by rw [cell_at h.m]; rfl, by rw [cell_at h.m]; rfl, a, cap, rfl, ?_⟩
  by_cases h0 : l = []
  · exact Or.inl h0
  · obtain ⟨g, cap', e, _, hg⟩ := h.own.form (by have := List.length_pos_iff.2 h0; omega)
    simp at e
    obtain ⟨rfl, rfl⟩ := e
    refine Or.inr ⟨g, rfl, hg, fun i hi => ?_⟩
    refine own_cells h.own i _ ?_
    simp [numC, hi]

theorem NLst.later {w w' : World} {v : Value} {l : List Int} (h : NLst w v l) (hb : Below w.heap.size w w') : NLst w' v l := by
  obtain ⟨a, cap, hv, h⟩ := h
  refine ⟨a, cap, hv, ?_⟩
  rcases h with h | ⟨g, h1, h2, h3⟩
  · exact Or.inl h
  · exact Or.inr ⟨g, h1, Nat.lt_of_lt_of_le h2 hb.size, fun i hi => cell_later hb h2 (h3 i hi)⟩

set_option maxRecDepth 10000 in
theorem rstart_any {w : World} {base Y s : Nat} {l : List Int} {G : List Nat} {b : Bg} (h : RB w base Y s l G) (hg : LOk s b l) :
    Calls Try.prog 32 #[.pointer (some ⟨Y, 0, none⟩)] w fun e w' => e = .returned (.tuple #[.int .i64 (if b.st = 2 then b.stamp else 0), .int .i64 (if b.st = 2 then b.seen else 0), .bool (decide (b.st = 2))]) ∧ Below w.heap.size w w' := by
  obtain ⟨a, cap, y0, y1, hl⟩ := h.cells
  have hy : Y < w.heap.size := World.block_lt_of_cell? _ _ y0
  have HNX : Hid (∀ w' : World, Below w.heap.size w w' → Calls Try.prog 30 #[.int .i64 (s : Int), .slice a l.length cap] w' fun e w'' => e = .returned (.agg (planC s b)) ∧ Below w'.heap.size w' w'') := fun w' hb => next_any (hl.later hb) hg
  generalize l.length = n at *
  unfold planC at HNX
  clear h hg hl
  obtain ⟨st, seen, stamp⟩ := b
  simp only at HNX ⊢
  generalize plA s ⟨st, seen, stamp⟩ = ad at *
  by_cases e : st = 2
  · subst e
    rw [if_pos rfl, if_pos rfl] at HNX
    rw [if_pos rfl, if_pos rfl]
    rw [show decide ((2 : Int) = 2) = true from rfl] at HNX ⊢
    go_enter Try.func32, Try.ntmps32
    go_wp2
    go_region_with ((go_at_call 30; refine (HNX.out _ (by first | exact below_drawn (Below.refl _ _) 1 | exact below_drawn (below_a1 _ _) 1)).mono ?_; rintro e w1 ⟨rfl, hb1⟩; try (have hr : w1.heap[w.heap.size]? = some (.cells noPlan 87 (0, 0)) := row_on (w := World.drew (w.alloc (.cells noPlan 87))) (heap_alloc_new w _) hb1; obtain ⟨⟨p0, p1, p2, p3, p4, p5⟩, f0, f1, f2, f3, f4, f5⟩ := plan_cells hr; have hB := heap_lt hr)))
    all_goals
      go_wp2
      go_quiet (fail)
      go_wp2
      go_ret3
      exact ⟨rfl, by
        first
          | exact below_drawn (below_alloc (below_then (below_drawn (Below.refl _ _) 1) hb1) _) _
          | exact below_drawn (below6 (below_then (below_drawn (below_a1 _ _) 1) hb1) (Nat.le_refl _) _ _ _ _ _ _) _⟩
  · rw [if_neg e, if_neg e] at HNX
    rw [if_neg e, if_neg e]
    rw [show decide (st = 2) = false by simpa using e] at HNX ⊢
    go_enter Try.func32, Try.ntmps32
    go_wp2
    go_region_with ((go_at_call 30; refine (HNX.out _ (by first | exact below_drawn (Below.refl _ _) 1 | exact below_drawn (below_a1 _ _) 1)).mono ?_; rintro e w1 ⟨rfl, hb1⟩; try (have hr : w1.heap[w.heap.size]? = some (.cells noPlan 87 (0, 0)) := row_on (w := World.drew (w.alloc (.cells noPlan 87))) (heap_alloc_new w _) hb1; obtain ⟨⟨p0, p1, p2, p3, p4, p5⟩, f0, f1, f2, f3, f4, f5⟩ := plan_cells hr; have hB := heap_lt hr)))
    all_goals
      go_wp2
      go_ret3
      exact ⟨rfl, by
        first
          | exact (below_alloc (below_then (below_drawn (Below.refl _ _) 1) hb1) _)
          | exact (below6 (below_then (below_drawn (below_a1 _ _) 1) hb1) (Nat.le_refl _) _ _ _ _ _ _)⟩
end Go.Proofs.Ytcckdjmbjghbdaa
