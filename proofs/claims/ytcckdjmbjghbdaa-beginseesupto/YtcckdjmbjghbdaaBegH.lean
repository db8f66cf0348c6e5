/- The document's machine of layer 7: Step. -/
import Derived.Test.YtcckdjmbjghbdaaBegG
import Derived.Deep.Cut
import Derived.Deep.CutRange
import Derived.Deep.DeepCutAuto
import Derived.Deep.CutBlock
namespace Go.Proofs.Ytcckdjmbjghbdaa
open Go.ChangeShapes Go.WideShapes Go.ChangeAt Go.RowKit
attribute [local go_sem ↓] Go.wp_at_zero Go.wp_at_succ

theorem RefAt.ringcell {w : World} {base R : Nat} {c r : Nat} {L : List Ac} {F : List Nat} (h : RefAt w base (.pointer (some ⟨R, 0, none⟩)) c r L F) : w.cell? ⟨R, 1, none⟩ = some (.int .i64 (r : Int)) := by
  obtain ⟨R', v, h⟩ := h
  obtain rfl : R = R' := by simpa using h.p
  rw [cell_at h.m]; rfl
theorem rb_end {w X w1 : World} {base Y s gg cap' n : Nat} {v : Value} {l : List Int} {G : List Nat} {z : Int} (h : RB' w base Y s l G v) (kX : Keep [] w X) (hn : l.length = n)
    (hown1 : w1.ownsRow base 2 1 (.slice (some ⟨gg, 0, none⟩) (n + 1) cap') (n + 1) (numC l ++ [.int .i64 z])) (hgrow : X.grownBy w1 v.ownBlock) (hat : v.ownBlock = some gg ∨ w.heap.size ≤ gg) :
    ∃ G', RB (w1.setCell ⟨Y, 1, none⟩ (.slice (some ⟨gg, 0, none⟩) (n + 1) cap')) base Y s (l ++ [z]) G' ∧ Next G G' w (w1.setCell ⟨Y, 1, none⟩ (.slice (some ⟨gg, 0, none⟩) (n + 1) cap')) := by
  have k0 : Keep v.ownBlock.toList w w1 := (kX.mono (fun b hb => by simp at hb)).grown hgrow (fun b hb => Or.inl (by rw [hb]; simp))
  have hm1 : w1.heap[Y]? = some (.cells #[.int .i64 (s : Int), v] 38 (0, 0)) := by
    rw [k0.block _ (heap_lt h.m) (fun hm => own_ne h.own h.m (by decide) (by simpa using hm))]; exact h.m
  have hg1 : (Value.slice (some ⟨gg, 0, none⟩) (n + 1) cap').ownBlock ≠ some Y := own_ne hown1 hm1 (by decide)
  have kset : Keep [Y] w1 (w1.setCell ⟨Y, 1, none⟩ (.slice (some ⟨gg, 0, none⟩) (n + 1) cap')) := (Keep.refl _ _).setCell _ _ (Or.inl (by simp))
  refine ⟨_, ⟨.slice (some ⟨gg, 0, none⟩) (n + 1) cap', ?_, ?_, rfl, h.bY⟩, ?_, ?_⟩
  · rw [heap_set hm1]; rfl
  · have e : numC (l ++ [z]) = numC l ++ [.int .i64 z] := by simp [numC]
    rw [e, List.length_append, hn]
    exact own_keep hown1 kset (fun b hb hm => by simp at hm; subst hm; exact hg1 hb)
  · rw [h.G]
    exact (k0.mono (fun b hb => by simp at hb ⊢; exact Or.inr hb)).trans kset (fun b hb => by simp at hb; subst hb; exact Or.inl (by simp))
  · intro b hb
    rw [h.G]
    simp only [List.mem_cons, Option.mem_toList] at hb ⊢
    rcases hb with rfl | hb
    · simp
    · have hb' : gg = b := by simpa [Value.ownBlock] using hb
      subst hb'
      rcases hat with e | e
      · left; right; exact e
      · exact Or.inr e
theorem info_num : (Try.prog.info? 2).map (fun i => (i.zero, i.size, i.bytes)) = some (some (.int .i64 0), 1, 8) := by kernel_rfl

/-- A plan lies in a block that was made since. -/
def Planned (w : World) (cs : Array Value) (u : Value) (wx : World) : Prop := ∃ P, u = .pointer (some ⟨P, 0, none⟩) ∧ w.heap.size ≤ P ∧ wx.heap[P]? = some (.cells cs 87 (0, 0)) ∧ Below w.heap.size w wx
theorem planned_new {w w1 : World} {cs : Array Value} (hb : Below w.heap.size w w1) : Planned w cs (.pointer (some ⟨w1.heap.size, 0, none⟩)) (w1.alloc (.cells cs 87)) :=
  ⟨_, rfl, hb.size, heap_alloc_new _ _, below_alloc hb _⟩
theorem planned_old {w w1 : World} {c0 c1 c2 c3 c4 c5 : Value} (hr : w1.heap[w.heap.size]? = some (.cells noPlan 87 (0, 0))) (hb : Below w.heap.size w w1) :
    Planned w #[c0, c1, c2, c3, c4, c5] (.pointer (some ⟨w.heap.size, 0, none⟩)) (laid6 w1 w.heap.size c0 c1 c2 c3 c4 c5) :=
  ⟨_, rfl, Nat.le_refl _, plan_set hr _ _ _ _ _ _, below6 hb (Nat.le_refl _) _ _ _ _ _ _⟩
theorem plan6 {w : World} {B : Nat} {c0 c1 c2 c3 c4 c5 : Value} (h : w.heap[B]? = some (.cells #[c0, c1, c2, c3, c4, c5] 87 (0, 0))) :
    w.cell? ⟨B, 0, none⟩ = some c0 ∧ w.cell? ⟨B, 1, none⟩ = some c1 ∧ w.cell? ⟨B, 2, none⟩ = some c2 ∧ w.cell? ⟨B, 3, none⟩ = some c3 ∧ w.cell? ⟨B, 4, none⟩ = some c4 ∧ w.cell? ⟨B, 5, none⟩ = some c5 :=
  ⟨by rw [cell_at h]; rfl, by rw [cell_at h]; rfl, by rw [cell_at h]; rfl, by rw [cell_at h]; rfl, by rw [cell_at h]; rfl, by rw [cell_at h]; rfl⟩

set_option maxRecDepth 10000 in
set_option maxHeartbeats 1600000 in
theorem rstep_none {w : World} {base Y s : Nat} {q : Value} {c r : Nat} {L : List Ac} {l : List Int} {K G : List Nat} {b : Bg} (hr : RefAt w base q c r L K) (h : RB w base Y s l G) (hg : LOk s b l) (hn : r ≠ s ∨ b.st = 2) (t : Int) :
    Calls Try.prog 15 #[.pointer (some ⟨Y, 0, none⟩), q, .int .i64 t] w fun e w' => e = .returned (.int .i64 0) ∧ Below w.heap.size w w' := by
  obtain ⟨a, cap, y0, y1, hl⟩ := h.cells
  have hy : Y < w.heap.size := World.block_lt_of_cell? _ _ y0
  have HNX : Hid (∀ w' : World, Below w.heap.size w w' → Calls Try.prog 30 #[.int .i64 (s : Int), .slice a l.length cap] w' fun e w'' => e = .returned (.agg (planC s b)) ∧ Below w'.heap.size w' w'') := fun w' hb => next_any (hl.later hb) hg
  obtain ⟨R, rfl⟩ := hr.ptr
  have r1 := hr.ringcell
  have hR : R < w.heap.size := World.block_lt_of_cell? _ _ r1
  generalize l.length = n at *
  unfold planC at HNX
  clear h hg hl hr
  obtain ⟨st, seen, stamp⟩ := b
  simp only at HNX hn ⊢
  generalize plA s ⟨st, seen, stamp⟩ = ad at *
  by_cases e : st = 2
  · subst e
    rw [if_pos rfl, if_pos rfl] at HNX
    rw [show decide ((2 : Int) = 2) = true from rfl] at HNX
    clear hn
    go_enter Try.func15, Try.ntmps15
    go_upto_region 1 with fail
    go_cut [7] (fun s7 wx => Planned w #[.bool true, .int .i64 stamp, .int .i64 seen, .int .i64 ad.k, .int .i64 ad.i, .int .i64 ad.j] s7 wx)
    case first =>
      go_region_with ((go_at_call 30; refine (HNX.out _ (by first | exact below_drawn (Below.refl _ _) 1 | exact below_drawn (below_a1 _ _) 1)).mono ?_; rintro e w1 ⟨rfl, hb1⟩; try (have hr : w1.heap[w.heap.size]? = some (.cells noPlan 87 (0, 0)) := row_on (w := World.drew (w.alloc (.cells noPlan 87))) (heap_alloc_new w _) hb1; obtain ⟨⟨p0, p1, p2, p3, p4, p5⟩, f0, f1, f2, f3, f4, f5⟩ := plan_cells hr; have hB := heap_lt hr)))
      all_goals
        go_wp2_with fail
        go_meet
        first | exact planned_old hr (below_then (below_drawn (below_a1 _ _) 1) hb1) | exact planned_new (below_then (below_drawn (Below.refl _ _) 1) hb1)
    case rest =>
      obtain ⟨P, rfl, hP, hrow, hbel⟩ := hcut
      have HB : Hid (Below w.heap.size w wc) := hbel
      obtain ⟨p0, p1, p2, p3, p4, p5⟩ := plan6 hrow
      have y0' := cell_later hbel hy y0
      have r1' := cell_later hbel hR r1
      clear hrow hbel
      go_wp2
      go_quiet (fail)
      go_wp2
      go_ret
      exact ⟨rfl, below_drawn HB.out _⟩
  · have hrs : ((r : Int) == (s : Int)) = false := by
      rcases hn with h | h
      · simp; omega
      · exact absurd h e
    rw [if_neg e, if_neg e] at HNX
    rw [show decide (st = 2) = false by simpa using e] at HNX
    clear hn
    go_enter Try.func15, Try.ntmps15
    go_upto_region 1 with fail
    go_cut [7] (fun s7 wx => Planned w #[.bool false, .int .i64 0, .int .i64 0, .int .i64 ad.k, .int .i64 ad.i, .int .i64 ad.j] s7 wx)
    case first =>
      go_region_with ((go_at_call 30; refine (HNX.out _ (by first | exact below_drawn (Below.refl _ _) 1 | exact below_drawn (below_a1 _ _) 1)).mono ?_; rintro e w1 ⟨rfl, hb1⟩; try (have hr : w1.heap[w.heap.size]? = some (.cells noPlan 87 (0, 0)) := row_on (w := World.drew (w.alloc (.cells noPlan 87))) (heap_alloc_new w _) hb1; obtain ⟨⟨p0, p1, p2, p3, p4, p5⟩, f0, f1, f2, f3, f4, f5⟩ := plan_cells hr; have hB := heap_lt hr)))
      all_goals
        go_wp2_with fail
        go_meet
        first | exact planned_old hr (below_then (below_drawn (below_a1 _ _) 1) hb1) | exact planned_new (below_then (below_drawn (Below.refl _ _) 1) hb1)
    case rest =>
      obtain ⟨P, rfl, hP, hrow, hbel⟩ := hcut
      have HB : Hid (Below w.heap.size w wc) := hbel
      obtain ⟨p0, p1, p2, p3, p4, p5⟩ := plan6 hrow
      have y0' := cell_later hbel hy y0
      have r1' := cell_later hbel hR r1
      clear hrow hbel
      go_wp2
      go_quiet (fail)
      go_wp2
      go_ret
      exact ⟨rfl, below_drawn HB.out _⟩

/-! ### the step that loads -/
/-- The document's machine beside the document's memory with its ring. -/
structure RMem (w : World) (base : Nat) (q : Value) (c : Nat) (L : List Ac) (K : List Nat) (Y s : Nat) (l : List Int) (G : List Nat) : Prop where
  ref : RefAt w base q c s L K
  rb : RB w base Y s l G
  apart : ∀ b ∈ G, b ∉ K
theorem RMem.below {w w' : World} {base : Nat} {q : Value} {c : Nat} {L : List Ac} {K : List Nat} {Y s : Nat} {l : List Int} {G : List Nat} (h : RMem w base q c L K Y s l G) (hb : Below w.heap.size w w') : RMem w' base q c L K Y s l G :=
  ⟨h.ref.below hb, h.rb.below hb, h.apart⟩
theorem RMem.onRef {w w' : World} {base : Nat} {q : Value} {c : Nat} {L L' : List Ac} {K K' : List Nat} {Y s : Nat} {l : List Int} {G : List Nat} (h : RMem w base q c L K Y s l G) (hr : RefAt w' base q c s L' K') (hn : Next K K' w w') : RMem w' base q c L' K' Y s l G :=
  ⟨hr, h.rb.keep hn.1 h.apart, fun b hb hk => by
    rcases hn.2 b hk with h1 | h1
    · exact h.apart b hb h1
    · have := (h.rb.lt b hb).2; omega⟩
theorem RMem.onRb {w w' : World} {base : Nat} {q : Value} {c : Nat} {L : List Ac} {K : List Nat} {Y s : Nat} {l l' : List Int} {G G' : List Nat} (h : RMem w base q c L K Y s l G) (hr : RB w' base Y s l' G') (hn : Next G G' w w') : RMem w' base q c L K Y s l' G' :=
  ⟨h.ref.keep hn.1 (fun b hb hg => h.apart b hg hb), hr, fun b hb hk => by
    rcases hn.2 b hb with h1 | h1
    · exact h.apart b h1 hk
    · have := (h.ref.lt b hk).2; omega⟩

set_option maxRecDepth 10000 in
set_option maxHeartbeats 3200000 in
theorem rstep_some {w : World} {base Y s : Nat} {q : Value} {c : Nat} {L : List Ac} {l : List Int} {K G : List Nat} {b : Bg} (h : RMem w base q c L K Y s l G) (hb : base ≤ w.heap.size) (hL : L.length < 3298534883328) (hk : BOk s b) (hg : LOk s b l) (hn : b.st ≠ 2) (hv : W64 (wordOf L (adV s b))) (t : Int) :
    Calls Try.prog 15 #[.pointer (some ⟨Y, 0, none⟩), q, .int .i64 t] w fun e w' => e = .returned (.int .i64 (if (stepV s b (wordOf L (adV s b))).st = 2 then 3 else 2)) ∧ ∃ K' G', RMem w' base q c (loadL c s L t (adV s b)) K' Y s (l ++ [wordOf L (adV s b)]) G' ∧ Next (G ++ K) (G' ++ K') w w' := by
  obtain ⟨i0, hi, hz0, hz1, hz2⟩ := info_parts info_num
  obtain ⟨a, cap, y0, y1, hl⟩ := h.rb.cells
  have hy : Y < w.heap.size := World.block_lt_of_cell? _ _ y0
  have HNX : Hid (∀ w' : World, Below w.heap.size w w' → Calls Try.prog 30 #[.int .i64 (s : Int), .slice a l.length cap] w' fun e w'' => e = .returned (.agg (planC s b)) ∧ Below w'.heap.size w' w'') := fun w' hb => next_any (hl.later hb) hg
  obtain ⟨R, rfl⟩ := h.ref.ptr
  have r1 := h.ref.ringcell
  have hR : R < w.heap.size := World.block_lt_of_cell? _ _ r1
  have HPL : Hid (planC s b = #[.bool false, .int .i64 0, .int .i64 0, .int .i64 (adV s b).k, .int .i64 (adV s b).i, .int .i64 (adV s b).j]) := by
    unfold planC plA
    rw [Hid, if_neg hn, if_neg hn, if_neg hn, show decide (b.st = 2) = false by simpa using hn]
  have HH : Hid (RMem w base (.pointer (some ⟨R, 0, none⟩)) c L K Y s l G) := h
  have HLD : Hid (∀ w' : World, RMem w' base (.pointer (some ⟨R, 0, none⟩)) c L K Y s l G → base ≤ w'.heap.size → Calls Try.prog 31 #[.pointer (some ⟨R, 0, none⟩), .int .i64 t, .agg #[.int .i64 (adV s b).k, .int .i64 (adV s b).i, .int .i64 (adV s b).j]] w' fun e w'' => e = .returned (.tuple #[.int .i64 (wordOf L (adV s b)), .int .i64 0]) ∧ ∃ K', RMem w'' base (.pointer (some ⟨R, 0, none⟩)) c (loadL c s L t (adV s b)) K' Y s l G ∧ Next K K' w' w'') := fun w' h' hb' => by
    have := rload_any h'.ref hb' hL t (adV s b)
    rw [if_pos (adV_is hk), if_pos (adV_is hk)] at this
    refine this.mono ?_
    rintro e w2 ⟨rfl, K', h1, h2⟩
    exact ⟨rfl, K', h'.onRef h1 h2, h2⟩
  have HG2 : Hid (LOk s (stepV s b (wordOf L (adV s b))) (l ++ [wordOf L (adV s b)])) := lok_step hg hv hn
  have HP2 : Hid (planC s (stepV s b (wordOf L (adV s b))) = planC s (stepV s b (wordOf L (adV s b)))) := rfl
  have hln := lok_len hg
  rw [HPL.out] at HNX
  clear h hl HPL hg hv
  generalize wordOf L (adV s b) = v at *
  generalize loadL c s L t (adV s b) = L' at *
  generalize stepV s b v = b' at *
  generalize adV s b = ad at *
  obtain ⟨n, hln2⟩ : ∃ n, l.length = n := ⟨_, rfl⟩
  rw [hln2] at HNX y1 hln
  go_enter Try.func15, Try.ntmps15
  go_upto_region 1 with fail
  go_cut [7] (fun s7 wx => Planned w #[.bool false, .int .i64 0, .int .i64 0, .int .i64 ad.k, .int .i64 ad.i, .int .i64 ad.j] s7 wx)
  case first =>
    go_region_with ((go_at_call 30; refine (HNX.out _ (by first | exact below_drawn (Below.refl _ _) 1 | exact below_drawn (below_a1 _ _) 1)).mono ?_; rintro e w1 ⟨rfl, hb1⟩; try (have hr : w1.heap[w.heap.size]? = some (.cells noPlan 87 (0, 0)) := row_on (w := World.drew (w.alloc (.cells noPlan 87))) (heap_alloc_new w _) hb1; obtain ⟨⟨p0, p1, p2, p3, p4, p5⟩, f0, f1, f2, f3, f4, f5⟩ := plan_cells hr; have hB := heap_lt hr)))
    all_goals
      go_wp2_with fail
      go_meet
      first | exact planned_old hr (below_then (below_drawn (below_a1 _ _) 1) hb1) | exact planned_new (below_then (below_drawn (Below.refl _ _) 1) hb1)
  case rest =>
    obtain ⟨P, rfl, hP, hrow, hbel⟩ := hcut
    have HM1 : Hid (RMem wc base (.pointer (some ⟨R, 0, none⟩)) c L K Y s l G) := HH.out.below hbel
    have HB1 : Hid (Below w.heap.size w wc) := hbel
    obtain ⟨p0, p1, p2, p3, p4, p5⟩ := plan6 hrow
    have y0' := cell_later hbel hy y0
    have r1' := cell_later hbel hR r1
    have hb1 : base ≤ wc.heap.size := Nat.le_trans hb hbel.size
    clear hrow hbel
    go_wp2
    go_quiet (fail)
    go_wp2_with fail
    refine (HLD.out _ (HM1.out.below (below_drawn (Below.refl _ _) nq)) hb1).mono ?_
    rintro e w2 ⟨rfl, K2, hm2, hn2⟩
    have HM2 : Hid (RMem w2 base (.pointer (some ⟨R, 0, none⟩)) c L' K2 Y s l G) := hm2
    have HN2 : Hid (Next K K2 w w2) := (Next.of_below (below_drawn HB1.out nq) K).trans hn2
    obtain ⟨v2, hrb2⟩ := hm2.rb
    have HRB : Hid (RB' w2 base Y s l G v2) := hrb2
    have z0 : w2.cell? ⟨Y, 0, none⟩ = some (.int .i64 (s : Int)) := by rw [cell_at hrb2.m]; rfl
    have z1 : w2.cell? ⟨Y, 1, none⟩ = some v2 := by rw [cell_at hrb2.m]; rfl
    have zf : w2.frozen? ⟨Y, 1, none⟩ = false := frozen_at hrb2.m 1
    have hY2 : Y < w2.heap.size := heap_lt hrb2.m
    have hb2 : base ≤ w2.heap.size := by have := hn2.1.size; have e : (wc.drewN nq).heap.size = wc.heap.size := rfl; omega
    have HOWN : Hid (w2.ownsRow base 2 1 v2 n (numC l)) := by rw [Hid, ← hln2]; exact hrb2.own
    obtain ⟨a2, cap2, rfl⟩ := own_slice HOWN.out
    clear hm2 hn2 hrb2 p0 p1 p2 p3 p4 p5 y0' r1'
    have hYv : (Value.slice a2 n cap2).ownBlock ≠ some Y := own_ne HOWN.out HRB.out.m (by decide)
    have hNv : (Value.slice a2 n cap2).ownBlock ≠ some w2.heap.size := fun e => by have := HOWN.out.lt _ e; omega
    go_wp2_with (at_builtin; refine list_lies_wide _ rfl _ _ 36 rfl base 2 i0 _ 1 8 Try.underlying36 hi hz0 hz1 hz2 rfl (by decide) _ _ _ rfl (HOWN.out.alloc _) ⟨w2.heap.size, 0, none⟩ 1 1 [.int .i64 v] rfl rfl ?c1 ?c2 (by decide) ?c3 ?c4 ?c5 _ rfl ?_)
    case c1 => exact World.news_of_block (cs := #[.int .i64 v]) (t := 2) (fr := (0, 0)) (heap_alloc_new w2 _)
    case c2 => simp [Value.oneCell']
    case c3 => unfold maxLen; omega
    case c4 => omega
    case c5 => first | omega | (simp; omega)
    intro gg cap' w3 hown1 hgrow hat hlt
    have hs1 : w3.cell? ⟨Y, 1, none⟩ = some (.slice a2 n cap2) := by rw [hgrow.cell_far _ (by simp; omega) (Ne.symm hYv), World.cell?_alloc_past _ _ _ hY2]; exact z1
    have hs2 : w3.frozen? ⟨Y, 1, none⟩ = false := by rw [hgrow.frozen_far _ (by simp; omega) (Ne.symm hYv), World.frozen?_alloc_past _ _ _ hY2]; exact zf
    have HX3 : Hid (∃ G', RB (w3.setCell ⟨Y, 1, none⟩ (.slice (some ⟨gg, 0, none⟩) (n + 1) cap')) base Y s (l ++ [v]) G' ∧ Next G G' w2 (w3.setCell ⟨Y, 1, none⟩ (.slice (some ⟨gg, 0, none⟩) (n + 1) cap'))) :=
      rb_end HRB.out ((Keep.refl _ _).alloc _) hln2 hown1 hgrow (by rcases hat with e | e; exact Or.inl e; exact Or.inr (by omega))
    clear hown1 hgrow hat hlt z0 z1 zf HOWN
    go_wp2_with fail
    generalize w3.setCell ⟨Y, 1, none⟩ (.slice (some ⟨gg, 0, none⟩) (n + 1) cap') = w4 at *
    clear hs1 hs2
    obtain ⟨G4, hrb4, hn4⟩ := HX3.out
    have HM4 : Hid (RMem w4 base (.pointer (some ⟨R, 0, none⟩)) c L' K2 Y s (l ++ [v]) G4) := HM2.out.onRb hrb4 hn4
    have HN4 : Hid (Next (G ++ K) (G4 ++ K2) w w4) := (HN2.out.right (F := G)).trans hn4.left
    obtain ⟨a4, cap4, y40, y41, hl4⟩ := hrb4.cells
    have HNX4 : Hid (∀ w' : World, Below w4.heap.size w4 w' → Calls Try.prog 30 #[.int .i64 (s : Int), .slice a4 (l ++ [v]).length cap4] w' fun e w'' => e = .returned (.agg (planC s b')) ∧ Below w'.heap.size w' w'') := fun w' hb => next_any (hl4.later hb) HG2.out
    generalize (l ++ [v]).length = n4 at *
    have hY4 : Y < w4.heap.size := World.block_lt_of_cell? _ _ y40
    unfold planC at HNX4
    clear hrb4 hn4 hl4 HX3 HRB HM2 HN2 HM1 HLD HH HNX
    obtain ⟨st, seen, stamp⟩ := b'
    simp only at HNX4
    generalize plA s ⟨st, seen, stamp⟩ = ad4 at *
    by_cases e2 : st = 2
    · subst e2
      rw [if_pos rfl, if_pos rfl] at HNX4
      rw [show decide ((2 : Int) = 2) = true from rfl] at HNX4
      go_cut [10] (fun s10 wx => Planned w4 #[.bool true, .int .i64 stamp, .int .i64 seen, .int .i64 ad4.k, .int .i64 ad4.i, .int .i64 ad4.j] s10 wx)
      case first =>
        go_region_with ((go_at_call 30; refine (HNX4.out _ (by first | exact below_drawn (Below.refl _ _) 1 | exact below_drawn (below_a1 _ _) 1)).mono ?_; rintro e w5 ⟨rfl, hb1⟩; try (have hr : w5.heap[w4.heap.size]? = some (.cells noPlan 87 (0, 0)) := row_on (w := World.drew (w4.alloc (.cells noPlan 87))) (heap_alloc_new w4 _) hb1; obtain ⟨⟨p0, p1, p2, p3, p4, p5⟩, f0, f1, f2, f3, f4, f5⟩ := plan_cells hr; have hB := heap_lt hr)))
        all_goals
          go_wp2_with fail
          go_meet
          first | exact planned_old hr (below_then (below_drawn (below_a1 _ _) 1) hb1) | exact planned_new (below_then (below_drawn (Below.refl _ _) 1) hb1)
      case rest =>
        obtain ⟨P2, rfl, hP2, hrow, hbel⟩ := hcut
        obtain ⟨p0, p1, p2, p3, p4, p5⟩ := plan6 hrow
        have HE : Hid (∃ K' G', RMem wc base (.pointer (some ⟨R, 0, none⟩)) c L' K' Y s (l ++ [v]) G' ∧ Next (G ++ K) (G' ++ K') w wc) := ⟨K2, G4, HM4.out.below hbel, HN4.out.trans (Next.of_below hbel _)⟩
        clear hrow hbel
        go_wp2
        go_ret
        exact ⟨rfl, HE.out⟩
    · rw [if_neg e2, if_neg e2] at HNX4
      rw [show decide (st = 2) = false by simpa using e2] at HNX4
      go_cut [10] (fun s10 wx => Planned w4 #[.bool false, .int .i64 0, .int .i64 0, .int .i64 ad4.k, .int .i64 ad4.i, .int .i64 ad4.j] s10 wx)
      case first =>
        go_region_with ((go_at_call 30; refine (HNX4.out _ (by first | exact below_drawn (Below.refl _ _) 1 | exact below_drawn (below_a1 _ _) 1)).mono ?_; rintro e w5 ⟨rfl, hb1⟩; try (have hr : w5.heap[w4.heap.size]? = some (.cells noPlan 87 (0, 0)) := row_on (w := World.drew (w4.alloc (.cells noPlan 87))) (heap_alloc_new w4 _) hb1; obtain ⟨⟨p0, p1, p2, p3, p4, p5⟩, f0, f1, f2, f3, f4, f5⟩ := plan_cells hr; have hB := heap_lt hr)))
        all_goals
          go_wp2_with fail
          go_meet
          first | exact planned_old hr (below_then (below_drawn (below_a1 _ _) 1) hb1) | exact planned_new (below_then (below_drawn (Below.refl _ _) 1) hb1)
      case rest =>
        obtain ⟨P2, rfl, hP2, hrow, hbel⟩ := hcut
        obtain ⟨p0, p1, p2, p3, p4, p5⟩ := plan6 hrow
        have HE : Hid (∃ K' G', RMem wc base (.pointer (some ⟨R, 0, none⟩)) c L' K' Y s (l ++ [v]) G' ∧ Next (G ++ K) (G' ++ K') w wc) := ⟨K2, G4, HM4.out.below hbel, HN4.out.trans (Next.of_below hbel _)⟩
        clear hrow hbel
        go_wp2
        go_ret
        exact ⟨rfl, HE.out⟩
end Go.Proofs.Ytcckdjmbjghbdaa
