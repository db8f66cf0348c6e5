/- The example at the head of layer 7's statements. -/
import Derived.Test.YtcckdjmbjghbdaaBegJ
namespace Go.Proofs.Ytcckdjmbjghbdaa
open Go.ChangeShapes Go.WideShapes Go.ChangeAt Go.RowKit
attribute [local go_sem ↓] Go.wp_at_zero Go.wp_at_succ

/-- Rows that lie apart from what changes. -/
def Kept (w : World) (F : List Nat) (R : List (Nat × Obj)) : Prop := ∀ z ∈ R, w.heap[z.1]? = some z.2 ∧ z.1 ∉ F
theorem Kept.next {w w' : World} {F F' : List Nat} {R : List (Nat × Obj)} (h : Kept w F R) (hn : Next F F' w w') : Kept w' F' R := fun z hz => by
  obtain ⟨h1, h2⟩ := h z hz
  refine ⟨by rw [hn.1.block _ (heap_lt h1) h2]; exact h1, fun e => ?_⟩
  rcases hn.2 _ e with h3 | h3
  · exact h2 h3
  · have := heap_lt h1; omega
theorem Kept.later {w w' : World} {F : List Nat} {R : List (Nat × Obj)} (h : Kept w F R) (hb : Below w.heap.size w w') : Kept w' F R := h.next (Next.of_below hb F)
theorem Kept.more {w : World} {F : List Nat} {R : List (Nat × Obj)} (h : Kept w F R) (hF : ∀ q ∈ F, q < w.heap.size) (o : Obj) : Kept (w.alloc o) F ((w.heap.size, o) :: R) := fun z hz => by
  rcases List.mem_cons.1 hz with rfl | hz
  · exact ⟨heap_alloc_new _ _, fun e => by have := hF _ e; simp at this⟩
  · exact (h.later (below_a1 _ _)) z hz
/-- A machine and its memory under way, above what was there, beside rows that are kept. -/
structure PWay (w0 w : World) (base : Nat) (p : Value) (c r : Nat) (L : List Ac) (X s : Nat) (b : Bg) (R : List (Nat × Obj)) : Prop where
  ps : ∃ F, PS w base p c r L F X s b ∧ Kept w (X :: F) R
  bel : Below w0.heap.size w0 w
  lo : w0.heap.size ≤ base
  size : base ≤ w.heap.size
theorem PWay.later {w0 w w' : World} {base : Nat} {p : Value} {c r : Nat} {L : List Ac} {X s : Nat} {b : Bg} {R : List (Nat × Obj)} (h : PWay w0 w base p c r L X s b R) (hb : Below w.heap.size w w') : PWay w0 w' base p c r L X s b R := by
  obtain ⟨F, h1, h2⟩ := h.ps
  exact ⟨⟨F, h1.below hb, h2.later hb⟩, below_then h.bel hb, h.lo, Nat.le_trans h.size hb.size⟩
theorem PWay.more {w0 w : World} {base : Nat} {p : Value} {c r : Nat} {L : List Ac} {X s : Nat} {b : Bg} {R : List (Nat × Obj)} (h : PWay w0 w base p c r L X s b R) (o : Obj) : PWay w0 (w.alloc o) base p c r L X s b ((w.heap.size, o) :: R) := by
  obtain ⟨F, h1, h2⟩ := h.ps
  exact ⟨⟨F, h1.below (below_a1 _ _), h2.more (fun q hq => (h1.lt q hq).2) o⟩, below_then h.bel (below_a1 _ _), h.lo, by have := h.size; simp; omega⟩
theorem PWay.less {w0 w : World} {base : Nat} {p : Value} {c r : Nat} {L : List Ac} {X s : Nat} {b : Bg} {R R' : List (Nat × Obj)} (h : PWay w0 w base p c r L X s b R) (hs : ∀ z ∈ R', z ∈ R) : PWay w0 w base p c r L X s b R' := by
  obtain ⟨F, h1, h2⟩ := h.ps
  exact ⟨⟨F, h1, fun z hz => h2 z (hs z hz)⟩, h.bel, h.lo, h.size⟩
theorem PWay.row {w0 w : World} {base : Nat} {p : Value} {c r : Nat} {L : List Ac} {X s : Nat} {b : Bg} {R : List (Nat × Obj)} (h : PWay w0 w base p c r L X s b R) {B : Nat} {o : Obj} (hz : (B, o) ∈ R) : w.heap[B]? = some o := by
  obtain ⟨F, h1, h2⟩ := h.ps
  exact (h2 _ hz).1
theorem PWay.next {w0 w w' : World} {base : Nat} {p : Value} {c r : Nat} {L L' : List Ac} {X s : Nat} {b b' : Bg} {R : List (Nat × Obj)} {F F' : List Nat} (h : PWay w0 w base p c r L X s b R) (h1 : PS w base p c r L F X s b) (hk : Kept w (X :: F) R) (h2 : PS w' base p c r L' F' X s b') (hn : Next (X :: F) (X :: F') w w') : PWay w0 w' base p c r L' X s b' R :=
  ⟨⟨F', h2, hk.next hn⟩, h.bel.trans (hn.below h.bel.size (fun q hq => by have := (h1.lt q hq).1; have := h.lo; omega)), h.lo, Nat.le_trans h.size hn.1.size⟩
theorem pway_step {w0 w : World} {base : Nat} {p : Value} {c r : Nat} {L : List Ac} {X s : Nat} {b : Bg} {R : List (Nat × Obj)} (h : PWay w0 w base p c r L X s b R) (hL : L.length < 3298534883328) (hk : BOk s b) (t : Int) :
    Calls Try.prog 14 #[.pointer (some ⟨X, 0, none⟩), p, .int .i64 t] w fun e w' => e = .returned (ansC (ansK r s b L) (goesB r s b)) ∧ PWay w0 w' base p c r (nextL c r s b L t) X s (nextB r s b L) R := by
  obtain ⟨F, h1, hr⟩ := h.ps
  refine (pstep h1 h.size hL hk t).mono ?_
  rintro e w' ⟨rfl, F', h2, hn⟩
  exact ⟨rfl, h.next h1 hr h2 hn⟩
theorem pway_store {w0 w : World} {base : Nat} {p : Value} {c r : Nat} {L : List Ac} {X s : Nat} {b : Bg} {R : List (Nat × Obj)} (h : PWay w0 w base p c r L X s b R) (hL : L.length < 3298534883328) (t : Int) (a : Ad) (z : Int) :
    Calls Try.prog 12 #[p, .int .i64 t, .agg #[.int .i64 a.k, .int .i64 a.i, .int .i64 a.j], .int .i64 z] w fun e w' => e = .returned (.int .i64 (if isAd c r a then 0 else 1)) ∧ PWay w0 w' base p c r (storeL c r L t a z) X s b R := by
  obtain ⟨F, h1, hr⟩ := h.ps
  refine (store_any h1.mem h.size hL t a z).mono ?_
  rintro e w' ⟨rfl, F', h2, hn⟩
  exact ⟨rfl, h.next h1 hr (h1.onMem h2 hn) (nextX hn)⟩
theorem pway_start {w0 w : World} {base : Nat} {p : Value} {c r : Nat} {L : List Ac} {X s : Nat} {b : Bg} {R : List (Nat × Obj)} (h : PWay w0 w base p c r L X s b R) : Calls Try.prog 20 #[.pointer (some ⟨X, 0, none⟩)] w fun e w' => e = .returned (.tuple #[.int .i64 (if b.st = 2 then b.stamp else 0), .int .i64 (if b.st = 2 then b.seen else 0), .bool (decide (b.st = 2))]) ∧ PWay w0 w' base p c r L X s b R := by
  obtain ⟨F, h1, hr⟩ := h.ps
  refine (start_any h1.at_).mono ?_
  rintro e w' ⟨rfl, hb⟩
  exact ⟨rfl, h.later hb⟩
/-- A memory and a machine that are new. -/
theorem pway_new {w0 w1 w2 : World} {base : Nat} {p : Value} {c r : Nat} {F : List Nat} {s : Nat} (hm : MemAt w1 base p c r [] F) (hb : Below w0.heap.size w0 w1) (hlo : w0.heap.size ≤ base) (hs : base ≤ w1.heap.size) (hx : BAt w2 w1.heap.size s bgNew) (hb2 : Below w1.heap.size w1 w2) : PWay w0 w2 base p c r [] w1.heap.size s bgNew [] :=
  ⟨⟨F, ⟨hm.below hb2, hx, fun e => by have := (hm.lt _ e).2; omega, hs⟩, fun z hz => by simp at hz⟩, below_then hb hb2, hlo, Nat.le_trans hs hb2.size⟩
def ansO (k : Int) (y : Bool) : Obj := .cells #[.int .i64 k, .int .i64 0, .int .i64 0, .bool y] 46 (0, 0)

def shL : List Ac := storeL 2 4 (storeL 2 4 (storeL 2 4 [] 0 ⟨1, 0, 0⟩ 2) 0 ⟨2, 2, 0⟩ 0) 0 ⟨2, 1, 0⟩ 3
def shL1 : List Ac := nextL 2 4 4 bgNew shL 5
def shL2 : List Ac := nextL 2 4 4 ⟨1, 2, 2⟩ shL1 5
def shL3 : List Ac := nextL 2 4 4 ⟨1, 2, 1⟩ shL2 5
theorem shok0 : BOk 4 bgNew := bok_new (by decide) (by decide)
theorem shok1 : BOk 4 ⟨1, 2, 2⟩ := ⟨by decide, by decide, Or.inr (Or.inl ⟨rfl, by decide, by decide, by decide, by decide, by decide⟩)⟩
theorem shok2 : BOk 4 ⟨1, 2, 1⟩ := ⟨by decide, by decide, Or.inr (Or.inl ⟨rfl, by decide, by decide, by decide, by decide, by decide⟩)⟩
theorem shok3 : BOk 4 ⟨2, 2, 1⟩ := ⟨by decide, by decide, Or.inr (Or.inr ⟨rfl, by decide, by decide, by decide, by decide⟩)⟩
set_option maxRecDepth 10000 in
set_option maxHeartbeats 3200000 in
theorem bshown_any (w : World) : Calls Try.prog 6 #[] w fun e w' => e = .returned (.bool true) ∧ Below w.heap.size w w' := by
  have HN : Hid (∀ w : World, Calls Try.prog 10 #[.int .i64 2, .int .i64 4] w fun e w' => ∃ p F, e = .returned (.tuple #[p, .int .i64 0]) ∧ p ≠ .pointer none ∧ MemAt w' w.heap.size p 2 4 [] F ∧ Below w.heap.size w w') := fun w => new_yes w 2 4 (by decide) (by decide)
  have HB : Hid (∀ w : World, Calls Try.prog 7 #[.int .i64 4] w fun e w' => e = .returned (.tuple #[.pointer (some ⟨w.heap.size, 0, none⟩), .int .i64 0]) ∧ BAt w' w.heap.size 4 bgNew ∧ Below w.heap.size w w') := fun w => bnew_yes w 4 (by decide) (by decide)
  have HC : Hid (∀ w : World, Calls Try.prog 7 #[.int .i64 17] w fun e w' => e = .returned (.tuple #[.pointer none, .int .i64 1]) ∧ Below w.heap.size w w') := fun w => bnew_no w 17 (by decide)
  go_enter Try.func6, Try.ntmps6
  go_wp2_with fail
  refine (HN.out _).mono ?_
  rintro e w1 ⟨p, F1, rfl, _, hm1, hb1⟩
  obtain ⟨M, rfl⟩ := hm1.ptr
  have HM1 : Hid (MemAt w1 w.heap.size (.pointer (some ⟨M, 0, none⟩)) 2 4 [] F1 ∧ Below w.heap.size w w1) := ⟨hm1, hb1⟩
  clear hm1 hb1
  go_wp2_with fail
  refine (HB.out _).mono ?_
  rintro e w2 ⟨rfl, hx2, hb2⟩
  have HW2 : Hid (PWay w w2 w.heap.size (.pointer (some ⟨M, 0, none⟩)) 2 4 [] w1.heap.size 4 bgNew []) := pway_new HM1.out.1 HM1.out.2 (Nat.le_refl _) HM1.out.2.size hx2 hb2
  clear hx2 hb2 HM1
  generalize w1.heap.size = X at *
  go_wp2_with fail
  refine (HC.out _).mono ?_
  rintro e w3 ⟨rfl, hb3⟩
  have HW3 : Hid (PWay w w3 w.heap.size (.pointer (some ⟨M, 0, none⟩)) 2 4 [] X 4 bgNew []) := HW2.out.later hb3
  clear hb3 HW2
  have H1 : Hid (Calls Try.prog 12 #[.pointer (some ⟨M, 0, none⟩), .int .i64 0, .agg #[.int .i64 1, .int .i64 0, .int .i64 0], .int .i64 2] w3 fun e w' => e = .returned (.int .i64 0) ∧ PWay w w' w.heap.size (.pointer (some ⟨M, 0, none⟩)) 2 4 (storeL 2 4 [] 0 ⟨1, 0, 0⟩ 2) X 4 bgNew []) := pway_store HW3.out (by decide) 0 ⟨1, 0, 0⟩ 2
  go_wp2_with fail
  refine H1.out.mono ?_
  rintro e w4 ⟨rfl, h4⟩
  have H2 : Hid (Calls Try.prog 12 #[.pointer (some ⟨M, 0, none⟩), .int .i64 0, .agg #[.int .i64 2, .int .i64 2, .int .i64 0], .int .i64 0] w4 fun e w' => e = .returned (.int .i64 0) ∧ PWay w w' w.heap.size (.pointer (some ⟨M, 0, none⟩)) 2 4 (storeL 2 4 (storeL 2 4 [] 0 ⟨1, 0, 0⟩ 2) 0 ⟨2, 2, 0⟩ 0) X 4 bgNew []) := pway_store h4 (by decide) 0 ⟨2, 2, 0⟩ 0
  clear h4 H1 HW3
  go_wp2_with fail
  refine H2.out.mono ?_
  rintro e w5 ⟨rfl, h5⟩
  have H3 : Hid (Calls Try.prog 12 #[.pointer (some ⟨M, 0, none⟩), .int .i64 0, .agg #[.int .i64 2, .int .i64 1, .int .i64 0], .int .i64 3] w5 fun e w' => e = .returned (.int .i64 0) ∧ PWay w w' w.heap.size (.pointer (some ⟨M, 0, none⟩)) 2 4 shL X 4 bgNew []) := pway_store h5 (by decide) 0 ⟨2, 1, 0⟩ 3
  clear h5 H2
  go_wp2_with fail
  refine H3.out.mono ?_
  rintro e w6 ⟨rfl, h6⟩
  have HW6 : Hid (PWay w w6 w.heap.size (.pointer (some ⟨M, 0, none⟩)) 2 4 shL X 4 bgNew []) := h6
  clear h6 H3
  have HT7 : Hid (Calls Try.prog 14 #[.pointer (some ⟨X, 0, none⟩), .pointer (some ⟨M, 0, none⟩), .int .i64 5] w6 fun e w' => e = .returned (.agg #[.int .i64 2, .int .i64 0, .int .i64 0, .bool true]) ∧ PWay w w' w.heap.size (.pointer (some ⟨M, 0, none⟩)) 2 4 shL1 X 4 ⟨1, 2, 2⟩ []) := pway_step HW6.out (by decide) shok0 5
  go_wp2_with fail
  refine HT7.out.mono ?_
  rintro e w7 ⟨rfl, h7⟩
  have HW7 : Hid (PWay w (w7.alloc (.cells #[.int .i64 2, .int .i64 0, .int .i64 0, .bool true] 46)) w.heap.size (.pointer (some ⟨M, 0, none⟩)) 2 4 shL1 X 4 ⟨1, 2, 2⟩ ((w7.heap.size, ansO 2 true) :: [])) := h7.more _
  clear h7 HT7
  have HT8 : Hid (Calls Try.prog 14 #[.pointer (some ⟨X, 0, none⟩), .pointer (some ⟨M, 0, none⟩), .int .i64 5] (w7.alloc (.cells #[.int .i64 2, .int .i64 0, .int .i64 0, .bool true] 46)) fun e w' => e = .returned (.agg #[.int .i64 2, .int .i64 0, .int .i64 0, .bool true]) ∧ PWay w w' w.heap.size (.pointer (some ⟨M, 0, none⟩)) 2 4 shL2 X 4 ⟨1, 2, 1⟩ ((w7.heap.size, ansO 2 true) :: [])) := pway_step HW7.out (by decide) shok1 5
  go_wp2_with fail
  refine HT8.out.mono ?_
  rintro e w8 ⟨rfl, h8⟩
  have HW8 : Hid (PWay w (w8.alloc (.cells #[.int .i64 2, .int .i64 0, .int .i64 0, .bool true] 46)) w.heap.size (.pointer (some ⟨M, 0, none⟩)) 2 4 shL2 X 4 ⟨1, 2, 1⟩ ((w8.heap.size, ansO 2 true) :: ((w7.heap.size, ansO 2 true) :: []))) := h8.more _
  clear h8 HT8
  have HT9 : Hid (Calls Try.prog 14 #[.pointer (some ⟨X, 0, none⟩), .pointer (some ⟨M, 0, none⟩), .int .i64 5] (w8.alloc (.cells #[.int .i64 2, .int .i64 0, .int .i64 0, .bool true] 46)) fun e w' => e = .returned (.agg #[.int .i64 3, .int .i64 0, .int .i64 0, .bool true]) ∧ PWay w w' w.heap.size (.pointer (some ⟨M, 0, none⟩)) 2 4 shL3 X 4 ⟨2, 2, 1⟩ ((w8.heap.size, ansO 2 true) :: ((w7.heap.size, ansO 2 true) :: []))) := pway_step HW8.out (by decide) shok2 5
  go_wp2_with fail
  refine HT9.out.mono ?_
  rintro e w9 ⟨rfl, h9⟩
  have HW9 : Hid (PWay w (w9.alloc (.cells #[.int .i64 3, .int .i64 0, .int .i64 0, .bool true] 46)) w.heap.size (.pointer (some ⟨M, 0, none⟩)) 2 4 shL3 X 4 ⟨2, 2, 1⟩ ((w9.heap.size, ansO 3 true) :: ((w8.heap.size, ansO 2 true) :: ((w7.heap.size, ansO 2 true) :: [])))) := h9.more _
  clear h9 HT9
  have HT10 : Hid (Calls Try.prog 14 #[.pointer (some ⟨X, 0, none⟩), .pointer (some ⟨M, 0, none⟩), .int .i64 5] (w9.alloc (.cells #[.int .i64 3, .int .i64 0, .int .i64 0, .bool true] 46)) fun e w' => e = .returned (.agg #[.int .i64 0, .int .i64 0, .int .i64 0, .bool false]) ∧ PWay w w' w.heap.size (.pointer (some ⟨M, 0, none⟩)) 2 4 shL3 X 4 ⟨2, 2, 1⟩ ((w9.heap.size, ansO 3 true) :: ((w8.heap.size, ansO 2 true) :: ((w7.heap.size, ansO 2 true) :: [])))) := pway_step HW9.out (by decide) shok3 5
  go_wp2_with fail
  refine HT10.out.mono ?_
  rintro e w10 ⟨rfl, h10⟩
  have HW10 : Hid (PWay w (w10.alloc (.cells #[.int .i64 0, .int .i64 0, .int .i64 0, .bool false] 46)) w.heap.size (.pointer (some ⟨M, 0, none⟩)) 2 4 shL3 X 4 ⟨2, 2, 1⟩ ((w10.heap.size, ansO 0 false) :: ((w9.heap.size, ansO 3 true) :: ((w8.heap.size, ansO 2 true) :: ((w7.heap.size, ansO 2 true) :: []))))) := h10.more _
  clear h10 HT10
  have HTS : Hid (Calls Try.prog 20 #[.pointer (some ⟨X, 0, none⟩)] (w10.alloc (.cells #[.int .i64 0, .int .i64 0, .int .i64 0, .bool false] 46)) fun e w' => e = .returned (.tuple #[.int .i64 1, .int .i64 2, .bool true]) ∧ PWay w w' w.heap.size (.pointer (some ⟨M, 0, none⟩)) 2 4 shL3 X 4 ⟨2, 2, 1⟩ ((w10.heap.size, ansO 0 false) :: ((w9.heap.size, ansO 3 true) :: ((w8.heap.size, ansO 2 true) :: ((w7.heap.size, ansO 2 true) :: []))))) := pway_start HW10.out
  go_wp2_with fail
  refine HTS.out.mono ?_
  rintro e w11 ⟨rfl, h11⟩
  have HW11 : Hid (Below w.heap.size w w11) := h11.bel
  obtain ⟨⟨a0, _, _, _⟩, _⟩ := ans_cells (k := 2) (y := true) (h11.row (B := w7.heap.size) (o := ansO 2 true) (by simp))
  obtain ⟨⟨a1, _, _, _⟩, _⟩ := ans_cells (k := 2) (y := true) (h11.row (B := w8.heap.size) (o := ansO 2 true) (by simp))
  obtain ⟨⟨a2, _, _, _⟩, _⟩ := ans_cells (k := 3) (y := true) (h11.row (B := w9.heap.size) (o := ansO 3 true) (by simp))
  obtain ⟨⟨a3, _, _, _⟩, _⟩ := ans_cells (k := 0) (y := false) (h11.row (B := w10.heap.size) (o := ansO 0 false) (by simp))
  clear h11 HTS HW7 HW8 HW9 HW10
  go_wp2
  go_ret
  exact ⟨rfl, HW11.out⟩
end Go.Proofs.Ytcckdjmbjghbdaa
