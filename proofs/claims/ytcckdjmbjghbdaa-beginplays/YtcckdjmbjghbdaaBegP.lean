/- Both machines and both memories under way, beside rows that are kept. -/
import Derived.Test.YtcckdjmbjghbdaaBegL
namespace Go.Proofs.Ytcckdjmbjghbdaa
open Go.ChangeShapes Go.WideShapes Go.ChangeAt Go.RowKit
attribute [local go_sem ↓] Go.wp_at_zero Go.wp_at_succ

structure BAll (w : World) (base : Nat) (p q : Value) (c r : Nat) (L K : List Ac) (X Y s : Nat) (b : Bg) (l : List Int) (R : List (Nat × Obj)) (F D G : List Nat) : Prop where
  ps : PS w base p c r L F X s b
  ds : DS w base q c r K D Y s l G
  apart : ∀ z ∈ X :: F, z ∉ G ++ D
  kp : Kept w (X :: F) R
  kd : Kept w (G ++ D) R
structure BWay (w0 w : World) (base : Nat) (p q : Value) (c r : Nat) (L K : List Ac) (X Y s : Nat) (b : Bg) (l : List Int) (R : List (Nat × Obj)) : Prop where
  all : ∃ F D G, BAll w base p q c r L K X Y s b l R F D G
  bel : Below w0.heap.size w0 w
  lo : w0.heap.size ≤ base
  size : base ≤ w.heap.size
theorem Kept.keep {w w' : World} {F G : List Nat} {R : List (Nat × Obj)} (h : Kept w F R) (hg : Kept w G R) (k : Keep G w w') : Kept w' F R := fun z hz => by
  obtain ⟨h1, h2⟩ := h z hz
  exact ⟨by rw [k.block _ (heap_lt h1) (hg z hz).2]; exact h1, h2⟩
theorem BAll.onP {w w' : World} {base : Nat} {p q : Value} {c r : Nat} {L L' K : List Ac} {X Y s : Nat} {b b' : Bg} {l : List Int} {R : List (Nat × Obj)} {F F' D G : List Nat} (h : BAll w base p q c r L K X Y s b l R F D G) (hp : PS w' base p c r L' F' X s b') (hn : Next (X :: F) (X :: F') w w') : BAll w' base p q c r L' K X Y s b' l R F' D G :=
  ⟨hp, h.ds.keep hn.1 (fun z hz hf => h.apart z hf hz), fun z hz hd => by
    rcases hn.2 z hz with h1 | h1
    · exact h.apart z h1 hd
    · have := (h.ds.lt z hd).2; omega, h.kp.next hn, h.kd.keep h.kp hn.1⟩
theorem BAll.onD {w w' : World} {base : Nat} {p q : Value} {c r : Nat} {L K K' : List Ac} {X Y s : Nat} {b : Bg} {l l' : List Int} {R : List (Nat × Obj)} {F D D' G G' : List Nat} (h : BAll w base p q c r L K X Y s b l R F D G) (hd : DS w' base q c r K' D' Y s l' G') (hn : Next (G ++ D) (G' ++ D') w w') : BAll w' base p q c r L K' X Y s b l' R F D' G' :=
  ⟨h.ps.keep hn.1 h.apart, hd, fun z hz hd => by
    rcases hn.2 z hd with h1 | h1
    · exact h.apart z hz h1
    · have := (h.ps.lt z hz).2; omega, h.kp.keep h.kd hn.1, h.kd.next hn⟩
theorem BWay.onP {w0 w w' : World} {base : Nat} {p q : Value} {c r : Nat} {L L' K : List Ac} {X Y s : Nat} {b b' : Bg} {l : List Int} {R : List (Nat × Obj)} {F F' D G : List Nat} (hw : BWay w0 w base p q c r L K X Y s b l R) (h : BAll w base p q c r L K X Y s b l R F D G) (hp : PS w' base p c r L' F' X s b') (hn : Next (X :: F) (X :: F') w w') : BWay w0 w' base p q c r L' K X Y s b' l R :=
  ⟨⟨F', D, G, h.onP hp hn⟩, hw.bel.trans (hn.below hw.bel.size (fun z hz => by have := (h.ps.lt z hz).1; have := hw.lo; omega)), hw.lo, Nat.le_trans hw.size hn.1.size⟩
theorem BWay.onD {w0 w w' : World} {base : Nat} {p q : Value} {c r : Nat} {L K K' : List Ac} {X Y s : Nat} {b : Bg} {l l' : List Int} {R : List (Nat × Obj)} {F D D' G G' : List Nat} (hw : BWay w0 w base p q c r L K X Y s b l R) (h : BAll w base p q c r L K X Y s b l R F D G) (hd : DS w' base q c r K' D' Y s l' G') (hn : Next (G ++ D) (G' ++ D') w w') : BWay w0 w' base p q c r L K' X Y s b l' R :=
  ⟨⟨F, D', G', h.onD hd hn⟩, hw.bel.trans (hn.below hw.bel.size (fun z hz => by have := (h.ds.lt z hz).1; have := hw.lo; omega)), hw.lo, Nat.le_trans hw.size hn.1.size⟩
theorem BWay.later {w0 w w' : World} {base : Nat} {p q : Value} {c r : Nat} {L K : List Ac} {X Y s : Nat} {b : Bg} {l : List Int} {R : List (Nat × Obj)} (hw : BWay w0 w base p q c r L K X Y s b l R) (hb : Below w.heap.size w w') : BWay w0 w' base p q c r L K X Y s b l R := by
  obtain ⟨F, D, G, h⟩ := hw.all
  exact ⟨⟨F, D, G, h.ps.below hb, h.ds.below hb, h.apart, h.kp.later hb, h.kd.later hb⟩, below_then hw.bel hb, hw.lo, Nat.le_trans hw.size hb.size⟩
theorem BWay.more {w0 w : World} {base : Nat} {p q : Value} {c r : Nat} {L K : List Ac} {X Y s : Nat} {b : Bg} {l : List Int} {R : List (Nat × Obj)} (hw : BWay w0 w base p q c r L K X Y s b l R) (o : Obj) : BWay w0 (w.alloc o) base p q c r L K X Y s b l ((w.heap.size, o) :: R) := by
  obtain ⟨F, D, G, h⟩ := hw.all
  exact ⟨⟨F, D, G, h.ps.below (below_a1 _ _), h.ds.below (below_a1 _ _), h.apart, h.kp.more (fun z hz => (h.ps.lt z hz).2) o, h.kd.more (fun z hz => (h.ds.lt z hz).2) o⟩, below_then hw.bel (below_a1 _ _), hw.lo, by have := hw.size; simp; omega⟩
theorem BWay.less {w0 w : World} {base : Nat} {p q : Value} {c r : Nat} {L K : List Ac} {X Y s : Nat} {b : Bg} {l : List Int} {R R' : List (Nat × Obj)} (hw : BWay w0 w base p q c r L K X Y s b l R) (hs : ∀ z ∈ R', z ∈ R) : BWay w0 w base p q c r L K X Y s b l R' := by
  obtain ⟨F, D, G, h⟩ := hw.all
  exact ⟨⟨F, D, G, h.ps, h.ds, h.apart, fun z hz => h.kp z (hs z hz), fun z hz => h.kd z (hs z hz)⟩, hw.bel, hw.lo, hw.size⟩
theorem BWay.row {w0 w : World} {base : Nat} {p q : Value} {c r : Nat} {L K : List Ac} {X Y s : Nat} {b : Bg} {l : List Int} {R : List (Nat × Obj)} (hw : BWay w0 w base p q c r L K X Y s b l R) {B : Nat} {o : Obj} (hz : (B, o) ∈ R) : w.heap[B]? = some o := by
  obtain ⟨F, D, G, h⟩ := hw.all
  exact (h.kp _ hz).1
theorem bway_pstep {w0 w : World} {base : Nat} {p q : Value} {c r : Nat} {L K : List Ac} {X Y s : Nat} {b : Bg} {l : List Int} {R : List (Nat × Obj)} (hw : BWay w0 w base p q c r L K X Y s b l R) (hL : L.length < 3298534883328) (hk : BOk s b) (t : Int) :
    Calls Try.prog 14 #[.pointer (some ⟨X, 0, none⟩), p, .int .i64 t] w fun e w' => e = .returned (ansC (ansK r s b L) (goesB r s b)) ∧ BWay w0 w' base p q c r (nextL c r s b L t) K X Y s (nextB r s b L) l R := by
  obtain ⟨F, D, G, h⟩ := hw.all
  refine (pstep h.ps hw.size hL hk t).mono ?_
  rintro e w' ⟨rfl, F', h2, hn⟩
  exact ⟨rfl, hw.onP h h2 hn⟩
theorem bway_dstep {w0 w : World} {base : Nat} {p q : Value} {c r : Nat} {L K : List Ac} {X Y s : Nat} {b b0 : Bg} {l : List Int} {R : List (Nat × Obj)} (hw : BWay w0 w base p q c r L K X Y s b l R) (hL : K.length < 3298534883328) (hk : BOk s b0) (hg : LOk s b0 l) (hv : W64 (wordOf K (adV s b0))) (t : Int) :
    Calls Try.prog 15 #[.pointer (some ⟨Y, 0, none⟩), q, .int .i64 t] w fun e w' => e = .returned (.int .i64 (ansK r s b0 K)) ∧ BWay w0 w' base p q c r L (nextL c r s b0 K t) X Y s b (nextI r s b0 K l) R := by
  obtain ⟨F, D, G, h⟩ := hw.all
  refine (dstep h.ds hw.size hL hk hg hv t).mono ?_
  rintro e w' ⟨rfl, D', G', h2, hn⟩
  exact ⟨rfl, hw.onD h h2 hn⟩
theorem bway_pstore {w0 w : World} {base : Nat} {p q : Value} {c r : Nat} {L K : List Ac} {X Y s : Nat} {b : Bg} {l : List Int} {R : List (Nat × Obj)} (hw : BWay w0 w base p q c r L K X Y s b l R) (hL : L.length < 3298534883328) (t : Int) (a : Ad) (z : Int) :
    Calls Try.prog 12 #[p, .int .i64 t, .agg #[.int .i64 a.k, .int .i64 a.i, .int .i64 a.j], .int .i64 z] w fun e w' => e = .returned (.int .i64 (if isAd c r a then 0 else 1)) ∧ BWay w0 w' base p q c r (storeL c r L t a z) K X Y s b l R := by
  obtain ⟨F, D, G, h⟩ := hw.all
  refine (store_any h.ps.mem hw.size hL t a z).mono ?_
  rintro e w' ⟨rfl, F', h2, hn⟩
  exact ⟨rfl, hw.onP h (h.ps.onMem h2 hn) (nextX hn)⟩
theorem bway_dstore {w0 w : World} {base : Nat} {p q : Value} {c r : Nat} {L K : List Ac} {X Y s : Nat} {b : Bg} {l : List Int} {R : List (Nat × Obj)} (hw : BWay w0 w base p q c r L K X Y s b l R) (hL : K.length < 3298534883328) (t : Int) (a : Ad) (z : Int) :
    Calls Try.prog 13 #[q, .int .i64 t, .agg #[.int .i64 a.k, .int .i64 a.i, .int .i64 a.j], .int .i64 z] w fun e w' => e = .returned (.int .i64 (if isAd c r a then 0 else 1)) ∧ BWay w0 w' base p q c r L (storeL c r K t a z) X Y s b l R := by
  obtain ⟨F, D, G, h⟩ := hw.all
  refine (rstore_any h.ds.ref hw.size hL t a z).mono ?_
  rintro e w' ⟨rfl, D', h2, hn⟩
  exact ⟨rfl, hw.onD h (h.ds.onRef h2 hn) hn.right⟩
theorem bway_starts {w0 w : World} {base : Nat} {p q : Value} {c r : Nat} {L K : List Ac} {X Y s : Nat} {b : Bg} {l : List Int} {R : List (Nat × Obj)} (hw : BWay w0 w base p q c r L K X Y s b l R) (hg : LOk s b l) :
    Calls Try.prog 16 #[.pointer (some ⟨X, 0, none⟩), .pointer (some ⟨Y, 0, none⟩)] w fun e w' => e = .returned (.bool true) ∧ BWay w0 w' base p q c r L K X Y s b l R := by
  obtain ⟨F, D, G, h⟩ := hw.all
  refine (starts_any h.ps.at_ h.ds.rb hg).mono ?_
  rintro e w' ⟨rfl, hb⟩
  exact ⟨rfl, hw.later hb⟩
theorem takes7_any (s : Int) (w : World) : Calls Try.prog 8 #[.int .i64 s] w fun e w' => e = .returned (.bool (decide (1 ≤ s ∧ s ≤ 16))) ∧ w' = w := by
  by_cases h1 : 1 ≤ s
  · have e1 : decide (s ≥ 1) = true := by simpa using h1
    have HE : Hid (decide (1 ≤ s ∧ s ≤ 16) = decide (s ≤ 16)) := by simp [Hid, h1]
    rw [HE.out]
    clear h1
    go_enter Try.func8, Try.ntmps8
    go_wp2
    go_ret
    exact ⟨rfl, rfl⟩
  · have e1 : decide (s ≥ 1) = false := by simpa using h1
    have HE : Hid (decide (1 ≤ s ∧ s ≤ 16) = false) := by simp [Hid]; omega
    rw [HE.out]
    clear h1
    go_enter Try.func8, Try.ntmps8
    go_wp2
    go_ret
    exact ⟨rfl, rfl⟩
/-- The document's machine that is new. -/
theorem rb_new (w : World) (base s : Nat) (hb : base ≤ w.heap.size) : RB (w.alloc (.cells #[.int .i64 (s : Int), .slice none 0 0] 38)) base w.heap.size s [] [w.heap.size] :=
  ⟨.slice none 0 0, heap_alloc_new _ _, World.ownsRow_nil _ _ _ _, rfl, hb⟩
end Go.Proofs.Ytcckdjmbjghbdaa
