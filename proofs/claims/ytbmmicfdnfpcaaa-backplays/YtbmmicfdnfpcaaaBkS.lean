/- A machine of layer 11 and its memory under way. -/
import Derived.Test.YtbmmicfdnfpcaaaBkJ
import Derived.Test.YtbmmicfdnfpcaaaBkO
import Derived.Test.YtbmmicfdnfpcaaaMemG
namespace Go.Proofs.Ytbmmicfdnfpcaaa
open Go.ChangeShapes Go.WideShapes Go.ChangeAt Go.RowKit
attribute [local go_sem ↓] Go.wp_at_zero Go.wp_at_succ

structure BW (w0 w : World) (base : Nat) (p : Value) (c r : Nat) (L : List Ac) (Z : Nat) (P : Bp) (b : Bk) (lv : Value) (R : List (Nat × Obj)) : Prop where
  all : ∃ F, BS w base p c r L F Z P b lv ∧ Kept w (Z :: F) R
  bel : Below w0.heap.size w0 w
  lo : w0.heap.size ≤ base
  size : base ≤ w.heap.size
theorem BW.later {w' : World} {w0 w : World} {base : Nat} {p : Value} {c r : Nat} {L : List Ac} {Z : Nat} {P : Bp} {b : Bk} {lv : Value} {R : List (Nat × Obj)} (h : BW w0 w base p c r L Z P b lv R) (hb : Below w.heap.size w w') : BW w0 w' base p c r L Z P b lv R := by
  obtain ⟨F, h1, h2⟩ := h.all
  exact ⟨⟨F, h1.below hb, h2.later hb⟩, below_then h.bel hb, h.lo, Nat.le_trans h.size hb.size⟩
theorem BW.more {w0 w : World} {base : Nat} {p : Value} {c r : Nat} {L : List Ac} {Z : Nat} {P : Bp} {b : Bk} {lv : Value} {R : List (Nat × Obj)} (h : BW w0 w base p c r L Z P b lv R) (o : Obj) : BW w0 (w.alloc o) base p c r L Z P b lv ((w.heap.size, o) :: R) := by
  obtain ⟨F, h1, h2⟩ := h.all
  exact ⟨⟨F, h1.below (below_a1 _ _), h2.more (fun q hq => (h1.lt q hq).2) o⟩, below_then h.bel (below_a1 _ _), h.lo, by have := h.size; simp; omega⟩
theorem BW.row {w0 w : World} {base : Nat} {p : Value} {c r : Nat} {L : List Ac} {Z : Nat} {P : Bp} {b : Bk} {lv : Value} {R : List (Nat × Obj)} (h : BW w0 w base p c r L Z P b lv R) {B : Nat} {o : Obj} (hz : (B, o) ∈ R) : w.heap[B]? = some o := by
  obtain ⟨F, _, h2⟩ := h.all
  exact (h2 _ hz).1
theorem BW.drop {w0 w : World} {base : Nat} {p : Value} {c r : Nat} {L : List Ac} {Z : Nat} {P : Bp} {b : Bk} {lv : Value} {R : List (Nat × Obj)} (h : BW w0 w base p c r L Z P b lv R) : BW w0 w base p c r L Z P b lv [] := by
  obtain ⟨F, h1, _⟩ := h.all
  exact ⟨⟨F, h1, fun z hz => by simp at hz⟩, h.bel, h.lo, h.size⟩
theorem bw_step {w0 w : World} {base : Nat} {p : Value} {c r : Nat} {L : List Ac} {Z : Nat} {P : Bp} {b : Bk} {lv : Value} {R : List (Nat × Obj)} (h : BW w0 w base p c r L Z P b lv R) (hL : L.length < 3298534883328) (hk : BkOk P b) (t : Int) :
    Calls Try.prog 15 #[.pointer (some ⟨Z, 0, none⟩), p, .int .i64 t] w fun e w' => e = .returned (ansC (ansBk c r P b L) (goesB c r P b)) ∧ BW w0 w' base p c r (nextBL c r P b L t) Z P (nextBk c r P b L) lv R := by
  obtain ⟨F, h1, h2⟩ := h.all
  refine (bstep h1 hk h.size hL t).mono ?_
  rintro e w' ⟨rfl, F', h3, hn⟩
  exact ⟨rfl, ⟨F', h3, h2.next hn⟩, h.bel.trans (hn.below h.bel.size (fun q hq => by have := (h1.lt q hq).1; have := h.lo; omega)), h.lo, Nat.le_trans h.size hn.1.size⟩
theorem bw_store {w0 w : World} {base : Nat} {p : Value} {c r : Nat} {L : List Ac} {Z : Nat} {P : Bp} {b : Bk} {lv : Value} {R : List (Nat × Obj)} (h : BW w0 w base p c r L Z P b lv R) (hL : L.length < 3298534883328) (t : Int) (a : Ad) (z : Int) :
    Calls Try.prog 13 #[p, .int .i64 t, .agg #[.int .i64 a.k, .int .i64 a.i, .int .i64 a.j], .int .i64 z] w fun e w' => e = .returned (.int .i64 (if isAd c r a then 0 else 1)) ∧ BW w0 w' base p c r (storeL c r L t a z) Z P b lv R := by
  obtain ⟨F, h1, h2⟩ := h.all
  refine (store_any h1.mem h.size hL t a z).mono ?_
  rintro e w' ⟨rfl, F', h3, hn⟩
  have hn2 := nextX (X := Z) hn
  exact ⟨rfl, ⟨F', h1.onMem h3 hn, h2.next hn2⟩, h.bel.trans (hn2.below h.bel.size (fun q hq => by have := (h1.lt q hq).1; have := h.lo; omega)), h.lo, Nat.le_trans h.size hn.1.size⟩
theorem bw_peek {w0 w : World} {base : Nat} {p : Value} {c r : Nat} {L : List Ac} {Z : Nat} {P : Bp} {b : Bk} {lv : Value} {R : List (Nat × Obj)} (h : BW w0 w base p c r L Z P b lv R) (a : Ad) (ha : isAd c r a = true) :
    Calls Try.prog 23 #[p, .agg #[.int .i64 a.k, .int .i64 a.i, .int .i64 a.j]] w fun e w' => e = .returned (.tuple #[.int .i64 (wordOf L a), .int .i64 0]) ∧ BW w0 w' base p c r L Z P b lv R := by
  obtain ⟨F, h1, h2⟩ := h.all
  have := peek_any h1.mem a
  rw [if_pos ha, if_pos ha] at this
  refine Calls.mono this ?_
  rintro e w' ⟨rfl, hb⟩
  exact ⟨rfl, h.later hb⟩
theorem bw_left {w0 w : World} {base : Nat} {p : Value} {c r : Nat} {L : List Ac} {Z : Nat} {P : Bp} {b : Bk} {lv : Value} {R : List (Nat × Obj)} (h : BW w0 w base p c r L Z P b lv R) (hk : BkOk P b) :
    Calls Try.prog 18 #[.pointer (some ⟨Z, 0, none⟩)] w fun e w' => e = .returned (.int .i64 ((P.W.length : Int) - (b.wr : Int))) ∧ BW w0 w' base p c r L Z P b lv R := by
  obtain ⟨F, h1, h2⟩ := h.all
  obtain ⟨a, cap, hl⟩ := h1.slice
  refine (bleft_any h1.row hl hk.p.len hk.wr).mono ?_
  rintro e w' ⟨rfl, hb⟩
  exact ⟨rfl, h.later hb⟩
theorem bw_sig {w0 w : World} {base : Nat} {p : Value} {c r : Nat} {L : List Ac} {Z : Nat} {P : Bp} {b : Bk} {lv : Value} {R : List (Nat × Obj)} (h : BW w0 w base p c r L Z P b lv R) (hk : BkOk P b) :
    Calls Try.prog 17 #[.pointer (some ⟨Z, 0, none⟩)] w fun e w' => e = .returned (Sg.sv P.sg) ∧ BW w0 w' base p c r L Z P b lv R := by
  obtain ⟨F, h1, h2⟩ := h.all
  refine (bsig_any h1.row (by rw [hk.p.sg]; exact sgOf_ok _)).mono ?_
  rintro e w' ⟨rfl, hb⟩
  exact ⟨rfl, h.later hb⟩
/-- A machine is made, then a memory; or the other way round. -/
theorem bs_new1 {w1 w2 : World} {base : Nat} {p : Value} {c r : Nat} {F : List Nat} {Z : Nat} {P : Bp} {b : Bk} {lv : Value} (hm : MemAt w1 base p c r [] F) (hs : base ≤ w1.heap.size) (hZ : w1.heap.size ≤ Z) (hr : BRow w2 Z P b lv) (ho : w2.ownsRow w1.heap.size 36 2 lv P.W.length (wtC P.W)) (hne : ∀ k, lv.ownBlock = some k → k ≠ Z) (hb : Below w1.heap.size w1 w2) : BS w2 base p c r [] F Z P b lv :=
  ⟨hm.below hb, hr, own_base ho hs, fun e => by have := (hm.lt _ e).2; omega, fun k hk e => by
    rcases List.mem_cons.1 e with e | e
    · exact hne k hk e
    · have := (hm.lt _ e).2
      have := (own_block ho k hk).1
      omega, by omega⟩
theorem bs_new2 {w1 w2 w3 : World} {base : Nat} {p : Value} {c r : Nat} {F : List Nat} {Z : Nat} {P : Bp} {b : Bk} {lv : Value} (hZ : base ≤ Z) (hr : BRow w1 Z P b lv) (ho : w1.ownsRow base 36 2 lv P.W.length (wtC P.W)) (hne : ∀ k, lv.ownBlock = some k → k ≠ Z) (hk12 : Below w1.heap.size w1 w2) (hm : MemAt w3 w2.heap.size p c r [] F) (hb : Below w2.heap.size w2 w3) (hm2 : MemAt w3 base p c r [] F) : BS w3 base p c r [] F Z P b lv := by
  have hZ1 := heap_lt hr
  have hk13 := below_then hk12 hb
  refine ⟨hm2, hr.below hk13 hZ1, own_keep ho (Keep.of_below hk13 []) (fun _ _ => by simp), fun e => ?_, fun k hk e => ?_, hZ⟩
  · have := (hm.lt _ e).1; have := hk12.size; omega
  · rcases List.mem_cons.1 e with e | e
    · exact hne k hk e
    · have := (hm.lt _ e).1
      have := (own_block ho k hk).2
      have := hk12.size
      omega
theorem bw_new {w0 w2 : World} {base : Nat} {p : Value} {c r : Nat} {F : List Nat} {Z : Nat} {P : Bp} {b : Bk} {lv : Value} (h : BS w2 base p c r [] F Z P b lv) (hb : Below w0.heap.size w0 w2) (hlo : w0.heap.size ≤ base) (hs : base ≤ w2.heap.size) : BW w0 w2 base p c r [] Z P b lv [] :=
  ⟨⟨F, h, fun z hz => by simp at hz⟩, hb, hlo, hs⟩
end Go.Proofs.Ytbmmicfdnfpcaaa
