/- The program's machine of layer 8 beside a memory, whatever the ring's size; above what was there, beside rows that are kept. -/
import Derived.Test.YtbeaaapkjoegoaaGreatJFcCFcD
import Derived.Test.YtbeaaapkjoegoaaGreatJMemIMemN
namespace Go.Proofs.YtbeaaapkjoegoaaGreat.Fe
open Go.ChangeShapes Go.WideShapes Go.ChangeAt Go.RowKit
attribute [local go_sem ↓] Go.wp_at_zero Go.wp_at_succ

theorem memAt_low {w : World} {base base' : Nat} {p : Value} {c r : Nat} {L : List Ac} {F : List Nat} (h : MemAt w base p c r L F) (hb : base' ≤ base) : MemAt w base' p c r L F := by
  obtain ⟨M, H, S, C, v, h⟩ := h
  exact ⟨M, H, S, C, v, h.p, h.m, own_base h.own hb, h.F, by have := h.bM; omega, by have := h.bH; omega, by have := h.bS; omega, by have := h.bC; omega, h.c, h.r⟩
/-- All words are words. -/
def Gd (L : List Ac) : Prop := ∀ a, W64 (wordOf L a)
theorem gd_load {c r : Nat} {L : List Ac} {t : Int} {a : Ad} (h : Gd L) : Gd (loadL c r L t a) := fun x => by rw [wordOf_load]; exact h x
def nextK (r : Nat) (P : Cp) (b : Ck) (L : List Ac) : Ck := if goesK r P b then stepK P b (wordOf L (adK P b)) else b
def nextKL (c r : Nat) (P : Cp) (b : Ck) (L : List Ac) (t : Int) : List Ac := if goesK r P b then loadL c r L t (adK P b) else L
def ansKK (r : Nat) (P : Cp) (b : Ck) (L : List Ac) : Int := if goesK r P b then kindK P b (wordOf L (adK P b)) else 0
def errKK (r : Nat) (P : Cp) (b : Ck) (L : List Ac) : Int := if goesK r P b then errK P b (wordOf L (adK P b)) else 0
def nextN (r : Nat) (P : Cp) (b : Ck) (L : List Ac) (n : Nat) : Nat := if goesK r P b then (if waitK b (wordOf L (adK P b)) then n else n + 1) else n
theorem goesK_iff {r : Nat} {P : Cp} {b : Ck} : goesK r P b = true ↔ ¬ thr b ∧ r = P.s := by unfold goesK thr; simp
theorem gd_next {c r : Nat} {P : Cp} {b : Ck} {L : List Ac} {t : Int} (hg : Gd L) : Gd (nextKL c r P b L t) := by
  unfold nextKL
  split
  · exact gd_load hg
  · exact hg
theorem nextKL_len (c r : Nat) (P : Cp) (b : Ck) (L : List Ac) (t : Int) : (nextKL c r P b L t).length ≤ L.length + 1 := by
  unfold nextKL loadL
  repeat' split
  all_goals simp
structure KS (w : World) (base : Nat) (p : Value) (c r : Nat) (L : List Ac) (F : List Nat) (X : Nat) (P : Cp) (b : Ck) : Prop where
  mem : MemAt w base p c r L F
  at_ : KAt w X P b
  out : X ∉ F
  lo : base ≤ X
theorem KS.lt {w : World} {base : Nat} {p : Value} {c r : Nat} {L : List Ac} {F : List Nat} {X : Nat} {P : Cp} {b : Ck} (h : KS w base p c r L F X P b) : ∀ q ∈ X :: F, base ≤ q ∧ q < w.heap.size := fun q hq => by
  rcases List.mem_cons.1 hq with rfl | hq
  · exact ⟨h.lo, heap_lt h.at_⟩
  · exact h.mem.lt q hq
theorem KS.keep {w w' : World} {base : Nat} {p : Value} {c r : Nat} {L : List Ac} {F G : List Nat} {X : Nat} {P : Cp} {b : Ck} (h : KS w base p c r L F X P b) (k : Keep G w w') (hd : ∀ q ∈ X :: F, q ∉ G) : KS w' base p c r L F X P b :=
  ⟨h.mem.keep k (fun q hq => hd q (by simp [hq])), h.at_.keep k (hd X (by simp)), h.out, h.lo⟩
theorem KS.below {w w' : World} {base : Nat} {p : Value} {c r : Nat} {L : List Ac} {F : List Nat} {X : Nat} {P : Cp} {b : Ck} (h : KS w base p c r L F X P b) (hb : Below w.heap.size w w') : KS w' base p c r L F X P b := h.keep (Keep.of_below hb []) (fun _ _ => by simp)
theorem KS.onMem {w w' : World} {base : Nat} {p : Value} {c r : Nat} {L L' : List Ac} {F F' : List Nat} {X : Nat} {P : Cp} {b : Ck} (h : KS w base p c r L F X P b) (hm : MemAt w' base p c r L' F') (hn : Next F F' w w') : KS w' base p c r L' F' X P b :=
  ⟨hm, h.at_.keep hn.1 h.out, fun e => by
    rcases hn.2 X e with h1 | h1
    · exact h.out h1
    · have := heap_lt h.at_; omega, h.lo⟩
/-- A machine and its memory under way, above what was there, beside rows that are kept. -/
structure KWay (w0 w : World) (base : Nat) (p : Value) (c r : Nat) (L : List Ac) (X : Nat) (P : Cp) (b : Ck) (n : Nat) (R : List (Nat × Obj)) : Prop where
  ps : ∃ F, KS w base p c r L F X P b ∧ Kept w (X :: F) R
  bel : Below w0.heap.size w0 w
  lo : w0.heap.size ≤ base
  size : base ≤ w.heap.size
  ok : KOk P b n
  gd : Gd L
theorem KWay.later {w0 w w' : World} {base : Nat} {p : Value} {c r : Nat} {L : List Ac} {X : Nat} {P : Cp} {b : Ck} {n : Nat} {R : List (Nat × Obj)} (h : KWay w0 w base p c r L X P b n R) (hb : Below w.heap.size w w') : KWay w0 w' base p c r L X P b n R := by
  obtain ⟨F, h1, h2⟩ := h.ps
  exact ⟨⟨F, h1.below hb, h2.later hb⟩, below_then h.bel hb, h.lo, Nat.le_trans h.size hb.size, h.ok, h.gd⟩
theorem KWay.more {w0 w : World} {base : Nat} {p : Value} {c r : Nat} {L : List Ac} {X : Nat} {P : Cp} {b : Ck} {n : Nat} {R : List (Nat × Obj)} (h : KWay w0 w base p c r L X P b n R) (o : Obj) : KWay w0 (w.alloc o) base p c r L X P b n ((w.heap.size, o) :: R) := by
  obtain ⟨F, h1, h2⟩ := h.ps
  exact ⟨⟨F, h1.below (below_a1 _ _), h2.more (fun q hq => (h1.lt q hq).2) o⟩, below_then h.bel (below_a1 _ _), h.lo, by have := h.size; simp; omega, h.ok, h.gd⟩
theorem KWay.row {w0 w : World} {base : Nat} {p : Value} {c r : Nat} {L : List Ac} {X : Nat} {P : Cp} {b : Ck} {n : Nat} {R : List (Nat × Obj)} (h : KWay w0 w base p c r L X P b n R) {B : Nat} {o : Obj} (hz : (B, o) ∈ R) : w.heap[B]? = some o := by
  obtain ⟨F, h1, h2⟩ := h.ps
  exact (h2 _ hz).1
theorem KWay.next {w0 w w' : World} {base : Nat} {p : Value} {c r : Nat} {L L' : List Ac} {X : Nat} {P : Cp} {b b' : Ck} {n n' : Nat} {R : List (Nat × Obj)} {F F' : List Nat} (h : KWay w0 w base p c r L X P b n R) (h1 : KS w base p c r L F X P b) (hk : Kept w (X :: F) R) (h2 : KS w' base p c r L' F' X P b') (hn : Next (X :: F) (X :: F') w w') (ho : KOk P b' n') (hg : Gd L') : KWay w0 w' base p c r L' X P b' n' R :=
  ⟨⟨F', h2, hk.next hn⟩, h.bel.trans (hn.below h.bel.size (fun q hq => by have := (h1.lt q hq).1; have := h.lo; omega)), h.lo, Nat.le_trans h.size hn.1.size, ho, hg⟩
end Go.Proofs.YtbeaaapkjoegoaaGreat.Fe