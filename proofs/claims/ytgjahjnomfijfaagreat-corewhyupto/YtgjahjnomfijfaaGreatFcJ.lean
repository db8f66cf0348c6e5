/- The program's machine of layer 8 beside a memory, whatever the ring's size; above what was there, beside rows that are kept. -/
import Derived.Test.YtgjahjnomfijfaaGreatJFcCFcD
import Derived.Test.YtgjahjnomfijfaaGreatJMemIMemN
namespace Go.Proofs.YtgjahjnomfijfaaGreat.Fe
open Go.ChangeShapes Go.WideShapes Go.ChangeAt Go.RowKit
attribute [local go_sem ↓] Go.wp_at_zero Go.wp_at_succ
theorem memAt_low {w : World} {base base' : Nat} {p : Value} {c r : Nat} {L : List Ac} {F : List Nat} (h : MemAt w base p c r L F) (hb : base' ≤ base) : MemAt w base' p c r L F := by
 obtain ⟨M, H, S, C, v, h⟩ := h
 exact ⟨M, H, S, C, v, h.p, h.m, own_base h.own hb, h.F, by have := h.bM; omega, by have := h.bH; omega, by have := h.bS; omega, by have := h.bC; omega, h.c, h.r⟩
def Gd (L : List Ac) : Prop := ∀ a, W64 (wordOf L a)
theorem gd_load {c r : Nat} {L : List Ac} {t : Int} {a : Ad} (h : Gd L) : Gd (loadL c r L t a) := fun x => by rw [wordOf_load]; exact h x
def nextK (r : Nat) (P : Cp) (b : Ck) (L : List Ac) : Ck := if goesK r P b then stepK P b (wordOf L (adK P b)) else b
def nextKL (c r : Nat) (P : Cp) (b : Ck) (L : List Ac) (t : Int) : List Ac := if goesK r P b then loadL c r L t (adK P b) else L
def ansKK (r : Nat) (P : Cp) (b : Ck) (L : List Ac) : Int := if goesK r P b then kindK P b (wordOf L (adK P b)) else 0
def errKK (r : Nat) (P : Cp) (b : Ck) (L : List Ac) : Int := if goesK r P b then errK P b (wordOf L (adK P b)) else 0
def nextN (r : Nat) (P : Cp) (b : Ck) (L : List Ac) (n : Nat) : Nat := if goesK r P b then (if waitK b (wordOf L (adK P b)) then n else n + 1) else n
theorem goesK_iff {r : Nat} {P : Cp} {b : Ck} : goesK r P b = true ↔ ¬ thr b ∧ r = P.s := by unfold goesK thr; simp
theorem gd_next {c r : Nat} {P : Cp} {b : Ck} {L : List Ac} {t : Int} (hg : Gd L) : Gd (nextKL c r P b L t) := by
 unfold nextKL
 split
 ·exact gd_load hg
 ·exact hg
theorem nextKL_len (c r : Nat) (P : Cp) (b : Ck) (L : List Ac) (t : Int) : (nextKL c r P b L t).length ≤ L.length + 1 := by
 unfold nextKL loadL
 repeat' split
 all_goals simp
structure KS (w : World) (base : Nat) (p : Value) (c r : Nat) (L : List Ac) (F : List Nat) (X : Nat) (P : Cp) (b : Ck) : Prop where
 mem : MemAt w base p c r L F
 at_ : KAt w X P b
 out : X ∉ F
 lo : base ≤ X
theorem KS.lt {w : World} {base : Nat} {p : Value} {c r : Nat} {L : List Ac} {F : List Nat} {X : Nat} {P : Cp} {b : Ck} (h : KS w base p c r L F X P b) : ∀ q ∈ X :: F, base ≤ q ∧ q < w.heap.size := fun q hq => by
 rcases List.mem_cons.1 hq with rfl | hq
 ·exact ⟨h.lo, heap_lt h.at_⟩
 ·exact h.mem.lt q hq
theorem KS.keep {w w' : World} {base : Nat} {p : Value} {c r : Nat} {L : List Ac} {F G : List Nat} {X : Nat} {P : Cp} {b : Ck} (h : KS w base p c r L F X P b) (k : Keep G w w') (hd : ∀ q ∈ X :: F, q ∉ G) : KS w' base p c r L F X P b :=
 ⟨h.mem.keep k (fun q hq => hd q (by simp [hq])), h.at_.keep k (hd X (by simp)), h.out, h.lo⟩
theorem KS.below {w w' : World} {base : Nat} {p : Value} {c r : Nat} {L : List Ac} {F : List Nat} {X : Nat} {P : Cp} {b : Ck} (h : KS w base p c r L F X P b) (hb : Below w.heap.size w w') : KS w' base p c r L F X P b := h.keep (Keep.of_below hb []) (fun _ _ => by simp)
structure KWay (w0 w : World) (base : Nat) (p : Value) (c r : Nat) (L : List Ac) (X : Nat) (P : Cp) (b : Ck) (n : Nat) (R : List (Nat × Obj)) : Prop where
 ps : ∃ F, KS w base p c r L F X P b ∧ Kept w (X :: F) R
 bel : Below w0.heap.size w0 w
 lo : w0.heap.size ≤ base
 size : base ≤ w.heap.size
 ok : KOk P b n
 gd : Gd L
end Go.Proofs.YtgjahjnomfijfaaGreat.Fe
