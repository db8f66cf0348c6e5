/- The program's machine of layer 8 beside a memory, whatever the ring's size; above what was there, beside rows that are kept. -/
import Derived.Test.YtfbbcjlbelnfaaaCqD
import Derived.Test.YtfbbcjlbelnfaaaJRefCMemN
namespace Go.Proofs.Ytfbbcjlbelnfaaa
open Go.ChangeShapes Go.WideShapes Go.ChangeAt Go.RowKit
attribute [local go_sem ↓] Go.wp_at_zero Go.wp_at_succ

theorem memAt_low {w : World} {base base' : Nat} {p : Value} {c r : Nat} {L : List Ac} {F : List Nat} (h : MemAt w base p c r L F) (hb : base' ≤ base) : MemAt w base' p c r L F := by
  obtain ⟨M, H, S, C, v, h⟩ := h
  exact ⟨M, H, S, C, v, h.p, h.m, own_base h.own hb, h.F, by have := h.bM; omega, by have := h.bH; omega, by have := h.bS; omega, by have := h.bC; omega, h.c, h.r⟩
/-- All words are words. -/
def Gd (L : List Ac) : Prop := ∀ a, W64 (wordOf L a)
theorem gd_nil : Gd [] := fun a => by
  rw [wordOf_nil]
  unfold W64 first
  split <;> decide
theorem gd_load {c r : Nat} {L : List Ac} {t : Int} {a : Ad} (h : Gd L) : Gd (loadL c r L t a) := fun x => by rw [wordOf_load]; exact h x
theorem gd_store {c r : Nat} {L : List Ac} {t z : Int} {a : Ad} (h : Gd L) (hz : W64 z) : Gd (storeL c r L t a z) := fun x => by
  unfold storeL
  split
  · rw [wordOf_hit (Or.inl rfl)]
    unfold upd
    split
    · exact hz
    · exact h x
  · exact h x
def nextK (r : Nat) (P : Cp) (b : Ck) (L : List Ac) : Ck := if goesK r P b then stepK P b (wordOf L (adK P b)) else b
def nextKL (c r : Nat) (P : Cp) (b : Ck) (L : List Ac) (t : Int) : List Ac := if goesK r P b then loadL c r L t (adK P b) else L
def ansKK (r : Nat) (P : Cp) (b : Ck) (L : List Ac) : Int := if goesK r P b then kindK P b (wordOf L (adK P b)) else 0
def errKK (r : Nat) (P : Cp) (b : Ck) (L : List Ac) : Int := if goesK r P b then errK P b (wordOf L (adK P b)) else 0
def nextN (r : Nat) (P : Cp) (b : Ck) (L : List Ac) (n : Nat) : Nat := if goesK r P b then (if waitK b (wordOf L (adK P b)) then n else n + 1) else n
theorem goesK_iff {r : Nat} {P : Cp} {b : Ck} : goesK r P b = true ↔ ¬ thr b ∧ r = P.s := by unfold goesK thr; simp
theorem kok_next {r : Nat} {P : Cp} {b : Ck} {L : List Ac} {n : Nat} (h : KOk P b n) (hg : Gd L) : KOk P (nextK r P b L) (nextN r P b L n) := by
  unfold nextK nextN
  by_cases e : goesK r P b = true
  · rw [if_pos e, if_pos e]; exact kok_step h (hg _) (goesK_iff.mp e).1
  · rw [if_neg e, if_neg e]; exact h
theorem gd_next {c r : Nat} {P : Cp} {b : Ck} {L : List Ac} {t : Int} (hg : Gd L) : Gd (nextKL c r P b L t) := by
  unfold nextKL
  split
  · exact gd_load hg
  · exact hg
theorem nextKL_len (c r : Nat) (P : Cp) (b : Ck) (L : List Ac) (t : Int) : (nextKL c r P b L t).length ≤ L.length + 1 := by
  unfold nextKL loadL
  repeat' split
  all_goals simp
theorem storeL_len1 (c r : Nat) (L : List Ac) (t : Int) (a : Ad) (z : Int) : (storeL c r L t a z).length ≤ L.length + 1 := by
  unfold storeL
  split
  all_goals simp
structure KS (w : World) (base : Nat) (p : Value) (c r : Nat) (L : List Ac) (F : List Nat) (X : Nat) (P : Cp) (b : Ck) : Prop where
  mem : MemAt w base p c r L F
  at_ : KAt w X P b
  out : X ∉ F
  lo : base ≤ X
theorem KS.lt {w : World} {base : Nat} {p : Value} {c r : Nat} {L : List Ac} {F : List Nat} {X : Nat} {P : Cp} {b : Ck} (h : KS w base p c r L F X P b) : ∀ q ∈ X :: F, base ≤ q ∧ q < w.heap.size := fun q hq => by
  rcases List.mem_cons.1 hq with rfl | hq
  · exact ⟨h.lo, heap_lt h.at_⟩
  · exact h.mem.lt q hq
theorem KS.keep {w w' : World} {base : Nat} {p : Value} {c r : Nat} {L : List Ac} {F G : List Nat} {X : Nat} {P : Cp} {b : Ck} (h : KS w base p c r L F X P b) (k : Keep G w w') (hd : ∀ q ∈ X :: F, q ∉ G) : KS w' base p c r L F X P b :=
  ⟨h.mem.keep k (fun q hq => hd q (by simp [hq])), h.at_.keep k (hd X (by simp)), h.out, h.lo⟩
theorem KS.below {w w' : World} {base : Nat} {p : Value} {c r : Nat} {L : List Ac} {F : List Nat} {X : Nat} {P : Cp} {b : Ck} (h : KS w base p c r L F X P b) (hb : Below w.heap.size w w') : KS w' base p c r L F X P b := h.keep (Keep.of_below hb []) (fun _ _ => by simp)
theorem KS.onMem {w w' : World} {base : Nat} {p : Value} {c r : Nat} {L L' : List Ac} {F F' : List Nat} {X : Nat} {P : Cp} {b : Ck} (h : KS w base p c r L F X P b) (hm : MemAt w' base p c r L' F') (hn : Next F F' w w') : KS w' base p c r L' F' X P b :=
  ⟨hm, h.at_.keep hn.1 h.out, fun e => by
    rcases hn.2 X e with h1 | h1
    · exact h.out h1
    · have := heap_lt h.at_; omega, h.lo⟩
theorem kstep {w : World} {base : Nat} {p : Value} {c r : Nat} {L : List Ac} {F : List Nat} {X : Nat} {P : Cp} {b : Ck} {n : Nat} (h : KS w base p c r L F X P b) (hb : base ≤ w.heap.size) (hL : L.length < 3298534883328) (hk : KOk P b n) (hg : Gd L) (t : Int) :
    Calls Try.prog 48 #[.pointer (some ⟨X, 0, none⟩), p, .int .i64 t] w fun e w' => e = .returned (ansE (ansKK r P b L) (errKK r P b L) (goesK r P b)) ∧ ∃ F', KS w' base p c r (nextKL c r P b L t) F' X P (nextK r P b L) ∧ Next (X :: F) (X :: F') w w' := by
  by_cases hgo : goesK r P b = true
  · unfold ansKK errKK nextKL nextK
    rw [if_pos hgo, if_pos hgo, if_pos hgo, if_pos hgo, hgo]
    obtain ⟨h2, rfl⟩ := goesK_iff.mp hgo
    refine (cstep_some ⟨h.mem, h.at_, h.out, h.lo⟩ hb hL hk h2 (hg _) t).mono ?_
    rintro e w' ⟨rfl, F', h3, h4⟩
    exact ⟨rfl, F', ⟨h3.mem, h3.at_, h3.out, h3.lo⟩, h4⟩
  · unfold ansKK errKK nextKL nextK
    have hgo' : goesK r P b = false := by simpa using hgo
    rw [if_neg hgo, if_neg hgo, if_neg hgo, if_neg hgo, hgo']
    refine (cstep_none h.mem h.at_ hgo' t).mono ?_
    rintro e w' ⟨rfl, hb'⟩
    exact ⟨rfl, F, h.below hb', Next.of_below hb' _⟩
/-- A machine and its memory under way, above what was there, beside rows that are kept. -/
structure KWay (w0 w : World) (base : Nat) (p : Value) (c r : Nat) (L : List Ac) (X : Nat) (P : Cp) (b : Ck) (n : Nat) (R : List (Nat × Obj)) : Prop where
  ps : ∃ F, KS w base p c r L F X P b ∧ Kept w (X :: F) R
  bel : Below w0.heap.size w0 w
  lo : w0.heap.size ≤ base
  size : base ≤ w.heap.size
  ok : KOk P b n
  gd : Gd L
theorem KWay.later {w0 w w' : World} {base : Nat} {p : Value} {c r : Nat} {L : List Ac} {X : Nat} {P : Cp} {b : Ck} {n : Nat} {R : List (Nat × Obj)} (h : KWay w0 w base p c r L X P b n R) (hb : Below w.heap.size w w') : KWay w0 w' base p c r L X P b n R := by
  obtain ⟨F, h1, h2⟩ := h.ps
  exact ⟨⟨F, h1.below hb, h2.later hb⟩, below_then h.bel hb, h.lo, Nat.le_trans h.size hb.size, h.ok, h.gd⟩
theorem KWay.more {w0 w : World} {base : Nat} {p : Value} {c r : Nat} {L : List Ac} {X : Nat} {P : Cp} {b : Ck} {n : Nat} {R : List (Nat × Obj)} (h : KWay w0 w base p c r L X P b n R) (o : Obj) : KWay w0 (w.alloc o) base p c r L X P b n ((w.heap.size, o) :: R) := by
  obtain ⟨F, h1, h2⟩ := h.ps
  exact ⟨⟨F, h1.below (below_a1 _ _), h2.more (fun q hq => (h1.lt q hq).2) o⟩, below_then h.bel (below_a1 _ _), h.lo, by have := h.size; simp; omega, h.ok, h.gd⟩
theorem KWay.less {w0 w : World} {base : Nat} {p : Value} {c r : Nat} {L : List Ac} {X : Nat} {P : Cp} {b : Ck} {n : Nat} {R R' : List (Nat × Obj)} (h : KWay w0 w base p c r L X P b n R) (hs : ∀ z ∈ R', z ∈ R) : KWay w0 w base p c r L X P b n R' := by
  obtain ⟨F, h1, h2⟩ := h.ps
  exact ⟨⟨F, h1, fun z hz => h2 z (hs z hz)⟩, h.bel, h.lo, h.size, h.ok, h.gd⟩
theorem KWay.row {w0 w : World} {base : Nat} {p : Value} {c r : Nat} {L : List Ac} {X : Nat} {P : Cp} {b : Ck} {n : Nat} {R : List (Nat × Obj)} (h : KWay w0 w base p c r L X P b n R) {B : Nat} {o : Obj} (hz : (B, o) ∈ R) : w.heap[B]? = some o := by
  obtain ⟨F, h1, h2⟩ := h.ps
  exact (h2 _ hz).1
theorem KWay.next {w0 w w' : World} {base : Nat} {p : Value} {c r : Nat} {L L' : List Ac} {X : Nat} {P : Cp} {b b' : Ck} {n n' : Nat} {R : List (Nat × Obj)} {F F' : List Nat} (h : KWay w0 w base p c r L X P b n R) (h1 : KS w base p c r L F X P b) (hk : Kept w (X :: F) R) (h2 : KS w' base p c r L' F' X P b') (hn : Next (X :: F) (X :: F') w w') (ho : KOk P b' n') (hg : Gd L') : KWay w0 w' base p c r L' X P b' n' R :=
  ⟨⟨F', h2, hk.next hn⟩, h.bel.trans (hn.below h.bel.size (fun q hq => by have := (h1.lt q hq).1; have := h.lo; omega)), h.lo, Nat.le_trans h.size hn.1.size, ho, hg⟩
theorem kway_step {w0 w : World} {base : Nat} {p : Value} {c r : Nat} {L : List Ac} {X : Nat} {P : Cp} {b : Ck} {n : Nat} {R : List (Nat × Obj)} (h : KWay w0 w base p c r L X P b n R) (hL : L.length < 3298534883328) (t : Int) :
    Calls Try.prog 48 #[.pointer (some ⟨X, 0, none⟩), p, .int .i64 t] w fun e w' => e = .returned (ansE (ansKK r P b L) (errKK r P b L) (goesK r P b)) ∧ KWay w0 w' base p c r (nextKL c r P b L t) X P (nextK r P b L) (nextN r P b L n) R := by
  obtain ⟨F, h1, hr⟩ := h.ps
  refine (kstep h1 h.size hL h.ok h.gd t).mono ?_
  rintro e w' ⟨rfl, F', h2, hn⟩
  exact ⟨rfl, h.next h1 hr h2 hn (kok_next h.ok h.gd) (gd_next h.gd)⟩
theorem kway_store {w0 w : World} {base : Nat} {p : Value} {c r : Nat} {L : List Ac} {X : Nat} {P : Cp} {b : Ck} {n : Nat} {R : List (Nat × Obj)} (h : KWay w0 w base p c r L X P b n R) (hL : L.length < 3298534883328) (t : Int) (a : Ad) (z : Int) (hz : W64 z) :
    Calls Try.prog 13 #[p, .int .i64 t, .agg #[.int .i64 a.k, .int .i64 a.i, .int .i64 a.j], .int .i64 z] w fun e w' => e = .returned (.int .i64 (if isAd c r a then 0 else 1)) ∧ KWay w0 w' base p c r (storeL c r L t a z) X P b n R := by
  obtain ⟨F, h1, hr⟩ := h.ps
  refine (store_any h1.mem h.size hL t a z).mono ?_
  rintro e w' ⟨rfl, F', h2, hn⟩
  exact ⟨rfl, h.next h1 hr (h1.onMem h2 hn) (nextX hn) h.ok (gd_store h.gd hz)⟩
theorem kway_start {w0 w : World} {base : Nat} {p : Value} {c r : Nat} {L : List Ac} {X : Nat} {P : Cp} {b : Ck} {n : Nat} {R : List (Nat × Obj)} (h : KWay w0 w base p c r L X P b n R) : Calls Try.prog 49 #[.pointer (some ⟨X, 0, none⟩)] w fun e w' => e = .returned (.tuple #[.int .i64 (if b.st = 4 then b.comp else 0), .int .i64 (if b.st = 4 then b.seen else 0), .bool (decide (b.st = 4))]) ∧ KWay w0 w' base p c r L X P b n R := by
  obtain ⟨F, h1, hr⟩ := h.ps
  refine (cstart_any h1.at_).mono ?_
  rintro e w' ⟨rfl, hb⟩
  exact ⟨rfl, h.later hb⟩
/-- A memory and a machine that are new. -/
theorem kway_new {w0 w1 w2 : World} {base : Nat} {p : Value} {c r : Nat} {F : List Nat} {X : Nat} {P : Cp} {R : List (Nat × Obj)} (hp : POk P) (hm : MemAt w1 base p c r [] F) (hb : Below w0.heap.size w0 w1) (hlo : w0.heap.size ≤ base) (hs : base ≤ w1.heap.size) (hX : w1.heap.size ≤ X) (hx : KAt w2 X P (ckNew P)) (hb2 : Below w1.heap.size w1 w2) (hk : ∀ z ∈ R, w1.heap[z.1]? = some z.2 ∧ z.1 ∉ F) : KWay w0 w2 base p c r [] X P (ckNew P) 0 R :=
  ⟨⟨F, ⟨hm.below hb2, hx, fun e => by have := (hm.lt _ e).2; omega, Nat.le_trans hs hX⟩, fun z hz => by
    obtain ⟨k1, k2⟩ := hk z hz
    have := heap_lt k1
    refine ⟨by rw [hb2.block _ this]; exact k1, fun e => ?_⟩
    rcases List.mem_cons.1 e with e | e
    · omega
    · exact k2 e⟩, below_then hb hb2, hlo, Nat.le_trans hs hb2.size, kok_new hp, gd_nil⟩
end Go.Proofs.Ytfbbcjlbelnfaaa
