/- Both machines of layer 10 and both memories under way; the law's tells. -/
import Derived.Test.YtfbbcjlbelnfaaaCdC
namespace Go.Proofs.Ytfbbcjlbelnfaaa
open Go.ChangeShapes Go.WideShapes Go.ChangeAt Go.RowKit
attribute [local go_sem ↓] Go.wp_at_zero Go.wp_at_succ

structure PBA (w : World) (base : Nat) (p q : Value) (c r : Nat) (L K : List Ac) (X Z Y : Nat) (P : Cp) (b : Ck) (u : Cu) (Q : Cp) (l : List Int) (R : List (Nat × Obj)) (F D G : List Nat) : Prop where
  ps : CS w base p c r L F X Z P b u
  ds : KD w base q c r K D Y Q l G
  apart : ∀ z ∈ Z :: X :: F, z ∉ G ++ D
  kp : Kept w (Z :: X :: F) R
  kd : Kept w (G ++ D) R
structure PBW (w0 w : World) (base : Nat) (p q : Value) (c r : Nat) (L K : List Ac) (Z Y : Nat) (P : Cp) (b : Ck) (u : Cu) (Q : Cp) (l : List Int) (R : List (Nat × Obj)) : Prop where
  all : ∃ X F D G, PBA w base p q c r L K X Z Y P b u Q l R F D G
  bel : Below w0.heap.size w0 w
  lo : w0.heap.size ≤ base
  size : base ≤ w.heap.size
theorem Kept.keep {w w' : World} {F G : List Nat} {R : List (Nat × Obj)} (h : Kept w F R) (hg : Kept w G R) (k : Keep G w w') : Kept w' F R := fun z hz => by
  obtain ⟨h1, h2⟩ := h z hz
  exact ⟨by rw [k.block _ (heap_lt h1) (hg z hz).2]; exact h1, h2⟩
theorem PBW.onP {w0 w w' : World} {base : Nat} {p q : Value} {c r : Nat} {L L' K : List Ac} {X X' Z Y : Nat} {P Q : Cp} {b b' : Ck} {u u' : Cu} {l : List Int} {R : List (Nat × Obj)} {F F' D G : List Nat} (hw : PBW w0 w base p q c r L K Z Y P b u Q l R) (h : PBA w base p q c r L K X Z Y P b u Q l R F D G) (hp : CS w' base p c r L' F' X' Z P b' u') (hn : Next (Z :: X :: F) (Z :: X' :: F') w w') : PBW w0 w' base p q c r L' K Z Y P b' u' Q l R :=
  ⟨⟨X', F', D, G, hp, h.ds.keep hn.1 (fun z hz hf => h.apart z hf hz), fun z hz hd => by
    rcases hn.2 z hz with h1 | h1
    · exact h.apart z h1 hd
    · have := (h.ds.lt z hd).2; omega, h.kp.next hn, h.kd.keep h.kp hn.1⟩, hw.bel.trans (hn.below hw.bel.size (fun z hz => by have := (h.ps.lt z hz).1; have := hw.lo; omega)), hw.lo, Nat.le_trans hw.size hn.1.size⟩
theorem PBW.onD {w0 w w' : World} {base : Nat} {p q : Value} {c r : Nat} {L K K' : List Ac} {X Z Y : Nat} {P Q Q' : Cp} {b : Ck} {u : Cu} {l l' : List Int} {R : List (Nat × Obj)} {F D D' G G' : List Nat} (hw : PBW w0 w base p q c r L K Z Y P b u Q l R) (h : PBA w base p q c r L K X Z Y P b u Q l R F D G) (hd : KD w' base q c r K' D' Y Q' l' G') (hn : Next (G ++ D) (G' ++ D') w w') : PBW w0 w' base p q c r L K' Z Y P b u Q' l' R :=
  ⟨⟨X, F, D', G', h.ps.keep hn.1 h.apart, hd, fun z hz hd => by
    rcases hn.2 z hd with h1 | h1
    · exact h.apart z hz h1
    · have := (h.ps.lt z hz).2; omega, h.kp.keep h.kd hn.1, h.kd.next hn⟩, hw.bel.trans (hn.below hw.bel.size (fun z hz => by have := (h.ds.lt z hz).1; have := hw.lo; omega)), hw.lo, Nat.le_trans hw.size hn.1.size⟩
theorem PBW.later {w0 w w' : World} {base : Nat} {p q : Value} {c r : Nat} {L K : List Ac} {Z Y : Nat} {P Q : Cp} {b : Ck} {u : Cu} {l : List Int} {R : List (Nat × Obj)} (hw : PBW w0 w base p q c r L K Z Y P b u Q l R) (hb : Below w.heap.size w w') : PBW w0 w' base p q c r L K Z Y P b u Q l R := by
  obtain ⟨X, F, D, G, h⟩ := hw.all
  exact ⟨⟨X, F, D, G, h.ps.below hb, h.ds.below hb, h.apart, h.kp.later hb, h.kd.later hb⟩, below_then hw.bel hb, hw.lo, Nat.le_trans hw.size hb.size⟩
theorem PBW.more {w0 w : World} {base : Nat} {p q : Value} {c r : Nat} {L K : List Ac} {Z Y : Nat} {P Q : Cp} {b : Ck} {u : Cu} {l : List Int} {R : List (Nat × Obj)} (hw : PBW w0 w base p q c r L K Z Y P b u Q l R) (o : Obj) : PBW w0 (w.alloc o) base p q c r L K Z Y P b u Q l ((w.heap.size, o) :: R) := by
  obtain ⟨X, F, D, G, h⟩ := hw.all
  exact ⟨⟨X, F, D, G, h.ps.below (below_a1 _ _), h.ds.below (below_a1 _ _), h.apart, h.kp.more (fun z hz => (h.ps.lt z hz).2) o, h.kd.more (fun z hz => (h.ds.lt z hz).2) o⟩, below_then hw.bel (below_a1 _ _), hw.lo, by have := hw.size; simp; omega⟩
theorem PBW.less {w0 w : World} {base : Nat} {p q : Value} {c r : Nat} {L K : List Ac} {Z Y : Nat} {P Q : Cp} {b : Ck} {u : Cu} {l : List Int} {R R' : List (Nat × Obj)} (hw : PBW w0 w base p q c r L K Z Y P b u Q l R) (hs : ∀ z ∈ R', z ∈ R) : PBW w0 w base p q c r L K Z Y P b u Q l R' := by
  obtain ⟨X, F, D, G, h⟩ := hw.all
  exact ⟨⟨X, F, D, G, h.ps, h.ds, h.apart, fun z hz => h.kp z (hs z hz), fun z hz => h.kd z (hs z hz)⟩, hw.bel, hw.lo, hw.size⟩
theorem PBW.row {w0 w : World} {base : Nat} {p q : Value} {c r : Nat} {L K : List Ac} {Z Y : Nat} {P Q : Cp} {b : Ck} {u : Cu} {l : List Int} {R : List (Nat × Obj)} (hw : PBW w0 w base p q c r L K Z Y P b u Q l R) {B : Nat} {o : Obj} (hz : (B, o) ∈ R) : w.heap[B]? = some o := by
  obtain ⟨X, F, D, G, h⟩ := hw.all
  exact (h.kp _ hz).1
theorem pbw_pstep {w0 w : World} {base : Nat} {p q : Value} {c r : Nat} {L K : List Ac} {Z Y : Nat} {P Q : Cp} {b : Ck} {u : Cu} {l : List Int} {R : List (Nat × Obj)} (hw : PBW w0 w base p q c r L K Z Y P b u Q l R) (hL : L.length < 3298534883328) (hk : COk P b u) (hg : Gd L) (t : Int) :
    Calls Try.prog 15 #[.pointer (some ⟨Z, 0, none⟩), p, .int .i64 t] w fun e w' => e = .returned (ansW (ansZ r P b u L) (errZ r P b u L) (valZ r P u L) (goesC r P u)) ∧ PBW w0 w' base p q c r (nextCL c r P b u L t) K Z Y P (nextCB r P b u L) (nextU r P b u L) Q l R := by
  obtain ⟨X, F, D, G, h⟩ := hw.all
  refine (mstep h.ps hw.size hL hk (fun _ _ => hg _) t).mono ?_
  rintro e w' ⟨rfl, F', X', h2, hn⟩
  exact ⟨rfl, hw.onP h h2 hn⟩
theorem pbw_dstep {w0 w : World} {base : Nat} {p q : Value} {c r : Nat} {L K : List Ac} {Z Y : Nat} {P Q : Cp} {b : Ck} {u v : Cu} {l : List Int} {R : List (Nat × Obj)} (hw : PBW w0 w base p q c r L K Z Y P b u Q l R) (hL : K.length < 3298534883328) (hk : LKk Q l) (hc : COk Q (runK Q l) v) (hg : Gd K) (hr : Rel v Q.ex) (t : Int) :
    Calls Try.prog 16 #[.pointer (some ⟨Y, 0, none⟩), q, .int .i64 t] w fun e w' => e = .returned (.tuple #[.int .i64 (ansZ r Q (runK Q l) v K), .int .i64 (errZ r Q (runK Q l) v K), .int .i64 (valZ r Q v K)]) ∧ ∃ e', PBW w0 w' base p q c r L (nextCL c r Q (runK Q l) v K t) Z Y P b u (Q.on e') (nextCI r Q v K l) R ∧ Rel (nextU r Q (runK Q l) v K) e' ∧ e'.n = Q.ex.n ∧ e'.mu = Q.ex.mu := by
  obtain ⟨X, F, D, G, h⟩ := hw.all
  refine (rdstep h.ds hw.size hL hk hc hg hr t).mono ?_
  rintro e w' ⟨rfl, G', D', e', h2, hn, h3⟩
  exact ⟨rfl, e', hw.onD h h2 hn, h3⟩
theorem pbw_pstore {w0 w : World} {base : Nat} {p q : Value} {c r : Nat} {L K : List Ac} {Z Y : Nat} {P Q : Cp} {b : Ck} {u : Cu} {l : List Int} {R : List (Nat × Obj)} (hw : PBW w0 w base p q c r L K Z Y P b u Q l R) (hL : L.length < 3298534883328) (t : Int) (a : Ad) (z : Int) :
    Calls Try.prog 13 #[p, .int .i64 t, .agg #[.int .i64 a.k, .int .i64 a.i, .int .i64 a.j], .int .i64 z] w fun e w' => e = .returned (.int .i64 (if isAd c r a then 0 else 1)) ∧ PBW w0 w' base p q c r (storeL c r L t a z) K Z Y P b u Q l R := by
  obtain ⟨X, F, D, G, h⟩ := hw.all
  refine (store_any h.ps.ks.mem hw.size hL t a z).mono ?_
  rintro e w' ⟨rfl, F', h2, hn⟩
  exact ⟨rfl, hw.onP h (h.ps.onMem h2 hn) (nextX (nextX hn))⟩
theorem pbw_dstore {w0 w : World} {base : Nat} {p q : Value} {c r : Nat} {L K : List Ac} {Z Y : Nat} {P Q : Cp} {b : Ck} {u : Cu} {l : List Int} {R : List (Nat × Obj)} (hw : PBW w0 w base p q c r L K Z Y P b u Q l R) (hL : K.length < 3298534883328) (t : Int) (a : Ad) (z : Int) :
    Calls Try.prog 14 #[q, .int .i64 t, .agg #[.int .i64 a.k, .int .i64 a.i, .int .i64 a.j], .int .i64 z] w fun e w' => e = .returned (.int .i64 (if isAd c r a then 0 else 1)) ∧ PBW w0 w' base p q c r L (storeL c r K t a z) Z Y P b u Q l R := by
  obtain ⟨X, F, D, G, h⟩ := hw.all
  refine (rstore_any h.ds.ref hw.size hL t a z).mono ?_
  rintro e w' ⟨rfl, D', h2, hn⟩
  exact ⟨rfl, hw.onD h (h.ds.onRef h2 hn) hn.right⟩
theorem tells_any {w : World} {base Z Y : Nat} {P Q : Cp} {u : Cu} {x : Value} {l : List Int} {G : List Nat} (hz : CAt w Z P u x) (h : RK w base Y Q l G) (hs : Q.ex.stamp = u.stamp) :
    Calls Try.prog 17 #[.pointer (some ⟨Z, 0, none⟩), .pointer (some ⟨Y, 0, none⟩)] w fun e w' => e = .returned (.bool true) ∧ Below w.heap.size w w' := by
  have H1 : Hid (Calls Try.prog 24 #[.pointer (some ⟨Z, 0, none⟩)] w fun e w' => e = .returned (.tuple #[.int .i64 u.stamp, .bool (u.stamp != 0)]) ∧ Below w.heap.size w w') := mstamp_any hz
  have H2 : Hid (∀ w', Below w.heap.size w w' → w'.cell? ⟨Y, 17, none⟩ = some (.int .i64 u.stamp)) := fun w' hb => by
    have := (h.below hb).head.1.2.2.2.2.2.1
    rw [hs] at this
    exact this
  have hY : Y < w.heap.size := (h.lt Y h.mem).2
  generalize u.stamp = sm at *
  clear hz h hs
  go_enter Try.func17, Try.ntmps17
  go_wp2_with fail
  refine H1.out.mono ?_
  rintro e w1 ⟨rfl, hb1⟩
  have HB1 : Hid (Below w.heap.size w w1) := hb1
  have y17 := H2.out _ hb1
  have hY1 : Y < w1.heap.size := Nat.lt_of_lt_of_le hY hb1.size
  have e1 : (sm == sm) = true := by simp
  have e2 : ((sm != 0) == (sm != 0)) = true := by simp
  clear hb1
  go_wp2
  first
    | (go_ret; exact ⟨by simp, HB1.out⟩)
    | (go_quiet (fail); go_wp2; go_ret; exact ⟨by simp, below_drawn HB1.out _⟩)
theorem pbw_tells {w0 w : World} {base : Nat} {p q : Value} {c r : Nat} {L K : List Ac} {Z Y : Nat} {P Q : Cp} {b : Ck} {u : Cu} {l : List Int} {R : List (Nat × Obj)} (hw : PBW w0 w base p q c r L K Z Y P b u Q l R) (hs : Q.ex.stamp = u.stamp) :
    Calls Try.prog 17 #[.pointer (some ⟨Z, 0, none⟩), .pointer (some ⟨Y, 0, none⟩)] w fun e w' => e = .returned (.bool true) ∧ PBW w0 w' base p q c r L K Z Y P b u Q l R := by
  obtain ⟨X, F, D, G, h⟩ := hw.all
  refine (tells_any h.ps.cm h.ds.rk hs).mono ?_
  rintro e w' ⟨rfl, hb⟩
  exact ⟨rfl, hw.later hb⟩
end Go.Proofs.Ytfbbcjlbelnfaaa
