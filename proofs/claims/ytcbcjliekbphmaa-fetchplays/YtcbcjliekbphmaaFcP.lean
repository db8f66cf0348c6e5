/- Both machines of layer 8 and both memories under way, beside rows that are kept. -/
import Derived.Test.YtcbcjliekbphmaaFcL
import Derived.Test.YtcbcjliekbphmaaActL
namespace Go.Proofs.Ytcbcjliekbphmaa
open Go.ChangeShapes Go.WideShapes Go.ChangeAt Go.RowKit
attribute [local go_sem ↓] Go.wp_at_zero Go.wp_at_succ

structure KD (w : World) (base : Nat) (q : Value) (c r : Nat) (L : List Ac) (K : List Nat) (Y : Nat) (P : Cp) (l : List Int) (G : List Nat) : Prop where
  ref : RefAt w base q c r L K
  rk : RK w base Y P l G
  apart : ∀ b ∈ G, b ∉ K
theorem KD.lt {w : World} {base : Nat} {q : Value} {c r : Nat} {L : List Ac} {K : List Nat} {Y : Nat} {P : Cp} {l : List Int} {G : List Nat} (h : KD w base q c r L K Y P l G) : ∀ b ∈ G ++ K, base ≤ b ∧ b < w.heap.size := fun b hb => by
  rcases List.mem_append.1 hb with h1 | h1
  · exact h.rk.lt b h1
  · exact h.ref.lt b h1
theorem KD.keep {w w' : World} {base : Nat} {q : Value} {c r : Nat} {L : List Ac} {K F : List Nat} {Y : Nat} {P : Cp} {l : List Int} {G : List Nat} (h : KD w base q c r L K Y P l G) (k : Keep F w w') (hd : ∀ b ∈ G ++ K, b ∉ F) : KD w' base q c r L K Y P l G :=
  ⟨h.ref.keep k (fun b hb => hd b (by simp [hb])), h.rk.keep k (fun b hb => hd b (by simp [hb])), h.apart⟩
theorem KD.below {w w' : World} {base : Nat} {q : Value} {c r : Nat} {L : List Ac} {K : List Nat} {Y : Nat} {P : Cp} {l : List Int} {G : List Nat} (h : KD w base q c r L K Y P l G) (hb : Below w.heap.size w w') : KD w' base q c r L K Y P l G := h.keep (Keep.of_below hb []) (fun _ _ => by simp)
theorem KD.onRef {w w' : World} {base : Nat} {q : Value} {c r : Nat} {L L' : List Ac} {K K' : List Nat} {Y : Nat} {P : Cp} {l : List Int} {G : List Nat} (h : KD w base q c r L K Y P l G) (hr : RefAt w' base q c r L' K') (hn : Next K K' w w') : KD w' base q c r L' K' Y P l G :=
  ⟨hr, h.rk.keep hn.1 h.apart, fun b hb hk => by
    rcases hn.2 b hk with h1 | h1
    · exact h.apart b hb h1
    · have := (h.rk.lt b hb).2; omega⟩
theorem kdstep {w : World} {base Y : Nat} {P : Cp} {q : Value} {c r : Nat} {L : List Ac} {l : List Int} {K G : List Nat} (h : KD w base q c r L K Y P l G) (hb : base ≤ w.heap.size) (hL : L.length < 3298534883328) (hk : LKk P l) (hp : POk P) (hg : Gd L) (t : Int) :
    Calls Try.prog 39 #[.pointer (some ⟨Y, 3, none⟩), q, .int .i64 t] w fun e w' => e = .returned (.tuple #[.int .i64 (ansKK r P (runK P l) L), .int .i64 (errKK r P (runK P l) L)]) ∧ ∃ K' G', KD w' base q c r (nextKL c r P (runK P l) L t) K' Y P (nextKI r P (runK P l) L l) G' ∧ Next (G ++ K) (G' ++ K') w w' := by
  by_cases hgo : goesK r P (runK P l) = true
  · unfold ansKK errKK nextKL nextKI
    rw [if_pos hgo, if_pos hgo, if_pos hgo, if_pos hgo]
    obtain ⟨h2, rfl⟩ := goesK_iff.mp hgo
    refine (rkstep_some ⟨h.ref, h.rk, h.apart⟩ hb hL hk hp h2 (hg _) t).mono ?_
    rintro e w' ⟨rfl, K', G', h3, h4⟩
    exact ⟨rfl, K', G', ⟨h3.ref, h3.rk, h3.apart⟩, h4⟩
  · unfold ansKK errKK nextKL nextKI
    rw [if_neg hgo, if_neg hgo, if_neg hgo, if_neg hgo]
    refine (rkstep_none h.ref h.rk hk hp (by simpa using hgo) t).mono ?_
    rintro e w' ⟨rfl, hb'⟩
    exact ⟨rfl, K, G, h.below hb', Next.of_below hb' _⟩
structure KBA (w : World) (base : Nat) (p q : Value) (c r : Nat) (L K : List Ac) (X Y : Nat) (P : Cp) (b : Ck) (Q : Cp) (l : List Int) (R : List (Nat × Obj)) (F D G : List Nat) : Prop where
  ps : KS w base p c r L F X P b
  ds : KD w base q c r K D Y Q l G
  apart : ∀ z ∈ X :: F, z ∉ G ++ D
  kp : Kept w (X :: F) R
  kd : Kept w (G ++ D) R
structure KBW (w0 w : World) (base : Nat) (p q : Value) (c r : Nat) (L K : List Ac) (X Y : Nat) (P : Cp) (b : Ck) (Q : Cp) (l : List Int) (R : List (Nat × Obj)) : Prop where
  all : ∃ F D G, KBA w base p q c r L K X Y P b Q l R F D G
  bel : Below w0.heap.size w0 w
  lo : w0.heap.size ≤ base
  size : base ≤ w.heap.size
theorem Kept.keep {w w' : World} {F G : List Nat} {R : List (Nat × Obj)} (h : Kept w F R) (hg : Kept w G R) (k : Keep G w w') : Kept w' F R := fun z hz => by
  obtain ⟨h1, h2⟩ := h z hz
  exact ⟨by rw [k.block _ (heap_lt h1) (hg z hz).2]; exact h1, h2⟩
theorem KBA.onP {w w' : World} {base : Nat} {p q : Value} {c r : Nat} {L L' K : List Ac} {X Y : Nat} {P P' Q : Cp} {b b' : Ck} {l : List Int} {R : List (Nat × Obj)} {F F' D G : List Nat} (h : KBA w base p q c r L K X Y P b Q l R F D G) (hp : KS w' base p c r L' F' X P' b') (hn : Next (X :: F) (X :: F') w w') : KBA w' base p q c r L' K X Y P' b' Q l R F' D G :=
  ⟨hp, h.ds.keep hn.1 (fun z hz hf => h.apart z hf hz), fun z hz hd => by
    rcases hn.2 z hz with h1 | h1
    · exact h.apart z h1 hd
    · have := (h.ds.lt z hd).2; omega, h.kp.next hn, h.kd.keep h.kp hn.1⟩
theorem KBA.onD {w w' : World} {base : Nat} {p q : Value} {c r : Nat} {L K K' : List Ac} {X Y : Nat} {P Q Q' : Cp} {b : Ck} {l l' : List Int} {R : List (Nat × Obj)} {F D D' G G' : List Nat} (h : KBA w base p q c r L K X Y P b Q l R F D G) (hd : KD w' base q c r K' D' Y Q' l' G') (hn : Next (G ++ D) (G' ++ D') w w') : KBA w' base p q c r L K' X Y P b Q' l' R F D' G' :=
  ⟨h.ps.keep hn.1 h.apart, hd, fun z hz hd => by
    rcases hn.2 z hd with h1 | h1
    · exact h.apart z hz h1
    · have := (h.ps.lt z hz).2; omega, h.kp.keep h.kd hn.1, h.kd.next hn⟩
theorem KBW.onP {w0 w w' : World} {base : Nat} {p q : Value} {c r : Nat} {L L' K : List Ac} {X Y : Nat} {P P' Q : Cp} {b b' : Ck} {l : List Int} {R : List (Nat × Obj)} {F F' D G : List Nat} (hw : KBW w0 w base p q c r L K X Y P b Q l R) (h : KBA w base p q c r L K X Y P b Q l R F D G) (hp : KS w' base p c r L' F' X P' b') (hn : Next (X :: F) (X :: F') w w') : KBW w0 w' base p q c r L' K X Y P' b' Q l R :=
  ⟨⟨F', D, G, h.onP hp hn⟩, hw.bel.trans (hn.below hw.bel.size (fun z hz => by have := (h.ps.lt z hz).1; have := hw.lo; omega)), hw.lo, Nat.le_trans hw.size hn.1.size⟩
theorem KBW.onD {w0 w w' : World} {base : Nat} {p q : Value} {c r : Nat} {L K K' : List Ac} {X Y : Nat} {P Q Q' : Cp} {b : Ck} {l l' : List Int} {R : List (Nat × Obj)} {F D D' G G' : List Nat} (hw : KBW w0 w base p q c r L K X Y P b Q l R) (h : KBA w base p q c r L K X Y P b Q l R F D G) (hd : KD w' base q c r K' D' Y Q' l' G') (hn : Next (G ++ D) (G' ++ D') w w') : KBW w0 w' base p q c r L K' X Y P b Q' l' R :=
  ⟨⟨F, D', G', h.onD hd hn⟩, hw.bel.trans (hn.below hw.bel.size (fun z hz => by have := (h.ds.lt z hz).1; have := hw.lo; omega)), hw.lo, Nat.le_trans hw.size hn.1.size⟩
theorem KBW.later {w0 w w' : World} {base : Nat} {p q : Value} {c r : Nat} {L K : List Ac} {X Y : Nat} {P Q : Cp} {b : Ck} {l : List Int} {R : List (Nat × Obj)} (hw : KBW w0 w base p q c r L K X Y P b Q l R) (hb : Below w.heap.size w w') : KBW w0 w' base p q c r L K X Y P b Q l R := by
  obtain ⟨F, D, G, h⟩ := hw.all
  exact ⟨⟨F, D, G, h.ps.below hb, h.ds.below hb, h.apart, h.kp.later hb, h.kd.later hb⟩, below_then hw.bel hb, hw.lo, Nat.le_trans hw.size hb.size⟩
theorem KBW.more {w0 w : World} {base : Nat} {p q : Value} {c r : Nat} {L K : List Ac} {X Y : Nat} {P Q : Cp} {b : Ck} {l : List Int} {R : List (Nat × Obj)} (hw : KBW w0 w base p q c r L K X Y P b Q l R) (o : Obj) : KBW w0 (w.alloc o) base p q c r L K X Y P b Q l ((w.heap.size, o) :: R) := by
  obtain ⟨F, D, G, h⟩ := hw.all
  exact ⟨⟨F, D, G, h.ps.below (below_a1 _ _), h.ds.below (below_a1 _ _), h.apart, h.kp.more (fun z hz => (h.ps.lt z hz).2) o, h.kd.more (fun z hz => (h.ds.lt z hz).2) o⟩, below_then hw.bel (below_a1 _ _), hw.lo, by have := hw.size; simp; omega⟩
theorem KBW.less {w0 w : World} {base : Nat} {p q : Value} {c r : Nat} {L K : List Ac} {X Y : Nat} {P Q : Cp} {b : Ck} {l : List Int} {R R' : List (Nat × Obj)} (hw : KBW w0 w base p q c r L K X Y P b Q l R) (hs : ∀ z ∈ R', z ∈ R) : KBW w0 w base p q c r L K X Y P b Q l R' := by
  obtain ⟨F, D, G, h⟩ := hw.all
  exact ⟨⟨F, D, G, h.ps, h.ds, h.apart, fun z hz => h.kp z (hs z hz), fun z hz => h.kd z (hs z hz)⟩, hw.bel, hw.lo, hw.size⟩
theorem KBW.row {w0 w : World} {base : Nat} {p q : Value} {c r : Nat} {L K : List Ac} {X Y : Nat} {P Q : Cp} {b : Ck} {l : List Int} {R : List (Nat × Obj)} (hw : KBW w0 w base p q c r L K X Y P b Q l R) {B : Nat} {o : Obj} (hz : (B, o) ∈ R) : w.heap[B]? = some o := by
  obtain ⟨F, D, G, h⟩ := hw.all
  exact (h.kp _ hz).1
theorem kbw_pstep {w0 w : World} {base : Nat} {p q : Value} {c r : Nat} {L K : List Ac} {X Y : Nat} {P Q : Cp} {b : Ck} {l : List Int} {R : List (Nat × Obj)} {n : Nat} (hw : KBW w0 w base p q c r L K X Y P b Q l R) (hL : L.length < 3298534883328) (hk : KOk P b n) (hg : Gd L) (t : Int) :
    Calls Try.prog 37 #[.pointer (some ⟨X, 0, none⟩), p, .int .i64 t] w fun e w' => e = .returned (ansE (ansKK r P b L) (errKK r P b L) (goesK r P b)) ∧ KBW w0 w' base p q c r (nextKL c r P b L t) K X Y P (nextK r P b L) Q l R := by
  obtain ⟨F, D, G, h⟩ := hw.all
  refine (kstep h.ps hw.size hL hk hg t).mono ?_
  rintro e w' ⟨rfl, F', h2, hn⟩
  exact ⟨rfl, hw.onP h h2 hn⟩
theorem kbw_dstep {w0 w : World} {base : Nat} {p q : Value} {c r : Nat} {L K : List Ac} {X Y : Nat} {P Q : Cp} {b : Ck} {l : List Int} {R : List (Nat × Obj)} (hw : KBW w0 w base p q c r L K X Y P b Q l R) (hL : K.length < 3298534883328) (hk : LKk Q l) (hp : POk Q) (hg : Gd K) (t : Int) :
    Calls Try.prog 39 #[.pointer (some ⟨Y, 3, none⟩), q, .int .i64 t] w fun e w' => e = .returned (.tuple #[.int .i64 (ansKK r Q (runK Q l) K), .int .i64 (errKK r Q (runK Q l) K)]) ∧ KBW w0 w' base p q c r L (nextKL c r Q (runK Q l) K t) X Y P b Q (nextKI r Q (runK Q l) K l) R := by
  obtain ⟨F, D, G, h⟩ := hw.all
  refine (kdstep h.ds hw.size hL hk hp hg t).mono ?_
  rintro e w' ⟨rfl, D', G', h2, hn⟩
  exact ⟨rfl, hw.onD h h2 hn⟩
theorem kbw_pstore {w0 w : World} {base : Nat} {p q : Value} {c r : Nat} {L K : List Ac} {X Y : Nat} {P Q : Cp} {b : Ck} {l : List Int} {R : List (Nat × Obj)} (hw : KBW w0 w base p q c r L K X Y P b Q l R) (hL : L.length < 3298534883328) (t : Int) (a : Ad) (z : Int) :
    Calls Try.prog 13 #[p, .int .i64 t, .agg #[.int .i64 a.k, .int .i64 a.i, .int .i64 a.j], .int .i64 z] w fun e w' => e = .returned (.int .i64 (if isAd c r a then 0 else 1)) ∧ KBW w0 w' base p q c r (storeL c r L t a z) K X Y P b Q l R := by
  obtain ⟨F, D, G, h⟩ := hw.all
  refine (store_any h.ps.mem hw.size hL t a z).mono ?_
  rintro e w' ⟨rfl, F', h2, hn⟩
  exact ⟨rfl, hw.onP h (h.ps.onMem h2 hn) (nextX hn)⟩
theorem kbw_dstore {w0 w : World} {base : Nat} {p q : Value} {c r : Nat} {L K : List Ac} {X Y : Nat} {P Q : Cp} {b : Ck} {l : List Int} {R : List (Nat × Obj)} (hw : KBW w0 w base p q c r L K X Y P b Q l R) (hL : K.length < 3298534883328) (t : Int) (a : Ad) (z : Int) :
    Calls Try.prog 14 #[q, .int .i64 t, .agg #[.int .i64 a.k, .int .i64 a.i, .int .i64 a.j], .int .i64 z] w fun e w' => e = .returned (.int .i64 (if isAd c r a then 0 else 1)) ∧ KBW w0 w' base p q c r L (storeL c r K t a z) X Y P b Q l R := by
  obtain ⟨F, D, G, h⟩ := hw.all
  refine (rstore_any h.ds.ref hw.size hL t a z).mono ?_
  rintro e w' ⟨rfl, D', h2, hn⟩
  exact ⟨rfl, hw.onD h (h.ds.onRef h2 hn) hn.right⟩
end Go.Proofs.Ytcbcjliekbphmaa
