/- Both machines of layer 11 and both memories under way. -/
import Derived.Test.YtbmmicfdnfpcaaaBpH
import Derived.Test.YtbmmicfdnfpcaaaBpD
import Derived.Test.YtbmmicfdnfpcaaaBkX
namespace Go.Proofs.Ytbmmicfdnfpcaaa
open Go.ChangeShapes Go.WideShapes Go.ChangeAt Go.RowKit

structure QBA (w : World) (base : Nat) (p q : Value) (c r : Nat) (L M : List Ac) (X Y : Nat) (P : Bp) (mu : Bool) (b : Bk) (u : Value) (x : Dc) (R : List (Nat × Obj)) (F K G : List Nat) : Prop where
  ps : BS w base p c r L F X P b u
  ds : DJ w base q c r M K Y P mu x G
  apart : ∀ z ∈ X :: F, z ∉ G ++ K
  ulist : ∀ k, u.ownBlock = some k → k ∉ G ++ K
  kp : Kept w (X :: F) R
  kd : Kept w (G ++ K) R
structure QBW (w0 w : World) (base : Nat) (p q : Value) (c r : Nat) (L M : List Ac) (X Y : Nat) (P : Bp) (mu : Bool) (b : Bk) (u : Value) (x : Dc) (R : List (Nat × Obj)) : Prop where
  all : ∃ F K G, QBA w base p q c r L M X Y P mu b u x R F K G
  bel : Below w0.heap.size w0 w
  lo : w0.heap.size ≤ base
  size : base ≤ w.heap.size
theorem Kept.keep {w w' : World} {F G : List Nat} {R : List (Nat × Obj)} (h : Kept w F R) (hg : Kept w G R) (k : Keep G w w') : Kept w' F R := fun z hz => by
  obtain ⟨h1, h2⟩ := h z hz
  exact ⟨by rw [k.block _ (heap_lt h1) (hg z hz).2]; exact h1, h2⟩
theorem DJ.ltb {w : World} {base : Nat} {q : Value} {c r : Nat} {L : List Ac} {K : List Nat} {Y : Nat} {P : Bp} {mu : Bool} {x : Dc} {G : List Nat} (h : DJ w base q c r L K Y P mu x G) : ∀ b ∈ G ++ K, base ≤ b ∧ b < w.heap.size := fun b hb => by
  rcases List.mem_append.1 hb with h1 | h1
  · exact h.dm.lt b h1
  · exact h.ref.lt b h1
theorem DJ.keep {w w' : World} {base : Nat} {q : Value} {c r : Nat} {L : List Ac} {K F : List Nat} {Y : Nat} {P : Bp} {mu : Bool} {x : Dc} {G : List Nat} (h : DJ w base q c r L K Y P mu x G) (k : Keep F w w') (hd : ∀ z ∈ G ++ K, z ∉ F) : DJ w' base q c r L K Y P mu x G :=
  ⟨h.ref.keep k (fun b hb => hd b (by simp [hb])), h.dm.keep k (fun b hb => hd b (by simp [hb])), h.apart⟩
theorem QBW.onP {w0 w w' : World} {base : Nat} {p q : Value} {c r : Nat} {L L' M : List Ac} {X Y : Nat} {P : Bp} {mu : Bool} {b b' : Bk} {u : Value} {x : Dc} {R : List (Nat × Obj)} {F F' K G : List Nat} (hw : QBW w0 w base p q c r L M X Y P mu b u x R) (h : QBA w base p q c r L M X Y P mu b u x R F K G) (hp : BS w' base p c r L' F' X P b' u) (hn : Next (X :: F) (X :: F') w w') : QBW w0 w' base p q c r L' M X Y P mu b' u x R :=
  ⟨⟨F', K, G, hp, h.ds.keep hn.1 (fun z hz hf => h.apart z hf hz), fun z hz hd => by
    rcases hn.2 z hz with h1 | h1
    · exact h.apart z h1 hd
    · have := (h.ds.ltb z hd).2; omega, h.ulist, h.kp.next hn, h.kd.keep h.kp hn.1⟩, hw.bel.trans (hn.below hw.bel.size (fun z hz => by have := (h.ps.lt z hz).1; have := hw.lo; omega)), hw.lo, Nat.le_trans hw.size hn.1.size⟩
theorem QBW.onD {w0 w w' : World} {base : Nat} {p q : Value} {c r : Nat} {L M M' : List Ac} {X Y : Nat} {P : Bp} {mu : Bool} {b : Bk} {u : Value} {x x' : Dc} {R : List (Nat × Obj)} {F K K' G G' : List Nat} (hw : QBW w0 w base p q c r L M X Y P mu b u x R) (h : QBA w base p q c r L M X Y P mu b u x R F K G) (hd : DJ w' base q c r M' K' Y P mu x' G') (hn : Next (G ++ K) (G' ++ K') w w') : QBW w0 w' base p q c r L M' X Y P mu b u x' R :=
  ⟨⟨F, K', G', h.ps.keep hn.1 h.apart h.ulist, hd, fun z hz hd => by
    rcases hn.2 z hd with h1 | h1
    · exact h.apart z hz h1
    · have := (h.ps.lt z hz).2; omega, fun k hk hd => by
    rcases hn.2 k hd with h1 | h1
    · exact h.ulist k hk h1
    · have := (own_block h.ps.own k hk).2; omega, h.kp.keep h.kd hn.1, h.kd.next hn⟩, hw.bel.trans (hn.below hw.bel.size (fun z hz => by have := (h.ds.ltb z hz).1; have := hw.lo; omega)), hw.lo, Nat.le_trans hw.size hn.1.size⟩
theorem QBW.later {w0 w w' : World} {base : Nat} {p q : Value} {c r : Nat} {L M : List Ac} {X Y : Nat} {P : Bp} {mu : Bool} {b : Bk} {u : Value} {x : Dc} {R : List (Nat × Obj)} (hw : QBW w0 w base p q c r L M X Y P mu b u x R) (hb : Below w.heap.size w w') : QBW w0 w' base p q c r L M X Y P mu b u x R := by
  obtain ⟨F, K, G, h⟩ := hw.all
  exact ⟨⟨F, K, G, h.ps.below hb, h.ds.below hb, h.apart, h.ulist, h.kp.later hb, h.kd.later hb⟩, below_then hw.bel hb, hw.lo, Nat.le_trans hw.size hb.size⟩
theorem QBW.more {w0 w : World} {base : Nat} {p q : Value} {c r : Nat} {L M : List Ac} {X Y : Nat} {P : Bp} {mu : Bool} {b : Bk} {u : Value} {x : Dc} {R : List (Nat × Obj)} (hw : QBW w0 w base p q c r L M X Y P mu b u x R) (o : Obj) : QBW w0 (w.alloc o) base p q c r L M X Y P mu b u x ((w.heap.size, o) :: R) := by
  obtain ⟨F, K, G, h⟩ := hw.all
  exact ⟨⟨F, K, G, h.ps.below (below_a1 _ _), h.ds.below (below_a1 _ _), h.apart, h.ulist, h.kp.more (fun z hz => (h.ps.lt z hz).2) o, h.kd.more (fun z hz => (h.ds.ltb z hz).2) o⟩, below_then hw.bel (below_a1 _ _), hw.lo, by have := hw.size; simp; omega⟩
theorem QBW.less {w0 w : World} {base : Nat} {p q : Value} {c r : Nat} {L M : List Ac} {X Y : Nat} {P : Bp} {mu : Bool} {b : Bk} {u : Value} {x : Dc} {R R' : List (Nat × Obj)} (hw : QBW w0 w base p q c r L M X Y P mu b u x R) (hs : ∀ z ∈ R', z ∈ R) : QBW w0 w base p q c r L M X Y P mu b u x R' := by
  obtain ⟨F, K, G, h⟩ := hw.all
  exact ⟨⟨F, K, G, h.ps, h.ds, h.apart, h.ulist, fun z hz => h.kp z (hs z hz), fun z hz => h.kd z (hs z hz)⟩, hw.bel, hw.lo, hw.size⟩
theorem QBW.row {w0 w : World} {base : Nat} {p q : Value} {c r : Nat} {L M : List Ac} {X Y : Nat} {P : Bp} {mu : Bool} {b : Bk} {u : Value} {x : Dc} {R : List (Nat × Obj)} (hw : QBW w0 w base p q c r L M X Y P mu b u x R) {B : Nat} {o : Obj} (hz : (B, o) ∈ R) : w.heap[B]? = some o := by
  obtain ⟨F, K, G, h⟩ := hw.all
  exact (h.kp _ hz).1
theorem qbw_pstep {w0 w : World} {base : Nat} {p q : Value} {c r : Nat} {L M : List Ac} {X Y : Nat} {P : Bp} {mu : Bool} {b : Bk} {u : Value} {x : Dc} {R : List (Nat × Obj)} (hw : QBW w0 w base p q c r L M X Y P mu b u x R) (hL : L.length < 3298534883328) (hk : BkOk P b) (t : Int) :
    Calls Try.prog 15 #[.pointer (some ⟨X, 0, none⟩), p, .int .i64 t] w fun e w' => e = .returned (ansC (ansBk c r P b L) (goesB c r P b)) ∧ QBW w0 w' base p q c r (nextBL c r P b L t) M X Y P mu (nextBk c r P b L) u x R := by
  obtain ⟨F, K, G, h⟩ := hw.all
  refine (bstep h.ps hk hw.size hL t).mono ?_
  rintro e w' ⟨rfl, F', h2, hn⟩
  exact ⟨rfl, hw.onP h h2 hn⟩
theorem qbw_dstep {w0 w : World} {base : Nat} {p q : Value} {c r : Nat} {L M : List Ac} {X Y : Nat} {P : Bp} {mu : Bool} {b b0 : Bk} {u : Value} {x : Dc} {R : List (Nat × Obj)} (hw : QBW w0 w base p q c r L M X Y P mu b u x R) (hL : M.length < 3298534883328) (hd : DR P mu b0 x) (hg : Gd M) (hl : ∀ v ∈ x.l, W64 v) (t : Int) :
    Calls Try.prog 16 #[.pointer (some ⟨Y, 0, none⟩), q, .int .i64 t] w fun e w' => e = .returned (.int .i64 (ansBk c r P b0 M)) ∧ ∃ x', QBW w0 w' base p q c r L (nextBL c r P b0 M t) X Y P mu b u x' R ∧ DR P mu (nextBk c r P b0 M) x' ∧ ∀ v ∈ x'.l, W64 v := by
  obtain ⟨F, K, G, h⟩ := hw.all
  refine (rdstep h.ds hw.size hL hd hg hl t).mono ?_
  rintro e w' ⟨rfl, x', K', G', h2, h3, h4, hn⟩
  exact ⟨rfl, x', hw.onD h h2 hn, h3, h4⟩
theorem qbw_pstore {w0 w : World} {base : Nat} {p q : Value} {c r : Nat} {L M : List Ac} {X Y : Nat} {P : Bp} {mu : Bool} {b : Bk} {u : Value} {x : Dc} {R : List (Nat × Obj)} (hw : QBW w0 w base p q c r L M X Y P mu b u x R) (hL : L.length < 3298534883328) (t : Int) (a : Ad) (z : Int) :
    Calls Try.prog 13 #[p, .int .i64 t, .agg #[.int .i64 a.k, .int .i64 a.i, .int .i64 a.j], .int .i64 z] w fun e w' => e = .returned (.int .i64 (if isAd c r a then 0 else 1)) ∧ QBW w0 w' base p q c r (storeL c r L t a z) M X Y P mu b u x R := by
  obtain ⟨F, K, G, h⟩ := hw.all
  refine (store_any h.ps.mem hw.size hL t a z).mono ?_
  rintro e w' ⟨rfl, F', h2, hn⟩
  exact ⟨rfl, hw.onP h (h.ps.onMem h2 hn) (nextX hn)⟩
theorem qbw_dstore {w0 w : World} {base : Nat} {p q : Value} {c r : Nat} {L M : List Ac} {X Y : Nat} {P : Bp} {mu : Bool} {b : Bk} {u : Value} {x : Dc} {R : List (Nat × Obj)} (hw : QBW w0 w base p q c r L M X Y P mu b u x R) (hL : M.length < 3298534883328) (t : Int) (a : Ad) (z : Int) :
    Calls Try.prog 14 #[q, .int .i64 t, .agg #[.int .i64 a.k, .int .i64 a.i, .int .i64 a.j], .int .i64 z] w fun e w' => e = .returned (.int .i64 (if isAd c r a then 0 else 1)) ∧ QBW w0 w' base p q c r L (storeL c r M t a z) X Y P mu b u x R := by
  obtain ⟨F, K, G, h⟩ := hw.all
  refine (rstore_any h.ds.ref hw.size hL t a z).mono ?_
  rintro e w' ⟨rfl, K', h2, hn⟩
  exact ⟨rfl, hw.onD h (h.ds.onRef h2 hn) hn.right⟩
theorem qbw_sig {w0 w : World} {base : Nat} {p q : Value} {c r : Nat} {L M : List Ac} {X Y : Nat} {P : Bp} {mu : Bool} {b : Bk} {u : Value} {x : Dc} {R : List (Nat × Obj)} (hw : QBW w0 w base p q c r L M X Y P mu b u x R) (hp : BpOk P) :
    Calls Try.prog 17 #[.pointer (some ⟨X, 0, none⟩)] w fun e w' => e = .returned (Sg.sv P.sg) ∧ QBW w0 w' base p q c r L M X Y P mu b u x R := by
  obtain ⟨F, K, G, h⟩ := hw.all
  refine (bsig_any h.ps.row (by rw [hp.sg]; exact sgOf_ok _)).mono ?_
  rintro e w' ⟨rfl, hb⟩
  exact ⟨rfl, hw.later hb⟩
theorem qbw_left {w0 w : World} {base : Nat} {p q : Value} {c r : Nat} {L M : List Ac} {X Y : Nat} {P : Bp} {mu : Bool} {b : Bk} {u : Value} {x : Dc} {R : List (Nat × Obj)} (hw : QBW w0 w base p q c r L M X Y P mu b u x R) (hk : BkOk P b) :
    Calls Try.prog 18 #[.pointer (some ⟨X, 0, none⟩)] w fun e w' => e = .returned (.int .i64 ((P.W.length : Int) - (b.wr : Int))) ∧ QBW w0 w' base p q c r L M X Y P mu b u x R := by
  obtain ⟨F, K, G, h⟩ := hw.all
  obtain ⟨a, cap, hl⟩ := h.ps.slice
  refine (bleft_any h.ps.row hl hk.p.len hk.wr).mono ?_
  rintro e w' ⟨rfl, hb⟩
  exact ⟨rfl, hw.later hb⟩
theorem qbw_dleft {w0 w : World} {base : Nat} {p q : Value} {c r : Nat} {L M : List Ac} {X Y : Nat} {P : Bp} {mu : Bool} {b : Bk} {u : Value} {x : Dc} {R : List (Nat × Obj)} (hw : QBW w0 w base p q c r L M X Y P mu b u x R) (hd : DR P mu b x) :
    Calls Try.prog 19 #[.pointer (some ⟨Y, 0, none⟩)] w fun e w' => e = .returned (.int .i64 ((P.W.length : Int) - (b.wr : Int))) ∧ QBW w0 w' base p q c r L M X Y P mu b u x R := by
  obtain ⟨F, K, G, h⟩ := hw.all
  obtain ⟨lv, kv, hm⟩ := h.ds.dm
  have hls := left_same hd
  have := dleft_any hm hd.ok.p.len hls.2
  rw [hls.1] at this
  refine Calls.mono this ?_
  rintro e w' ⟨rfl, hb⟩
  exact ⟨rfl, hw.later hb⟩
/-- The signature that the document's machine holds. -/
theorem qbw_dsig {w0 w : World} {base : Nat} {p q : Value} {c r : Nat} {L M : List Ac} {X Y : Nat} {P : Bp} {mu : Bool} {b : Bk} {u : Value} {x : Dc} {R : List (Nat × Obj)} (hw : QBW w0 w base p q c r L M X Y P mu b u x R) : w.cell? ⟨Y, 4, none⟩ = some (bsV P.sg 0) ∧ w.cell? ⟨Y, 5, none⟩ = some (bsV P.sg 1) ∧ w.cell? ⟨Y, 6, none⟩ = some (bsV P.sg 2) ∧ w.cell? ⟨Y, 7, none⟩ = some (bsV P.sg 3) ∧ w.cell? ⟨Y, 8, none⟩ = some (bsV P.sg 4) ∧ w.cell? ⟨Y, 9, none⟩ = some (bsV P.sg 5) ∧ w.cell? ⟨Y, 10, none⟩ = some (bsV P.sg 6) ∧ w.cell? ⟨Y, 11, none⟩ = some (bsV P.sg 7) ∧ Y < w.heap.size := by
  obtain ⟨F, K, G, h⟩ := hw.all
  obtain ⟨lv, kv, hm⟩ := h.ds.dm
  obtain ⟨a, b, c, d, e, f, g, i⟩ := hm.m.sig
  exact ⟨a, b, c, d, e, f, g, i, heap_lt hm.m⟩
/-- All are made: the machine, the memory, the document's memory, the document's machine. -/
theorem qbw_new {w0 w1 wx w2 w3 w4 : World} {nb X Y : Nat} {P : Bp} {mu : Bool} {u : Value} {p q : Value} {c r : Nat} {F K G : List Nat} (hlo : w0.heap.size ≤ nb) (hX : nb ≤ X)
    (hrx : BRow w1 X P (bkNew P mu) u) (hox : w1.ownsRow nb 36 2 u P.W.length (wtC P.W)) (hnx : ∀ k, u.ownBlock = some k → k ≠ X) (hb1 : Below w0.heap.size w0 w1)
    (hbx : Below w1.heap.size w1 wx) (hm : MemAt w2 wx.heap.size p c r [] F) (hb2 : Below wx.heap.size wx w2)
    (hq : RefAt w3 w2.heap.size q c r [] K) (hb3 : Below w2.heap.size w2 w3)
    (hd : DM w4 w3.heap.size Y P mu ⟨0, [], false⟩ G) (hb4 : Below w3.heap.size w3 w4) : QBW w0 w4 nb p q c r [] [] X Y P mu (bkNew P mu) u ⟨0, [], false⟩ [] := by
  have hXl := heap_lt hrx
  have s2 := hbx.size
  have s3 := hb2.size
  have s4 := hb3.size
  have s5 := hb4.size
  have hb34 : Below w2.heap.size w2 w4 := below_then hb3 hb4
  have hps : BS w2 nb p c r [] F X P (bkNew P mu) u := bs_new2 hX hrx hox hnx hbx hm hb2 (memAt_base hm (by omega))
  have hdj : DJ w4 nb q c r [] K Y P mu ⟨0, [], false⟩ G := ⟨refAt_base (hq.below hb4) (by omega), by
    obtain ⟨lv, kv, h⟩ := hd
    exact ⟨lv, kv, h.m, own_base h.ownW (by omega), own_base h.ownL (by omega), h.G, by have := h.bY; omega⟩, fun b hb hk => by
    have h1 := (hd.lt b hb).1
    have h2 := (hq.lt b hk).2
    omega⟩
  have hlow : ∀ z ∈ G ++ K, w2.heap.size ≤ z := fun z hz => by
    rcases List.mem_append.1 hz with h | h
    · have := (hd.lt z h).1; omega
    · exact (hq.lt z h).1
  refine ⟨⟨F, K, G, hps.below hb34, hdj, fun z hz hd => ?_, fun k hk hd => ?_, fun z hz => by simp at hz, fun z hz => by simp at hz⟩, below_then (below_then (below_then hb1 hbx) hb2) hb34, hlo, by omega⟩
  · have := hlow z hd
    have := (hps.lt z hz).2
    omega
  · have := hlow k hd
    have := (own_block hox k hk).2
    omega
end Go.Proofs.Ytbmmicfdnfpcaaa
