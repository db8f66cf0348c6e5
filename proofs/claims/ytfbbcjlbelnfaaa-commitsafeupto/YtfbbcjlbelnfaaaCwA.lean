/- A machine of layer 10 beside a memory and a ring that grows. -/
import Derived.Test.YtfbbcjlbelnfaaaCmD
import Derived.Test.YtfbbcjlbelnfaaaCnM
import Derived.Test.YtfbbcjlbelnfaaaGroH
namespace Go.Proofs.Ytfbbcjlbelnfaaa
open Go.ChangeShapes Go.WideShapes Go.ChangeAt Go.RowKit
attribute [local go_sem ↓] Go.wp_at_zero Go.wp_at_succ

theorem nx_app {A A' Q : List Nat} {w w' : World} (h : Next A A' w w') : Next (A ++ Q) (A' ++ Q) w w' :=
  ⟨h.1.mono (fun q hq => List.mem_append_left _ hq), fun q hq => by
    rcases List.mem_append.1 hq with h1 | h1
    · rcases h.2 q h1 with h2 | h2
      · exact Or.inl (List.mem_append_left _ h2)
      · exact Or.inr h2
    · exact Or.inl (List.mem_append_right _ h1)⟩
theorem GM.lt {w : World} {base : Nat} {p : Value} {c : Nat} {L : List Ac} {F : List Nat} {Gk : Nat} {g : GR} {P : List Nat} (h : GM w base p c L F Gk g P) : ∀ q ∈ F ++ P, base ≤ q ∧ q < w.heap.size := fun q hq => by
  rcases List.mem_append.1 hq with h3 | h3
  · exact h.mem.lt q h3
  · exact h.gr.lt q h3
theorem gm_act {w : World} {base M c : Nat} {L : List Ac} {F : List Nat} {Gk : Nat} {g : GR} {P : List Nat} (h : GM w base (.pointer (some ⟨M, 0, none⟩)) c L F Gk g P) (hb : base ≤ w.heap.size) (hL : L.length < 3298534882000) (hk : GOk g) (hc1 : 1 ≤ c) (hc2 : c ≤ 1024) (kind : Int) (va : Value) (S : List Wt) (hS : WLst w va S) :
    Calls Try.prog 21 #[.pointer (some ⟨Gk, 0, none⟩), .pointer (some ⟨M, 0, none⟩), .int .i64 kind, va] w fun e w' => e = .returned (.tuple #[]) ∧ ∃ F' P', GM w' base (.pointer (some ⟨M, 0, none⟩)) c (actS c kind S (g, L)).2 F' Gk (actS c kind S (g, L)).1 P' ∧ Next (F ++ P) (F' ++ P') w w' := by
  by_cases hk0 : kind % 5 = 0
  · have e : actS c kind S (g, L) = pubS c S (g, L) := by unfold actS; rw [if_pos hk0]
    rw [e]
    exact act_pub h hb hL hk hc1 hc2 kind va S hS hk0
  · have e : actS c kind S (g, L) = if kind % 5 = 1 then layS c (g, L) else if kind % 5 = 2 then backS c (g, L) else if kind % 5 = 3 then endS c (g, L) else allS c (g, L) := by unfold actS; rw [if_neg hk0]
    rw [e]
    refine (act_some h hb hL hk kind va hk0).mono ?_
    rintro e w' ⟨rfl, F', P', h2, hn, _⟩
    exact ⟨rfl, F', P', h2, hn⟩
/-- A ring and its memory under way. -/
structure GF (w0 w : World) (base : Nat) (p : Value) (c : Nat) (L : List Ac) (Gk : Nat) (g : GR) : Prop where
  all : ∃ F P, GM w base p c L F Gk g P
  bel : Below w0.heap.size w0 w
  lo : w0.heap.size ≤ base
  size : base ≤ w.heap.size
theorem gf_act {w0 w : World} {base M c : Nat} {L : List Ac} {Gk : Nat} {g : GR} (h : GF w0 w base (.pointer (some ⟨M, 0, none⟩)) c L Gk g) (hL : L.length < 3298534882000) (hk : GOk g) (hc1 : 1 ≤ c) (hc2 : c ≤ 1024) (kind : Int) (va : Value) (S : List Wt) (hS : WLst w va S) :
    Calls Try.prog 21 #[.pointer (some ⟨Gk, 0, none⟩), .pointer (some ⟨M, 0, none⟩), .int .i64 kind, va] w fun e w' => e = .returned (.tuple #[]) ∧ GF w0 w' base (.pointer (some ⟨M, 0, none⟩)) c (actS c kind S (g, L)).2 Gk (actS c kind S (g, L)).1 := by
  obtain ⟨F, P, h1⟩ := h.all
  refine (gm_act h1 h.size hL hk hc1 hc2 kind va S hS).mono ?_
  rintro e w' ⟨rfl, F', P', h2, hn⟩
  exact ⟨rfl, ⟨F', P', h2⟩, h.bel.trans (hn.below h.bel.size (fun q hq => by have := (h1.lt q hq).1; have := h.lo; omega)), h.lo, Nat.le_trans h.size hn.1.size⟩
theorem GF.later {w0 w w' : World} {base : Nat} {p : Value} {c : Nat} {L : List Ac} {Gk : Nat} {g : GR} (h : GF w0 w base p c L Gk g) (hb : Below w.heap.size w w') : GF w0 w' base p c L Gk g := by
  obtain ⟨F, P, h1⟩ := h.all
  exact ⟨⟨F, P, h1.below hb⟩, below_then h.bel hb, h.lo, Nat.le_trans h.size hb.size⟩
theorem GF.cells {w0 w : World} {base : Nat} {p : Value} {c : Nat} {L : List Ac} {Gk : Nat} {g : GR} (h : GF w0 w base p c L Gk g) : w.cell? ⟨Gk, 3, none⟩ = some (.int .i64 (g.done : Int)) := by
  obtain ⟨F, P, h1⟩ := h.all
  obtain ⟨v, us, hg⟩ := h1.gr
  exact hg.cells.1.2.2.2
theorem gf_new {w0 w3 : World} {base : Nat} {p : Value} {c : Nat} {F : List Nat} {s : Nat} (hb : Below w0.heap.size w0 w3) (hm : MemAt w3 base p c s [] F) (hlo : w0.heap.size ≤ base) (hsz : base ≤ w3.heap.size) :
    GF w0 (w3.alloc (.cells #[.int .i64 (s : Int), .slice none 0 0, .int .i64 0, .int .i64 0] 71)) base p c [] w3.heap.size ⟨s, [], 0, 0⟩ := by
  have ba := below_a1 w3 (.cells #[.int .i64 (s : Int), .slice none 0 0, .int .i64 0, .int .i64 0] 71)
  refine ⟨⟨F, [w3.heap.size], ⟨hm.below ba, ⟨.slice none 0 0, [], heap_alloc_new _ _, World.ownsRow_nil _ _ _ _, rfl, fun i hi => by simp at hi, rfl, hsz, fun e he => by simp at he⟩, fun b hbF hp => ?_⟩⟩, below_then hb ba, hlo, by simp; omega⟩
  simp at hp
  have := (hm.lt _ hbF).2
  omega
/-- A machine besides, and rows that are kept. -/
structure CAll (w : World) (base : Nat) (p : Value) (c : Nat) (L : List Ac) (X Z Gk : Nat) (g : GR) (C : Cp) (b : Ck) (u : Cu) (R : List (Nat × Obj)) (F P : List Nat) : Prop where
  gm : GM w base p c L F Gk g P
  ka : KAt w X C b
  cm : CAt w Z C u (ptr X)
  out : X ∉ F ++ P
  outZ : Z ∉ X :: (F ++ P)
  lo : base ≤ X
  loZ : base ≤ Z
  kept : Kept w (Z :: X :: (F ++ P)) R
structure CW (w0 w : World) (base : Nat) (p : Value) (c : Nat) (L : List Ac) (Z Gk : Nat) (g : GR) (C : Cp) (b : Ck) (u : Cu) (R : List (Nat × Obj)) : Prop where
  all : ∃ X F P, CAll w base p c L X Z Gk g C b u R F P
  bel : Below w0.heap.size w0 w
  lo : w0.heap.size ≤ base
  size : base ≤ w.heap.size
theorem CAll.lt {w : World} {base : Nat} {p : Value} {c : Nat} {L : List Ac} {X Z Gk : Nat} {g : GR} {C : Cp} {b : Ck} {u : Cu} {R : List (Nat × Obj)} {F P : List Nat} (h : CAll w base p c L X Z Gk g C b u R F P) : ∀ q ∈ Z :: X :: (F ++ P), base ≤ q ∧ q < w.heap.size := fun q hq => by
  rcases List.mem_cons.1 hq with rfl | hq
  · exact ⟨h.loZ, heap_lt h.cm⟩
  · rcases List.mem_cons.1 hq with rfl | hq
    · exact ⟨h.lo, heap_lt h.ka⟩
    · exact h.gm.lt q hq
theorem CW.later {w0 w w' : World} {base : Nat} {p : Value} {c : Nat} {L : List Ac} {Z Gk : Nat} {g : GR} {C : Cp} {b : Ck} {u : Cu} {R : List (Nat × Obj)} (h : CW w0 w base p c L Z Gk g C b u R) (hb : Below w.heap.size w w') : CW w0 w' base p c L Z Gk g C b u R := by
  obtain ⟨X, F, P, h1⟩ := h.all
  exact ⟨⟨X, F, P, h1.gm.below hb, h1.ka.below hb (heap_lt h1.ka), h1.cm.below hb (heap_lt h1.cm), h1.out, h1.outZ, h1.lo, h1.loZ, h1.kept.later hb⟩, below_then h.bel hb, h.lo, Nat.le_trans h.size hb.size⟩
theorem CW.more {w0 w : World} {base : Nat} {p : Value} {c : Nat} {L : List Ac} {Z Gk : Nat} {g : GR} {C : Cp} {b : Ck} {u : Cu} {R : List (Nat × Obj)} (h : CW w0 w base p c L Z Gk g C b u R) (o : Obj) : CW w0 (w.alloc o) base p c L Z Gk g C b u ((w.heap.size, o) :: R) := by
  obtain ⟨X, F, P, h1⟩ := h.all
  exact ⟨⟨X, F, P, h1.gm.below (below_a1 _ _), h1.ka.below (below_a1 _ _) (heap_lt h1.ka), h1.cm.below (below_a1 _ _) (heap_lt h1.cm), h1.out, h1.outZ, h1.lo, h1.loZ, h1.kept.more (fun q hq => (h1.lt q hq).2) o⟩, below_then h.bel (below_a1 _ _), h.lo, by have := h.size; simp; omega⟩
theorem CW.less {w0 w : World} {base : Nat} {p : Value} {c : Nat} {L : List Ac} {Z Gk : Nat} {g : GR} {C : Cp} {b : Ck} {u : Cu} {R R' : List (Nat × Obj)} (h : CW w0 w base p c L Z Gk g C b u R) (hs : ∀ z ∈ R', z ∈ R) : CW w0 w base p c L Z Gk g C b u R' := by
  obtain ⟨X, F, P, h1⟩ := h.all
  exact ⟨⟨X, F, P, h1.gm, h1.ka, h1.cm, h1.out, h1.outZ, h1.lo, h1.loZ, fun z hz => h1.kept z (hs z hz)⟩, h.bel, h.lo, h.size⟩
theorem CW.row {w0 w : World} {base : Nat} {p : Value} {c : Nat} {L : List Ac} {Z Gk : Nat} {g : GR} {C : Cp} {b : Ck} {u : Cu} {R : List (Nat × Obj)} (h : CW w0 w base p c L Z Gk g C b u R) {B : Nat} {o : Obj} (hz : (B, o) ∈ R) : w.heap[B]? = some o := by
  obtain ⟨X, F, P, h1⟩ := h.all
  exact (h1.kept _ hz).1
theorem CW.cells {w0 w : World} {base : Nat} {p : Value} {c : Nat} {L : List Ac} {Z Gk : Nat} {g : GR} {C : Cp} {b : Ck} {u : Cu} {R : List (Nat × Obj)} (h : CW w0 w base p c L Z Gk g C b u R) : (∃ a cap, w.cell? ⟨Gk, 1, none⟩ = some (.slice a g.l.length cap)) ∧ w.cell? ⟨Gk, 3, none⟩ = some (.int .i64 (g.done : Int)) ∧ Gk < w.heap.size := by
  obtain ⟨X, F, P, h1⟩ := h.all
  obtain ⟨v, us, hg⟩ := h1.gm.gr
  obtain ⟨a, cap, rfl⟩ := own_slice hg.own
  exact ⟨⟨a, cap, hg.cells.1.2.1⟩, hg.cells.1.2.2.2, heap_lt hg.m⟩
theorem CW.okS {w0 w : World} {base : Nat} {p : Value} {c : Nat} {L : List Ac} {Z Gk : Nat} {g : GR} {C : Cp} {b : Ck} {u : Cu} {R : List (Nat × Obj)} (h : CW w0 w base p c L Z Gk g C b u R) : ∀ e ∈ g.l, Sg.Ok e.s := by
  obtain ⟨X, F, P, h1⟩ := h.all
  obtain ⟨v, us, hg⟩ := h1.gm.gr
  exact hg.okS
theorem cw_shares {w0 w : World} {base : Nat} {p : Value} {c : Nat} {L : List Ac} {Z Gk : Nat} {g : GR} {C : Cp} {b : Ck} {u : Cu} {R : List (Nat × Obj)} (h : CW w0 w base p c L Z Gk g C b u R) (hk : GOk g) (x y : Int) (rd : List Nat) (hr : Sg.Ok rd) :
    Calls Try.prog 23 #[.pointer (some ⟨Gk, 0, none⟩), .int .i64 x, .int .i64 y, .agg #[rdV rd 0, rdV rd 1, rdV rd 2, rdV rd 3, rdV rd 4, rdV rd 5, rdV rd 6, rdV rd 7]] w fun e w' => e = .returned (.bool (sharesV g x y rd)) ∧ CW w0 w' base p c L Z Gk g C b u R := by
  obtain ⟨X, F, P, h1⟩ := h.all
  refine (shares_any h1.gm.gr hk x y rd hr).mono ?_
  rintro e w' ⟨rfl, hb⟩
  exact ⟨rfl, h.later hb⟩
theorem cw_stamp {w0 w : World} {base : Nat} {p : Value} {c : Nat} {L : List Ac} {Z Gk : Nat} {g : GR} {C : Cp} {b : Ck} {u : Cu} {R : List (Nat × Obj)} (h : CW w0 w base p c L Z Gk g C b u R) :
    Calls Try.prog 24 #[.pointer (some ⟨Z, 0, none⟩)] w fun e w' => e = .returned (.tuple #[.int .i64 u.stamp, .bool (u.stamp != 0)]) ∧ CW w0 w' base p c L Z Gk g C b u R := by
  obtain ⟨X, F, P, h1⟩ := h.all
  refine (mstamp_any h1.cm).mono ?_
  rintro e w' ⟨rfl, hb⟩
  exact ⟨rfl, h.later hb⟩
theorem cw_peek {w0 w : World} {base : Nat} {p : Value} {c : Nat} {L : List Ac} {Z Gk : Nat} {g : GR} {C : Cp} {b : Ck} {u : Cu} {R : List (Nat × Obj)} (h : CW w0 w base p c L Z Gk g C b u R) :
    Calls Try.prog 25 #[p, .agg #[.int .i64 1, .int .i64 0, .int .i64 0]] w fun e w' => e = .returned (.tuple #[.int .i64 (wordOf L nwA), .int .i64 0]) ∧ CW w0 w' base p c L Z Gk g C b u R := by
  obtain ⟨X, F, P, h1⟩ := h.all
  have := peek_any h1.gm.mem nwA
  rw [if_pos (show isAd c g.size nwA = true from rfl), if_pos (show isAd c g.size nwA = true from rfl)] at this
  refine Calls.mono this ?_
  rintro e w' ⟨rfl, hb⟩
  exact ⟨rfl, h.later hb⟩
theorem cw_act {w0 w : World} {base M c : Nat} {L : List Ac} {Z Gk : Nat} {g : GR} {C : Cp} {b : Ck} {u : Cu} {R : List (Nat × Obj)} (h : CW w0 w base (.pointer (some ⟨M, 0, none⟩)) c L Z Gk g C b u R) (hL : L.length < 3298534882000) (hk : GOk g) (hc1 : 1 ≤ c) (hc2 : c ≤ 1024) (kind : Int) (va : Value) (S : List Wt) (hS : WLst w va S) :
    Calls Try.prog 21 #[.pointer (some ⟨Gk, 0, none⟩), .pointer (some ⟨M, 0, none⟩), .int .i64 kind, va] w fun e w' => e = .returned (.tuple #[]) ∧ CW w0 w' base (.pointer (some ⟨M, 0, none⟩)) c (actS c kind S (g, L)).2 Z Gk (actS c kind S (g, L)).1 C b u R := by
  obtain ⟨X, F, P, h1⟩ := h.all
  refine (gm_act h1.gm h.size hL hk hc1 hc2 kind va S hS).mono ?_
  rintro e w' ⟨rfl, F', P', h2, hn⟩
  have hX := heap_lt h1.ka
  have hZ := heap_lt h1.cm
  have hn2 : Next (X :: (F ++ P)) (X :: (F' ++ P')) w w' := nextX hn
  refine ⟨rfl, ⟨X, F', P', h2, h1.ka.keep hn.1 h1.out, h1.cm.keep hn2.1 h1.outZ, fun e => ?_, fun e => ?_, h1.lo, h1.loZ, h1.kept.next (nextX hn2)⟩, h.bel.trans (hn.below h.bel.size (fun q hq => by have := (h1.gm.lt q hq).1; have := h.lo; omega)), h.lo, Nat.le_trans h.size hn.1.size⟩
  · rcases hn.2 X e with h3 | h3
    · exact h1.out h3
    · omega
  · rcases hn2.2 Z e with h3 | h3
    · exact h1.outZ h3
    · omega
theorem cw_step {w0 w : World} {base : Nat} {p : Value} {c : Nat} {L : List Ac} {Z Gk : Nat} {g : GR} {C : Cp} {b : Ck} {u : Cu} {R : List (Nat × Obj)} (h : CW w0 w base p c L Z Gk g C b u R) (hL : L.length < 3298534883328) (hk : COk C b u) (hv : goesC g.size C u = true → u.st = 0 → W64 (wordOf L (adK C b))) (t : Int) :
    Calls Try.prog 15 #[.pointer (some ⟨Z, 0, none⟩), p, .int .i64 t] w fun e w' => e = .returned (ansW (ansZ g.size C b u L) (errZ g.size C b u L) (valZ g.size C u L) (goesC g.size C u)) ∧ CW w0 w' base p c (nextCL c g.size C b u L t) Z Gk g C (nextCB g.size C b u L) (nextU g.size C b u L) R := by
  obtain ⟨X, F, P, h1⟩ := h.all
  have hs : CS w base p c g.size L F X Z C b u := ⟨⟨h1.gm.mem, h1.ka, fun e => h1.out (List.mem_append_left _ e), h1.lo⟩, h1.cm, fun e => h1.outZ (by
    rcases List.mem_cons.1 e with rfl | e
    · simp
    · simp [e]), h1.loZ⟩
  refine (mstep hs h.size hL hk hv t).mono ?_
  rintro e w' ⟨rfl, F', X', h2, hn⟩
  have hnn : Next (Z :: X :: (F ++ P)) (Z :: X' :: (F' ++ P)) w w' := nx_app hn
  have hd : ∀ q ∈ P, q ∉ Z :: X :: F := fun q hq e => by
    rcases List.mem_cons.1 e with rfl | e
    · exact h1.outZ (by simp [hq])
    · rcases List.mem_cons.1 e with rfl | e
      · exact h1.out (by simp [hq])
      · exact h1.gm.apart q e hq
  have hd' : ∀ q ∈ P, q ∉ Z :: X' :: F' := fun q hq e => by
    rcases hn.2 q e with h3 | h3
    · exact hd q hq h3
    · have := (h1.gm.gr.lt q hq).2; omega
  refine ⟨rfl, ⟨X', F', P, ⟨h2.ks.mem, h1.gm.gr.keep hn.1 hd, fun q hq hp => hd' q hp (by simp [hq])⟩, h2.ks.at_, h2.cm, fun e => ?_, fun e => ?_, h2.ks.lo, h2.lo, h1.kept.next hnn⟩, h.bel.trans (hn.below h.bel.size (fun q hq => by have := (hs.lt q hq).1; have := h.lo; omega)), h.lo, Nat.le_trans h.size hn.1.size⟩
  · rcases List.mem_append.1 e with h3 | h3
    · exact h2.ks.out h3
    · exact hd' _ h3 (by simp)
  · rcases List.mem_cons.1 e with h3 | h3
    · exact h2.out (by simp [h3])
    · rcases List.mem_append.1 h3 with h4 | h4
      · exact h2.out (by simp [h4])
      · exact hd' _ h4 (by simp)
theorem cw_new {w0 w w' : World} {base : Nat} {p : Value} {c : Nat} {L : List Ac} {Gk : Nat} {g : GR} {C : Cp} {b : Ck} {u : Cu} {X Z : Nat} (h : GF w0 w base p c L Gk g) (hb : Below w.heap.size w w') (hX : w.heap.size ≤ X) (hZ : w.heap.size ≤ Z) (hne : Z ≠ X) (hx : KAt w' X C b) (hz : CAt w' Z C u (ptr X)) : CW w0 w' base p c L Z Gk g C b u [] := by
  obtain ⟨F, P, h1⟩ := h.all
  have hs := h.size
  exact ⟨⟨X, F, P, h1.below hb, hx, hz, fun e => by have := (h1.lt _ e).2; omega, fun e => by
    rcases List.mem_cons.1 e with e | e
    · exact hne e
    · have := (h1.lt _ e).2; omega, by omega, by omega, fun z hz => by simp at hz⟩, below_then h.bel hb, h.lo, Nat.le_trans h.size hb.size⟩
theorem CW.addRow {w0 w : World} {base : Nat} {p : Value} {c : Nat} {L : List Ac} {Z Gk : Nat} {g : GR} {C : Cp} {b : Ck} {u : Cu} {R : List (Nat × Obj)} (h : CW w0 w base p c L Z Gk g C b u R) {B : Nat} {o : Obj} (hr : w.heap[B]? = some o) (hlt : B < base) : CW w0 w base p c L Z Gk g C b u ((B, o) :: R) := by
  obtain ⟨X, F, P, h1⟩ := h.all
  refine ⟨⟨X, F, P, h1.gm, h1.ka, h1.cm, h1.out, h1.outZ, h1.lo, h1.loZ, fun z hz => ?_⟩, h.bel, h.lo, h.size⟩
  rcases List.mem_cons.1 hz with rfl | hz
  · exact ⟨hr, fun e => by have := (h1.lt _ e).1; simp only at this; omega⟩
  · exact h1.kept z hz
/-- What is so of the ring behind q acts. -/
structure RingOk (L : List Ac) (g : GR) (s q : Nat) : Prop where
  gok : GOk g
  gz : Gz (wordOf L) g
  gs : Gs (wordOf L) g
  size : g.size = s
  len : L.length ≤ 14 * q
  many : g.l.length ≤ q
theorem ringOk_act {c : Nat} {L : List Ac} {g : GR} {s q : Nat} (h : RingOk L g s q) (hq : q ≤ 2097152) (k : Int) (S : List Wt) : RingOk (actS c k S (g, L)).2 (actS c k S (g, L)).1 s (q + 1) ∧ Stay g (actS c k S (g, L)).1 := by
  have hm := h.many
  have hl := h.len
  obtain ⟨a1, a2, a3⟩ := act_grows (c := c) (k := k) (S := S) (s := (g, L))
  obtain ⟨b1, b2⟩ := gs_act (c := c) (k := k) (S := S) (s := (g, L)) h.gs h.gok
  have c1 := act_len (c := c) (k := k) (S := S) (s := (g, L))
  exact ⟨⟨gok_act h.gok (by simp only; omega), gz_act h.gz h.gok, b1, a2.trans h.size, by simp only at c1; omega, by simp only at a3; omega⟩, b2⟩
theorem ringOk_step {c : Nat} {L : List Ac} {g : GR} {s q : Nat} {C : Cp} {b : Ck} {u : Cu} {t : Int} (h : RingOk L g s q) (hw : ∀ a, wordOf (nextCL c g.size C b u L t) a = wordOf L a) : RingOk (nextCL c g.size C b u L t) g s (q + 1) := by
  have hl := nextCL_len c g.size C b u L t
  have := h.len
  have := h.many
  have hw' : wordOf (nextCL c g.size C b u L t) = wordOf L := funext hw
  exact ⟨h.gok, by rw [hw']; exact h.gz, by rw [hw']; exact h.gs, h.size, by omega, by omega⟩
theorem sc_w {L : List Ac} {g : GR} {C : Cp} {b : Ck} {u : Cu} (h : Sc g C b u) (hk : COk C b u) (hz : Gz (wordOf L) g) (hg : Gs (wordOf L) g) (ho : GOk g) : W64 (wordOf L (adK C b)) := by
  obtain ⟨n, k⟩ := hk.k
  exact adK_w h.q.sz k hz hg ho (fun e1 => by
    rcases h.q.c with c | c | ⟨_, c, _⟩ | ⟨c, _⟩ | ⟨c, _⟩
    · omega
    · omega
    · exact c
    · omega
    · omega)
theorem z_wrap {x : Int} (h1 : -9223372036854775808 ≤ x) (h2 : x ≤ 9223372036854775807) : wrap64 x = x := by unfold wrap64; omega
theorem z_turn {w : World} {va : Option Addr} {S : List Tn} (hl : S = [] ∨ ∃ x, va = some x ∧ x.block < w.heap.size ∧ ∀ i, i < S.length → w.cell? (x.add (i * 2)) = some (.int .i64 (S.getD i noTn).k) ∧ ∃ u, w.cell? ((x.add (i * 2)).add 1) = some u ∧ WLst w u (S.getD i noTn).l) : ∀ q, q < S.length → ∃ x, va = some x ∧ x.block < w.heap.size ∧ w.cell? (x.add (q * 2)) = some (.int .i64 (S.getD q noTn).k) ∧ ∃ u, w.cell? ((x.add (q * 2)).add 1) = some u ∧ WLst w u (S.getD q noTn).l := by
  intro q hq
  rcases hl with rfl | ⟨x, hx, hxb, hcc⟩
  · exact absurd hq (by simp)
  · exact ⟨x, hx, hxb, (hcc q hq).1, (hcc q hq).2⟩
theorem z_meas {q n : Nat} (h : q < n) : n - (q + 1) < n - q := by omega
theorem z_w1 {q n : Nat} (h : q < n) (hn : n ≤ 1048576) : wrap64 ((q : Int) + 1) = (q : Int) + 1 := z_wrap (by omega) (by omega)
end Go.Proofs.Ytfbbcjlbelnfaaa
