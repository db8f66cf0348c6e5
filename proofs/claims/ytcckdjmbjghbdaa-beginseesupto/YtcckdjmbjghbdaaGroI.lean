/- BeginSees walked. -/
import Derived.Test.YtcckdjmbjghbdaaGroG
import Derived.Test.YtcckdjmbjghbdaaGroH
import Derived.Test.YtcckdjmbjghbdaaBegK
namespace Go.Proofs.Ytcckdjmbjghbdaa
open Go.ChangeShapes Go.WideShapes Go.ChangeAt Go.RowKit
attribute [local go_sem ↓] Go.wp_at_zero Go.wp_at_succ

theorem bok_step2 {s : Nat} {b : Bg} {v : Int} (h : BOk s b) (hv : b.st = 0 → W64 v) : BOk s (stepV s b v) := by
  by_cases e : b.st = 0
  · exact bok_step h (hv e)
  · have h0 := bok_step (v := 0) h ⟨by decide, by decide⟩
    refine ⟨h.s1, h.s16, ?_⟩
    have hs := h.s1
    rcases h.c with ⟨c, _⟩ | ⟨c0, c1, c2, c3, c4⟩ | ⟨c0, c1, c2, c3⟩
    · exact absurd c e
    · unfold stepV lookV
      rw [if_neg e, if_pos c0]
      by_cases e1 : overV v b.stamp = true
      · rw [if_pos e1]
        exact Or.inr (Or.inr ⟨rfl, by simp only; omega, Or.inl c2, c4⟩)
      · rw [if_neg e1]
        by_cases e2 : b.stamp - 1 < 1 ∨ b.stamp - 1 = b.seen - (s : Int)
        · rw [if_pos e2]
          exact Or.inr (Or.inr ⟨rfl, by simp only; omega, Or.inl (by simp only; omega), c4⟩)
        · rw [if_neg e2]
          exact Or.inr (Or.inl ⟨rfl, by simp only; omega, by simp only; omega, by simp only; omega, c4⟩)
    · unfold stepV
      rw [if_neg (by omega), if_neg (by omega)]
      exact Or.inr (Or.inr ⟨c0, c1, c2, c3⟩)

/-- A machine beside a memory and a ring. -/
structure SAll (w : World) (base : Nat) (p : Value) (L : List Ac) (X Gk : Nat) (g : GR) (b : Bg) (F P : List Nat) : Prop where
  gm : GM w base p 4 L F Gk g P
  at_ : BAt w X g.size b
  out : X ∉ F ++ P
  lo : base ≤ X
structure SW (w0 w : World) (base : Nat) (p : Value) (L : List Ac) (X Gk : Nat) (g : GR) (b : Bg) : Prop where
  all : ∃ F P, SAll w base p L X Gk g b F P
  bel : Below w0.heap.size w0 w
  lo : w0.heap.size ≤ base
  size : base ≤ w.heap.size
theorem SW.later {w0 w w' : World} {base : Nat} {p : Value} {L : List Ac} {X Gk : Nat} {g : GR} {b : Bg} (h : SW w0 w base p L X Gk g b) (hb : Below w.heap.size w w') : SW w0 w' base p L X Gk g b := by
  obtain ⟨F, P, h1⟩ := h.all
  exact ⟨⟨F, P, h1.gm.below hb, h1.at_.below hb (heap_lt h1.at_), h1.out, h1.lo⟩, below_then h.bel hb, h.lo, Nat.le_trans h.size hb.size⟩
theorem SW.cells {w0 w : World} {base : Nat} {p : Value} {L : List Ac} {X Gk : Nat} {g : GR} {b : Bg} (h : SW w0 w base p L X Gk g b) : (∃ a cap, w.cell? ⟨Gk, 1, none⟩ = some (.slice a g.l.length cap)) ∧ w.cell? ⟨Gk, 3, none⟩ = some (.int .i64 (g.done : Int)) := by
  obtain ⟨F, P, h1⟩ := h.all
  obtain ⟨v, us, hg⟩ := h1.gm.gr
  obtain ⟨a, cap, rfl⟩ := own_slice hg.own
  exact ⟨⟨a, cap, hg.cells.1.2.1⟩, hg.cells.1.2.2.2⟩
theorem sw_step {w0 w : World} {base : Nat} {p : Value} {L : List Ac} {X Gk : Nat} {g : GR} {b : Bg} (h : SW w0 w base p L X Gk g b) (hL : L.length < 3298534883328) (hk : BOk g.size b) (t : Int) :
    Calls Try.prog 14 #[.pointer (some ⟨X, 0, none⟩), p, .int .i64 t] w fun e w' => e = .returned (ansC (ansK g.size g.size b L) (goesB g.size g.size b)) ∧ SW w0 w' base p (nextL 4 g.size g.size b L t) X Gk g (nextB g.size g.size b L) := by
  obtain ⟨F, P, h1⟩ := h.all
  have hX : X < w.heap.size := heap_lt h1.at_
  refine (pstep ⟨h1.gm.mem, h1.at_, fun e => h1.out (List.mem_append_left _ e), h1.lo⟩ h.size hL hk t).mono ?_
  rintro e w' ⟨rfl, F', h2, hn⟩
  have hd : ∀ q ∈ P, q ∉ X :: F := fun q hq e => by
    rcases List.mem_cons.1 e with rfl | e
    · exact h1.out (List.mem_append_right _ hq)
    · exact h1.gm.apart q e hq
  refine ⟨rfl, ⟨F', P, ⟨h2.mem, h1.gm.gr.keep hn.1 hd, fun q hq hp => ?_⟩, h2.at_, fun e => ?_, h1.lo⟩, h.bel.trans (hn.below h.bel.size (fun q hq => ?_)), h.lo, Nat.le_trans h.size hn.1.size⟩
  · rcases hn.2 q (List.mem_cons_of_mem _ hq) with h3 | h3
    · exact hd q hp h3
    · have := (h1.gm.gr.lt q hp).2; omega
  · rcases List.mem_append.1 e with h3 | h3
    · exact h2.out h3
    · exact h1.out (List.mem_append_right _ h3)
  · have hlo := h.lo
    rcases List.mem_cons.1 hq with rfl | hq
    · have := h1.lo; omega
    · have := (h1.gm.mem.lt q hq).1; omega
theorem sw_start {w0 w : World} {base : Nat} {p : Value} {L : List Ac} {X Gk : Nat} {g : GR} {b : Bg} (h : SW w0 w base p L X Gk g b) : Calls Try.prog 20 #[.pointer (some ⟨X, 0, none⟩)] w fun e w' => e = .returned (.tuple #[.int .i64 (if b.st = 2 then b.stamp else 0), .int .i64 (if b.st = 2 then b.seen else 0), .bool (decide (b.st = 2))]) ∧ SW w0 w' base p L X Gk g b := by
  obtain ⟨F, P, h1⟩ := h.all
  refine (start_any h1.at_).mono ?_
  rintro e w' ⟨rfl, hb⟩
  exact ⟨rfl, h.later hb⟩
theorem sw_next {w0 w w' : World} {base : Nat} {p : Value} {L L' : List Ac} {X Gk : Nat} {g g' : GR} {b : Bg} {F P F' P' : List Nat} (h : SW w0 w base p L X Gk g b) (h1 : SAll w base p L X Gk g b F P) (hs : g'.size = g.size) (h2 : GM w' base p 4 L' F' Gk g' P') (hn : Next (F ++ P) (F' ++ P') w w') : SW w0 w' base p L' X Gk g' b :=
  ⟨⟨F', P', h2, by rw [hs]; exact h1.at_.keep hn.1 h1.out, fun e => by
      rcases hn.2 X e with h3 | h3
      · exact h1.out h3
      · have := heap_lt h1.at_; omega, h1.lo⟩, h.bel.trans (hn.below h.bel.size (fun q hq => by
      have hlo := h.lo
      rcases List.mem_append.1 hq with h3 | h3
      · have := (h1.gm.mem.lt q h3).1; omega
      · have := (h1.gm.gr.lt q h3).1; omega)), h.lo, Nat.le_trans h.size hn.1.size⟩
theorem sw_act {w0 w : World} {base : Nat} {M : Nat} {L : List Ac} {X Gk : Nat} {g : GR} {b : Bg} (h : SW w0 w base (.pointer (some ⟨M, 0, none⟩)) L X Gk g b) (hL : L.length < 3298534882000) (hk : GOk g) (kind : Int) (va : Value) (S : List Wt) (hS : WLst w va S) :
    Calls Try.prog 21 #[.pointer (some ⟨Gk, 0, none⟩), .pointer (some ⟨M, 0, none⟩), .int .i64 kind, va] w fun e w' => e = .returned (.tuple #[]) ∧ SW w0 w' base (.pointer (some ⟨M, 0, none⟩)) (actS 4 kind S (g, L)).2 X Gk (actS 4 kind S (g, L)).1 b := by
  obtain ⟨F, P, h1⟩ := h.all
  have hsz := (act_grows (c := 4) (k := kind) (S := S) (s := (g, L))).2.1
  by_cases hk0 : kind % 5 = 0
  · have e : actS 4 kind S (g, L) = pubS 4 S (g, L) := by unfold actS; rw [if_pos hk0]
    rw [e] at hsz ⊢
    refine (act_pub h1.gm h.size hL hk (by decide) (by decide) kind va S hS hk0).mono ?_
    rintro e w' ⟨rfl, F', P', h2, hn⟩
    exact ⟨rfl, sw_next h h1 hsz h2 hn⟩
  · have e : actS 4 kind S (g, L) = if kind % 5 = 1 then layS 4 (g, L) else if kind % 5 = 2 then backS 4 (g, L) else if kind % 5 = 3 then endS 4 (g, L) else allS 4 (g, L) := by unfold actS; rw [if_neg hk0]
    rw [e] at hsz ⊢
    refine (act_some h1.gm h.size hL hk kind va hk0).mono ?_
    rintro e w' ⟨rfl, F', P', h2, hn, _⟩
    exact ⟨rfl, sw_next h h1 hsz h2 hn⟩
/-- All that is so behind q turns. -/
structure Sees_ (w wr : World) (bs : Nat) (p : Value) (X Gk s q : Nat) (L : List Ac) (g : GR) (b : Bg) (least newest steps : Nat) : Prop where
  way : SW w wr bs p L X Gk g b
  ok : BOk s b
  gok : GOk g
  gz : Gz (wordOf L) g
  sn : Sn g b least newest steps
  size : g.size = s
  len : L.length ≤ 14 * q
  many : g.l.length ≤ q
  lq : least ≤ q
  nq : newest ≤ q
  sq : steps ≤ q
theorem sn_next {L : List Ac} {g : GR} {b : Bg} {least newest steps : Nat} (h : Sn g b least newest steps) (hz : Gz (wordOf L) g) (hk : GOk g) :
    Sn g (nextB g.size g.size b L) (if steps = 0 then g.done else least) (if steps = 0 then g.l.length else newest) (steps + 1) := by
  unfold nextB
  by_cases e : b.st = 2
  · rw [if_neg (by simp [goesB, e])]
    refine ⟨?_⟩
    rcases h.c with ⟨_, rfl⟩ | ⟨h1, h2⟩
    · simp [bgNew] at e
    · rw [if_neg (by omega), if_neg (by omega)]
      exact Or.inr ⟨by omega, h2⟩
  · rw [if_pos (by simp [goesB, e])]
    exact sn_step h hz hk e
theorem bok_next2 {L : List Ac} {g : GR} {b : Bg} (h : BOk g.size b) (hz : Gz (wordOf L) g) (hk : GOk g) : BOk g.size (nextB g.size g.size b L) := by
  unfold nextB
  split
  · refine bok_step2 h (fun e => ?_)
    have ha : adV g.size b = ⟨1, 0, 0⟩ := by unfold adV; rw [if_pos e]
    rw [ha, hz.n]
    have := hk.len
    exact ⟨by omega, by omega⟩
  · exact h

theorem sw_new {w0 w1 w2 w3 : World} {p : Value} {F : List Nat} {s : Nat} (hb : Below w0.heap.size w0 w1) (hx : BAt w2 w1.heap.size s bgNew) (hb2 : Below w1.heap.size w1 w2) (hm : MemAt w3 w2.heap.size p 4 s [] F) (hb3 : Below w2.heap.size w2 w3) :
    SW w0 (w3.alloc (.cells #[.int .i64 (s : Int), .slice none 0 0, .int .i64 0, .int .i64 0] 64)) w1.heap.size p [] w1.heap.size w3.heap.size ⟨s, [], 0, 0⟩ bgNew := by
  have h12 := hb2.size
  have h23 := hb3.size
  have hX := heap_lt hx
  have ba := below_a1 w3 (.cells #[.int .i64 (s : Int), .slice none 0 0, .int .i64 0, .int .i64 0] 64)
  have hmb : MemAt w3 w1.heap.size p 4 s [] F := by
    obtain ⟨M, H, S, C, v, h⟩ := hm
    exact ⟨M, H, S, C, v, h.p, h.m, own_base h.own h12, h.F, by have := h.bM; omega, by have := h.bH; omega, by have := h.bS; omega, by have := h.bC; omega, h.c, h.r⟩
  refine ⟨⟨F, [w3.heap.size], ⟨hmb.below ba, ⟨.slice none 0 0, [], heap_alloc_new _ _, World.ownsRow_nil _ _ _ _, rfl, fun i hi => by simp at hi, rfl, by omega, fun e he => by simp at he⟩, fun b hbF hp => ?_⟩, (hx.below hb3 hX).below ba (by omega), fun e => ?_, Nat.le_refl _⟩, below_then (below_then (below_then hb hb2) hb3) ba, hb.size, by simp; omega⟩
  · simp at hp
    have := (hm.lt _ hbF).2
    omega
  · rcases List.mem_append.1 e with h1 | h1
    · have := (hm.lt _ h1).1; omega
    · simp at h1; omega

set_option maxRecDepth 100000 in
set_option maxHeartbeats 6400000 in
theorem sees_walk (w : World) (raw : Int) (v : Value) (S : List Tn) (hv : TnLst w v S) :
    Calls Try.prog 5 #[.int .i64 raw, v] w fun e w' => e = .returned (.bool true) ∧ Below w.heap.size w w' := by
  have HS : Hid (∀ w : World, Calls Try.prog 6 #[] w fun e w' => e = .returned (.bool true) ∧ Below w.heap.size w w') := bshown_any
  obtain ⟨s, hs1, hs16, hse⟩ : ∃ s : Nat, 1 ≤ s ∧ s ≤ 16 ∧ raw % 16 = (s : Int) - 1 := ⟨(raw % 16 + 1).toNat, by omega, by omega, by omega⟩
  have HP : Hid (∀ w : World, Calls Try.prog 19 #[.int .i64 raw, .int .i64 16] w fun e w' => e = .returned (.int .i64 ((s : Int) - 1)) ∧ w' = w) := fun w => by rw [← hse]; exact gpick_any raw 16 (by decide) (by decide) w
  have HN : Hid (∀ w : World, Calls Try.prog 10 #[.int .i64 4, .int .i64 (s : Int)] w fun e w' => ∃ p F, e = .returned (.tuple #[p, .int .i64 0]) ∧ p ≠ .pointer none ∧ MemAt w' w.heap.size p 4 s [] F ∧ Below w.heap.size w w') := fun w => new_yes w 4 s (by decide) ⟨hs1, hs16⟩
  have HB : Hid (∀ w : World, Calls Try.prog 7 #[.int .i64 (s : Int)] w fun e w' => e = .returned (.tuple #[.pointer (some ⟨w.heap.size, 0, none⟩), .int .i64 0]) ∧ BAt w' w.heap.size s bgNew ∧ Below w.heap.size w w') := fun w => bnew_yes w s hs1 hs16
  obtain ⟨va, vcap, rfl, hbig, hl⟩ := hv
  have HC : Hid (∀ q, q < S.length → ∃ x, va = some x ∧ x.block < w.heap.size ∧ w.cell? (x.add (q * 2)) = some (.int .i64 (S.getD q noTn).k) ∧ ∃ u, w.cell? ((x.add (q * 2)).add 1) = some u ∧ WLst w u (S.getD q noTn).l) := by
    intro q hq
    rcases hl with rfl | ⟨x, hx, hxb, hcc⟩
    · exact absurd hq (by simp)
    · exact ⟨x, hx, hxb, (hcc q hq).1, (hcc q hq).2⟩
  clear hl hse
  generalize hn : S.length = n at *
  clear hn
  have w1b : 1 + ((s : Int) - 1) = (s : Int) := by omega
  go_enter Try.func5, Try.ntmps5
  go_wp2_with fail
  refine (HS.out _).mono ?_
  rintro e y1 ⟨rfl, hb1⟩
  have HB1 : Hid (Below w.heap.size w y1) := hb1
  clear hb1
  go_wp2_with fail
  refine (HP.out _).mono ?_
  rintro e y2 ⟨rfl, rfl⟩
  go_wp2_with fail
  refine (HB.out _).mono ?_
  rintro e y3 ⟨rfl, hx3, hb3⟩
  have HX3 : Hid (BAt y3 y2.heap.size s bgNew ∧ Below y2.heap.size y2 y3) := ⟨hx3, hb3⟩
  clear hx3 hb3
  go_wp2_with fail
  refine (HN.out _).mono ?_
  rintro e y4 ⟨p, F4, rfl, _, hm4, hb4⟩
  obtain ⟨M, rfl⟩ := hm4.ptr
  have HM4 : Hid (MemAt y4 y3.heap.size (.pointer (some ⟨M, 0, none⟩)) 4 s [] F4 ∧ Below y3.heap.size y3 y4) := ⟨hm4, hb4⟩
  clear hm4 hb4
  have HE4 : Hid (Sees_ w (y4.alloc (.cells #[.int .i64 (s : Int), .slice none 0 0, .int .i64 0, .int .i64 0] 64)) y2.heap.size (.pointer (some ⟨M, 0, none⟩)) y2.heap.size y4.heap.size s 0 [] ⟨s, [], 0, 0⟩ bgNew 0 0 0) :=
    ⟨sw_new HB1.out HX3.out.1 HX3.out.2 HM4.out.1 HM4.out.2, bok_new hs1 hs16, ⟨hs1, hs16, Nat.le_refl _, Nat.le_refl _, by simp⟩, gz_zero s, ⟨Or.inl ⟨rfl, rfl⟩⟩, rfl, by simp, by simp, by omega, by omega, by omega⟩
  clear HX3 HM4
  go_wp2
  generalize y2.heap.size = bs at *
  generalize y4.heap.size = Gk at *
  go_loopw [12, 13, 14, 15] (fun lv nv sv iv wr => ∃ (q : Nat) (L : List Ac) (g : GR) (b : Bg) (least newest steps : Nat), q ≤ n ∧ lv = .int .i64 least ∧ nv = .int .i64 newest ∧ sv = .int .i64 steps ∧ iv = .int .i64 q ∧ Sees_ w wr bs (.pointer (some ⟨M, 0, none⟩)) bs Gk s q L g b least newest steps) (fun _ _ _ iv _ => n - (intOf iv).toNat)
  case atStart => exact ⟨0, [], ⟨s, [], 0, 0⟩, bgNew, 0, 0, 0, Nat.zero_le _, rfl, rfl, rfl, rfl, HE4.out⟩
  case round =>
    obtain ⟨q, L, g, b, least, newest, steps, hq, rfl, rfl, rfl, rfl, he⟩ := hrel
    have HE : Hid (Sees_ w wr bs (.pointer (some ⟨M, 0, none⟩)) bs Gk s q L g b least newest steps) := he
    have hlen := he.len
    have hmany := he.many
    have hlq := he.lq
    have hnq := he.nq
    have hsq := he.sq
    have hdl : g.done ≤ g.l.length := Nat.le_trans he.gok.da he.gok.an
    clear he HE4
    by_cases hlt : q < n
    · obtain ⟨x, rfl, hxb, c0, u, c1, hu⟩ := HC.out q hlt
      have hbel := HE.out.way.bel
      replace c0 := cell_later hbel (by rw [add_block]; exact hxb) c0
      replace c1 := cell_later hbel (by rw [add_block, add_block]; exact hxb) c1
      rw [add_pos' _ _ (by decide)] at c1
      have d1 : decide ((q : Int) < (n : Int)) = true := by simp; omega
      have hx1 : (q : Int) < (n : Int) := by omega
      have HU : Hid (∀ w', Below w.heap.size w w' → WLst w' u (S.getD q noTn).l) := fun w' hb => hu.later hb rfl
      obtain ⟨ua, ucap, rfl, _⟩ := hu
      clear hbel
      generalize (S.getD q noTn).l.length = nu at *
      generalize (S.getD q noTn).l = Wl at *
      generalize (S.getD q noTn).k = kd at *
      by_cases hk0 : kd = 0
      · subst hk0
        by_cases hst : steps = 0
        · have hL2 : (nextL 4 s s b L 1).length ≤ L.length + 1 := nextL_len 4 s s b L 1
          have HLEN2 : Hid ((nextL 4 s s b L 1).length ≤ 14 * (q + 1)) := by have := HE.out.len; rw [Hid]; omega
          have HOK2 : Hid (BOk s (nextB s s b L)) := by
            have := bok_next2 (L := L) (g := g) (b := b) (by rw [HE.out.size]; exact HE.out.ok) HE.out.gz HE.out.gok
            rw [HE.out.size] at this
            exact this
          have HGZ2 : Hid (Gz (wordOf (nextL 4 s s b L 1)) g) := by rw [Hid, wordOf_next]; exact HE.out.gz
          have HSN : Hid (Sn g (nextB s s b L) g.done g.l.length (steps + 1)) := by
            have := sn_next HE.out.sn HE.out.gz HE.out.gok
            rw [HE.out.size] at this
            rw [if_pos hst, if_pos hst] at this
            exact this
          have HT : Hid (∀ w', SW w w' bs (.pointer (some ⟨M, 0, none⟩)) L bs Gk g b → Calls Try.prog 14 #[.pointer (some ⟨bs, 0, none⟩), (.pointer (some ⟨M, 0, none⟩)), .int .i64 1] w' fun e w'' => e = .returned (.agg #[.int .i64 (ansK s s b L), .int .i64 0, .int .i64 0, .bool (goesB s s b)]) ∧ SW w w'' bs (.pointer (some ⟨M, 0, none⟩)) (nextL 4 s s b L 1) bs Gk g (nextB s s b L)) := fun w' h => by
            have := sw_step h (by omega) (by rw [HE.out.size]; exact HE.out.ok) 1
            rw [HE.out.size] at this
            exact this
          have HTS : Hid (∀ w', SW w w' bs (.pointer (some ⟨M, 0, none⟩)) (nextL 4 s s b L 1) bs Gk g (nextB s s b L) → Calls Try.prog 20 #[.pointer (some ⟨bs, 0, none⟩)] w' fun e w'' => e = .returned (.tuple #[.int .i64 (if (nextB s s b L).st = 2 then (nextB s s b L).stamp else 0), .int .i64 (if (nextB s s b L).st = 2 then (nextB s s b L).seen else 0), .bool (decide ((nextB s s b L).st = 2))]) ∧ SW w w'' bs (.pointer (some ⟨M, 0, none⟩)) (nextL 4 s s b L 1) bs Gk g (nextB s s b L)) := fun w' h => sw_start h
          generalize ansK s s b L = kk at *
          generalize goesB s s b = gg at *
          generalize nextL 4 s s b L 1 = L2 at *
          generalize nextB s s b L = b2 at *
          have dst : ((steps : Int) == 0) = true := by simp; omega
          obtain ⟨⟨ra, rcap, r1⟩, r3⟩ := HE.out.way.cells
          have HWZ : Hid (SW w wr bs (.pointer (some ⟨M, 0, none⟩)) L bs Gk g b) := HE.out.way
          obtain ⟨st', seen, stamp⟩ := b2
          by_cases e2s : st' = 2
          · subst e2s
            obtain ⟨sb1, sb2, sb3⟩ : seen = ((g.l.length : Nat) : Int) ∧ ((g.done : Nat) : Int) ≤ stamp ∧ stamp ≤ (g.done : Int) := by
              rcases HSN.out.c with ⟨h0, _⟩ | ⟨_, h2, _, _, _, h6⟩
              · omega
              · rcases h6 with ⟨c1, _⟩ | ⟨_, c2, c3⟩
                · simp at c1
                · exact ⟨h2, c2, c3⟩
            replace HTS : Hid (∀ w', SW w w' bs (.pointer (some ⟨M, 0, none⟩)) L2 bs Gk g ⟨2, seen, stamp⟩ → Calls Try.prog 20 #[.pointer (some ⟨bs, 0, none⟩)] w' fun e w'' => e = .returned (.tuple #[.int .i64 stamp, .int .i64 seen, .bool true]) ∧ SW w w'' bs (.pointer (some ⟨M, 0, none⟩)) L2 bs Gk g ⟨2, seen, stamp⟩) := fun w' h => HTS.out w' h
            have q1 : decide (stamp < ((g.done : Nat) : Int)) = false := by simp; omega
            have q2 : decide (stamp > (g.done : Int)) = false := by simp; omega
            have q3 : (seen != ((g.l.length : Nat) : Int)) = false := by simp [sb1]
            clear sb1
            go_wp2_with fail
            refine (HT.out _ HWZ.out).mono ?_
            rintro e y6 ⟨rfl, h6⟩
            have HW6 : Hid (SW w y6 bs (.pointer (some ⟨M, 0, none⟩)) L2 bs Gk g ⟨2, seen, stamp⟩) := h6
            clear h6
            go_wp2_with fail
            refine (HTS.out _ HW6.out).mono ?_
            rintro e y7 ⟨rfl, h7⟩
            have HW7 : Hid (SW w y7 bs (.pointer (some ⟨M, 0, none⟩)) L2 bs Gk g ⟨2, seen, stamp⟩) := h7
            obtain ⟨_, g3⟩ := h7.cells
            clear h7 HW6
            go_wp2
            first | go_quiet (fail) | skip
            go_wp2
            go_roundw
            case rel => exact ⟨q + 1, L2, g, ⟨_, seen, stamp⟩, g.done, g.l.length, steps + 1, by omega, by first | rfl | go_num, by first | rfl | go_num, by go_num, by go_num, HW7.out.later (by first | exact Below.refl _ _ | exact below_drawn (Below.refl _ _) _), HOK2.out, HE.out.gok, HGZ2.out, HSN.out, HE.out.size, HLEN2.out, by have := HE.out.many; omega, by have := HE.out.many; have := HE.out.gok.da; have := HE.out.gok.an; have := HE.out.lq; omega, by have := HE.out.many; have := HE.out.nq; omega, by have := HE.out.sq; omega⟩
            case measure => simp [intOf]; omega
          · replace HTS : Hid (∀ w', SW w w' bs (.pointer (some ⟨M, 0, none⟩)) L2 bs Gk g ⟨st', seen, stamp⟩ → Calls Try.prog 20 #[.pointer (some ⟨bs, 0, none⟩)] w' fun e w'' => e = .returned (.tuple #[.int .i64 0, .int .i64 0, .bool false]) ∧ SW w w'' bs (.pointer (some ⟨M, 0, none⟩)) L2 bs Gk g ⟨st', seen, stamp⟩) := fun w' h => by
              have := HTS.out w' h
              simp only at this
              rw [if_neg e2s, if_neg e2s, show decide (st' = 2) = false by simpa using e2s] at this
              exact this
            go_wp2_with fail
            refine (HT.out _ HWZ.out).mono ?_
            rintro e y6 ⟨rfl, h6⟩
            have HW6 : Hid (SW w y6 bs (.pointer (some ⟨M, 0, none⟩)) L2 bs Gk g ⟨st', seen, stamp⟩) := h6
            clear h6
            go_wp2_with fail
            refine (HTS.out _ HW6.out).mono ?_
            rintro e y7 ⟨rfl, h7⟩
            have HW7 : Hid (SW w y7 bs (.pointer (some ⟨M, 0, none⟩)) L2 bs Gk g ⟨st', seen, stamp⟩) := h7
            obtain ⟨_, g3⟩ := h7.cells
            clear h7 HW6
            go_wp2
            first | go_quiet (fail) | skip
            go_wp2
            go_roundw
            case rel => exact ⟨q + 1, L2, g, ⟨_, seen, stamp⟩, g.done, g.l.length, steps + 1, by omega, by first | rfl | go_num, by first | rfl | go_num, by go_num, by go_num, HW7.out.later (by first | exact Below.refl _ _ | exact below_drawn (Below.refl _ _) _), HOK2.out, HE.out.gok, HGZ2.out, HSN.out, HE.out.size, HLEN2.out, by have := HE.out.many; omega, by have := HE.out.many; have := HE.out.gok.da; have := HE.out.gok.an; have := HE.out.lq; omega, by have := HE.out.many; have := HE.out.nq; omega, by have := HE.out.sq; omega⟩
            case measure => simp [intOf]; omega
        · have hL2 : (nextL 4 s s b L 1).length ≤ L.length + 1 := nextL_len 4 s s b L 1
          have HLEN2 : Hid ((nextL 4 s s b L 1).length ≤ 14 * (q + 1)) := by have := HE.out.len; rw [Hid]; omega
          have HOK2 : Hid (BOk s (nextB s s b L)) := by
            have := bok_next2 (L := L) (g := g) (b := b) (by rw [HE.out.size]; exact HE.out.ok) HE.out.gz HE.out.gok
            rw [HE.out.size] at this
            exact this
          have HGZ2 : Hid (Gz (wordOf (nextL 4 s s b L 1)) g) := by rw [Hid, wordOf_next]; exact HE.out.gz
          have HSN : Hid (Sn g (nextB s s b L) least newest (steps + 1)) := by
            have := sn_next HE.out.sn HE.out.gz HE.out.gok
            rw [HE.out.size] at this
            rw [if_neg hst, if_neg hst] at this
            exact this
          have HT : Hid (∀ w', SW w w' bs (.pointer (some ⟨M, 0, none⟩)) L bs Gk g b → Calls Try.prog 14 #[.pointer (some ⟨bs, 0, none⟩), (.pointer (some ⟨M, 0, none⟩)), .int .i64 1] w' fun e w'' => e = .returned (.agg #[.int .i64 (ansK s s b L), .int .i64 0, .int .i64 0, .bool (goesB s s b)]) ∧ SW w w'' bs (.pointer (some ⟨M, 0, none⟩)) (nextL 4 s s b L 1) bs Gk g (nextB s s b L)) := fun w' h => by
            have := sw_step h (by omega) (by rw [HE.out.size]; exact HE.out.ok) 1
            rw [HE.out.size] at this
            exact this
          have HTS : Hid (∀ w', SW w w' bs (.pointer (some ⟨M, 0, none⟩)) (nextL 4 s s b L 1) bs Gk g (nextB s s b L) → Calls Try.prog 20 #[.pointer (some ⟨bs, 0, none⟩)] w' fun e w'' => e = .returned (.tuple #[.int .i64 (if (nextB s s b L).st = 2 then (nextB s s b L).stamp else 0), .int .i64 (if (nextB s s b L).st = 2 then (nextB s s b L).seen else 0), .bool (decide ((nextB s s b L).st = 2))]) ∧ SW w w'' bs (.pointer (some ⟨M, 0, none⟩)) (nextL 4 s s b L 1) bs Gk g (nextB s s b L)) := fun w' h => sw_start h
          generalize ansK s s b L = kk at *
          generalize goesB s s b = gg at *
          generalize nextL 4 s s b L 1 = L2 at *
          generalize nextB s s b L = b2 at *
          have dst : ((steps : Int) == 0) = false := by simp; omega
          have HWZ : Hid (SW w wr bs (.pointer (some ⟨M, 0, none⟩)) L bs Gk g b) := HE.out.way
          obtain ⟨st', seen, stamp⟩ := b2
          by_cases e2s : st' = 2
          · subst e2s
            obtain ⟨sb1, sb2, sb3⟩ : seen = ((newest : Nat) : Int) ∧ ((least : Nat) : Int) ≤ stamp ∧ stamp ≤ (g.done : Int) := by
              rcases HSN.out.c with ⟨h0, _⟩ | ⟨_, h2, _, _, _, h6⟩
              · omega
              · rcases h6 with ⟨c1, _⟩ | ⟨_, c2, c3⟩
                · simp at c1
                · exact ⟨h2, c2, c3⟩
            replace HTS : Hid (∀ w', SW w w' bs (.pointer (some ⟨M, 0, none⟩)) L2 bs Gk g ⟨2, seen, stamp⟩ → Calls Try.prog 20 #[.pointer (some ⟨bs, 0, none⟩)] w' fun e w'' => e = .returned (.tuple #[.int .i64 stamp, .int .i64 seen, .bool true]) ∧ SW w w'' bs (.pointer (some ⟨M, 0, none⟩)) L2 bs Gk g ⟨2, seen, stamp⟩) := fun w' h => HTS.out w' h
            have q1 : decide (stamp < ((least : Nat) : Int)) = false := by simp; omega
            have q2 : decide (stamp > (g.done : Int)) = false := by simp; omega
            have q3 : (seen != ((newest : Nat) : Int)) = false := by simp [sb1]
            clear sb1
            go_wp2_with fail
            refine (HT.out _ HWZ.out).mono ?_
            rintro e y6 ⟨rfl, h6⟩
            have HW6 : Hid (SW w y6 bs (.pointer (some ⟨M, 0, none⟩)) L2 bs Gk g ⟨2, seen, stamp⟩) := h6
            clear h6
            go_wp2_with fail
            refine (HTS.out _ HW6.out).mono ?_
            rintro e y7 ⟨rfl, h7⟩
            have HW7 : Hid (SW w y7 bs (.pointer (some ⟨M, 0, none⟩)) L2 bs Gk g ⟨2, seen, stamp⟩) := h7
            obtain ⟨_, g3⟩ := h7.cells
            clear h7 HW6
            go_wp2
            first | go_quiet (fail) | skip
            go_wp2
            go_roundw
            case rel => exact ⟨q + 1, L2, g, ⟨_, seen, stamp⟩, least, newest, steps + 1, by omega, by first | rfl | go_num, by first | rfl | go_num, by go_num, by go_num, HW7.out.later (by first | exact Below.refl _ _ | exact below_drawn (Below.refl _ _) _), HOK2.out, HE.out.gok, HGZ2.out, HSN.out, HE.out.size, HLEN2.out, by have := HE.out.many; omega, by have := HE.out.many; have := HE.out.gok.da; have := HE.out.gok.an; have := HE.out.lq; omega, by have := HE.out.many; have := HE.out.nq; omega, by have := HE.out.sq; omega⟩
            case measure => simp [intOf]; omega
          · replace HTS : Hid (∀ w', SW w w' bs (.pointer (some ⟨M, 0, none⟩)) L2 bs Gk g ⟨st', seen, stamp⟩ → Calls Try.prog 20 #[.pointer (some ⟨bs, 0, none⟩)] w' fun e w'' => e = .returned (.tuple #[.int .i64 0, .int .i64 0, .bool false]) ∧ SW w w'' bs (.pointer (some ⟨M, 0, none⟩)) L2 bs Gk g ⟨st', seen, stamp⟩) := fun w' h => by
              have := HTS.out w' h
              simp only at this
              rw [if_neg e2s, if_neg e2s, show decide (st' = 2) = false by simpa using e2s] at this
              exact this
            go_wp2_with fail
            refine (HT.out _ HWZ.out).mono ?_
            rintro e y6 ⟨rfl, h6⟩
            have HW6 : Hid (SW w y6 bs (.pointer (some ⟨M, 0, none⟩)) L2 bs Gk g ⟨st', seen, stamp⟩) := h6
            clear h6
            go_wp2_with fail
            refine (HTS.out _ HW6.out).mono ?_
            rintro e y7 ⟨rfl, h7⟩
            have HW7 : Hid (SW w y7 bs (.pointer (some ⟨M, 0, none⟩)) L2 bs Gk g ⟨st', seen, stamp⟩) := h7
            obtain ⟨_, g3⟩ := h7.cells
            clear h7 HW6
            go_wp2
            first | go_quiet (fail) | skip
            go_wp2
            go_roundw
            case rel => exact ⟨q + 1, L2, g, ⟨_, seen, stamp⟩, least, newest, steps + 1, by omega, by first | rfl | go_num, by first | rfl | go_num, by go_num, by go_num, HW7.out.later (by first | exact Below.refl _ _ | exact below_drawn (Below.refl _ _) _), HOK2.out, HE.out.gok, HGZ2.out, HSN.out, HE.out.size, HLEN2.out, by have := HE.out.many; omega, by have := HE.out.many; have := HE.out.gok.da; have := HE.out.gok.an; have := HE.out.lq; omega, by have := HE.out.many; have := HE.out.nq; omega, by have := HE.out.sq; omega⟩
            case measure => simp [intOf]; omega
      · have dk : (kd != 0) = true := by simpa using hk0
        have HAC : Hid (∀ w' kk, SW w w' bs (.pointer (some ⟨M, 0, none⟩)) L bs Gk g b → Calls Try.prog 21 #[.pointer (some ⟨Gk, 0, none⟩), (.pointer (some ⟨M, 0, none⟩)), .int .i64 kk, .slice ua nu ucap] w' fun e w'' => e = .returned (.tuple #[]) ∧ Sees_ w w'' bs (.pointer (some ⟨M, 0, none⟩)) bs Gk s (q + 1) (actS 4 kk Wl (g, L)).2 (actS 4 kk Wl (g, L)).1 b least newest steps) := fun w' kk h => by
          refine (sw_act h (by omega) HE.out.gok kk (.slice ua nu ucap) Wl (HU.out _ h.bel)).mono ?_
          rintro e w'' ⟨rfl, h2⟩
          obtain ⟨a1, a2, a3⟩ := act_grows (c := 4) (k := kk) (S := Wl) (s := (g, L))
          have a4 := act_len (c := 4) (k := kk) (S := Wl) (s := (g, L))
          simp only at a1 a2 a3 a4
          exact ⟨rfl, h2, HE.out.ok, gok_act HE.out.gok (by simp only; omega), gz_act HE.out.gz HE.out.gok, sn_act HE.out.sn len_act, a2.trans HE.out.size, by omega, by omega, by omega, by omega, by omega⟩
        have HWR := HE.out.way.later (below_drawn (Below.refl wr.heap.size wr) 1)
        go_wp2_with fail
        go_region_with ((go_at_call 21; refine (HAC.out _ _ HWR).mono ?_; rintro e y6 ⟨rfl, h6⟩))
        all_goals
          obtain ⟨L2, hL2⟩ : ∃ L2, L2 = (actS 4 (IntKind.i64.wrap (kd - 1)) Wl (g, L)).2 := ⟨_, rfl⟩
          obtain ⟨g2, hg2⟩ : ∃ g2, g2 = (actS 4 (IntKind.i64.wrap (kd - 1)) Wl (g, L)).1 := ⟨_, rfl⟩
          have HW6 : Hid (Sees_ w y6 bs (.pointer (some ⟨M, 0, none⟩)) bs Gk s (q + 1) L2 g2 b least newest steps) := by rw [hL2, hg2]; exact h6
          clear h6 hL2 hg2 c0 c1
          go_wp2
          go_roundw
          case rel => exact ⟨q + 1, L2, g2, b, least, newest, steps, by omega, rfl, rfl, rfl, by go_num, HW6.out⟩
          case measure => simp [intOf]; omega
    · obtain rfl : q = n := by omega
      have hd : decide ((q : Int) < (q : Int)) = false := by simp
      have HBE : Hid (Below w.heap.size w wr) := HE.out.way.bel
      go_wp2
      go_ret
      exact ⟨rfl, HBE.out⟩
end Go.Proofs.Ytcckdjmbjghbdaa
