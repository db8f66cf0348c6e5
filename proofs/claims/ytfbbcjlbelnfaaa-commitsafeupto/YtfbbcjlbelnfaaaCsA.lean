/- A machine of layer 8 beside a memory and a ring that grows. -/
import Derived.Test.YtfbbcjlbelnfaaaCsM
import Derived.Test.YtfbbcjlbelnfaaaCgS
namespace Go.Proofs.Ytfbbcjlbelnfaaa
open Go.ChangeShapes Go.WideShapes Go.ChangeAt Go.RowKit
attribute [local go_sem ↓] Go.wp_at_zero Go.wp_at_succ

/-- A ring and its memory under way. -/
structure FW (w0 w : World) (base : Nat) (p : Value) (L : List Ac) (Gk : Nat) (g : GR) : Prop where
  all : ∃ F P, GM w base p 8 L F Gk g P
  bel : Below w0.heap.size w0 w
  lo : w0.heap.size ≤ base
  size : base ≤ w.heap.size
theorem fw_act {w0 w : World} {base M : Nat} {L : List Ac} {Gk : Nat} {g : GR} (h : FW w0 w base (.pointer (some ⟨M, 0, none⟩)) L Gk g) (hL : L.length < 3298534882000) (hk : GOk g) (kind : Int) (va : Value) (S : List Wt) (hS : WLst w va S) :
    Calls Try.prog 21 #[.pointer (some ⟨Gk, 0, none⟩), .pointer (some ⟨M, 0, none⟩), .int .i64 kind, va] w fun e w' => e = .returned (.tuple #[]) ∧ FW w0 w' base (.pointer (some ⟨M, 0, none⟩)) (actS 8 kind S (g, L)).2 Gk (actS 8 kind S (g, L)).1 := by
  obtain ⟨F, P, h1⟩ := h.all
  have hbl : ∀ {F' P' : List Nat} {w' : World}, Next (F ++ P) (F' ++ P') w w' → Below w0.heap.size w0 w' := fun hn => h.bel.trans (hn.below h.bel.size (fun q hq => by
    have hlo := h.lo
    rcases List.mem_append.1 hq with h3 | h3
    · have := (h1.mem.lt q h3).1; omega
    · have := (h1.gr.lt q h3).1; omega))
  by_cases hk0 : kind % 5 = 0
  · have e : actS 8 kind S (g, L) = pubS 8 S (g, L) := by unfold actS; rw [if_pos hk0]
    rw [e]
    refine (act_pub h1 h.size hL hk (by decide) (by decide) kind va S hS hk0).mono ?_
    rintro e w' ⟨rfl, F', P', h2, hn⟩
    exact ⟨rfl, ⟨F', P', h2⟩, hbl hn, h.lo, Nat.le_trans h.size hn.1.size⟩
  · have e : actS 8 kind S (g, L) = if kind % 5 = 1 then layS 8 (g, L) else if kind % 5 = 2 then backS 8 (g, L) else if kind % 5 = 3 then endS 8 (g, L) else allS 8 (g, L) := by unfold actS; rw [if_neg hk0]
    rw [e]
    refine (act_some h1 h.size hL hk kind va hk0).mono ?_
    rintro e w' ⟨rfl, F', P', h2, hn, _⟩
    exact ⟨rfl, ⟨F', P', h2⟩, hbl hn, h.lo, Nat.le_trans h.size hn.1.size⟩
/-- A machine besides, and rows that are kept. -/
structure KAll (w : World) (base : Nat) (p : Value) (L : List Ac) (X Gk : Nat) (g : GR) (C : Cp) (b : Ck) (R : List (Nat × Obj)) (F P : List Nat) : Prop where
  gm : GM w base p 8 L F Gk g P
  at_ : KAt w X C b
  out : X ∉ F ++ P
  lo : base ≤ X
  kept : Kept w (X :: (F ++ P)) R
structure KW (w0 w : World) (base : Nat) (p : Value) (L : List Ac) (X Gk : Nat) (g : GR) (C : Cp) (b : Ck) (R : List (Nat × Obj)) : Prop where
  all : ∃ F P, KAll w base p L X Gk g C b R F P
  bel : Below w0.heap.size w0 w
  lo : w0.heap.size ≤ base
  size : base ≤ w.heap.size
theorem KW.later {w0 w w' : World} {base : Nat} {p : Value} {L : List Ac} {X Gk : Nat} {g : GR} {C : Cp} {b : Ck} {R : List (Nat × Obj)} (h : KW w0 w base p L X Gk g C b R) (hb : Below w.heap.size w w') : KW w0 w' base p L X Gk g C b R := by
  obtain ⟨F, P, h1⟩ := h.all
  exact ⟨⟨F, P, h1.gm.below hb, h1.at_.below hb (heap_lt h1.at_), h1.out, h1.lo, h1.kept.later hb⟩, below_then h.bel hb, h.lo, Nat.le_trans h.size hb.size⟩
theorem KW.more {w0 w : World} {base : Nat} {p : Value} {L : List Ac} {X Gk : Nat} {g : GR} {C : Cp} {b : Ck} {R : List (Nat × Obj)} (h : KW w0 w base p L X Gk g C b R) (o : Obj) : KW w0 (w.alloc o) base p L X Gk g C b ((w.heap.size, o) :: R) := by
  obtain ⟨F, P, h1⟩ := h.all
  refine ⟨⟨F, P, h1.gm.below (below_a1 _ _), h1.at_.alloc _, h1.out, h1.lo, h1.kept.more (fun q hq => ?_) o⟩, below_then h.bel (below_a1 _ _), h.lo, by have := h.size; simp; omega⟩
  rcases List.mem_cons.1 hq with rfl | hq
  · exact heap_lt h1.at_
  · rcases List.mem_append.1 hq with h3 | h3
    · exact (h1.gm.mem.lt q h3).2
    · exact (h1.gm.gr.lt q h3).2
theorem KW.less {w0 w : World} {base : Nat} {p : Value} {L : List Ac} {X Gk : Nat} {g : GR} {C : Cp} {b : Ck} {R R' : List (Nat × Obj)} (h : KW w0 w base p L X Gk g C b R) (hs : ∀ z ∈ R', z ∈ R) : KW w0 w base p L X Gk g C b R' := by
  obtain ⟨F, P, h1⟩ := h.all
  exact ⟨⟨F, P, h1.gm, h1.at_, h1.out, h1.lo, fun z hz => h1.kept z (hs z hz)⟩, h.bel, h.lo, h.size⟩
theorem KW.row {w0 w : World} {base : Nat} {p : Value} {L : List Ac} {X Gk : Nat} {g : GR} {C : Cp} {b : Ck} {R : List (Nat × Obj)} (h : KW w0 w base p L X Gk g C b R) {B : Nat} {o : Obj} (hz : (B, o) ∈ R) : w.heap[B]? = some o := by
  obtain ⟨F, P, h1⟩ := h.all
  exact (h1.kept _ hz).1
theorem KW.cells {w0 w : World} {base : Nat} {p : Value} {L : List Ac} {X Gk : Nat} {g : GR} {C : Cp} {b : Ck} {R : List (Nat × Obj)} (h : KW w0 w base p L X Gk g C b R) : (∃ a cap, w.cell? ⟨Gk, 1, none⟩ = some (.slice a g.l.length cap)) ∧ w.cell? ⟨Gk, 3, none⟩ = some (.int .i64 (g.done : Int)) := by
  obtain ⟨F, P, h1⟩ := h.all
  obtain ⟨v, us, hg⟩ := h1.gm.gr
  obtain ⟨a, cap, rfl⟩ := own_slice hg.own
  exact ⟨⟨a, cap, hg.cells.1.2.1⟩, hg.cells.1.2.2.2⟩
theorem FW.cells {w0 w : World} {base : Nat} {p : Value} {L : List Ac} {Gk : Nat} {g : GR} (h : FW w0 w base p L Gk g) : w.cell? ⟨Gk, 3, none⟩ = some (.int .i64 (g.done : Int)) := by
  obtain ⟨F, P, h1⟩ := h.all
  obtain ⟨v, us, hg⟩ := h1.gr
  exact hg.cells.1.2.2.2
theorem FW.later {w0 w w' : World} {base : Nat} {p : Value} {L : List Ac} {Gk : Nat} {g : GR} (h : FW w0 w base p L Gk g) (hb : Below w.heap.size w w') : FW w0 w' base p L Gk g := by
  obtain ⟨F, P, h1⟩ := h.all
  exact ⟨⟨F, P, h1.below hb⟩, below_then h.bel hb, h.lo, Nat.le_trans h.size hb.size⟩
theorem KW.okS {w0 w : World} {base : Nat} {p : Value} {L : List Ac} {X Gk : Nat} {g : GR} {C : Cp} {b : Ck} {R : List (Nat × Obj)} (h : KW w0 w base p L X Gk g C b R) : ∀ e ∈ g.l, Sg.Ok e.s := by
  obtain ⟨F, P, h1⟩ := h.all
  obtain ⟨v, us, hg⟩ := h1.gm.gr
  exact hg.okS
theorem kw_shares {w0 w : World} {base : Nat} {p : Value} {L : List Ac} {X Gk : Nat} {g : GR} {C : Cp} {b : Ck} {R : List (Nat × Obj)} (h : KW w0 w base p L X Gk g C b R) (hk : GOk g) (x y : Int) (rd : List Nat) (hr : Sg.Ok rd) :
    Calls Try.prog 23 #[.pointer (some ⟨Gk, 0, none⟩), .int .i64 x, .int .i64 y, .agg #[rdV rd 0, rdV rd 1, rdV rd 2, rdV rd 3, rdV rd 4, rdV rd 5, rdV rd 6, rdV rd 7]] w fun e w' => e = .returned (.bool (sharesV g x y rd)) ∧ KW w0 w' base p L X Gk g C b R := by
  obtain ⟨F, P, h1⟩ := h.all
  refine (shares_any h1.gm.gr hk x y rd hr).mono ?_
  rintro e w' ⟨rfl, hb⟩
  exact ⟨rfl, h.later hb⟩
theorem kw_start {w0 w : World} {base : Nat} {p : Value} {L : List Ac} {X Gk : Nat} {g : GR} {C : Cp} {b : Ck} {R : List (Nat × Obj)} (h : KW w0 w base p L X Gk g C b R) :
    Calls Try.prog 49 #[.pointer (some ⟨X, 0, none⟩)] w fun e w' => e = .returned (.tuple #[.int .i64 (if b.st = 4 then b.comp else 0), .int .i64 (if b.st = 4 then b.seen else 0), .bool (decide (b.st = 4))]) ∧ KW w0 w' base p L X Gk g C b R := by
  obtain ⟨F, P, h1⟩ := h.all
  refine (cstart_any h1.at_).mono ?_
  rintro e w' ⟨rfl, hb⟩
  exact ⟨rfl, h.later hb⟩
theorem kw_next {w0 w w' : World} {base : Nat} {p : Value} {L L' : List Ac} {X Gk : Nat} {g g' : GR} {C : Cp} {b : Ck} {R : List (Nat × Obj)} {F P F' P' : List Nat} (h : KW w0 w base p L X Gk g C b R) (h1 : KAll w base p L X Gk g C b R F P) (h2 : GM w' base p 8 L' F' Gk g' P') (hn : Next (F ++ P) (F' ++ P') w w') : KW w0 w' base p L' X Gk g' C b R :=
  ⟨⟨F', P', h2, h1.at_.keep hn.1 h1.out, fun e => by
      rcases hn.2 X e with h3 | h3
      · exact h1.out h3
      · have := heap_lt h1.at_; omega, h1.lo, h1.kept.next (nextX hn)⟩, h.bel.trans (hn.below h.bel.size (fun q hq => by
      have hlo := h.lo
      rcases List.mem_append.1 hq with h3 | h3
      · have := (h1.gm.mem.lt q h3).1; omega
      · have := (h1.gm.gr.lt q h3).1; omega)), h.lo, Nat.le_trans h.size hn.1.size⟩
theorem kw_act {w0 w : World} {base M : Nat} {L : List Ac} {X Gk : Nat} {g : GR} {C : Cp} {b : Ck} {R : List (Nat × Obj)} (h : KW w0 w base (.pointer (some ⟨M, 0, none⟩)) L X Gk g C b R) (hL : L.length < 3298534882000) (hk : GOk g) (kind : Int) (va : Value) (S : List Wt) (hS : WLst w va S) :
    Calls Try.prog 21 #[.pointer (some ⟨Gk, 0, none⟩), .pointer (some ⟨M, 0, none⟩), .int .i64 kind, va] w fun e w' => e = .returned (.tuple #[]) ∧ KW w0 w' base (.pointer (some ⟨M, 0, none⟩)) (actS 8 kind S (g, L)).2 X Gk (actS 8 kind S (g, L)).1 C b R := by
  obtain ⟨F, P, h1⟩ := h.all
  by_cases hk0 : kind % 5 = 0
  · have e : actS 8 kind S (g, L) = pubS 8 S (g, L) := by unfold actS; rw [if_pos hk0]
    rw [e]
    refine (act_pub h1.gm h.size hL hk (by decide) (by decide) kind va S hS hk0).mono ?_
    rintro e w' ⟨rfl, F', P', h2, hn⟩
    exact ⟨rfl, kw_next h h1 h2 hn⟩
  · have e : actS 8 kind S (g, L) = if kind % 5 = 1 then layS 8 (g, L) else if kind % 5 = 2 then backS 8 (g, L) else if kind % 5 = 3 then endS 8 (g, L) else allS 8 (g, L) := by unfold actS; rw [if_neg hk0]
    rw [e]
    refine (act_some h1.gm h.size hL hk kind va hk0).mono ?_
    rintro e w' ⟨rfl, F', P', h2, hn, _⟩
    exact ⟨rfl, kw_next h h1 h2 hn⟩
theorem kw_step {w0 w : World} {base : Nat} {p : Value} {L : List Ac} {X Gk : Nat} {g : GR} {C : Cp} {b : Ck} {R : List (Nat × Obj)} {n : Nat} (h : KW w0 w base p L X Gk g C b R) (hs : C.s = g.size) (hL : L.length < 3298534883328) (hk : KOk C b n) (hv : W64 (wordOf L (adK C b))) (t : Int) :
    Calls Try.prog 48 #[.pointer (some ⟨X, 0, none⟩), p, .int .i64 t] w fun e w' => e = .returned (ansE (ansKK C.s C b L) (errKK C.s C b L) (goesK C.s C b)) ∧ KW w0 w' base p (nextKL 8 C.s C b L t) X Gk g C (nextK C.s C b L) R := by
  obtain ⟨F, P, h1⟩ := h.all
  have hX : X < w.heap.size := heap_lt h1.at_
  have hXF : X ∉ F := fun e => h1.out (List.mem_append_left _ e)
  by_cases hgo : goesK C.s C b = true
  · unfold ansKK errKK nextKL nextK
    rw [if_pos hgo, if_pos hgo, if_pos hgo, if_pos hgo, hgo]
    refine (cstep_some ⟨by rw [hs]; exact h1.gm.mem, h1.at_, hXF, h1.lo⟩ h.size hL hk (goesK_iff.mp hgo).1 hv t).mono ?_
    rintro e w' ⟨rfl, F', h2, hn⟩
    have hd : ∀ q ∈ P, q ∉ X :: F := fun q hq e => by
      rcases List.mem_cons.1 e with rfl | e
      · exact h1.out (List.mem_append_right _ hq)
      · exact h1.gm.apart q e hq
    have hnn : Next (X :: (F ++ P)) (X :: (F' ++ P)) w w' := ⟨hn.1.mono (fun q hq => by
        rcases List.mem_cons.1 hq with rfl | hq
        · simp
        · simp [hq]), fun q hq => by
        rcases List.mem_cons.1 hq with rfl | hq
        · exact Or.inl (by simp)
        · rcases List.mem_append.1 hq with h3 | h3
          · rcases hn.2 q (List.mem_cons_of_mem _ h3) with h4 | h4
            · rcases List.mem_cons.1 h4 with rfl | h4
              · exact Or.inl (by simp)
              · exact Or.inl (by simp [h4])
            · exact Or.inr h4
          · exact Or.inl (by simp [h3])⟩
    refine ⟨rfl, ⟨F', P, ⟨by rw [← hs]; exact h2.mem, h1.gm.gr.keep hn.1 hd, fun q hq hp => ?_⟩, h2.at_, fun e => ?_, h1.lo, h1.kept.next hnn⟩, h.bel.trans (hn.below h.bel.size (fun q hq => ?_)), h.lo, Nat.le_trans h.size hn.1.size⟩
    · rcases hn.2 q (List.mem_cons_of_mem _ hq) with h3 | h3
      · exact hd q hp h3
      · have := (h1.gm.gr.lt q hp).2; omega
    · rcases List.mem_append.1 e with h3 | h3
      · exact h2.out h3
      · exact h1.out (List.mem_append_right _ h3)
    · have hlo := h.lo
      rcases List.mem_cons.1 hq with rfl | hq
      · have := h1.lo; omega
      · have := (h1.gm.mem.lt q hq).1; omega
  · unfold ansKK errKK nextKL nextK
    have hgo' : goesK C.s C b = false := by simpa using hgo
    rw [if_neg hgo, if_neg hgo, if_neg hgo, if_neg hgo, hgo']
    refine (cstep_none (r := C.s) (by rw [hs]; exact h1.gm.mem) h1.at_ hgo' t).mono ?_
    rintro e w' ⟨rfl, hb⟩
    exact ⟨rfl, h.later hb⟩
theorem clash_meet {g : GR} {rd : List Nat} {t : Nat} (ho : Sg.Ok (g.l.getD (t - 1) noGE).s) (hr : Sg.Ok rd) : Clash g rd t ↔ Sg.meet (g.l.getD (t - 1) noGE).s rd ≠ Sg.nought := by
  have hg : ∀ j, j < 8 → (Sg.meet (g.l.getD (t - 1) noGE).s rd).getD j 0 = (eS g t j &&& rd.getD j 0) := fun j hj => by
    unfold Sg.meet eS
    simp only [List.getD_eq_getElem?_getD]
    have h1 : j < (g.l[t - 1]?.getD noGE).s.length := by have := ho.1; simp only [List.getD_eq_getElem?_getD] at this; omega
    have h2 : j < rd.length := by have := hr.1; omega
    simp [List.getElem?_zipWith, h1, h2]
  constructor
  · rintro ⟨j, hj, hc⟩ e
    rw [← hg j hj, e] at hc
    apply hc
    rcases j with _ | _ | _ | _ | _ | _ | _ | _ | j
    all_goals first
      | rfl
      | omega
  · intro hne
    refine Classical.byContradiction fun hnc => hne ?_
    have hm := (Sg.ok_meet ho hr).1
    apply List.ext_getElem (by rw [hm]; rfl)
    intro j h1 h2
    have hj : j < 8 := by omega
    have e1 : (Sg.meet (g.l.getD (t - 1) noGE).s rd)[j] = (Sg.meet (g.l.getD (t - 1) noGE).s rd).getD j 0 := by rw [List.getD_eq_getElem?_getD (l := Sg.meet (g.l.getD (t - 1) noGE).s rd), List.getElem?_eq_getElem h1, Option.getD_some]
    rw [e1, hg j hj]
    have hz : (eS g t j &&& rd.getD j 0) = 0 := Classical.byContradiction fun e => hnc ⟨j, hj, e⟩
    rw [hz]
    rcases j with _ | _ | _ | _ | _ | _ | _ | _ | j
    all_goals first
      | rfl
      | omega
theorem shares_iff {g : GR} {x y : Int} {rd : List Nat} (ho : ∀ e ∈ g.l, Sg.Ok e.s) (hr : Sg.Ok rd) (hx : 0 ≤ x) : sharesV g x y rd = true ↔ ∃ t : Nat, x < (t : Int) ∧ (t : Int) ≤ y ∧ t ≤ g.l.length ∧ Clash g rd t := by
  have hoi : ∀ i, i < g.l.length → Sg.Ok (g.l.getD i noGE).s := fun i hi => ho _ (by
    have : g.l.getD i noGE = g.l[i] := by simp [List.getD_eq_getElem?_getD, hi]
    rw [this]; exact List.getElem_mem hi)
  unfold sharesV
  rw [List.any_eq_true]
  constructor
  · rintro ⟨i, hi, h⟩
    have hi' : i < g.l.length := by simpa using hi
    unfold shareAt at h
    simp only [Bool.and_eq_true, decide_eq_true_eq, Bool.not_eq_true', beq_eq_false_iff_ne] at h
    refine ⟨i + 1, by omega, by omega, by omega, (clash_meet (t := i + 1) (by simpa using hoi i hi') hr).mpr (by simpa using h.2)⟩
  · rintro ⟨t, h1, h2, h3, h4⟩
    refine ⟨t - 1, by simp; omega, ?_⟩
    unfold shareAt
    have h5 := (clash_meet (hoi (t - 1) (by omega)) hr).mp h4
    simp only [Bool.and_eq_true, decide_eq_true_eq, Bool.not_eq_true', beq_eq_false_iff_ne]
    exact ⟨⟨by omega, by omega⟩, h5⟩
theorem adK_w {L : List Ac} {g : GR} {C : Cp} {b : Ck} {n : Nat} (hs : C.s = g.size) (hk : KOk C b n) (hz : Gz (wordOf L) g) (hg : Gs (wordOf L) g) (ho : GOk g) (hf : b.st = 1 → b.seen ≤ (g.l.length : Int)) : W64 (wordOf L (adK C b)) := by
  have hl := ho.len
  have hda := ho.da
  have han := ho.an
  have hs1 := ho.s1
  have hsz : sizeOk (C.s : Int) = true := by rw [hs]; exact sizeOk_iff.mpr ⟨by omega, by have := ho.s16; omega⟩
  unfold adK
  by_cases e1 : b.st = 1
  · rw [if_pos e1]
    have km := (kok_mid hk (Or.inl e1)).1
    have hz0 := hk.p.z0
    have kl := km.lo
    have kh := km.hi
    have hse := hf e1
    unfold slotV
    rw [if_pos hsz, hs]
    have hnd := hz.nd
    have hs0 : (g.size : Int) ≠ 0 := by omega
    have key : ∃ u : Int, (g.laid : Int) - (g.size : Int) < u ∧ u ≤ (g.laid : Int) ∧ u % (g.size : Int) = b.stamp % (g.size : Int) := by
      have hm := Int.emod_nonneg ((g.laid : Int) - b.stamp) hs0
      have hm2 := Int.emod_lt_of_pos ((g.laid : Int) - b.stamp) (show (0 : Int) < (g.size : Int) by omega)
      have hd := Int.mul_ediv_add_emod ((g.laid : Int) - b.stamp) (g.size : Int)
      refine ⟨b.stamp + (g.size : Int) * (((g.laid : Int) - b.stamp) / (g.size : Int)), by omega, by omega, Int.add_mul_emod_self_left _ _ _⟩
    obtain ⟨u, u1, u2, u3⟩ := key
    rw [← u3, hz.h u u1 u2]
    unfold hdZ W64
    split
    · omega
    · split <;> omega
  · rw [if_neg e1]
    by_cases e2 : b.st = 2
    · rw [if_pos e2]; exact hg.w _ _
    · rw [if_neg e2, hz.n]; unfold W64; omega
end Go.Proofs.Ytfbbcjlbelnfaaa
