/- A collection as it lies, and its counter's calls: the program's. -/
import Derived.Test.YtgbmnngmfcneaaaPlC
namespace Go.Proofs.Ytgbmnngmfcneaaa.Pl
open Go.ChangeShapes Go.WideShapes Go.ChangeAt Go.RowKit
attribute [local go_sem ↓] Go.wp_at_zero Go.wp_at_succ

/-- A collection lies in the midst of a row of them. -/
structure ColAt (w : World) (B g o : Nat) (L : List Value) (c : Co) (v p : Value) : Prop where
  hg : w.heap[g]? = some (.cells L.toArray 70 (0, 0))
  gB : B ≤ g
  h0 : L[o]? = some (.int .i64 c.kd)
  h1 : L[o + 1]? = some (.int .i64 c.cap)
  h2 : L[o + 2]? = some v
  h3 : L[o + 3]? = some p
  hv : w.ownsRow B 2 1 v c.vs.length (numC c.vs)
  hp : w.ownsRow B 52 2 p c.ps.length (prC c.ps)
  ok : CoOk c
/-- A row lies where another lay, or in new memory. -/
def Fr (w : World) (v v' : Value) : Prop := ∀ b, v'.ownBlock = some b → v.ownBlock = some b ∨ w.heap.size ≤ b
theorem Fr.refl (w : World) (v : Value) : Fr w v v := fun _ h => Or.inl h
theorem Fr.of {w w1 : World} {v v' : Value} (h : Next v.ownBlock.toList v'.ownBlock.toList w w1) : Fr w v v' := fun b hb => by
  have := h.2 b (by simpa using hb)
  simpa using this
theorem Fr.later {w w1 : World} {v v' : Value} (hs : w.heap.size ≤ w1.heap.size) (h : Fr w1 v v') : Fr w v v' := fun b hb => by
  rcases h b hb with h1 | h1
  · exact Or.inl h1
  · exact Or.inr (Nat.le_trans hs h1)
/-- What a call answers, and what it leaves. -/
def Did (w : World) (B g o : Nat) (L : List Value) (v p : Value) (x : (Int × Int) × Co) : Ending → World → Prop := fun e w' => e = .returned (.tuple #[.int .i64 x.1.1, .int .i64 x.1.2]) ∧ ∃ v' p', ColAt w' B g o ((L.set (o + 2) v').set (o + 3) p') x.2 v' p' ∧ Keep (g :: (v.ownBlock.toList ++ p.ownBlock.toList)) w w' ∧ Fr w v v' ∧ Fr w p p'
theorem i64_pair : (2 : TypeId) ≠ 52 := by decide
theorem i64_coll : (70 : TypeId) ≠ 2 := by decide
theorem pair_coll : (70 : TypeId) ≠ 52 := by decide
theorem list_set_self {α : Type} {L : List α} {i : Nat} {v : α} (h : L[i]? = some v) : L.set i v = L := by
  apply List.ext_getElem?
  intro j
  rw [List.getElem?_set]
  split
  · rename_i e
    subst e
    split
    · exact h.symm
    · rename_i hn
      rw [List.getElem?_eq_none (by omega)] at h
      cases h
  · rfl
theorem ColAt.L2 {w : World} {B g o : Nat} {L : List Value} {c : Co} {v p : Value} (h : ColAt w B g o L c v p) : (L.set (o + 2) v).set (o + 3) p = L := by
  rw [list_set_self h.h2, list_set_self h.h3]
theorem ColAt.later {w w' : World} {B g o : Nat} {L : List Value} {c : Co} {v p : Value} (h : ColAt w B g o L c v p) (hb : Below w.heap.size w w') : ColAt w' B g o L c v p :=
  ⟨by rw [hb.block _ (heap_lt h.hg)]; exact h.hg, h.gB, h.h0, h.h1, h.h2, h.h3, own_keep h.hv (Keep.of_below hb []) (by simp), own_keep h.hp (Keep.of_below hb []) (by simp), h.ok⟩
theorem ColAt.cells {w : World} {B g o : Nat} {L : List Value} {c : Co} {v p : Value} (h : ColAt w B g o L c v p) : w.cell? ⟨g, o, none⟩ = some (.int .i64 c.kd) ∧ w.cell? ⟨g, o + 1, none⟩ = some (.int .i64 c.cap) ∧ w.cell? ⟨g, o + 2, none⟩ = some v ∧ w.cell? ⟨g, o + 3, none⟩ = some p := by
  have e : ∀ i : Nat, w.cell? ⟨g, i, none⟩ = L[i]? := fun i => by rw [cell_at h.hg]; simp
  exact ⟨(e _).trans h.h0, (e _).trans h.h1, (e _).trans h.h2, (e _).trans h.h3⟩
theorem ColAt.frozen {w : World} {B g o : Nat} {L : List Value} {c : Co} {v p : Value} (h : ColAt w B g o L c v p) (i : Nat) : w.frozen? ⟨g, i, none⟩ = false := frozen_at h.hg i
theorem Did.same {w w' : World} {B g o : Nat} {L : List Value} {c : Co} {v p : Value} (h : ColAt w B g o L c v p) (hb : Below w.heap.size w w') (x : Int × Int) : Did w B g o L v p (x, c) (.returned (.tuple #[.int .i64 x.1, .int .i64 x.2])) w' :=
  ⟨rfl, v, p, by rw [h.L2]; exact h.later hb, Keep.of_below hb _, Fr.refl _ _, Fr.refl _ _⟩
/-- The values' row has become another; then the collection is given it. -/
theorem Did.vals {w w1 : World} {B g o : Nat} {L : List Value} {c : Co} {v p v' : Value} {vs' : List Int} (h : ColAt w B g o L c v p) (hv : w1.ownsRow B 2 1 v' vs'.length (numC vs')) (hn : Next v.ownBlock.toList v'.ownBlock.toList w w1) (hok : CoOk { c with vs := vs' }) (x : Int × Int) :
    Did w B g o L v p (x, { c with vs := vs' }) (.returned (.tuple #[.int .i64 x.1, .int .i64 x.2])) (w1.setCell ⟨g, o + 2, none⟩ v') := by
  have hgv : ∀ b, v.ownBlock = some b → b ≠ g := fun b hb e => own_ne h.hv h.hg i64_coll (e ▸ hb)
  have hg1 : w1.heap[g]? = some (.cells L.toArray 70 (0, 0)) := by
    rw [hn.1.block _ (heap_lt h.hg) (fun e => by simp at e; exact hgv _ e rfl)]
    exact h.hg
  have hgv' : ∀ b, v'.ownBlock = some b → b ≠ g := fun b hb e => own_ne hv hg1 i64_coll (e ▸ hb)
  have hp1 : w1.ownsRow B 52 2 p c.ps.length (prC c.ps) := own_keep h.hp hn.1 (fun b hb e => by
    simp at e
    rcases h.hv.2 with ⟨rfl, _⟩ | ⟨g2, _, cur, rfl, _, hg2, _⟩
    · simp [Value.ownBlock] at e
    · simp [Value.ownBlock] at e
      subst e
      exact own_ne h.hp hg2 i64_pair hb)
  have hgp : ∀ b, p.ownBlock = some b → b ≠ g := fun b hb e => own_ne hp1 hg1 pair_coll (e ▸ hb)
  have hL : (L.set (o + 2) v')[o + 3]? = some p := by rw [List.getElem?_set_ne (by omega)]; exact h.h3
  have hlo : o + 2 < L.length := (List.getElem?_eq_some_iff.1 h.h2).1
  have hk : Keep [g] w1 (w1.setCell ⟨g, o + 2, none⟩ v') := Keep.setCell (Keep.refl _ _) _ _ (Or.inl (by simp))
  refine ⟨rfl, v', p, ?_, ?_⟩
  · rw [list_set_self hL]
    refine ⟨?_, h.gB, ?_, ?_, ?_, hL, own_keep hv hk (fun b hb => by simpa using hgv' b hb), own_keep hp1 hk (fun b hb => by simpa using hgp b hb), hok⟩
    · rw [heap_set hg1]
      simp
    · rw [List.getElem?_set_ne (by omega)]; exact h.h0
    · rw [List.getElem?_set_ne (by omega)]; exact h.h1
    · rw [List.getElem?_set_self hlo]
  · exact ⟨(hn.1.mono (fun b hb => by simp at hb; simp [hb])).trans (hk.mono (G := g :: (v.ownBlock.toList ++ p.ownBlock.toList)) (by simp)) (fun b hb => Or.inl hb), Fr.of hn, Fr.refl _ _⟩
/-- The same of the pairs' row. -/
theorem Did.prs {w w1 : World} {B g o : Nat} {L : List Value} {c : Co} {v p p' : Value} {ps' : List (Int × Int)} (h : ColAt w B g o L c v p) (hp : w1.ownsRow B 52 2 p' ps'.length (prC ps')) (hn : Next p.ownBlock.toList p'.ownBlock.toList w w1) (hok : CoOk { c with ps := ps' }) (x : Int × Int) :
    Did w B g o L v p (x, { c with ps := ps' }) (.returned (.tuple #[.int .i64 x.1, .int .i64 x.2])) (w1.setCell ⟨g, o + 3, none⟩ p') := by
  have hgp : ∀ b, p.ownBlock = some b → b ≠ g := fun b hb e => own_ne h.hp h.hg pair_coll (e ▸ hb)
  have hg1 : w1.heap[g]? = some (.cells L.toArray 70 (0, 0)) := by
    rw [hn.1.block _ (heap_lt h.hg) (fun e => by simp at e; exact hgp _ e rfl)]
    exact h.hg
  have hgp' : ∀ b, p'.ownBlock = some b → b ≠ g := fun b hb e => own_ne hp hg1 pair_coll (e ▸ hb)
  have hv1 : w1.ownsRow B 2 1 v c.vs.length (numC c.vs) := own_keep h.hv hn.1 (fun b hb e => by
    simp at e
    rcases h.hp.2 with ⟨rfl, _⟩ | ⟨g2, _, cur, rfl, _, hg2, _⟩
    · simp [Value.ownBlock] at e
    · simp [Value.ownBlock] at e
      subst e
      exact own_ne h.hv hg2 (fun e => i64_pair e.symm) hb)
  have hgv : ∀ b, v.ownBlock = some b → b ≠ g := fun b hb e => own_ne hv1 hg1 i64_coll (e ▸ hb)
  have hlo : o + 3 < L.length := (List.getElem?_eq_some_iff.1 h.h3).1
  have hk : Keep [g] w1 (w1.setCell ⟨g, o + 3, none⟩ p') := Keep.setCell (Keep.refl _ _) _ _ (Or.inl (by simp))
  refine ⟨rfl, v, p', ?_, ?_⟩
  · rw [list_set_self h.h2]
    refine ⟨?_, h.gB, ?_, ?_, ?_, ?_, own_keep hv1 hk (fun b hb => by simpa using hgv b hb), own_keep hp hk (fun b hb => by simpa using hgp' b hb), hok⟩
    · rw [heap_set hg1]
      simp
    · rw [List.getElem?_set_ne (by omega)]; exact h.h0
    · rw [List.getElem?_set_ne (by omega)]; exact h.h1
    · rw [List.getElem?_set_ne (by omega)]; exact h.h2
    · rw [List.getElem?_set_self hlo]
  · exact ⟨(hn.1.mono (fun b hb => by simp at hb; simp [hb])).trans (hk.mono (G := g :: (v.ownBlock.toList ++ p.ownBlock.toList)) (by simp)) (fun b hb => Or.inl hb), Fr.refl _ _, Fr.of hn⟩
/-- A row is written into where it lies. -/
theorem Did.valsIn {w w1 : World} {B g o : Nat} {L : List Value} {c : Co} {v p : Value} {vs' : List Int} (h : ColAt w B g o L c v p) (hv : w1.ownsRow B 2 1 v vs'.length (numC vs')) (hn : Keep v.ownBlock.toList w w1) (hok : CoOk { c with vs := vs' }) (x : Int × Int) :
    Did w B g o L v p (x, { c with vs := vs' }) (.returned (.tuple #[.int .i64 x.1, .int .i64 x.2])) w1 := by
  have hgv : ∀ b, v.ownBlock = some b → b ≠ g := fun b hb e => own_ne h.hv h.hg i64_coll (e ▸ hb)
  have hg1 : w1.heap[g]? = some (.cells L.toArray 70 (0, 0)) := by
    rw [hn.block _ (heap_lt h.hg) (fun e => by simp at e; exact hgv _ e rfl)]
    exact h.hg
  have hp1 : w1.ownsRow B 52 2 p c.ps.length (prC c.ps) := own_keep h.hp hn (fun b hb e => by
    simp at e
    rcases h.hv.2 with ⟨rfl, _⟩ | ⟨g2, _, cur, rfl, _, hg2, _⟩
    · simp [Value.ownBlock] at e
    · simp [Value.ownBlock] at e
      subst e
      exact own_ne h.hp hg2 i64_pair hb)
  refine ⟨rfl, v, p, ?_, hn.mono (fun b hb => by simp at hb; simp [hb]), Fr.refl _ _, Fr.refl _ _⟩
  rw [h.L2]
  exact ⟨hg1, h.gB, h.h0, h.h1, h.h2, h.h3, hv, hp1, hok⟩
theorem Did.prsIn {w w1 : World} {B g o : Nat} {L : List Value} {c : Co} {v p : Value} {ps' : List (Int × Int)} (h : ColAt w B g o L c v p) (hp : w1.ownsRow B 52 2 p ps'.length (prC ps')) (hn : Keep p.ownBlock.toList w w1) (hok : CoOk { c with ps := ps' }) (x : Int × Int) :
    Did w B g o L v p (x, { c with ps := ps' }) (.returned (.tuple #[.int .i64 x.1, .int .i64 x.2])) w1 := by
  have hgp : ∀ b, p.ownBlock = some b → b ≠ g := fun b hb e => own_ne h.hp h.hg pair_coll (e ▸ hb)
  have hg1 : w1.heap[g]? = some (.cells L.toArray 70 (0, 0)) := by
    rw [hn.block _ (heap_lt h.hg) (fun e => by simp at e; exact hgp _ e rfl)]
    exact h.hg
  have hv1 : w1.ownsRow B 2 1 v c.vs.length (numC c.vs) := own_keep h.hv hn (fun b hb e => by
    simp at e
    rcases h.hp.2 with ⟨rfl, _⟩ | ⟨g2, _, cur, rfl, _, hg2, _⟩
    · simp [Value.ownBlock] at e
    · simp [Value.ownBlock] at e
      subst e
      exact own_ne h.hv hg2 (fun e => i64_pair e.symm) hb)
  refine ⟨rfl, v, p, ?_, hn.mono (fun b hb => by simp at hb; simp [hb]), Fr.refl _ _, Fr.refl _ _⟩
  rw [h.L2]
  exact ⟨hg1, h.gB, h.h0, h.h1, h.h2, h.h3, hv1, hp, hok⟩
theorem count_any {w : World} {B g o : Nat} {L : List Value} {c : Co} {v p : Value} (h : ColAt w B g o L c v p) (va : Value) : Calls Try.prog 60 #[.pointer (some ⟨g, o, none⟩), va] w (Did w B g o L v p (((c.vs.length : Int) + (c.ps.length : Int), 0), c)) := by
  obtain ⟨h0, h1, h2, h3⟩ := h.cells
  obtain ⟨a1, c1, rfl⟩ := own_slice h.hv
  obtain ⟨a2, c2, rfl⟩ := own_slice h.hp
  have H : Hid (ColAt w B g o L c (.slice a1 c.vs.length c1) (.slice a2 c.ps.length c2)) := h
  have hw : IntKind.i64.wrap ((c.vs.length : Int) + (c.ps.length : Int)) = (c.vs.length : Int) + (c.ps.length : Int) := by
    have := h.ok.vm; have := h.ok.pm; have := h.ok.c16
    rw [IntKind.wrap_i64]; omega
  clear h h0 h1
  go_enter Try.func60, Try.ntmps60
  go_wp2_with fail
  go_quiet (fail)
  go_wp2_with fail
  go_ret2
  exact Did.same H.out (below_drawn (Below.refl _ _) _) _
theorem hasnum_any {w : World} {B g o : Nat} {L : List Value} {c : Co} {v p : Value} (h : ColAt w B g o L c v p) (i : Int) : Calls Try.prog 76 #[.pointer (some ⟨g, o, none⟩), .int .i64 i] w fun e w' => e = .returned (.bool (numB c i)) ∧ Below w.heap.size w w' := by
  obtain ⟨h0, h1, h2, h3⟩ := h.cells
  obtain ⟨a1, c1, rfl⟩ := own_slice h.hv
  have hn : c.vs.length ≤ 16 := by have := h.ok.vm; have := h.ok.c16; omega
  unfold numB
  clear h h0 h1 h3
  by_cases hi : 0 ≤ i
  · have d0 : decide (0 ≤ i) = true := by simpa using hi
    rw [d0, Bool.true_and]
    go_enter Try.func76, Try.ntmps76
    go_wp2_with fail
    go_ret
    exact ⟨rfl, Below.refl _ _⟩
  · have d0 : decide (0 ≤ i) = false := by simpa using hi
    rw [d0, Bool.false_and]
    go_enter Try.func76, Try.ntmps76
    go_wp2_with fail
    go_ret
    exact ⟨rfl, Below.refl _ _⟩
theorem keyat_any {w : World} {B g o : Nat} {L : List Value} {c : Co} {v p : Value} (h : ColAt w B g o L c v p) {i : Nat} (hi : i ≤ c.vs.length) : Calls Try.prog 85 #[.pointer (some ⟨g, o, none⟩), .int .i64 (i : Int)] w (Did w B g o L v p (keyV c i, c)) := by
  obtain ⟨h0, h1, h2, h3⟩ := h.cells
  have hnl := Nl.of_own h.hv (by have := h.ok.vm; have := h.ok.c16; omega) h.ok.sv
  obtain ⟨a1, c1, rfl⟩ := own_slice h.hv
  obtain ⟨_, hb, hc⟩ := nl_cells hnl
  have H : Hid (ColAt w B g o L c (.slice a1 c.vs.length c1) p) := h
  unfold keyV
  clear h h0 h1 h3 hnl
  by_cases e : i = c.vs.length
  · subst e
    rw [if_pos rfl]
    clear hc
    go_enter Try.func85, Try.ntmps85
    go_wp2_with fail
    go_ret2
    exact Did.same H.out (Below.refl _ _) _
  · rw [if_neg e]
    have hlt : i < c.vs.length := by omega
    have hd : ((i : Int) == (c.vs.length : Int)) = false := by simp; omega
    obtain ⟨x, rfl, hxb, hx⟩ := hc i hlt
    clear hc hxb e hi
    go_enter Try.func85, Try.ntmps85
    go_wp2_with fail
    go_ret2
    exact Did.same H.out (Below.refl _ _) _
theorem getnum_any {w : World} {B g o : Nat} {L : List Value} {c : Co} {v p va : Value} {a : List Int} (h : ColAt w B g o L c v p) (ha : Nl w va a) (h1 : a.length = 1) : Calls Try.prog 57 #[.pointer (some ⟨g, o, none⟩), va] w (Did w B g o L v p (cntV c 2 a)) := by
  have HN : Hid (∀ w' : World, Below w.heap.size w w' → Calls Try.prog 76 #[.pointer (some ⟨g, o, none⟩), .int .i64 (nth a 0)] w' fun e w'' => e = .returned (.bool (numB c (nth a 0))) ∧ Below w'.heap.size w' w'') := fun w' hb => hasnum_any (h.later hb) _
  obtain ⟨h0, h1', h2, h3⟩ := h.cells
  have hnl := Nl.of_own h.hv (by have := h.ok.vm; have := h.ok.c16; omega) h.ok.sv
  obtain ⟨a1, c1, rfl⟩ := own_slice h.hv
  obtain ⟨_, hb, hc⟩ := nl_cells hnl
  obtain ⟨a2, c2, rfl⟩ := nl_slice ha
  obtain ⟨_, _, hca⟩ := nl_cells ha
  obtain ⟨y, rfl, hyb, hy⟩ := hca 0 (by omega)
  have H : Hid (ColAt w B g o L c (.slice a1 c.vs.length c1) p) := h
  have hgl := heap_lt h.hg
  rw [h1]
  rw [add_zero'] at hy
  unfold cntV
  clear h h0 h1' h3 hnl ha hca h1
  obtain ⟨q, hq⟩ : ∃ q, numB c (nth a 0) = q := ⟨_, rfl⟩
  rw [hq] at HN ⊢
  cases q with
  | false =>
    clear hc hq
    go_enter Try.func57, Try.ntmps57
    go_wp2_with fail
    refine (HN.out _ (Below.refl _ _)).mono ?_
    rintro e w1 ⟨rfl, hb1⟩
    go_wp2_with fail
    go_ret2
    exact Did.same H.out hb1 _
  | true =>
    rw [if_pos rfl, if_neg (by decide)]
    simp only [numB, Bool.and_eq_true, decide_eq_true_eq] at hq
    obtain ⟨i, hi⟩ : ∃ i : Nat, nth a 0 = (i : Int) := ⟨(nth a 0).toNat, by omega⟩
    rw [hi] at HN hq hy ⊢
    have hlt : i < c.vs.length := by omega
    obtain ⟨x, rfl, hxb, hx⟩ := hc i hlt
    clear hc hq hi
    go_enter Try.func57, Try.ntmps57
    go_wp2_with fail
    refine (HN.out _ (Below.refl _ _)).mono ?_
    rintro e w1 ⟨rfl, hb1⟩
    have x1 : w1.cell? (x.add i) = some (.int .i64 (nth c.vs i)) := cell_later hb1 (by rw [add_block]; exact hxb) hx
    have y1 : w1.cell? y = some (.int .i64 (i : Int)) := cell_later hb1 hyb hy
    have c1 : w1.cell? ⟨g, o + 2, none⟩ = some (.slice (some x) c.vs.length c1) := cell_later hb1 (a := ⟨g, o + 2, none⟩) hgl h2
    have HB : Hid (Below w.heap.size w w1) := hb1
    clear hb1 hx hy h2 hxb hyb HN
    go_wp2_with fail
    go_quiet (fail)
    go_wp2_with fail
    go_ret2
    exact Did.same H.out (below_drawn HB.out _) _
theorem own_at0 {w : World} {B e k n : Nat} {x : Addr} {cap : Nat} {xs : List Value} (h : w.ownsRow B e k (.slice (some x) n cap) n xs) : ∃ g, x = ⟨g, 0, none⟩ := by
  rcases h.2 with ⟨e', _⟩ | ⟨g', cap', cur, e', _⟩
  · cases e'
  · simp at e'
    exact ⟨g', e'.1⟩
theorem addnum_any {w : World} {B g o : Nat} {L : List Value} {c : Co} {v p va : Value} {a : List Int} (h : ColAt w B g o L c v p) (ha : Nl w va a) (h1 : a.length = 2) (hk : c.kd = 1) (hd : ∀ x n cp, va = .slice (some x) n cp → v.ownBlock ≠ some x.block) : Calls Try.prog 56 #[.pointer (some ⟨g, o, none⟩), va] w (Did w B g o L v p (cntV c 1 a)) := by
  have HN : Hid (∀ w' : World, Below w.heap.size w w' → Calls Try.prog 76 #[.pointer (some ⟨g, o, none⟩), .int .i64 (nth a 0)] w' fun e w'' => e = .returned (.bool (numB c (nth a 0))) ∧ Below w'.heap.size w' w'') := fun w' hb => hasnum_any (h.later hb) _
  have hok : CoOk (cntV c 1 a).2 := h.ok.cnt hk 1 a
  obtain ⟨h0, h1', h2, h3⟩ := h.cells
  have hnl := Nl.of_own h.hv (by have := h.ok.vm; have := h.ok.c16; omega) h.ok.sv
  obtain ⟨a1, k1, rfl⟩ := own_slice h.hv
  obtain ⟨_, hb, hc⟩ := nl_cells hnl
  obtain ⟨a2, c2, rfl⟩ := nl_slice ha
  obtain ⟨_, _, hca⟩ := nl_cells ha
  obtain ⟨y, rfl, hyb, hy⟩ := hca 0 (by omega)
  obtain ⟨y', hye, _, hy2⟩ := hca 1 (by omega)
  injection hye with hye
  subst hye
  have H : Hid (ColAt w B g o L c (.slice a1 c.vs.length k1) p) := h
  have hgl := heap_lt h.hg
  have hdis := hd y _ _ rfl
  rw [h1]
  rw [add_zero'] at hy
  unfold cntV at hok ⊢
  clear h h0 h1' h3 hnl ha hca h1 hd
  obtain ⟨q, hq⟩ : ∃ q, numB c (nth a 0) = q := ⟨_, rfl⟩
  rw [hq] at HN hok ⊢
  cases q with
  | false =>
    clear hc hq
    go_enter Try.func56, Try.ntmps56
    go_wp2_with fail
    refine (HN.out _ (Below.refl _ _)).mono ?_
    rintro e w1 ⟨rfl, hb1⟩
    go_wp2_with fail
    go_ret2
    exact Did.same H.out hb1 _
  | true =>
    rw [if_pos rfl, if_pos rfl] at hok ⊢
    simp only [numB, Bool.and_eq_true, decide_eq_true_eq] at hq
    obtain ⟨i, hi⟩ : ∃ i : Nat, nth a 0 = (i : Int) := ⟨(nth a 0).toNat, by omega⟩
    rw [hi] at HN hq hy hok ⊢
    have HK : Hid (CoOk { c with vs := c.vs.set i (wrap64 (nth c.vs i + nth a 1)) }) := hok
    have hlt : i < c.vs.length := by omega
    obtain ⟨x, rfl, hxb, hx⟩ := hc i hlt
    obtain ⟨gv, rfl⟩ := own_at0 H.out.hv
    rw [add_at, Nat.zero_add] at hx
    clear hc hq hi hok
    go_enter Try.func56, Try.ntmps56
    go_wp2_with fail
    refine (HN.out _ (Below.refl _ _)).mono ?_
    rintro e w1 ⟨rfl, hb1⟩
    have H1 : Hid (ColAt w1 B g o L c (.slice (some ⟨gv, 0, none⟩) c.vs.length k1) p) := H.out.later hb1
    have x1 : w1.cell? ⟨gv, i, none⟩ = some (.int .i64 (nth c.vs i)) := cell_later hb1 (a := ⟨gv, i, none⟩) hxb hx
    have x2 : w1.frozen? ⟨gv, i, none⟩ = false := (own_some H1.out.hv i (by omega)).2
    have y1 : w1.cell? y = some (.int .i64 (i : Int)) := cell_later hb1 hyb hy
    have y2 : w1.cell? ⟨y.block, y.off + 1, none⟩ = some (.int .i64 (nth a 1)) := by
      rw [add_pos' y 1 (by decide)] at hy2
      exact cell_later hb1 (a := ⟨y.block, y.off + 1, none⟩) hyb hy2
    have c1 : w1.cell? ⟨g, o + 2, none⟩ = some (.slice (some ⟨gv, 0, none⟩) c.vs.length k1) := H1.out.cells.2.2.1
    have HB : Hid (Below w.heap.size w w1) := hb1
    have HD : Hid (gv ≠ y.block) := fun e => hdis (by rw [← e]; rfl)
    have HG : Hid (gv ≠ g) := fun e => own_ne H.out.hv H.out.hg i64_coll (e ▸ rfl)
    clear hb1 hx hy hy2 h2 hxb hyb HN hdis
    go_wp2_with fail
    go_region
    obtain ⟨w2, hw2⟩ : ∃ w2, w2 = (w1.setCell ⟨gv, i, none⟩ (.int .i64 (wrap64 (nth c.vs i + nth a 1)))).drew := ⟨_, rfl⟩
    rw [← hw2]
    have hk2 : Keep [gv] w1 w2 := by
      rw [hw2]
      exact Keep.drewN (Keep.setCell (Keep.refl _ _) _ _ (Or.inl (by simp))) 1
    have ho2 : w2.ownsRow B 2 1 (.slice (some ⟨gv, 0, none⟩) c.vs.length k1) c.vs.length (numC (c.vs.set i (wrap64 (nth c.vs i + nth a 1)))) := by
      rw [hw2, ← numC_set]
      exact own_set2 H1.out.hv _ _
    have g1 : w2.cell? ⟨g, o + 2, none⟩ = some (.slice (some ⟨gv, 0, none⟩) c.vs.length k1) := by
      rw [cell_at ((hk2.block _ (heap_lt H1.out.hg) (by simpa using fun e => HG.out e.symm)).trans H1.out.hg)]
      rw [cell_at H1.out.hg] at c1
      exact c1
    have g2 : w2.cell? y = some (.int .i64 (i : Int)) := by
      have hb := hk2.block y.block (World.block_lt_of_cell? _ _ y1) (by simpa using fun e => HD.out e.symm)
      unfold World.cell? at y1 ⊢
      rw [hb]
      exact y1
    have g3 : w2.cell? ⟨gv, i, none⟩ = some (.int .i64 (wrap64 (nth c.vs i + nth a 1))) := own_cells ho2 i _ (by rw [numC_get _ _ (by simpa using hlt)]; simp [nth, hlt])
    have HF : Hid (∀ n, Did w B g o L (.slice (some ⟨gv, 0, none⟩) c.vs.length k1) p ((wrap64 (nth c.vs i + nth a 1), 0), { c with vs := c.vs.set i (wrap64 (nth c.vs i + nth a 1)) }) (.returned (.tuple #[.int .i64 (wrap64 (nth c.vs i + nth a 1)), .int .i64 0])) (w2.drewN n)) := fun n => by
      have hk3 : Keep [gv] w (w2.drewN n) := ((Keep.of_below HB.out [gv]).trans hk2 (fun b hb => Or.inl hb)).drewN n
      exact Did.valsIn H.out (vs' := c.vs.set i (wrap64 (nth c.vs i + nth a 1))) (by rw [List.length_set]; exact ho2) hk3 HK.out (wrap64 (nth c.vs i + nth a 1), 0)
    clear hk2 ho2 hw2 x1 x2 y1 y2 c1 H1
    go_wp2_with fail
    go_quiet (fail)
    go_wp2_with fail
    go_ret2
    exact HF.out _
end Go.Proofs.Ytgbmnngmfcneaaa.Pl
