/- An act of one of four transactions over one memory: what it tells, and what becomes of all. -/
import Derived.Test.YtgjahjnomfijfaaGreatJTxVTxN
import Derived.Test.YtgjahjnomfijfaaGreatGroA
import Derived.RegionTactic
import Derived.BigRegion
namespace Go.Proofs.YtgjahjnomfijfaaGreat
open Go.RowKit (wrap64)
set_option linter.unusedVariables false
def actX (c r : Nat) (x : Tx) (L : List Ac) (t : Int) : Option Wa → Out
 | none => stepX c r x L t
 | some a => doX c r x L t a
def stOf (x : Tx) : Int := match x.wy with
 | .wr P _ => P.st
 | _ => 0
theorem stOf_no {x : Tx} (h : ∀ P b, x.wy ≠ .wr P b) : stOf x = 0 := by
 unfold stOf
 cases hy : x.wy with
 | wr P b => exact absurd hy (h P b)
 | _ => rfl
def WhyS (N : Int) (g : Rg) (z : Int) (e : Ev) : Prop :=
 (e.err = 3 ∧ ∃ t : Nat, z < (t : Int) ∧ t ≤ g.n ∧ Fe.Clash g.vw e.sig t) ∨ (e.err = 4 ∧ z + (g.s : Int) < (g.n : Int)) ∨ (e.err = 6 ∧ (g.n : Int) = N)
def Why (N : Int) (m : Nat) (g : Rg) (x : Tx) (a : Option Wa) (e : Ev) : Prop :=
 WhyS N g x.z e ∨ (e.err = 5 ∧ x.tb.R.length = m) ∨ ((e.err = 7 ∨ e.err = 8) ∧ ∃ w, a = some w ∧ w.code = e.err) ∨ (e.err = 0 ∧ x.tb.R = [] ∧ e.sig = x.rd)
def Tel (W : Ev → Prop) (g : Rg) (x : Tx) (r : List (Int × Int)) (y : Tx) (e : Ev) (g' : Rg) (r' : List (Int × Int)) : Prop :=
 (e.kind = 1 ∧ g' = g ∧ r' = [] ∧ e.start ≤ e.seen ∧ e.seen ≤ (g.n : Int) ∧ stOf y = stOf x) ∨
 (e.kind = 2 ∧ g' = g ∧ ((e.own = true ∧ Tl.getY x.tb e.cell = true ∧ e.value = Tl.getV x.tb e.cell ∧ r' = r) ∨ (e.own = false ∧ Tl.getY x.tb e.cell = false ∧ r' = r ++ [(e.cell, e.value)])) ∧ (∀ q ∈ r', q.2 = g.val q.1 e.seen.toNat) ∧ stOf y = stOf x) ∨
 (e.kind = 3 ∧ g' = g ∧ r' = r ∧ stOf y = stOf x) ∨
 (e.kind = 4 ∧ g' = g.pub (toW x.tb.R) ∧ r' = r ∧ e.stamp = (g.n : Int) + 1 ∧ x.tb.R ≠ [] ∧ e.sig = Ba.sgOf (toW x.tb.R) ∧ (∀ q ∈ r, q.2 = g.val q.1 g.n) ∧ stOf y = (g.n : Int) + 1) ∨
 (e.kind = 5 ∧ g' = g.don ∧ r' = r ∧ e.stamp = (g.d : Int) + 1 ∧ stOf y = 0) ∨
 (e.kind = 6 ∧ g' = g ∧ r' = r ∧ W e ∧ stOf y = stOf x)
structure Hap (W : Ev → Prop) (c : Nat) (N : Int) (m : Nat) (L : List Ac) (g : Rg) (T : Nat → Tx) (R : Nat → List (Int × Int)) (k : Nat) (pre : List Ev) (o : Out) (E : List Ev) (g' : Rg) (r' : List (Int × Int)) : Prop where
 wi : WI c N m o.L g' (setT T k o.x) (setT R k r')
 ev : o.x.ev = (T k).ev ++ (pre ++ E)
 acc : (o.y = true ∧ o.L.length = L.length + 1) ∨ (o.y = false ∧ o.L = L)
 wait : o.k = 1 → o.x.phase = (T k).phase ∧ pre = [] ∧ E = [] ∧ g.d ≠ g.n ∧ g' = g ∧ stOf (T k) ≠ (g.d : Int) + 1
 mov : o.k = 2 → o.y = true
 tel : (E = [] ∧ g'.W = g.W ∧ g'.d = g.d ∧ r' = R k ∧ stOf o.x = stOf (T k)) ∨ (∃ e, E = [e] ∧ Tel W g (T k) (R k) o.x e g' r')
theorem setT_id {α : Type} (T : Nat → α) (k : Nat) : setT T k (T k) = T := funext fun j => by
 unfold setT
 split
 ·next e => rw [e]
 ·rfl
theorem setT_two {α : Type} (T : Nat → α) (k : Nat) (x y : α) : setT (setT T k x) k y = setT T k y := funext fun j => by
 unfold setT
 split <;> rfl
theorem fin_cf {N : Int} {m : Nat} {g : Rg} {x : Tx} (h : Cf N m g x) (v : Int) (y : Wy) : Cf N m g (finX x v y).1 := by
 cases y <;> exact ⟨h.s, h.mu, h.n, h.m⟩
theorem step_cf {N : Int} {m : Nat} {g : Rg} {x : Tx} (h : Cf N m g x) (c r : Nat) (L : List Ac) (t : Int) : Cf N m g (stepX c r x L t).x := by
 unfold stepX goOn
 split
 ·exact ⟨h.s, h.mu, h.n, h.m⟩
 ·split
  ·split <;> exact fin_cf h _ _
  ·exact ⟨h.s, h.mu, h.n, h.m⟩
theorem step_rd {c r : Nat} {x : Tx} {L : List Ac} {t : Int} {P : Fe.Cp} {b : Fe.Ck} (hy : x.wy = .rd P b) : (∀ P' b', (stepX c r x L t).x.wy = .rd P' b' → P'.cell = P.cell ∧ (stepX c r x L t).x.tb = x.tb) ∧ ∀ P' b', (stepX c r x L t).x.wy ≠ .wr P' b' := by
 unfold stepX goOn stepM
 rw [hy]
 simp only [finX]
 split
 ·exact ⟨fun P' b' e => by simp [Tx.finis, Tx.reset] at e, fun P' b' e => by simp [Tx.finis, Tx.reset] at e⟩
 ·split
  ·exact ⟨fun P' b' e => by simp [Tx.live, Tx.tell] at e, fun P' b' e => by simp [Tx.live, Tx.tell] at e⟩
  ·refine ⟨fun P' b' e => ?_, fun P' b' e => by simp at e⟩
   simp only [Wy.rd.injEq] at e
   refine ⟨?_, rfl⟩
   rw [← e.1]
   unfold Fe.nextFP
   split
   ·split <;> rfl
   ·rfl
theorem step_bg {c r : Nat} {x : Tx} {L : List Ac} {t : Int} {b : Bg} (hy : x.wy = .bg b) : (∀ P' b', (stepX c r x L t).x.wy ≠ .rd P' b') ∧ ∀ P' b', (stepX c r x L t).x.wy ≠ .wr P' b' := by
 unfold stepX goOn stepM
 rw [hy]
 simp only [finX]
 split
 ·exact ⟨fun P' b' e => by simp [Tx.finis, Tx.reset] at e, fun P' b' e => by simp [Tx.finis, Tx.reset] at e⟩
 ·split
  ·exact ⟨fun P' b' e => by simp [Tx.live, Tx.tell] at e, fun P' b' e => by simp [Tx.live, Tx.tell] at e⟩
  ·exact ⟨fun P' b' e => by simp at e, fun P' b' e => by simp at e⟩
theorem ph_no {x : Tx} {p : Int} (h : x.phase = p) : (p ≠ 3 → ∀ P b, x.wy ≠ .rd P b) ∧ (p ≠ 5 → ∀ P b, x.wy ≠ .wr P b) := by
 unfold Tx.phase at h
 refine ⟨fun hp P b e => ?_, fun hp P b e => ?_⟩
 ·rw [e] at h; exact hp h.symm
 ·rw [e] at h; exact hp h.symm
theorem fin_no (x : Tx) (why : Int) : (∀ P b, (x.finis why).wy ≠ .rd P b) ∧ ∀ P b, (x.finis why).wy ≠ .wr P b := ⟨fun P b e => by simp [Tx.finis, Tx.reset] at e, fun P b e => by simp [Tx.finis, Tx.reset] at e⟩
theorem hap_step {c : Nat} {N : Int} {m : Nat} {L : List Ac} {g : Rg} {T : Nat → Tx} {R : Nat → List (Int × Int)} {k : Nat} (h : WI c N m L g T R) (hk : k < 4) (t : Int) :
  ∃ E g' r', Hap (WhyS N g (T k).z) c N m L g T R k [] (stepX c g.s (T k) L t) E g' r' := by
 have hx := h.ok k hk
 have hc := h.cf k hk
 have ht := h.ti k hk
 have hro := h.rdo k hk
 have hxs := xok_step (c := c) (r := g.s) (t := t) hx h.wd
 have hcf := step_cf hc c g.s L t
 have hnm := h.nm
 cases hy : (T k).wy with
 | no =>
  rw [stepX_no hy]
  exact ⟨[], g, R k, by rw [setT_id, setT_id]; exact h, by simp, Or.inr ⟨rfl, rfl⟩, fun e => by simp at e, fun e => by simp at e, Or.inl ⟨rfl, rfl, rfl, rfl, rfl⟩⟩
 | bg b =>
  have n1 : ∀ P b, (T k).wy ≠ .wr P b := fun P b e => by rw [hy] at e; cases e
  obtain ⟨a1, a2, a3, a4⟩ := st_bg (t := t) h.ri hc.s hx h.wd ht hy
  obtain ⟨q1, q2⟩ := step_bg (c := c) (r := g.s) (L := L) (t := t) hy
  have s0 : stOf (stepX c g.s (T k) L t).x = stOf (T k) := by rw [stOf_no q2, stOf_no n1]
  have hm := wi_mem h a1
  generalize stepX c g.s (T k) L t = o at *
  rcases a4 with ⟨b1, b2, b3, b4⟩ | ⟨b1, b2, b3, b4, b5, b6⟩
  ·exact ⟨[], g, R k, wi_put hm hk hxs.1 hcf b4 n1 q2 (fun P b e => absurd e (q1 P b)), by rw [b2]; simp, Or.inl ⟨a3, a2⟩, fun e => by omega, fun _ => a3, Or.inl ⟨rfl, rfl, rfl, rfl, s0⟩⟩
  ·exact ⟨_, g, [], wi_put hm hk hxs.1 hcf b6 n1 q2 (fun P b e => absurd e (q1 P b)), b2, Or.inl ⟨a3, a2⟩, fun e => by omega, fun _ => a3, Or.inr ⟨_, rfl, Or.inl ⟨rfl, rfl, rfl, b4, b5, s0⟩⟩⟩
 | rd P b =>
  have n1 : ∀ P b, (T k).wy ≠ .wr P b := fun P b e => by rw [hy] at e; cases e
  have a := st_rd (t := t) h.ri hc.s hx h.wd ht hy
  obtain ⟨q1, q2⟩ := step_rd (c := c) (r := g.s) (L := L) (t := t) hy
  have s0 : stOf (stepX c g.s (T k) L t).x = stOf (T k) := by rw [stOf_no q2, stOf_no n1]
  have p3 : (T k).phase = 3 := by unfold Tx.phase; rw [hy]
  have hgy := hro P b hy
  have ro : ∀ P' b', (stepX c g.s (T k) L t).x.wy = .rd P' b' → Tl.getY (stepX c g.s (T k) L t).x.tb P'.cell = false := fun P' b' e => by
   obtain ⟨e1, e2⟩ := q1 P' b' e
   rw [e1, e2]; exact hgy
  have hm := wi_mem h a.w
  have hst : stOf (T k) ≠ (g.d : Int) + 1 := by rw [stOf_no n1]; omega
  generalize stepX c g.s (T k) L t = o at *
  rcases a.c with ⟨b1, b2, b3, b4, b5⟩ | ⟨b1, b2, b3, b4⟩ | ⟨b1, b2, b3, b4, b5⟩ | ⟨b1, b2, b3⟩
  ·exact ⟨[], g, R k, wi_put hm hk hxs.1 hcf b4 n1 q2 ro, by rw [b2]; simp, Or.inl ⟨a.y, a.len⟩, fun e => ⟨b3.trans p3.symm, rfl, rfl, b5, rfl, hst⟩, fun _ => a.y, Or.inl ⟨rfl, rfl, rfl, rfl, s0⟩⟩
  ·exact ⟨[], g, R k, wi_put hm hk hxs.1 hcf b4 n1 q2 ro, by rw [b2]; simp, Or.inl ⟨a.y, a.len⟩, fun e => by omega, fun _ => a.y, Or.inl ⟨rfl, rfl, rfl, rfl, s0⟩⟩
  ·exact ⟨_, g, R k ++ [(P.cell, o.v)], wi_put hm hk hxs.1 hcf b4 n1 q2 ro, b2, Or.inl ⟨a.y, a.len⟩, fun e => by omega, fun _ => a.y, Or.inr ⟨_, rfl, Or.inr (Or.inl ⟨rfl, rfl, Or.inr ⟨rfl, hgy, rfl⟩, b5, s0⟩)⟩⟩
  ·refine ⟨[(T k).ended o.e], g, R k, wi_put hm hk hxs.1 hcf (by rw [b2]; exact ti_none _) n1 q2 ro, by rw [b2]; rfl, Or.inl ⟨a.y, a.len⟩, fun e => by omega, fun _ => a.y, Or.inr ⟨_, rfl, Or.inr (Or.inr (Or.inr (Or.inr (Or.inr ⟨rfl, rfl, rfl, ?_, s0⟩))))⟩⟩
   rcases b3 with ⟨e3, q, q1, q2, q3⟩ | ⟨e4, q⟩
   ·exact Or.inl ⟨e3, q, q1, q2, q3⟩
   ·exact Or.inr (Or.inl ⟨e4, q⟩)
 | cm P b u =>
  have n1 : ∀ P b, (T k).wy ≠ .wr P b := fun P b e => by rw [hy] at e; cases e
  have a := st_cm (t := t) h.ri hc.s hc.mu hx h.wd ht hy
  have p4 : (T k).phase = 4 := by unfold Tx.phase; rw [hy]
  have hst : stOf (T k) ≠ (g.d : Int) + 1 := by rw [stOf_no n1]; omega
  have hne := hx.ne (Or.inl p4)
  generalize stepX c g.s (T k) L t = o at *
  rcases a.c with ⟨b1, b0, b2, b3, b4, b5⟩ | ⟨b1, b0, b2, b3, b4⟩ | ⟨b1, b0, b2, b3⟩ | ⟨b1, b2, b3, b4, b5⟩
  ·obtain ⟨q1, q2⟩ := ph_no b3
   have s0 : stOf o.x = stOf (T k) := by rw [stOf_no (q2 (by omega)), stOf_no n1]
   exact ⟨[], g, R k, wi_put (wi_mem h b0) hk hxs.1 hcf b4 n1 (q2 (by omega)) (fun P b e => absurd e (q1 (by omega) P b)), by rw [b2]; simp, Or.inl ⟨a.y, a.len⟩, fun e => ⟨b3.trans p4.symm, rfl, rfl, b5, rfl, hst⟩, fun _ => a.y, Or.inl ⟨rfl, rfl, rfl, rfl, s0⟩⟩
  ·obtain ⟨q1, q2⟩ := ph_no b3
   have s0 : stOf o.x = stOf (T k) := by rw [stOf_no (q2 (by omega)), stOf_no n1]
   exact ⟨[], g, R k, wi_put (wi_mem h b0) hk hxs.1 hcf b4 n1 (q2 (by omega)) (fun P b e => absurd e (q1 (by omega) P b)), by rw [b2]; simp, Or.inl ⟨a.y, a.len⟩, fun e => by omega, fun _ => a.y, Or.inl ⟨rfl, rfl, rfl, rfl, s0⟩⟩
  ·obtain ⟨q1, q2⟩ := fin_no (T k) o.e
   rw [← b2] at q1 q2
   have s0 : stOf o.x = stOf (T k) := by rw [stOf_no q2, stOf_no n1]
   refine ⟨[(T k).ended o.e], g, R k, wi_put (wi_mem h b0) hk hxs.1 hcf (by rw [b2]; exact ti_none _) n1 q2 (fun P b e => absurd e (q1 P b)), by rw [b2]; rfl, Or.inl ⟨a.y, a.len⟩, fun e => by omega, fun _ => a.y, Or.inr ⟨_, rfl, Or.inr (Or.inr (Or.inr (Or.inr (Or.inr ⟨rfl, rfl, rfl, ?_, s0⟩))))⟩⟩
   rcases b3 with ⟨e3, q, q1, q2, q3⟩ | ⟨e4, q⟩ | ⟨e6, q⟩
   ·exact Or.inl ⟨e3, q, q1, q2, q3⟩
   ·exact Or.inr (Or.inl ⟨e4, q⟩)
   ·have := hc.n
    exact Or.inr (Or.inr ⟨e6, by omega⟩)
  ·have hw : o.x.wy = .wr ((g.pub (toW (T k).tb.R)).P (g.n + 1)) ((g.pub (toW (T k).tb.R)).bk (g.n + 1)) := by rw [b2]; rfl
   have hcell : ∀ y ∈ o.x.tb.R, y.c < (c : Int) := by rw [b2]; exact ht.1
   refine ⟨_, g.pub (toW (T k).tb.R), R k, by rw [setT_id]; exact wi_pub h hk n1 b3 hxs.2.1 hxs.1 hcf hw hcell (by have := hc.n; omega), by rw [b2]; rfl, Or.inl ⟨a.y, a.len⟩, fun e => by omega, fun _ => a.y, Or.inr ⟨_, rfl, Or.inr (Or.inr (Or.inr (Or.inl ⟨rfl, rfl, rfl, rfl, hne, wrS_sg _, b5, ?_⟩)))⟩⟩
   unfold stOf
   rw [hw]
   unfold Rg.P
   simp
 | wr P b =>
  obtain ⟨q, q1, q2, rfl, rfl⟩ := h.wr k hk P b hy
  have a := st_wr (c := c) (t := t) h.ri hx ht.1 q1 q2 hy
  have sq : stOf (T k) = (q : Int) := by unfold stOf; rw [hy]; rfl
  have hnw : (stepX c g.s (T k) L t).L = (stepX c g.s (T k) L t).L := rfl
  generalize stepX c g.s (T k) L t = o at *
  rcases a.c with ⟨b1, b2, b3, b4⟩ | ⟨b1, b', b2, b3, b4⟩ | ⟨b1, b2, b3, b4⟩
  ·have hdn : g.d ≠ g.n := by omega
   exact ⟨[], g, R k, by rw [setT_id, b3, setT_id]; exact wi_mem h b2, by rw [b3]; simp, Or.inl ⟨a.y, a.len⟩, fun e => ⟨by rw [b3], rfl, rfl, hdn, rfl, by rw [sq]; omega⟩, fun _ => a.y, Or.inl ⟨rfl, rfl, rfl, rfl, by rw [b3]⟩⟩
  ·have hxx : XOk { T k with wy := .wr (g.P q) b' } := by rw [← b4]; exact hxs.1
   exact ⟨[], g.set q b', R k, by rw [setT_id, b4]; exact wi_set h hk q1 q2 hy b2 b3 hxs.2.1 hxx, by rw [b4]; simp, Or.inl ⟨a.y, a.len⟩, fun e => by omega, fun _ => a.y, Or.inl ⟨rfl, rfl, rfl, rfl, by rw [sq, b4]; rfl⟩⟩
  ·subst b2
   have q3 : ∀ P b, o.x.wy ≠ .wr P b := fun P b e => by rw [b4] at e; simp [Tx.reset] at e
   have q4 : ∀ P b, o.x.wy ≠ .rd P b := fun P b e => by rw [b4] at e; simp [Tx.reset] at e
   have hti : TI c g.don o.x (R k) := by rw [b4]; exact ⟨fun y hy => by simp [Tx.reset, Tl.empty] at hy, fun hb => by simp [Tx.reset] at hb⟩
   exact ⟨_, g.don, R k, by rw [setT_id]; exact wi_don h hk q2 hy b3 hxs.2.1 hxs.1 hcf hti q3 q4, by rw [b4]; rfl, Or.inl ⟨a.y, a.len⟩, fun e => by omega, fun _ => a.y, Or.inr ⟨_, rfl, Or.inr (Or.inr (Or.inr (Or.inr (Or.inl ⟨rfl, rfl, rfl, by simp, stOf_no q3⟩))))⟩⟩
end Go.Proofs.YtgjahjnomfijfaaGreat
/- New, Told. -/
namespace Go.Proofs.YtgjahjnomfijfaaGreat
open Go.ChangeShapes Go.WideShapes Go.ChangeAt Go.RowKit
attribute [local go_sem ↓] Go.wp_at_zero Go.wp_at_succ
def confT (raw s wr n : Int) (mu : Bool) (tr : Int) (v : Value) : Value := .agg #[.int .i64 raw, .int .i64 s, .int .i64 wr, .int .i64 n, .bool mu, .int .i64 tr, v]
set_option maxRecDepth 100000 in
theorem newT_yes (w : World) (base : Nat) (hb : base ≤ w.heap.size) (raw : Int) (s m : Nat) (n : Int) (mu : Bool) (tr : Int) (v : Value) (h1 : 1 ≤ s) (h2 : s ≤ 16) (h3 : 1 ≤ n) (h4 : n ≤ 1099511627776) (m1 : 1 ≤ m) (m2 : m ≤ 24) :
  Calls Tryz.prog 21 #[confT raw (s : Int) (m : Int) n mu tr v] w fun e w' => ∃ T G, e = .returned (.tuple #[.pointer (some ⟨T, 0, none⟩), .int .i64 0]) ∧ TxAt w' base T (newX s n mu m) G ∧ (∀ q ∈ G, w.heap.size ≤ q) ∧ Below w.heap.size w w' := by
 have HLN : Hid (∀ w', Calls Tryz.prog 30 #[.int .i64 (m : Int)] w' fun e w'' => ∃ L B, e = .returned (.tuple #[.pointer (some ⟨L, 0, none⟩), .int .i64 0]) ∧ w'.heap.size ≤ L ∧ w'.heap.size ≤ B ∧ Tl.LogAt w'' L B (Tl.empty m) Sg.nought ∧ Below w'.heap.size w' w'') := fun w' => Tl.lnew_yes w' m m1 m2
 have d1 : decide ((s : Int) < 1) = false := by simp; omega
 have d2 : decide ((16 : Int) < (s : Int)) = false := by simp; omega
 have d3 : decide (n < 1) = false := by simp; omega
 have d4 : decide ((1099511627776 : Int) < n) = false := by simp; omega
 clear h1 h2 h3 h4 m1 m2
 unfold confT
 go_enter Tryz.func21, Tryz.ntmps21
 go_wp2_with fail
 refine (HLN.out _).mono ?_
 rintro e w1 ⟨lg, tk, rfl, hl1, hl2, hl, hb1⟩
 have HB1 : Hid (Below w.heap.size w w1) := below_then (below_a1 _ _) hb1
 have HC1 : Hid (w1.heap[w.heap.size]? = some (.cells #[.int .i64 raw, .int .i64 (s : Int), .int .i64 (m : Int), .int .i64 n, .bool mu, .int .i64 tr, v] 24 (0, 0))) := row_on (heap_alloc_new _ _) hb1
 have HL1 : Hid (Tl.LogAt w1 lg tk (Tl.empty m) Sg.nought ∧ w.heap.size ≤ lg ∧ w.heap.size ≤ tk) := ⟨hl, by simp at hl1; omega, by simp at hl2; omega⟩
 have y1 : w1.cell? ⟨w.heap.size, 1, none⟩ = some (.int .i64 (s : Int)) := by rw [cell_at HC1.out]; rfl
 have y3 : w1.cell? ⟨w.heap.size, 3, none⟩ = some (.int .i64 n) := by rw [cell_at HC1.out]; rfl
 have y4 : w1.cell? ⟨w.heap.size, 4, none⟩ = some (.bool mu) := by rw [cell_at HC1.out]; rfl
 have hW := heap_lt HC1.out
 clear hl1 hl2 hl hb1
 go_wp2
 have hs1 := HB1.out.size
 have HB3 : ∀ o1 o2, Below w1.heap.size w1 ((w1.alloc o1).alloc o2) := fun o1 o2 => below_then (below_a1 _ _) (below_a1 _ _)
 go_ret2
 refine ⟨w1.heap.size + 1, _, rfl, ⟨lg, tk, .slice none 0 0, .nilIface, [], tx_build (x := newX s n mu m) (heap_alloc2_new w1 _ _) (HL1.out.1.below (HB3 _ _)) ⟨rfl, Or.inl ⟨rfl, rfl⟩⟩ ⟨rfl, rfl⟩ (by omega) (by have := HL1.out.2.1; omega) (by have := HL1.out.2.2; omega) List.nodup_nil (by simp) (by simp) (by simp) (fun _ _ => by simp)⟩, fun q hq => ?_, below_then HB1.out (HB3 _ _)⟩
 simp [Value.ownBlock] at hq
 have a1 := HL1.out.2.1
 have a2 := HL1.out.2.2
 omega
set_option maxRecDepth 100000 in
theorem newT_no (w : World) (raw s m n : Int) (mu : Bool) (tr : Int) (v : Value) (h : ¬ (1 ≤ s ∧ s ≤ 16 ∧ 1 ≤ m ∧ m ≤ 24 ∧ 1 ≤ n ∧ n ≤ 1099511627776)) :
  Calls Tryz.prog 21 #[confT raw s m n mu tr v] w fun e w' => e = .returned (.tuple #[.pointer none, .int .i64 1]) ∧ Below w.heap.size w w' := by
 have HLN : Hid (¬ (1 ≤ m ∧ m ≤ 24) → ∀ w', Calls Tryz.prog 30 #[.int .i64 m] w' fun e w'' => e = .returned (.tuple #[.pointer none, .int .i64 1]) ∧ w'' = w') := fun hm w' => Tl.lnew_no w' m hm
 unfold confT
 have hc : s < 1 ∨ (¬ s < 1 ∧ 16 < s) ∨ (¬ s < 1 ∧ ¬ 16 < s ∧ n < 1) ∨ (¬ s < 1 ∧ ¬ 16 < s ∧ ¬ n < 1 ∧ 1099511627776 < n) ∨ (¬ s < 1 ∧ ¬ 16 < s ∧ ¬ n < 1 ∧ ¬ 1099511627776 < n ∧ ¬ (1 ≤ m ∧ m ≤ 24)) := by omega
 clear h
 rcases hc with e1 | ⟨e1, e2⟩ | ⟨e1, e2, e3⟩ | ⟨e1, e2, e3, e4⟩ | ⟨e1, e2, e3, e4, e5⟩
 ·have d1 : decide (s < 1) = true := by simpa using e1
  go_enter Tryz.func21, Tryz.ntmps21
  go_wp2
  go_ret2
  exact ⟨rfl, below_a1 _ _⟩
 ·have d1 : decide (s < 1) = false := by simpa using e1
  have d2 : decide (16 < s) = true := by simpa using e2
  go_enter Tryz.func21, Tryz.ntmps21
  go_wp2
  go_ret2
  exact ⟨rfl, below_a1 _ _⟩
 ·have d1 : decide (s < 1) = false := by simpa using e1
  have d2 : decide (16 < s) = false := by simpa using e2
  have d3 : decide (n < 1) = true := by simpa using e3
  go_enter Tryz.func21, Tryz.ntmps21
  go_wp2
  go_ret2
  exact ⟨rfl, below_a1 _ _⟩
 ·have d1 : decide (s < 1) = false := by simpa using e1
  have d2 : decide (16 < s) = false := by simpa using e2
  have d3 : decide (n < 1) = false := by simpa using e3
  have d4 : decide (1099511627776 < n) = true := by simpa using e4
  go_enter Tryz.func21, Tryz.ntmps21
  go_wp2
  go_ret2
  exact ⟨rfl, below_a1 _ _⟩
 ·have d1 : decide (s < 1) = false := by simpa using e1
  have d2 : decide (16 < s) = false := by simpa using e2
  have d3 : decide (n < 1) = false := by simpa using e3
  have d4 : decide (1099511627776 < n) = false := by simpa using e4
  have HM : Hid (∀ w', Calls Tryz.prog 30 #[.int .i64 m] w' fun e w'' => e = .returned (.tuple #[.pointer none, .int .i64 1]) ∧ w'' = w') := HLN.out e5
  clear e1 e2 e3 e4 e5 HLN
  go_enter Tryz.func21, Tryz.ntmps21
  go_wp2_with fail
  refine (HM.out _).mono ?_
  rintro e w1 ⟨rfl, rfl⟩
  go_wp2
  go_ret2
  exact ⟨rfl, below_a1 _ _⟩
theorem evsC_drop (l : List Ev) (k : Nat) : evsC (l.drop k) = (evsC l).drop (k * 19) := by
 induction l generalizing k with
 | nil => simp [evsC]
 | cons x l ih =>
  cases k with
  | zero => simp
  | succ k =>
   rw [List.drop_succ_cons, ih k]
   show _ = (evC x ++ evsC l).drop ((k + 1) * 19)
   rw [List.drop_append]
   have : (evC x).length = 19 := rfl
   have hd : (evC x).drop ((k + 1) * 19) = [] := List.drop_eq_nil_of_le (by rw [this]; omega)
   rw [hd, this, show (k + 1) * 19 - 19 = k * 19 by omega]
   rfl
set_option maxRecDepth 100000 in
theorem clone_ev {w : World} {x : Addr} {l : List Ev} {cap : Nat} (hp : 0 < l.length) (hx : x.block < w.heap.size) (hn : ∀ j u, (evsC l)[j]? = some u → w.cell? (x.add j) = some u) (hb : l.length < 1073741824) :
  Calls Tryz.prog 24 #[.slice (some x) l.length cap] w fun e w' => ∃ u, e = .returned u ∧ w'.ownsRow w.heap.size 58 19 u l.length (evsC l) ∧ Below w.heap.size w w' := by
 obtain ⟨i0, hi, hz0, hz1, hz2⟩ := info_parts info_ev
 have hs2 : ∀ x n cap w, (binOp .eql 45 (.slice (some x) n cap) (.slice none 0 0)).run Tryz.prog w = .ok (.bool false) w := fun _ _ _ _ => rfl
 have hlen : (evsC l).length = l.length * 19 := evsC_len _
 obtain ⟨v', w', hrun, hown', hgrow⟩ := run_copy_wide0 (P := Tryz.prog) (w.alloc (.cells #[] 58)) 45 45 58 i0 _ 19 152 Tryz.underlying45 hi hz0 hz1 hz2 rfl ⟨w.heap.size, 0, none⟩ x l.length cap (evsC l) hlen (fun j u hu => ((below_a1 w _).cell (p := x.add j) (by rw [add_block]; exact hx)).trans (hn j u hu)) hp (by unfold maxLen; omega) (by omega)
 have HO : Hid (w'.ownsRow w.heap.size 58 19 v' l.length (evsC l)) := own_base hown' (by simp)
 have HB : Hid (Below w.heap.size w w') := below_then (below_a1 _ _) ⟨hgrow.os, hgrow.tape, hgrow.output, hgrow.size, fun b hb => hgrow.block b hb (by simp)⟩
 obtain ⟨va, vc, rfl⟩ := own_slice HO.out
 generalize evsC l = xs at *
 generalize l.length = n at *
 clear hown' hgrow hlen hn
 go_enter Tryz.func24, Tryz.ntmps24
 go_wp2_with (at_builtin; refine Lib.wpList_append_run_sl _ rfl _ _ 45 rfl _ _ rfl rfl hrun ?_)
 go_wp2
 go_ret
 exact ⟨_, rfl, HO.out, HB.out⟩
set_option maxRecDepth 100000 in
theorem clone_nil (w : World) : Calls Tryz.prog 24 #[.slice none 0 0] w fun e w' => e = .returned (.slice none 0 0) ∧ w' = w := by
 have hs1 : ∀ n cap w, (binOp .eql 45 (.slice none n cap) (.slice none 0 0)).run Tryz.prog w = .ok (.bool true) w := fun _ _ _ => rfl
 go_enter Tryz.func24, Tryz.ntmps24
 go_wp2
 go_ret
 exact ⟨rfl, rfl⟩
set_option maxRecDepth 100000 in
theorem clone_none (w : World) (x : Addr) (cap : Nat) : Calls Tryz.prog 24 #[.slice (some x) 0 cap] w fun e w' => e = .returned (.slice (some ⟨w.heap.size, 0, none⟩) 0 0) ∧ w'.ownsRow w.heap.size 58 19 (.slice (some ⟨w.heap.size, 0, none⟩) 0 0) 0 [] ∧ Below w.heap.size w w' := by
 have hs2 : ∀ x n cap w, (binOp .eql 45 (.slice (some x) n cap) (.slice none 0 0)).run Tryz.prog w = .ok (.bool false) w := fun _ _ _ _ => rfl
 go_enter Tryz.func24, Tryz.ntmps24
 go_wp2
 go_ret
 exact ⟨rfl, ⟨rfl, Or.inr ⟨w.heap.size, 0, #[], rfl, Nat.le_refl _, heap_alloc_new _ _, Nat.le_refl _, Nat.zero_le _, rfl, rfl⟩⟩, below_a1 _ _⟩
def fromE (l : List Ev) (k : Int) : List Ev := l.drop k.toNat
theorem told_any {w : World} {base T : Nat} {x : Tx} {G : List Nat} (h : TxAt w base T x G) (hE : x.ev.length < 1073741824) (k : Int) : Calls Tryz.prog 10 #[.pointer (some ⟨T, 0, none⟩), .int .i64 k] w fun e w' => ∃ v, e = .returned v ∧ w'.ownsRow w.heap.size 58 19 v (fromE x.ev k).length (evsC (fromE x.ev k)) ∧ Below w.heap.size w w' := by
 obtain ⟨lg, tk, ev, wv, Gm, h'⟩ := h
 obtain ⟨x0, x1, x2, x3, x4, x5, x6, x7, x8, x9, x10, x11, x12⟩ := h'.raw.cells
 have hT := heap_lt h'.raw
 have hown := h'.evs
 clear h' x0 x1 x2 x3 x4 x5 x6 x7 x9 x10 x11 x12
 by_cases hk : (x.ev.length : Int) ≤ k
 ·have he : fromE x.ev k = [] := by unfold fromE; exact List.drop_eq_nil_of_le (by omega)
  rw [he]
  have HNIL : Hid (∀ w : World, w.ownsRow w.heap.size 58 19 (.slice none 0 0) ([] : List Ev).length (evsC [])) := fun w => World.ownsRow_nil _ _ _ _
  obtain ⟨va, vc, rfl⟩ := own_slice hown
  have dk : decide ((x.ev.length : Int) ≤ k) = true := by simpa using hk
  generalize x.ev.length = n at *
  clear hown he
  go_enter Tryz.func10, Tryz.ntmps10
  go_wp2
  go_ret
  exact ⟨_, rfl, HNIL.out _, Below.refl _ _⟩
 ·have dk : decide ((x.ev.length : Int) ≤ k) = false := by simpa using hk
  by_cases h0 : x.ev.length = 0
  ·have he : fromE x.ev k = [] := by unfold fromE; exact List.drop_eq_nil_of_le (by omega)
   rw [he]
   have hk0 : k < 0 := by omega
   have hmx : max k 0 = 0 := by omega
   have HNIL : Hid (∀ w : World, w.ownsRow w.heap.size 58 19 (.slice none 0 0) ([] : List Ev).length (evsC [])) := fun w => World.ownsRow_nil _ _ _ _
   have HCL : Hid (∀ w, Calls Tryz.prog 24 #[.slice none 0 0] w fun e w' => e = .returned (.slice none 0 0) ∧ w' = w) := fun w => clone_nil w
   have HCN : Hid (∀ w x cap, Calls Tryz.prog 24 #[.slice (some x) 0 cap] w fun e w' => e = .returned (.slice (some ⟨w.heap.size, 0, none⟩) 0 0) ∧ w'.ownsRow w.heap.size 58 19 (.slice (some ⟨w.heap.size, 0, none⟩) 0 0) 0 [] ∧ Below w.heap.size w w') := fun w x cap => clone_none w x cap
   rcases hown.2 with ⟨rfl, _⟩ | ⟨g, cp, cur, rfl, _⟩
   ·clear hown he hk dk
    have dk : decide ((0 : Int) ≤ k) = false := by simp; omega
    go_enter Tryz.func10, Tryz.ntmps10
    go_wp2_with fail
    refine (HCL.out _).mono ?_
    rintro e w1 ⟨rfl, rfl⟩
    go_wp2
    go_ret
    exact ⟨_, rfl, HNIL.out _, Below.refl _ _⟩
   ·rw [h0] at x8
    clear hown he hk dk
    have dk : decide ((0 : Int) ≤ k) = false := by simp; omega
    go_enter Tryz.func10, Tryz.ntmps10
    go_wp2_with fail
    all_goals
     refine (HCN.out _ _ _).mono ?_
     rintro e w1 ⟨rfl, ho1, hb1⟩
     go_wp2
     go_ret
     exact ⟨_, rfl, ho1, hb1⟩
  ·obtain ⟨g, cap, rfl, hg1, hg2⟩ := hown.form (by omega)
   have hfl : (max k 0).toNat < x.ev.length := by omega
   have hcl : x.ev.length ≤ cap := by
    rcases hown.2 with ⟨e, _⟩ | ⟨g', cp, cur, e, _, _, a3, _⟩
    ·simp at e
    ·injection e with e1 e2 e3
     omega
   have hfk : (max k 0).toNat = k.toNat := by omega
   have hle : (fromE x.ev k).length = x.ev.length - (max k 0).toNat := by unfold fromE; rw [List.length_drop, hfk]
   have HCL : Hid (∀ cap', Calls Tryz.prog 24 #[.slice (some ⟨g, (max k 0).toNat * 19, none⟩) (x.ev.length - (max k 0).toNat) cap'] w fun e w' => ∃ u, e = .returned u ∧ w'.ownsRow w.heap.size 58 19 u (fromE x.ev k).length (evsC (fromE x.ev k)) ∧ Below w.heap.size w w') := fun cap' => by
    rw [← hle]
    refine clone_ev (by omega) hg2 (fun j u hu => ?_) (by omega)
    have hc := hown.cells (g := g) rfl
    unfold fromE at hu
    rw [evsC_drop, List.getElem?_drop, ← hfk] at hu
    have := hc _ u hu
    rw [← this]
    congr 1
    generalize (max k 0).toNat * 19 = q
    unfold Addr.add
    by_cases ej : j = 0
    ·subst ej
     by_cases eq : q = 0
     ·subst eq; rfl
     ·simp [eq]
    ·have : ¬ q + j = 0 := by omega
     simp [ej]
   clear hown hle hfk
   go_enter Tryz.func10, Tryz.ntmps10
   go_wp2_with fail
   ·refine (HCL.out _).mono ?_
    rintro e w1 ⟨u, rfl, ho1, hb1⟩
    obtain ⟨va, vc, rfl⟩ := own_slice ho1
    go_wp2
    go_ret
    exact ⟨_, rfl, ho1, hb1⟩
end Go.Proofs.YtgjahjnomfijfaaGreat
/- Four transactions and their memory, as they lie. -/
namespace Go.Proofs.YtgjahjnomfijfaaGreat
open Go.ChangeShapes Go.WideShapes Go.ChangeAt Go.RowKit
set_option linter.unusedVariables false
structure GG' (w : World) (base : Nat) (p : Value) (c r : Nat) (L : List Ac) (F : List Nat) (Tp : Nat → Nat) (T : Nat → Tx) (G : Nat → List Nat) : Prop where
 mem : MemAt w base p c r L F
 tx : ∀ k, k < 4 → TxAt w base (Tp k) (T k) (G k)
 out : ∀ k, k < 4 → ∀ q ∈ G k, q ∉ F
 dis : ∀ j k, j < 4 → k < 4 → j ≠ k → ∀ q ∈ G j, q ∉ G k
def allB (F : List Nat) (G : Nat → List Nat) : List Nat := F ++ (G 0 ++ (G 1 ++ (G 2 ++ G 3)))
theorem mem_all {F : List Nat} {G : Nat → List Nat} {q : Nat} : q ∈ allB F G ↔ q ∈ F ∨ ∃ k, k < 4 ∧ q ∈ G k := by
 unfold allB
 simp only [List.mem_append]
 constructor
 ·rintro (h | h | h | h | h)
  ·exact Or.inl h
  ·exact Or.inr ⟨0, by omega, h⟩
  ·exact Or.inr ⟨1, by omega, h⟩
  ·exact Or.inr ⟨2, by omega, h⟩
  ·exact Or.inr ⟨3, by omega, h⟩
 ·rintro (h | ⟨k, hk, h⟩)
  ·exact Or.inl h
  ·rcases (show k = 0 ∨ k = 1 ∨ k = 2 ∨ k = 3 by omega) with rfl | rfl | rfl | rfl
   ·exact Or.inr (Or.inl h)
   ·exact Or.inr (Or.inr (Or.inl h))
   ·exact Or.inr (Or.inr (Or.inr (Or.inl h)))
   ·exact Or.inr (Or.inr (Or.inr (Or.inr h)))
def GG (w : World) (base : Nat) (p : Value) (c r : Nat) (L : List Ac) (Tp : Nat → Nat) (T : Nat → Tx) (A : List Nat) : Prop := ∃ F G, GG' w base p c r L F Tp T G ∧ A = allB F G
theorem GG.lt {w : World} {base : Nat} {p : Value} {c r : Nat} {L : List Ac} {Tp : Nat → Nat} {T : Nat → Tx} {A : List Nat} (h : GG w base p c r L Tp T A) : ∀ q ∈ A, base ≤ q ∧ q < w.heap.size := by
 obtain ⟨F, G, h, rfl⟩ := h
 intro q hq
 rcases mem_all.mp hq with e | ⟨k, hk, e⟩
 ·exact h.mem.lt q e
 ·exact (h.tx k hk).lt q e
theorem GG.keep {w w' : World} {base : Nat} {p : Value} {c r : Nat} {L : List Ac} {Tp : Nat → Nat} {T : Nat → Tx} {A H : List Nat} (h : GG w base p c r L Tp T A) (k : Keep H w w') (hd : ∀ q ∈ A, q ∉ H) : GG w' base p c r L Tp T A := by
 obtain ⟨F, G, h, rfl⟩ := h
 exact ⟨F, G, ⟨h.mem.keep k (fun b hb => hd b (mem_all.mpr (Or.inl hb))), fun j hj => (h.tx j hj).keep k (fun q hq => hd q (mem_all.mpr (Or.inr ⟨j, hj, hq⟩))), h.out, h.dis⟩, rfl⟩
theorem GG.below {w w' : World} {base : Nat} {p : Value} {c r : Nat} {L : List Ac} {Tp : Nat → Nat} {T : Nat → Tx} {A : List Nat} (h : GG w base p c r L Tp T A) (k : Below w.heap.size w w') : GG w' base p c r L Tp T A := by
 obtain ⟨F, G, h, rfl⟩ := h
 exact ⟨F, G, ⟨h.mem.below k, fun j hj => (h.tx j hj).below k, h.out, h.dis⟩, rfl⟩
theorem GG.ptr {w : World} {base : Nat} {p : Value} {c r : Nat} {L : List Ac} {Tp : Nat → Nat} {T : Nat → Tx} {A : List Nat} (h : GG w base p c r L Tp T A) : ∃ M, p = .pointer (some ⟨M, 0, none⟩) := by
 obtain ⟨F, G, h, rfl⟩ := h
 exact h.mem.ptr
theorem GG.at_ {w : World} {base : Nat} {p : Value} {c r : Nat} {L : List Ac} {Tp : Nat → Nat} {T : Nat → Tx} {A : List Nat} (h : GG w base p c r L Tp T A) {k : Nat} (hk : k < 4) :
  ∃ F G, TM w base p c r L F (Tp k) (T k) G ∧ (∀ q ∈ G ++ F, q ∈ A) ∧ ∀ w' L' F' x' G', TM w' base p c r L' F' (Tp k) x' G' → Next (G ++ F) (G' ++ F') w w' → ∃ A', GG w' base p c r L' Tp (setT T k x') A' ∧ Next A A' w w' := by
 have hlt := h.lt
 obtain ⟨F, G, h, rfl⟩ := h
 refine ⟨F, G k, ⟨h.mem, h.tx k hk, h.out k hk⟩, fun q hq => ?_, fun w' L' F' x' G' tm hn => ?_⟩
 ·rcases List.mem_append.1 hq with e | e
  ·exact mem_all.mpr (Or.inr ⟨k, hk, e⟩)
  ·exact mem_all.mpr (Or.inl e)
 ·have oth : ∀ j, j < 4 → j ≠ k → ∀ q ∈ G j, q ∉ G k ++ F := fun j hj hne q hq e => by
   rcases List.mem_append.1 e with e | e
   ·exact h.dis j k hj hk hne q hq e
   ·exact h.out j hj q hq e
  have oth' : ∀ j, j < 4 → j ≠ k → ∀ q ∈ G j, q ∉ G' ++ F' := fun j hj hne q hq e => by
   rcases hn.2 q e with e | e
   ·exact oth j hj hne q hq e
   ·have := (hlt q (mem_all.mpr (Or.inr ⟨j, hj, hq⟩))).2; omega
  refine ⟨allB F' (setT G k G'), ⟨F', setT G k G', ⟨tm.mem, fun j hj => ?_, fun j hj q hq => ?_, fun i j hi hj hne q hq => ?_⟩, rfl⟩, hn.1.mono (fun b hb => ?_), fun b hb => ?_⟩
  ·by_cases e : j = k
   ·subst e; rw [setT_self, setT_self]; exact tm.tx
   ·rw [setT_else _ _ e, setT_else _ _ e]; exact (h.tx j hj).keep hn.1 (oth j hj e)
  ·by_cases e : j = k
   ·subst e; rw [setT_self] at hq; exact tm.out q hq
   ·rw [setT_else _ _ e] at hq; exact fun e' => oth' j hj e q hq (by simp [e'])
  ·by_cases e1 : i = k
   ·subst e1
    rw [setT_self] at hq
    rw [setT_else _ _ (Ne.symm hne)]
    exact fun e' => oth' j hj (Ne.symm hne) q e' (by simp [hq])
   ·rw [setT_else _ _ e1] at hq
    by_cases e2 : j = k
    ·subst e2; rw [setT_self]; exact fun e' => oth' i hi e1 q hq (by simp [e'])
    ·rw [setT_else _ _ e2]; exact h.dis i j hi hj hne q hq
  ·rcases List.mem_append.1 hb with e | e
   ·exact mem_all.mpr (Or.inr ⟨k, hk, e⟩)
   ·exact mem_all.mpr (Or.inl e)
  ·rcases mem_all.mp hb with e | ⟨j, hj, e⟩
   ·rcases hn.2 b (by simp [e]) with q | q
    ·rcases List.mem_append.1 q with q | q
     ·exact Or.inl (mem_all.mpr (Or.inr ⟨k, hk, q⟩))
     ·exact Or.inl (mem_all.mpr (Or.inl q))
    ·exact Or.inr q
   ·by_cases ej : j = k
    ·subst ej
     rw [setT_self] at e
     rcases hn.2 b (by simp [e]) with q | q
     ·rcases List.mem_append.1 q with q | q
      ·exact Or.inl (mem_all.mpr (Or.inr ⟨j, hk, q⟩))
      ·exact Or.inl (mem_all.mpr (Or.inl q))
     ·exact Or.inr q
    ·rw [setT_else _ _ ej] at e
     exact Or.inl (mem_all.mpr (Or.inr ⟨j, hj, e⟩))
theorem GG.tx {w : World} {base : Nat} {p : Value} {c r : Nat} {L : List Ac} {Tp : Nat → Nat} {T : Nat → Tx} {A : List Nat} (h : GG w base p c r L Tp T A) {k : Nat} (hk : k < 4) : ∃ G, TxAt w base (Tp k) (T k) G := by
 obtain ⟨F, G, h, rfl⟩ := h
 exact ⟨G k, h.tx k hk⟩
theorem GG.mem {w : World} {base : Nat} {p : Value} {c r : Nat} {L : List Ac} {Tp : Nat → Nat} {T : Nat → Tx} {A : List Nat} (h : GG w base p c r L Tp T A) : ∃ F, MemAt w base p c r L F := by
 obtain ⟨F, G, h, rfl⟩ := h
 exact ⟨F, h.mem⟩
end Go.Proofs.YtgjahjnomfijfaaGreat
/- Do in a game: what it tells, and what becomes of all. -/
namespace Go.Proofs.YtgjahjnomfijfaaGreat
open Go.RowKit (wrap64)
set_option linter.unusedVariables false
theorem hap_from {W W' : Ev → Prop} {c : Nat} {N : Int} {m : Nat} {L : List Ac} {g : Rg} {T : Nat → Tx} {R : Nat → List (Int × Int)} {k : Nat} {x : Tx} {pre : List Ev} {o : Out} {E : List Ev} {g' : Rg} {r' : List (Int × Int)} (h : Hap W c N m L g (setT T k x) (setT R k (R k)) k [] o E g' r')
  (hev : x.ev = (T k).ev ++ pre) (htb : x.tb = (T k).tb) (hst : stOf x = stOf (T k)) (hW : ∀ e, W e → W' e) (hnk : o.k ≠ 1) : Hap W' c N m L g T R k pre o E g' r' := by
 have w := h.wi
 have e := h.ev
 have tl := h.tel
 rw [setT_two, setT_two] at w
 rw [setT_self, hev] at e
 rw [setT_self, setT_self] at tl
 refine ⟨w, by rw [e]; simp, h.acc, fun e => absurd e hnk, h.mov, ?_⟩
 rcases tl with ⟨t1, t2, t3, t4, t5⟩ | ⟨e, t1, t2⟩
 ·exact Or.inl ⟨t1, t2, t3, t4, t5.trans hst⟩
 ·refine Or.inr ⟨e, t1, ?_⟩
  unfold Tel at t2 ⊢
  rw [htb, hst] at t2
  rcases t2 with t | t | t | t | t | ⟨a1, a2, a3, a4, a5⟩
  ·exact Or.inl t
  ·exact Or.inr (Or.inl t)
  ·exact Or.inr (Or.inr (Or.inl t))
  ·exact Or.inr (Or.inr (Or.inr (Or.inl t)))
  ·exact Or.inr (Or.inr (Or.inr (Or.inr (Or.inl t))))
  ·exact Or.inr (Or.inr (Or.inr (Or.inr (Or.inr ⟨a1, a2, a3, hW e a4, a5⟩))))
theorem goOn_k {x : Tx} {a : Ms} (h : a.k ≠ 1) : (goOn x a).k ≠ 1 := by
 unfold goOn
 split
 ·exact h
 ·split
  ·split
   ·exact h
   ·exact fun e => by simp at e
  ·exact h
theorem ti_tell {c : Nat} {g : Rg} {x : Tx} {r : List (Int × Int)} (h : TI c g x r) (e : Ev) : TI c g (x.tell e) r := by
 refine ⟨h.1, ?_⟩
 have h2 := h.2
 have hw : (x.tell e).wy = x.wy := rfl
 rw [hw]
 cases hy : x.wy with
 | no =>
  rw [hy] at h2
  intro hb
  obtain ⟨l, q⟩ := h2 hb
  exact ⟨⟨l.z, l.zs, l.sn, l.cl⟩, q⟩
 | bg b => rw [hy] at h2; exact h2
 | rd P b => rw [hy] at h2; exact h2
 | cm P b u => rw [hy] at h2; exact h2
 | wr P b => trivial
theorem first_rd {c r : Nat} {x : Tx} {cl : Int} {L : List Ac} {t : Int} : (stepX c r (readX x cl) L t).k ≠ 1 := by
 refine goOn_k ?_
 show Fe.ansF c r (readP x cl) (Fe.ckNew (readP x cl)) L ≠ 1
 unfold Fe.ansF
 rw [show (readP x cl).read = false from rfl]
 split
 ·simp
 ·omega
theorem first_cm {c r : Nat} {x : Tx} {L : List Ac} {t : Int} : (stepX c r (commX x) L t).k ≠ 1 := by
 have hM : (stepM c r (commX x) L t).k = Co.ansZ r (commP x) (Co.ckNew (commP x)) Co.cuNew L := rfl
 have ha : Co.ansZ r (commP x) (Co.ckNew (commP x)) Co.cuNew L ≠ 1 := by
  unfold Co.ansZ
  split
  ·rw [if_pos (show Co.cuNew.st = 0 from rfl)]
   unfold Co.holdA
   split
   ·unfold Co.heldK; split <;> omega
   ·unfold Co.ansKK
    split
    ·unfold Co.kindK
     have : Co.waitK (Co.ckNew (commP x)) (wordOf L (Co.adK (commP x) (Co.ckNew (commP x)))) = false := by unfold Co.waitK Co.ckNew; simp
     rw [this]
     unfold Co.kindV
     simp only [Bool.false_eq_true, if_false]
     split
     ·omega
     ·split <;> omega
    ·omega
  ·omega
 exact goOn_k (by rw [hM]; exact ha)
theorem first_bg {c : Nat} {N : Int} {m : Nat} {L : List Ac} {g : Rg} {T : Nat → Tx} {R : Nat → List (Int × Int)} {k : Nat} (h : WI c N m L g T R) (hk : k < 4) {b : Bg} (hy : (T k).wy = .bg b) (t : Int) : (stepX c g.s (T k) L t).k ≠ 1 := by
 obtain ⟨_, _, _, a4⟩ := st_bg (t := t) h.ri (h.cf k hk).s (h.ok k hk) h.wd (h.ti k hk) hy
 rcases a4 with ⟨b1, _⟩ | ⟨b1, _⟩ <;> omega
theorem put_cells {s : Tl.Tb} {b : Int} (h : ∀ y ∈ s.R, y.c < b) {c v : Int} (hv : c < b) : ∀ y ∈ (Tl.put s c v).R, y.c < b := by
 intro y hy
 unfold Tl.put at hy
 split at hy
 ·split at hy
  ·simp only at hy
   rcases List.mem_or_eq_of_mem_set hy with h1 | h1
   ·exact h y h1
   ·rw [h1]; exact hv
  ·split at hy
   ·exact h y hy
   ·simp only [List.mem_append, List.mem_cons, List.not_mem_nil, or_false] at hy
    rcases hy with h1 | h1
    ·exact h y h1
    ·rw [h1]; exact hv
 ·exact h y hy
theorem full_len {s : Tl.Tb} (hi : Tl.Inv s) {c : Int} (h : Tl.writeE s c = 5) : s.R.length = s.m := by
 have hl := hi.len
 unfold Tl.writeE at h
 split at h
 ·next e =>
  unfold Tl.putE at e
  split at e
  ·split at e
   ·simp at e
   ·split at e
    ·omega
    ·simp at e
  ·simp at e
 ·unfold Tl.putE at h
  split at h
  ·split at h
   ·simp at h
   ·split at h <;> simp at h
  ·simp at h
theorem live_of {c : Nat} {g : Rg} {x : Tx} {r : List (Int × Int)} (hx : XOk x) (ht : TI c g x r) (hp : x.phase = 2) : x.wy = .no ∧ LI g x ∧ RdOk g x r := by
 have hb := hx.liv (by omega) (by omega)
 have hy : x.wy = .no := by
  unfold Tx.phase at hp
  cases hy : x.wy with
  | no => rfl
  | _ => rw [hy] at hp; simp at hp
 have h2 := ht.2
 rw [hy] at h2
 exact ⟨hy, h2 hb⟩
theorem rd_seen {c : Nat} {f : Ad → Int} {g : Rg} {x : Tx} {r : List (Int × Int)} (hf : RI f g) (hx : XOk x) (l : LI g x) (hr : RdOk g x r) : ∀ q ∈ r, q.2 = g.val q.1 x.seen.toNat := fun q hq => by
 obtain ⟨a1, a2⟩ := hr q hq
 have h1 := l.zs
 have h2 := l.sn
 have h0 := hx.z0
 rw [a2]
 exact (val_none g q.1 (by omega) (by omega) (fun t t1 t2 => cln_writ l.cl a1 (by omega) (by omega))).symm
set_option maxHeartbeats 1600000 in
theorem hap_do {c : Nat} {N : Int} {m : Nat} {L : List Ac} {g : Rg} {T : Nat → Tx} {R : Nat → List (Int × Int)} {k : Nat} (h : WI c N m L g T R) (hk : k < 4) (hc8 : c ≤ 1024) (a : Wa) (hv : W64 a.value) (t : Int) :
  ∃ pre E g' r', (pre = [] ∨ pre = [{ kind := 7 }]) ∧ Hap (Why N m g (T k) (some a)) c N m L g T R k pre (doX c g.s (T k) L t a) E g' r' := by
 have hx := h.ok k hk
 have hc := h.cf k hk
 have ht := h.ti k hk
 have hW : ∀ (a : Option Wa) (e : Ev), WhyS N g (T k).z e → Why N m g (T k) a e := fun _ _ q => Or.inl q
 unfold doX
 by_cases htk : takesX c g.s (T k) a = true
 ·rw [if_pos htk]
  obtain ⟨i1, i2, i3, i4, i5⟩ := takes_iff htk
  by_cases k1 : a.kind = 1
  ·rw [if_pos k1]
   have p0 := i2 k1
   obtain ⟨_, n1⟩ := ph_no p0
   have h' : WI c N m L g (setT T k (openX (T k))) (setT R k (R k)) := wi_put h hk (xok_open hx p0) ⟨hc.s, hc.mu, hc.n, hc.m⟩ ⟨ht.1, ⟨Or.inl rfl⟩⟩ (n1 (by omega)) (fun P b e => by simp [openX] at e) (fun P b e => by simp [openX] at e)
   obtain ⟨E, g', r', q⟩ := hap_step h' hk t
   have hnk := first_bg h' hk (b := bgNew) (by rw [setT_self]; rfl) t
   rw [setT_self] at q hnk
   exact ⟨_, E, g', r', Or.inr rfl, hap_from q rfl rfl (by rw [stOf_no (n1 (by omega))]; rfl) (hW _) hnk⟩
  ·rw [if_neg k1]
   by_cases k2 : a.kind = 2
   ·rw [if_pos k2]
    obtain ⟨p2, c0, c1⟩ := i3 (Or.inl k2)
    obtain ⟨hy, li, hr⟩ := live_of hx ht p2
    have n1 : ∀ P b, (T k).wy ≠ .wr P b := fun P b e => by rw [hy] at e; cases e
    by_cases ho : Tl.getY (T k).tb a.cell = true
    ·rw [if_pos ho]
     refine ⟨[], [ownE (T k) a.cell], g, R k, Or.inl rfl, wi_put h hk (xok_tell hx _) ⟨hc.s, hc.mu, hc.n, hc.m⟩ (ti_tell ht _) n1 n1 (fun P b e => by have : (T k).wy = .rd P b := e; rw [hy] at this; cases this), rfl, Or.inr ⟨rfl, rfl⟩, fun e => by simp at e, fun e => by simp at e, Or.inr ⟨_, rfl, Or.inr (Or.inl ⟨rfl, rfl, Or.inl ⟨rfl, ho, rfl, rfl⟩, ?_, rfl⟩)⟩⟩
     exact rd_seen (c := c) h.ri hx li hr
    ·rw [if_neg ho]
     have hcl : a.cell < 1024 := by omega
     have hrt : Tl.right a.cell = true := by unfold Tl.right; simp [c0, hcl]
     have hmono : ∀ j, Sg.bit (T k).rd j = true → Sg.bit (Tl.readR (T k).rd a.cell) j = true := fun j hb => by
      unfold Tl.readR
      rw [if_pos hrt, Sg.bit_put hx.rd _ _ (Sg.sigN_lt _), hb]
      rfl
     have hbit : Sg.bit (Sg.put (Tl.readR (T k).rd a.cell) (Sg.sigN a.cell)) (Sg.sigN a.cell) = true := by
      rw [Sg.bit_put (Tl.readR_ok hx.rd _) _ _ (Sg.sigN_lt _)]; simp
     have hti : TI c g (readX (T k) a.cell) (R k) := ⟨ht.1, c1, ⟨⟨li.z, hc.s, rfl, Or.inl rfl⟩, hbit, fun e => by simp [readP, Fe.newP] at e⟩, fun q hq => ⟨hmono _ (hr q hq).1, (hr q hq).2⟩⟩
     have h' : WI c N m L g (setT T k (readX (T k) a.cell)) (setT R k (R k)) := wi_put h hk (xok_read hx p2 c0 hcl) ⟨hc.s, hc.mu, hc.n, hc.m⟩ hti n1 (fun P b e => by simp [readX] at e) (fun P b e => by
            have e1 : Wy.rd (readP (T k) a.cell) (Fe.ckNew (readP (T k) a.cell)) = Wy.rd P b := e
            injection e1 with e1 _
            rw [← e1]
            have : Tl.getY (T k).tb a.cell = false := by simpa using ho
            exact this)
     obtain ⟨E, g', r', q⟩ := hap_step h' hk t
     rw [setT_self] at q
     exact ⟨[], E, g', r', Or.inl rfl, hap_from q (by simp [readX]) rfl (by rw [stOf_no n1]; rfl) (hW _) first_rd⟩
   ·rw [if_neg k2]
    by_cases k3 : a.kind = 3
    ·rw [if_pos k3]
     obtain ⟨p2, c0, c1⟩ := i3 (Or.inr k3)
     obtain ⟨hy, li, hr⟩ := live_of hx ht p2
     have n1 : ∀ P b, (T k).wy ≠ .wr P b := fun P b e => by rw [hy] at e; cases e
     by_cases h5 : Tl.writeE (T k).tb a.cell = 5
     ·rw [if_pos h5]
      obtain ⟨q1, q2⟩ := fin_no (T k) 5
      exact ⟨[], [(T k).ended 5], g, R k, Or.inl rfl, wi_put h hk (xok_fin hx _) ⟨hc.s, hc.mu, hc.n, hc.m⟩ (ti_none _) n1 q2 (fun P b e => absurd e (q1 P b)), rfl, Or.inr ⟨rfl, rfl⟩, fun e => by simp at e, fun e => by simp at e, Or.inr ⟨_, rfl, Or.inr (Or.inr (Or.inr (Or.inr (Or.inr ⟨rfl, rfl, rfl, Or.inr (Or.inl ⟨rfl, (full_len hx.inv h5).trans hc.m⟩), by rw [stOf_no q2, stOf_no n1]⟩))))⟩⟩
     ·rw [if_neg h5]
      have hti : TI c g ({ T k with tb := Tl.put (T k).tb a.cell a.value } : Tx) (R k) := ⟨put_cells ht.1 c1, by simp only [hy]; exact fun _ => ⟨⟨li.z, li.zs, li.sn, li.cl⟩, hr⟩⟩
      refine ⟨[], _, g, R k, Or.inl rfl, wi_put h hk (xok_tell (xok_put hx p2 hv) { kind := 3, cell := a.cell, value := a.value }) ⟨hc.s, hc.mu, hc.n, by rw [← hc.m]; exact (Tl.put_keeps _ _ _).1⟩ (ti_tell hti _) n1 n1 (fun P b e => by have : (T k).wy = .rd P b := e; rw [hy] at this; cases this), rfl, Or.inr ⟨rfl, rfl⟩, fun e => by simp at e, fun e => by simp at e, Or.inr ⟨_, rfl, Or.inr (Or.inr (Or.inl ⟨rfl, rfl, rfl, rfl⟩))⟩⟩
    ·rw [if_neg k3]
     by_cases k4 : a.kind = 4
     ·rw [if_pos k4]
      have p2 := i4 k4
      obtain ⟨hy, li, hr⟩ := live_of hx ht p2
      have n1 : ∀ P b, (T k).wy ≠ .wr P b := fun P b e => by rw [hy] at e; cases e
      by_cases h0 : (T k).tb.R.length = 0
      ·rw [if_pos h0]
       obtain ⟨q1, q2⟩ := fin_no (T k) 0
       exact ⟨[], [(T k).ended 0], g, R k, Or.inl rfl, wi_put h hk (xok_fin hx _) ⟨hc.s, hc.mu, hc.n, hc.m⟩ (ti_none _) n1 q2 (fun P b e => absurd e (q1 P b)), rfl, Or.inr ⟨rfl, rfl⟩, fun e => by simp at e, fun e => by simp at e, Or.inr ⟨_, rfl, Or.inr (Or.inr (Or.inr (Or.inr (Or.inr ⟨rfl, rfl, rfl, Or.inr (Or.inr (Or.inr ⟨rfl, List.eq_nil_of_length_eq_zero h0, rfl⟩)), by rw [stOf_no q2, stOf_no n1]⟩))))⟩⟩
      ·rw [if_neg h0]
       have hti : TI c g (commX (T k)) (R k) := ⟨ht.1, Co.sc_new li.z hc.s rfl, rfl, li.z, hr⟩
       have h' : WI c N m L g (setT T k (commX (T k))) (setT R k (R k)) := wi_put h hk (xok_comm hx p2 h0) ⟨hc.s, hc.mu, hc.n, hc.m⟩ hti n1 (fun P b e => by simp [commX] at e) (fun P b e => by simp [commX] at e)
       obtain ⟨E, g', r', q⟩ := hap_step h' hk t
       rw [setT_self] at q
       exact ⟨[], E, g', r', Or.inl rfl, hap_from q (by simp [commX]) rfl (by rw [stOf_no n1]; rfl) (hW _) first_cm⟩
     ·rw [if_neg k4]
      obtain ⟨k5, p2, hco⟩ := i5 k1 k2 k3 k4
      obtain ⟨hy, li, hr⟩ := live_of hx ht p2
      have n1 : ∀ P b, (T k).wy ≠ .wr P b := fun P b e => by rw [hy] at e; cases e
      obtain ⟨q1, q2⟩ := fin_no (T k) a.code
      exact ⟨[], [(T k).ended a.code], g, R k, Or.inl rfl, wi_put h hk (xok_fin hx _) ⟨hc.s, hc.mu, hc.n, hc.m⟩ (ti_none _) n1 q2 (fun P b e => absurd e (q1 P b)), rfl, Or.inr ⟨rfl, rfl⟩, fun e => by simp at e, fun e => by simp at e, Or.inr ⟨_, rfl, Or.inr (Or.inr (Or.inr (Or.inr (Or.inr ⟨rfl, rfl, rfl, Or.inr (Or.inr (Or.inl ⟨by rcases hco with e | e; exact Or.inr e; exact Or.inl e, a, rfl, rfl⟩)), by rw [stOf_no q2, stOf_no n1]⟩))))⟩⟩
 ·rw [if_neg htk]
  exact ⟨[], [], g, R k, Or.inl rfl, by rw [setT_id, setT_id]; exact h, by simp, Or.inr ⟨rfl, rfl⟩, fun e => by simp at e, fun e => by simp at e, Or.inl ⟨rfl, rfl, rfl, rfl, rfl⟩⟩
theorem hap_act {c : Nat} {N : Int} {m : Nat} {L : List Ac} {g : Rg} {T : Nat → Tx} {R : Nat → List (Int × Int)} {k : Nat} (h : WI c N m L g T R) (hk : k < 4) (hc8 : c ≤ 1024) (a : Option Wa) (hv : ∀ w, a = some w → W64 w.value) (t : Int) :
  ∃ pre E g' r', (pre = [] ∨ pre = [{ kind := 7 }]) ∧ Hap (Why N m g (T k) a) c N m L g T R k pre (actX c g.s (T k) L t a) E g' r' := by
 cases a with
 | some a => exact hap_do h hk hc8 a (hv a rfl) t
 | none =>
  obtain ⟨E, g', r', q⟩ := hap_step h hk t
  refine ⟨[], E, g', r', Or.inl rfl, q.wi, q.ev, q.acc, q.wait, q.mov, ?_⟩
  rcases q.tel with q | ⟨e, q1, q2⟩
  ·exact Or.inl q
  ·refine Or.inr ⟨e, q1, ?_⟩
   unfold Tel at q2 ⊢
   rcases q2 with t | t | t | t | t | ⟨a1, a2, a3, a4, a5⟩
   ·exact Or.inl t
   ·exact Or.inr (Or.inl t)
   ·exact Or.inr (Or.inr (Or.inl t))
   ·exact Or.inr (Or.inr (Or.inr (Or.inl t)))
   ·exact Or.inr (Or.inr (Or.inr (Or.inr (Or.inl t))))
   ·exact Or.inr (Or.inr (Or.inr (Or.inr (Or.inr ⟨a1, a2, a3, Or.inl a4, a5⟩))))
end Go.Proofs.YtgjahjnomfijfaaGreat
/- A game as it lies: an act. -/
namespace Go.Proofs.YtgjahjnomfijfaaGreat
open Go.ChangeShapes Go.WideShapes Go.ChangeAt Go.RowKit
attribute [local go_sem ↓] Go.wp_at_zero Go.wp_at_succ
set_option linter.unusedVariables false
structure At where
 kind : Int
 who : Int
 thread : Int
 w : Wa
 n : Int
 ak : Int
 ai : Int
 aj : Int
 v : Int
def atC (a : At) : List Value := [.int .i64 a.kind, .int .i64 a.who, .int .i64 a.thread, .int .i64 a.w.kind, .int .i64 a.w.cell, .int .i64 a.w.value, .int .i64 a.w.code, .int .i64 a.n, .int .i64 a.ak, .int .i64 a.ai, .int .i64 a.aj, .int .i64 a.v]
def atV (a : At) : Value := .agg (atC a).toArray
def wantA (a : At) : Option Wa := if a.kind = 1 then some ⟨a.w.kind, a.w.cell % 8, a.w.value, a.w.code⟩ else none
def gmO (p tv sv wv rv : Value) : Obj := .cells #[p, tv, sv, wv, rv] 44 (0, 0)
def txsO (cur : Array Value) : Obj := .cells cur 37 (0, 0)
def Ptrs (cur : Array Value) (Tp : Nat → Nat) : Prop := ∀ k, k < 4 → cur[k]? = some (.pointer (some ⟨Tp k, 0, none⟩))
theorem txs_cell {w : World} {X : Nat} {cur : Array Value} {Tp : Nat → Nat} (h : w.heap[X]? = some (txsO cur)) (hc : Ptrs cur Tp) {k : Nat} (hk : k < 4) : w.cell? ⟨X, k, none⟩ = some (.pointer (some ⟨Tp k, 0, none⟩)) := by
 unfold txsO at h
 rw [cell_at h]
 exact hc k hk
theorem keep_row {F : List Nat} {w w' : World} {b : Nat} {o : Obj} (k : Keep F w w') (h : w.heap[b]? = some o) (hn : b ∉ F) : w'.heap[b]? = some o := (k.block b (heap_lt h) hn).trans h
theorem wa_c {w : World} {B : Nat} {a b c d : Int} (h : w.heap[B]? = some (.cells #[.int .i64 a, .int .i64 b, .int .i64 c, .int .i64 d] 32 (0, 0))) : w.cell? ⟨B, 0, none⟩ = some (.int .i64 a) ∧ w.cell? ⟨B, 1, none⟩ = some (.int .i64 b) ∧ w.cell? ⟨B, 2, none⟩ = some (.int .i64 c) ∧ w.cell? ⟨B, 3, none⟩ = some (.int .i64 d) := ⟨by rw [cell_at h]; rfl, by rw [cell_at h]; rfl, by rw [cell_at h]; rfl, by rw [cell_at h]; rfl⟩
theorem gm_c0 {w : World} {B : Nat} {p tv sv wv rv : Value} (h : w.heap[B]? = some (gmO p tv sv wv rv)) : w.cell? ⟨B, 0, none⟩ = some p := by unfold gmO at h; rw [cell_at h]; rfl
theorem gm_c1 {w : World} {B : Nat} {p tv sv wv rv : Value} (h : w.heap[B]? = some (gmO p tv sv wv rv)) : w.cell? ⟨B, 1, none⟩ = some tv := by unfold gmO at h; rw [cell_at h]; rfl
set_option maxRecDepth 100000 in
set_option maxHeartbeats 3200000 in
theorem act_any {w : World} {base : Nat} {p : Value} {s : Nat} {L : List Ac} {Tp : Nat → Nat} {T : Nat → Tx} {A : List Nat} {B X cap : Nat} {cur : Array Value} {sv wv rv : Value} (h : GG w base p 8 s L Tp T A) (hB : w.heap[B]? = some (gmO p (.slice (some ⟨X, 0, none⟩) 4 cap) sv wv rv)) (hX : w.heap[X]? = some (txsO cur)) (hcur : Ptrs cur Tp) (hBA : B ∉ A) (hXA : X ∉ A) {k : Nat} (hk : k < 4) (hb : base ≤ w.heap.size) (hL : L.length < 3298534883328) (hE : (T k).ev.length + 1 < 1073741824) (hx : XOk (T k)) (hd : Wd L) (a : At) :
  Calls Tryz.prog 13 #[.pointer (some ⟨B, 0, none⟩), .int .i64 (k : Int), atV a] w fun e w' => e = .returned (anV (actX 8 s (T k) L k (wantA a)).k (actX 8 s (T k) L k (wantA a)).e (actX 8 s (T k) L k (wantA a)).v (actX 8 s (T k) L k (wantA a)).y) ∧ ∃ A', GG w' base p 8 s (actX 8 s (T k) L k (wantA a)).L Tp (setT T k (actX 8 s (T k) L k (wantA a)).x) A' ∧ Next A A' w w' := by
 obtain ⟨kd, who, th, ⟨wk, wc, wv', wo⟩, n, ak, ai, aj, v⟩ := a
 have HP8 : Hid (∀ w, Calls Tryz.prog 9 #[.int .i64 wc, .int .i64 8] w fun e w' => e = .returned (.int .i64 (wc % 8)) ∧ w' = w) := fun w => gpick_any wc 8 (by decide) (by decide) w
 obtain ⟨M, rfl⟩ := h.ptr
 have hlt := h.lt
 have HLT : Hid (∀ q ∈ A, q < w.heap.size) := fun q hq => (hlt q hq).2
 have hBl := heap_lt hB
 have hXl := heap_lt hX
 have HX4 : Hid (∀ w' : World, w'.heap[X]? = some (txsO cur) → w'.cell? ⟨X, k, none⟩ = some (.pointer (some ⟨Tp k, 0, none⟩))) := fun w' e => txs_cell e hcur hk
 have k4 : (k : Int) < 4 := by omega
 by_cases hkd : kd = 1
 ·subst hkd
  have hw : wantA ⟨1, who, th, ⟨wk, wc, wv', wo⟩, n, ak, ai, aj, v⟩ = some ⟨wk, wc % 8, wv', wo⟩ := by unfold wantA; rw [if_pos rfl]
  rw [hw]
  simp only [actX]
  have HG : Hid (∀ w', Below w.heap.size w w' → Calls Tryz.prog 22 #[.pointer (some ⟨Tp k, 0, none⟩), .pointer (some ⟨M, 0, none⟩), .int .i64 (k : Int), waV ⟨wk, wc % 8, wv', wo⟩] w' fun e w'' => e = .returned (anV (doX 8 s (T k) L k ⟨wk, wc % 8, wv', wo⟩).k (doX 8 s (T k) L k ⟨wk, wc % 8, wv', wo⟩).e (doX 8 s (T k) L k ⟨wk, wc % 8, wv', wo⟩).v (doX 8 s (T k) L k ⟨wk, wc % 8, wv', wo⟩).y) ∧ ∃ A', GG w'' base (.pointer (some ⟨M, 0, none⟩)) 8 s (doX 8 s (T k) L k ⟨wk, wc % 8, wv', wo⟩).L Tp (setT T k (doX 8 s (T k) L k ⟨wk, wc % 8, wv', wo⟩).x) A' ∧ Next A A' w' w'') := fun w' kb => by
   obtain ⟨F, G, tm, _, back⟩ := (h.below kb).at_ hk
   refine (do_any tm (Nat.le_trans hb kb.size) hL hE hx hd (by omega) ⟨wk, wc % 8, wv', wo⟩ (k : Int)).mono ?_
   rintro e w'' ⟨rfl, F', G', q, nx⟩
   exact ⟨rfl, back _ _ _ _ _ q nx⟩
  generalize doX 8 s (T k) L k ⟨wk, wc % 8, wv', wo⟩ = a at *
  obtain ⟨x', L', kk, ee, vv, gg⟩ := a
  have HBA : Hid (B ∉ A) := hBA
  have HXA : Hid (X ∉ A) := hXA
  have HB : Hid (w.heap[B]? = some (gmO (.pointer (some ⟨M, 0, none⟩)) (.slice (some ⟨X, 0, none⟩) 4 cap) sv wv rv)) := hB
  have HX : Hid (w.heap[X]? = some (txsO cur)) := hX
  unfold anV atV atC waV at *
  simp only at HG ⊢
  clear hB hX h hlt hx hd hL hE hb hBA hXA hw
  have HNB : Hid (B ∉ [w.heap.size + 1]) := by show B ∉ _; simp; omega
  have HNX : Hid (X ∉ [w.heap.size + 1]) := by show X ∉ _; simp; omega
  obtain ⟨wa, hwa⟩ : ∃ wa, wa = ((w.alloc (.cells #[.int .i64 1, .int .i64 who, .int .i64 th, .int .i64 wk, .int .i64 wc, .int .i64 wv', .int .i64 wo, .int .i64 n, .int .i64 ak, .int .i64 ai, .int .i64 aj, .int .i64 v] 36)).alloc (.cells #[.int .i64 0, .int .i64 0, .int .i64 0, .bool false] 55)).alloc (.cells #[.int .i64 wk, .int .i64 wc, .int .i64 wv', .int .i64 wo] 32) := ⟨_, rfl⟩
  have HBa : Hid (Below w.heap.size w wa) := by rw [hwa]; exact below_then (below_then (below_a1 _ _) (below_a1 _ _)) (below_a1 _ _)
  have HRa : Hid (wa.heap[w.heap.size + 1]? = some (.cells #[.int .i64 0, .int .i64 0, .int .i64 0, .bool false] 55 (0, 0))) := by rw [hwa]; exact row_on (heap_alloc2_new w _ _) (below_a1 _ _)
  have HWa : Hid (wa.heap[w.heap.size + 1 + 1]? = some (.cells #[.int .i64 wk, .int .i64 wc, .int .i64 wv', .int .i64 wo] 32 (0, 0))) := by
   show wa.heap[_]? = _
   rw [hwa]
   have := heap_alloc_new ((w.alloc (.cells #[.int .i64 1, .int .i64 who, .int .i64 th, .int .i64 wk, .int .i64 wc, .int .i64 wv', .int .i64 wo, .int .i64 n, .int .i64 ak, .int .i64 ai, .int .i64 aj, .int .i64 v] 36)).alloc (.cells #[.int .i64 0, .int .i64 0, .int .i64 0, .bool false] 55)) (.cells #[.int .i64 wk, .int .i64 wc, .int .i64 wv', .int .i64 wo] 32)
   simpa using this
  go_enter Tryz.func13, Tryz.ntmps13
  go_wp2_with fail
  rw [← hwa]
  clear hwa
  refine (HP8.out _).mono ?_
  rintro e w9 ⟨rfl, e9⟩
  obtain rfl : wa = w9 := e9.symm
  generalize wc % 8 = wc8 at *
  have u1 : wa.cell? ⟨w.heap.size + 1 + 1, 1, none⟩ = some (.int .i64 wc) := by rw [cell_at HWa.out]; rfl
  have f1 : wa.frozen? ⟨w.heap.size + 1 + 1, 1, none⟩ = false := frozen_at HWa.out 1
  have l1 := heap_lt HWa.out
  go_wp2_with fail
  obtain ⟨w0, hw0⟩ : ∃ w0, w0 = wa.setCell ⟨w.heap.size + 1 + 1, 1, none⟩ (.int .i64 wc8) := ⟨_, rfl⟩
  have HB0 : Hid (Below w.heap.size w w0) := by rw [hw0]; exact HBa.out.setCell (by show w.heap.size ≤ _; simp; omega) _
  have HW0 : Hid (w0.heap[w.heap.size + 1 + 1]? = some (.cells #[.int .i64 wk, .int .i64 wc8, .int .i64 wv', .int .i64 wo] 32 (0, 0))) := by rw [hw0]; exact heap_set HWa.out _ _
  have HR0 : Hid (w0.heap[w.heap.size + 1]? = some (.cells #[.int .i64 0, .int .i64 0, .int .i64 0, .bool false] 55 (0, 0)) ∧ w.heap.size + 1 ∉ A) := ⟨by rw [hw0, heap_set_other _ _ (by omega)]; exact HRa.out, fun e => by have := HLT.out _ e; omega⟩
  rw [← hw0]
  clear hw0 u1 f1 l1 HBa HRa HWa
  have b1 : w0.heap[B]? = some (gmO (.pointer (some ⟨M, 0, none⟩)) (.slice (some ⟨X, 0, none⟩) 4 cap) sv wv rv) := row_on HB.out HB0.out
  have b2 : w0.heap[X]? = some (txsO cur) := row_on HX.out HB0.out
  have HBB : Hid (w0.heap[B]? = some (gmO (.pointer (some ⟨M, 0, none⟩)) (.slice (some ⟨X, 0, none⟩) 4 cap) sv wv rv)) := b1
  have HXX : Hid (w0.heap[X]? = some (txsO cur)) := b2
  have c3 := HX4.out _ b2
  have c1 := gm_c0 b1
  have c2 := gm_c1 b1
  have hB0l := heap_lt b1
  have hX0l := heap_lt b2
  have d0 : w0.cell? ⟨w.heap.size + 1 + 1, 0, none⟩ = some (.int .i64 wk) := by rw [cell_at HW0.out]; rfl
  have d1 : w0.cell? ⟨w.heap.size + 1 + 1, 1, none⟩ = some (.int .i64 wc8) := by rw [cell_at HW0.out]; rfl
  have d2 : w0.cell? ⟨w.heap.size + 1 + 1, 2, none⟩ = some (.int .i64 wv') := by rw [cell_at HW0.out]; rfl
  have d3 : w0.cell? ⟨w.heap.size + 1 + 1, 3, none⟩ = some (.int .i64 wo) := by rw [cell_at HW0.out]; rfl
  have hW0l := heap_lt HW0.out
  clear b1 b2
  have n1 : B ≠ w.heap.size + 1 := by omega
  have n2 : w.heap.size + 1 ≠ B := by omega
  have n3 : X ≠ w.heap.size + 1 := by omega
  have n4 : w.heap.size + 1 ≠ X := by omega
  have HWA : Hid (w.heap.size + 1 + 1 ∉ A) := fun e => by have := HLT.out _ e; omega
  have HNW : Hid (w.heap.size + 1 + 1 ∉ [w.heap.size + 1]) := by show _ ∉ _; simp
  go_region_held3 (fun w' => w'.cell? ⟨B, 0, none⟩ = some (.pointer (some ⟨M, 0, none⟩)) ∧ w'.cell? ⟨B, 1, none⟩ = some (.slice (some ⟨X, 0, none⟩) 4 cap) ∧ w'.cell? ⟨X, k, none⟩ = some (.pointer (some ⟨Tp k, 0, none⟩)) ∧ w'.cell? ⟨w.heap.size + 1 + 1, 0, none⟩ = some (.int .i64 wk) ∧ w'.cell? ⟨w.heap.size + 1 + 1, 1, none⟩ = some (.int .i64 wc8) ∧ w'.cell? ⟨w.heap.size + 1 + 1, 2, none⟩ = some (.int .i64 wv') ∧ w'.cell? ⟨w.heap.size + 1 + 1, 3, none⟩ = some (.int .i64 wo)) (first | go_keep | exact hS | exact hS2 | exact hS3) (first
      | (go_at_call 22; refine (HG.out _ (below_then HB0.out (bl_drew _))).mono ?_; rintro e w1 ⟨rfl, A1, q1, n1⟩; have rB := row_next0 (row_on HBB.out (bl_drew _)) HBA.out n1; have rX := row_next0 (row_on HXX.out (bl_drew _)) HXA.out n1; have rW := row_next0 (row_on HW0.out (bl_drew _)) HWA.out n1; have hS := And.intro (gm_c0 rB.1) (And.intro (gm_c1 rB.1) (And.intro (HX4.out _ rX.1) (wa_c rW.1))); have rR := row_next0 (row_on HR0.out.1 (bl_drew _)) HR0.out.2 n1; obtain ⟨⟨e0, e1, e2, e3⟩, o0, o1, o2, o3⟩ := ans_cells rR.1; have hBa1 := heap_lt rR.1; have hK := Co.keepWB (w := w1) (B := w.heap.size + 1) kk ee vv gg; have hS2 := And.intro (gm_c0 (keep_row hK rB.1 HNB.out)) (And.intro (gm_c1 (keep_row hK rB.1 HNB.out)) (And.intro (HX4.out _ (keep_row hK rX.1 HNX.out)) (wa_c (keep_row hK rW.1 HNW.out)))); have hS3 := And.intro (gm_c0 (keep_row hK rB.1 HNB.out)) (And.intro (gm_c1 (keep_row hK rB.1 HNB.out)) (HX4.out _ (keep_row hK rX.1 HNX.out)))))
  clear hS hS2
  go_wp2
  exact ret_ans rfl rfl (Co.ansW_set rfl rR.1 kk ee vv gg) rfl rfl ⟨rfl, A1, q1.keep hK (fun q hq e => rR.2 (by simp only [List.mem_singleton] at e; rw [← e]; exact hq)), nx_other ((Next.of_below (below_then HB0.out (bl_drew _)) A).trans n1) (Nat.le_succ _) hK⟩
 ·have hw : wantA ⟨kd, who, th, ⟨wk, wc, wv', wo⟩, n, ak, ai, aj, v⟩ = none := by unfold wantA; rw [if_neg hkd]
  rw [hw]
  unfold actX
  have HG : Hid (∀ w', Below w.heap.size w w' → Calls Tryz.prog 19 #[.pointer (some ⟨Tp k, 0, none⟩), .pointer (some ⟨M, 0, none⟩), .int .i64 (k : Int)] w' fun e w'' => e = .returned (anV (stepX 8 s (T k) L k).k (stepX 8 s (T k) L k).e (stepX 8 s (T k) L k).v (stepX 8 s (T k) L k).y) ∧ ∃ A', GG w'' base (.pointer (some ⟨M, 0, none⟩)) 8 s (stepX 8 s (T k) L k).L Tp (setT T k (stepX 8 s (T k) L k).x) A' ∧ Next A A' w' w'') := fun w' kb => by
   obtain ⟨F, G, tm, _, back⟩ := (h.below kb).at_ hk
   refine (step_any tm (Nat.le_trans hb kb.size) hL (by omega) hx hd (k : Int)).mono ?_
   rintro e w'' ⟨rfl, F', G', q, nx⟩
   exact ⟨rfl, back _ _ _ _ _ q nx⟩
  generalize stepX 8 s (T k) L k = a at *
  obtain ⟨x', L', kk, ee, vv, gg⟩ := a
  have hRB := hB
  have hRX := hX
  have HBA : Hid (B ∉ A) := hBA
  have HXA : Hid (X ∉ A) := hXA
  have HB : Hid (w.heap[B]? = some (gmO (.pointer (some ⟨M, 0, none⟩)) (.slice (some ⟨X, 0, none⟩) 4 cap) sv wv rv)) := hB
  have HX : Hid (w.heap[X]? = some (txsO cur)) := hX
  unfold anV atV atC at *
  simp only at HG ⊢
  clear hRB hRX hB hX h hlt hx hd hL hE hb hBA hXA HP8
  obtain ⟨w0, hw0⟩ : ∃ w0, w0 = (w.alloc (.cells #[.int .i64 kd, .int .i64 who, .int .i64 th, .int .i64 wk, .int .i64 wc, .int .i64 wv', .int .i64 wo, .int .i64 n, .int .i64 ak, .int .i64 ai, .int .i64 aj, .int .i64 v] 36)).alloc (.cells #[.int .i64 0, .int .i64 0, .int .i64 0, .bool false] 55) := ⟨_, rfl⟩
  have HB0 : Hid (Below w.heap.size w w0) := by rw [hw0]; exact below_then (below_a1 _ _) (below_a1 _ _)
  have HR0 : Hid (w0.heap[w.heap.size + 1]? = some (.cells #[.int .i64 0, .int .i64 0, .int .i64 0, .bool false] 55 (0, 0)) ∧ w.heap.size + 1 ∉ A) := ⟨by rw [hw0]; exact heap_alloc2_new w _ _, fun e => by have := HLT.out _ e; omega⟩
  have HNB : Hid (B ∉ [w.heap.size + 1]) := by show B ∉ _; simp; omega
  have HNX : Hid (X ∉ [w.heap.size + 1]) := by show X ∉ _; simp; omega
  go_enter Tryz.func13, Tryz.ntmps13
  go_wp2_with fail
  rw [← hw0]
  clear hw0
  have b1 : w0.heap[B]? = some (gmO (.pointer (some ⟨M, 0, none⟩)) (.slice (some ⟨X, 0, none⟩) 4 cap) sv wv rv) := row_on HB.out HB0.out
  have b2 : w0.heap[X]? = some (txsO cur) := row_on HX.out HB0.out
  have HBB : Hid (w0.heap[B]? = some (gmO (.pointer (some ⟨M, 0, none⟩)) (.slice (some ⟨X, 0, none⟩) 4 cap) sv wv rv)) := b1
  have HXX : Hid (w0.heap[X]? = some (txsO cur)) := b2
  have c3 := HX4.out _ b2
  unfold gmO at b1
  have c1 : w0.cell? ⟨B, 0, none⟩ = some (.pointer (some ⟨M, 0, none⟩)) := by rw [cell_at b1]; rfl
  have c2 : w0.cell? ⟨B, 1, none⟩ = some (.slice (some ⟨X, 0, none⟩) 4 cap) := by rw [cell_at b1]; rfl
  have hB0l := heap_lt b1
  have hX0l := heap_lt b2
  clear b1 b2
  go_region_held3 (fun w' => w'.cell? ⟨B, 0, none⟩ = some (.pointer (some ⟨M, 0, none⟩)) ∧ w'.cell? ⟨B, 1, none⟩ = some (.slice (some ⟨X, 0, none⟩) 4 cap) ∧ w'.cell? ⟨X, k, none⟩ = some (.pointer (some ⟨Tp k, 0, none⟩))) (first | go_keep | exact hS | exact hS2) (first
      | (go_at_call 19; refine (HG.out _ (below_then HB0.out (bl_drew _))).mono ?_; rintro e w1 ⟨rfl, A1, q1, n1⟩; have rB := row_next0 (row_on HBB.out (bl_drew _)) HBA.out n1; have rX := row_next0 (row_on HXX.out (bl_drew _)) HXA.out n1; have hS := And.intro (gm_c0 rB.1) (And.intro (gm_c1 rB.1) (HX4.out _ rX.1)); have rR := row_next0 (row_on HR0.out.1 (bl_drew _)) HR0.out.2 n1; obtain ⟨⟨e0, e1, e2, e3⟩, o0, o1, o2, o3⟩ := ans_cells rR.1; have hBa1 := heap_lt rR.1; have hK := Co.keepWB (w := w1) (B := w.heap.size + 1) kk ee vv gg; have hS2 := And.intro (gm_c0 (keep_row hK rB.1 HNB.out)) (And.intro (gm_c1 (keep_row hK rB.1 HNB.out)) (HX4.out _ (keep_row hK rX.1 HNX.out)))))
  clear hS hS2
  go_wp2
  exact ret_ans rfl rfl (Co.ansW_set rfl rR.1 kk ee vv gg) rfl rfl ⟨rfl, A1, q1.keep hK (fun q hq e => rR.2 (by simp only [List.mem_singleton] at e; rw [← e]; exact hq)), nx_other ((Next.of_below (below_then HB0.out (bl_drew _)) A).trans n1) (Nat.le_succ _) hK⟩
end Go.Proofs.YtgjahjnomfijfaaGreat
/- fit, play. -/
namespace Go.Proofs.YtgjahjnomfijfaaGreat
open Go.ChangeShapes Go.WideShapes Go.ChangeAt Go.RowKit
attribute [local go_sem ↓] Go.wp_at_zero Go.wp_at_succ
set_option linter.unusedVariables false
structure Fc where
 s : Nat
 m : Nat
 n : Nat
 mu : Bool
def fitC (ring writes stamps : Int) (mu : Bool) : Fc := ⟨(ring % 16).toNat + 1, (writes % 24).toNat + 1, (stamps % 40).toNat + 1, mu⟩
def fcV (d : Fc) : Value := .agg #[.int .i64 0, .int .i64 (d.s : Int), .int .i64 (d.m : Int), .int .i64 (d.n : Int), .bool d.mu, .int .i64 0, .slice none 0 0]
theorem fit_bd (ring writes stamps : Int) (mu : Bool) : 1 ≤ (fitC ring writes stamps mu).s ∧ (fitC ring writes stamps mu).s ≤ 16 ∧ 1 ≤ (fitC ring writes stamps mu).m ∧ (fitC ring writes stamps mu).m ≤ 24 ∧ 1 ≤ (fitC ring writes stamps mu).n ∧ (fitC ring writes stamps mu).n ≤ 40 := by
 unfold fitC
 simp only
 omega
theorem tmod_neg40 (x : Int) (h : x ≤ 0) : x.tmod 40 = x % 40 ∨ x.tmod 40 = x % 40 - 40 := by
 have : x.tmod 40 = -((-x).tmod 40) := by rw [Int.neg_tmod]; omega
 rw [this, Int.tmod_eq_emod_of_nonneg (show 0 ≤ -x by omega)]
 omega
theorem ret_cfg {fn : Func} {p : Tmp} {R : Ending → World → Prop} {a : Act} {w : World} {g : Nat} {cs : Array Value} (h : fn.results = #[.cell p 24]) (hp : a.tmps.getD p undef = .pointer (some ⟨g, 0, none⟩))
  (hg : w.heap[g]? = some (.cells cs 24 (0, 0))) (hz : cs.size = 7) (hd : a.defers = []) (hR : R (.returned (.agg cs)) w) : bodyPost Tryz.prog fn R .ret a w :=
 bodyPost_ret (results_cell_row h _ _ g 24 cs (0, 0) _ hp hg Tryz.underlying24 rfl (by rw [hz]; kernel_rfl)) hd hR
def laidC (w : World) (B : Nat) (a b c d e f v : Value) : World := ((((((w.setCell ⟨B, 0, none⟩ a).setCell ⟨B, 1, none⟩ b).setCell ⟨B, 2, none⟩ c).setCell ⟨B, 3, none⟩ d).setCell ⟨B, 4, none⟩ e).setCell ⟨B, 5, none⟩ f).setCell ⟨B, 6, none⟩ v
theorem cfg_set {w : World} {B : Nat} {x0 x1 x2 x3 x4 x5 x6 : Value} (h : w.heap[B]? = some (.cells #[x0, x1, x2, x3, x4, x5, x6] 24 (0, 0))) (a b c d e f v : Value) : (laidC w B a b c d e f v).heap[B]? = some (.cells #[a, b, c, d, e, f, v] 24 (0, 0)) := by
 have h1 := heap_set (i := 0) (v := a) h
 have h2 := heap_set (i := 1) (v := b) h1
 have h3 := heap_set (i := 2) (v := c) h2
 have h4 := heap_set (i := 3) (v := d) h3
 have h5 := heap_set (i := 4) (v := e) h4
 have h6 := heap_set (i := 5) (v := f) h5
 have h7 := heap_set (i := 6) (v := v) h6
 unfold laidC
 rw [h7]
 rfl
theorem belowC {w0 w : World} {A B : Nat} (hk : Below A w0 w) (hB : A ≤ B) (a b c d e f v : Value) : Below A w0 (laidC w B a b c d e f v) :=
 ((((((hk.setCell hB _).setCell hB _).setCell hB _).setCell hB _).setCell hB _).setCell hB _).setCell hB _
theorem cfg_cells {w : World} {B : Nat} {a b c d e v : Value} {f : Value} (h : w.heap[B]? = some (.cells #[a, b, c, d, e, f, v] 24 (0, 0))) :
  (w.cell? ⟨B, 0, none⟩ = some a ∧ w.cell? ⟨B, 1, none⟩ = some b ∧ w.cell? ⟨B, 2, none⟩ = some c ∧ w.cell? ⟨B, 3, none⟩ = some d ∧ w.cell? ⟨B, 4, none⟩ = some e ∧ w.cell? ⟨B, 5, none⟩ = some f ∧ w.cell? ⟨B, 6, none⟩ = some v) ∧
  (w.frozen? ⟨B, 0, none⟩ = false ∧ w.frozen? ⟨B, 1, none⟩ = false ∧ w.frozen? ⟨B, 2, none⟩ = false ∧ w.frozen? ⟨B, 3, none⟩ = false ∧ w.frozen? ⟨B, 4, none⟩ = false ∧ w.frozen? ⟨B, 5, none⟩ = false ∧ w.frozen? ⟨B, 6, none⟩ = false) :=
 ⟨⟨by rw [cell_at h]; rfl, by rw [cell_at h]; rfl, by rw [cell_at h]; rfl, by rw [cell_at h]; rfl, by rw [cell_at h]; rfl, by rw [cell_at h]; rfl, by rw [cell_at h]; rfl⟩, frozen_at h 0, frozen_at h 1, frozen_at h 2, frozen_at h 3, frozen_at h 4, frozen_at h 5, frozen_at h 6⟩
set_option maxRecDepth 100000 in
set_option maxHeartbeats 400000 in
theorem fit_any (w : World) (raw ring writes stamps : Int) (mu : Bool) (tr : Int) (v : Value) :
  Calls Tryz.prog 8 #[confT raw ring writes stamps mu tr v] w fun e w' => e = .returned (fcV (fitC ring writes stamps mu)) ∧ Below w.heap.size w w' := by
 have HP16 : Hid (∀ w, Calls Tryz.prog 9 #[.int .i64 ring, .int .i64 16] w fun e w' => e = .returned (.int .i64 (ring % 16)) ∧ w' = w) := fun w => gpick_any ring 16 (by decide) (by decide) w
 have HP24 : Hid (∀ w, Calls Tryz.prog 9 #[.int .i64 writes, .int .i64 24] w fun e w' => e = .returned (.int .i64 (writes % 24)) ∧ w' = w) := fun w => gpick_any writes 24 (by decide) (by decide) w
 obtain ⟨w0, hw0⟩ : ∃ w0, w0 = (w.alloc (.cells #[.int .i64 raw, .int .i64 ring, .int .i64 writes, .int .i64 stamps, .bool mu, .int .i64 tr, v] 24)).alloc (.cells #[.int .i64 0, .int .i64 0, .int .i64 0, .int .i64 0, .bool false, .int .i64 0, .slice none 0 0] 24) := ⟨_, rfl⟩
 have HB0 : Hid (Below w.heap.size w w0) := by rw [hw0]; exact below_then (below_a1 _ _) (below_a1 _ _)
 have HC0 : Hid (w0.heap[w.heap.size]? = some (.cells #[.int .i64 raw, .int .i64 ring, .int .i64 writes, .int .i64 stamps, .bool mu, .int .i64 tr, v] 24 (0, 0))) := by rw [hw0]; exact row_on (heap_alloc_new _ _) (below_a1 _ _)
 have HR0 : Hid (w0.heap[w.heap.size + 1]? = some (.cells #[.int .i64 0, .int .i64 0, .int .i64 0, .int .i64 0, .bool false, .int .i64 0, .slice none 0 0] 24 (0, 0))) := by rw [hw0]; exact heap_alloc2_new w _ _
 have c1 : w0.cell? ⟨w.heap.size, 1, none⟩ = some (.int .i64 ring) := by rw [cell_at HC0.out]; rfl
 have c2 : w0.cell? ⟨w.heap.size, 2, none⟩ = some (.int .i64 writes) := by rw [cell_at HC0.out]; rfl
 have c3 : w0.cell? ⟨w.heap.size, 3, none⟩ = some (.int .i64 stamps) := by rw [cell_at HC0.out]; rfl
 have c4 : w0.cell? ⟨w.heap.size, 4, none⟩ = some (.bool mu) := by rw [cell_at HC0.out]; rfl
 have hl0 := heap_lt HC0.out
 have hl1 := heap_lt HR0.out
 have HF : Hid (fcV (fitC ring writes stamps mu) = .agg #[.int .i64 0, .int .i64 (1 + ring % 16), .int .i64 (1 + writes % 24), .int .i64 (1 + stamps % 40), .bool mu, .int .i64 0, .slice none 0 0]) := by
  have q1 : (((ring % 16).toNat + 1 : Nat) : Int) = 1 + ring % 16 := by omega
  have q2 : (((writes % 24).toNat + 1 : Nat) : Int) = 1 + writes % 24 := by omega
  have q3 : (((stamps % 40).toNat + 1 : Nat) : Int) = 1 + stamps % 40 := by omega
  show fcV _ = _
  unfold fcV fitC
  simp only [q1, q2, q3]
 rw [HF.out]
 have e1 : IntKind.i64.wrap (1 + ring % 16) = 1 + ring % 16 := by rw [IntKind.wrap_i64]; omega
 have e2 : IntKind.i64.wrap (1 + writes % 24) = 1 + writes % 24 := by rw [IntKind.wrap_i64]; omega
 obtain ⟨z1, t1⟩ : ∃ z1, stamps.tmod 40 = z1 := ⟨_, rfl⟩
 have t1' : z1 = stamps % 40 ∨ z1 = stamps % 40 - 40 := by
  rw [← t1]
  rcases Int.le_total 0 stamps with h | h
  ·left; exact Int.tmod_eq_emod_of_nonneg h
  ·have := tmod_neg40 stamps h; exact this
 obtain ⟨z2, t2⟩ : ∃ z2, IntKind.i64.wrap (z1 + 40) = z2 := ⟨_, rfl⟩
 have t2' : z2 = z1 + 40 := by rw [← t2, IntKind.wrap_i64]; omega
 obtain ⟨z3, t3⟩ : ∃ z3, z2.tmod 40 = z3 := ⟨_, rfl⟩
 have t3' : z3 = stamps % 40 := by rw [← t3, Int.tmod_eq_emod_of_nonneg (by omega)]; omega
 have t4 : IntKind.i64.wrap (1 + z3) = 1 + z3 := by rw [IntKind.wrap_i64]; omega
 rw [← t3'] 
 clear t1' t2' t3'
 unfold confT
 go_enter Tryz.func8, Tryz.ntmps8
 go_wp2_with fail
 rw [← hw0]
 clear hw0 HF
 obtain ⟨⟨r0, r1, r2, r3, r4, r5, r6⟩, f0, f1, f2, f3, f4, f5, f6⟩ := cfg_cells HR0.out
 go_region_held3 (fun w' => w'.cell? ⟨w.heap.size, 1, none⟩ = some (.int .i64 ring) ∧ w'.cell? ⟨w.heap.size, 2, none⟩ = some (.int .i64 writes) ∧ w'.cell? ⟨w.heap.size, 3, none⟩ = some (.int .i64 stamps) ∧ w'.cell? ⟨w.heap.size, 4, none⟩ = some (.bool mu)) (first | go_keep) (first
    | (go_at_call 9; refine (gpick_any _ _ (by decide) (by decide) _).mono ?_; rintro e w1 ⟨rfl, rfl⟩))
 go_wp2
 exact ret_cfg rfl rfl (row_on (cfg_set HR0.out _ _ _ _ _ _ _) (bl_drew _)) rfl rfl ⟨rfl, below_then (belowC HB0.out (Nat.le_succ _) _ _ _ _ _ _ _) (bl_drew _)⟩
theorem below_keep {w w1 w2 : World} {F : List Nat} (h : Below w.heap.size w w1) (k : Keep F w1 w2) (hF : ∀ b ∈ F, w.heap.size ≤ b) : Below w.heap.size w w2 := h.trans (k.below h.size hF)
theorem memAt_low {w : World} {base base' : Nat} {p : Value} {c r : Nat} {L : List Ac} {F : List Nat} (h : MemAt w base p c r L F) (hb : base' ≤ base) : MemAt w base' p c r L F := by
 obtain ⟨M, H, S, C, v, h⟩ := h
 exact ⟨M, H, S, C, v, h.p, h.m, own_base h.own hb, h.F, Nat.le_trans hb h.bM, Nat.le_trans hb h.bH, Nat.le_trans hb h.bS, Nat.le_trans hb h.bC, h.c, h.r⟩
def nilR : Obj := .cells #[.slice none 0 0, .slice none 0 0, .slice none 0 0, .slice none 0 0] 45 (0, 0)
def ptrC (Tp : Nat → Nat) (q : Nat) : List Value := (List.range q).map fun k => .pointer (some ⟨Tp k, 0, none⟩)
theorem ptrC_len (Tp : Nat → Nat) (q : Nat) : (ptrC Tp q).length = q := by simp [ptrC]
theorem ptrC_add (Tp : Nat → Nat) (q T : Nat) : ptrC (setT Tp q T) (q + 1) = ptrC Tp q ++ [.pointer (some ⟨T, 0, none⟩)] := by
 unfold ptrC
 rw [List.range_succ, List.map_append]
 congr 1
 ·refine List.map_congr_left (fun k hk => ?_)
  rw [setT_else _ _ (by have := List.mem_range.1 hk; omega)]
 ·simp [setT_self]
structure PL (w : World) (base s : Nat) (n : Int) (mu : Bool) (m M B R q : Nat) (tv : Value) (Tp : Nat → Nat) (F : List Nat) (G : Nat → List Nat) : Prop where
 mem : MemAt w base (.pointer (some ⟨M, 0, none⟩)) 8 s [] F
 tx : ∀ k, k < q → TxAt w base (Tp k) (newX s n mu m) (G k)
 out : ∀ k, k < q → ∀ z ∈ G k, z ∉ F
 dis : ∀ j k, j < q → k < q → j ≠ k → ∀ z ∈ G j, z ∉ G k
 gm : w.heap[B]? = some (gmO (.pointer (some ⟨M, 0, none⟩)) tv (.slice none 0 0) (.slice none 0 0) (.slice (some ⟨R, 0, none⟩) 4 4))
 own : w.ownsRow base 37 1 tv q (ptrC Tp q)
 rd : w.heap[R]? = some nilR
 ap : ∀ z, (z = B ∨ z = R ∨ tv.ownBlock = some z) → base ≤ z ∧ z ∉ F ∧ ∀ k, k < q → z ∉ G k
theorem pl_below {w w' : World} {base s : Nat} {n : Int} {mu : Bool} {m M B R q : Nat} {tv : Value} {Tp : Nat → Nat} {F : List Nat} {G : Nat → List Nat} (h : PL w base s n mu m M B R q tv Tp F G) (k : Below w.heap.size w w') : PL w' base s n mu m M B R q tv Tp F G :=
 ⟨h.mem.below k, fun j hj => (h.tx j hj).below k, h.out, h.dis, row_on h.gm k, own_keep h.own (Keep.of_below k []) (by simp), row_on h.rd k, h.ap⟩
theorem pl_add {w w1 w3 : World} {base s : Nat} {n : Int} {mu : Bool} {m M B R q T : Nat} {tv v' : Value} {Tp : Nat → Nat} {F : List Nat} {G : Nat → List Nat} {Gq : List Nat} (h : PL w base s n mu m M B R q tv Tp F G) (hb : Below w.heap.size w w1) (ht : TxAt w1 base T (newX s n mu m) Gq) (hG : ∀ z ∈ Gq, w.heap.size ≤ z)
  (own : w3.ownsRow base 37 1 v' (q + 1) (ptrC Tp q ++ [.pointer (some ⟨T, 0, none⟩)])) (hk : Keep (B :: tv.ownBlock.toList) w1 w3) (hat : v'.ownBlock = tv.ownBlock ∨ ∃ g, v'.ownBlock = some g ∧ w1.heap.size ≤ g) (gm : w3.heap[B]? = some (gmO (.pointer (some ⟨M, 0, none⟩)) v' (.slice none 0 0) (.slice none 0 0) (.slice (some ⟨R, 0, none⟩) 4 4))) :
  PL w3 base s n mu m M B R (q + 1) v' (setT Tp q T) F (setT G q Gq) := by
 have hB := heap_lt h.gm
 have hR := heap_lt h.rd
 have hlF : ∀ z ∈ F, z < w.heap.size := fun z hz => (h.mem.lt z hz).2
 have hlG : ∀ k, k < q → ∀ z ∈ G k, z < w.heap.size := fun k hk z hz => ((h.tx k hk).lt z hz).2
 have hmem : ∀ z, z ∈ B :: tv.ownBlock.toList → z = B ∨ z = R ∨ tv.ownBlock = some z := fun z hz => by
  simp only [List.mem_cons, Option.mem_toList] at hz
  rcases hz with e | e
  ·exact Or.inl e
  ·exact Or.inr (Or.inr e)
 have hvl : ∀ z, z ∈ B :: tv.ownBlock.toList → z < w.heap.size := fun z hz => by
  simp only [List.mem_cons, Option.mem_toList] at hz
  rcases hz with e | e
  ·omega
  ·exact (h.own.lt z e).2
 have hRB : R ∉ B :: tv.ownBlock.toList := fun e => by
  simp only [List.mem_cons, Option.mem_toList] at e
  have h1 := h.gm
  have h2 := h.rd
  unfold gmO at h1
  unfold nilR at h2
  rcases e with e | e
  ·exact (ne_of_type h2 h1 (by decide)) e
  ·exact (own_ne h.own h2 (by decide)) e
 refine ⟨(h.mem.below hb).keep hk (fun b hb' e => (h.ap b (hmem b e)).2.1 hb'), fun k hkq => ?_, fun k hkq z hz => ?_, fun i j hi hj hne z hz => ?_, gm, by rw [ptrC_add]; exact own, keep_row hk (row_on h.rd hb) hRB, fun z hz => ?_⟩
 ·by_cases e : k = q
  ·subst e
   rw [setT_self, setT_self]
   exact ht.keep hk (fun z hz e => by have := hvl z e; have := hG z hz; omega)
  ·rw [setT_else _ _ e, setT_else _ _ e]
   have hkq' : k < q := by omega
   exact ((h.tx k hkq').below hb).keep hk (fun z hz e => (h.ap z (hmem z e)).2.2 k hkq' hz)
 ·by_cases e : k = q
  ·subst e
   rw [setT_self] at hz
   exact fun e => by have := hlF z e; have := hG z hz; omega
  ·rw [setT_else _ _ e] at hz
   exact h.out k (by omega) z hz
 ·by_cases e1 : i = q
  ·subst e1
   rw [setT_self] at hz
   rw [setT_else _ _ (Ne.symm hne)]
   exact fun e => by have := hlG j (by omega) z e; have := hG z hz; omega
  ·rw [setT_else _ _ e1] at hz
   by_cases e2 : j = q
   ·subst e2
    rw [setT_self]
    exact fun e => by have := hlG i (by omega) z hz; have := hG z e; omega
   ·rw [setT_else _ _ e2]
    exact h.dis i j (by omega) (by omega) hne z hz
 ·have hnew : ∀ z, (z = B ∨ z = R ∨ tv.ownBlock = some z) → base ≤ z ∧ z ∉ F ∧ ∀ k, k < q + 1 → z ∉ setT G q Gq k := fun z hz => by
   obtain ⟨a1, a2, a3⟩ := h.ap z hz
   have hzl : z < w.heap.size := by
    rcases hz with rfl | rfl | e
    ·exact hB
    ·exact hR
    ·exact (h.own.lt z e).2
   refine ⟨a1, a2, fun k hkq => ?_⟩
   by_cases e : k = q
   ·subst e; rw [setT_self]; exact fun e => by have := hG z e; omega
   ·rw [setT_else _ _ e]; exact a3 k (by omega)
  rcases hz with e | e | e
  ·exact hnew z (Or.inl e)
  ·exact hnew z (Or.inr (Or.inl e))
  ·rcases hat with ha | ⟨g, ha, hg⟩
   ·exact hnew z (Or.inr (Or.inr (by rw [← ha]; exact e)))
   ·have hzg : z = g := by rw [ha] at e; exact (Option.some.inj e).symm
    subst hzg
    have hs := hb.size
    refine ⟨(own.lt z e).1, fun e => by have := hlF z e; omega, fun k hkq => ?_⟩
    by_cases ek : k = q
    ·subst ek; rw [setT_self]; exact fun e => by have := (ht.lt z e).2; omega
    ·rw [setT_else _ _ ek]; exact fun e => by have := hlG k (by omega) z e; omega
theorem pl_end {w : World} {base s : Nat} {n : Int} {mu : Bool} {m M B R : Nat} {tv : Value} {Tp : Nat → Nat} {F : List Nat} {G : Nat → List Nat} (h : PL w base s n mu m M B R 4 tv Tp F G) :
  ∃ X A cap cur, tv = .slice (some ⟨X, 0, none⟩) 4 cap ∧ GG w base (.pointer (some ⟨M, 0, none⟩)) 8 s [] Tp (fun _ => newX s n mu m) A ∧ w.heap[X]? = some (txsO cur) ∧ Ptrs cur Tp ∧ B ∉ A ∧ X ∉ A ∧ R ∉ A ∧ base ≤ B ∧ base ≤ X ∧ base ≤ R := by
 have hap : ∀ z, (z = B ∨ z = R ∨ tv.ownBlock = some z) → z ∉ allB F G := fun z hz e => by
  obtain ⟨_, a2, a3⟩ := h.ap z hz
  rcases mem_all.mp e with e | ⟨k, hk, e⟩
  ·exact a2 e
  ·exact a3 k hk e
 obtain ⟨hl, ho⟩ := h.own
 rcases ho with ⟨_, e⟩ | ⟨X, cap, cur, rfl, hX, hh, hn, _, hsz, htk⟩
 ·omega
 ·refine ⟨X, allB F G, cap, cur, rfl, ⟨F, G, ⟨h.mem, h.tx, h.out, h.dis⟩, rfl⟩, hh, fun k hk => ?_, hap B (Or.inl rfl), hap X (Or.inr (Or.inr rfl)), hap R (Or.inr (Or.inl rfl)), (h.ap B (Or.inl rfl)).1, hX, (h.ap R (Or.inr (Or.inl rfl))).1⟩
  have h1 : (cur.toList.take (4 * 1))[k]? = some (.pointer (some ⟨Tp k, 0, none⟩)) := by
   rw [htk]
   unfold ptrC
   rw [List.getElem?_map, List.getElem?_range hk]
   rfl
  rw [List.getElem?_take_of_lt (by omega)] at h1
  simpa using h1
theorem info_txp : (Tryz.prog.info? 37).map (fun i => (i.zero, i.size, i.bytes)) = some (some (.pointer none), 1, 8) := by kernel_rfl
theorem info_evs : (Tryz.prog.info? 45).map (fun i => (i.zero, i.size, i.bytes)) = some (some (.slice none 0 0), 1, 24) := by kernel_rfl
theorem make_evs (w : World) : (Instr.makeSlice 42 (.int .i64 4) (.int .i64 4)).run Tryz.prog w = .ok (.slice (some ⟨w.heap.size, 0, none⟩) 4 4) (w.alloc nilR) := by
 obtain ⟨i0, hi, hz0, hz1, hz2⟩ := info_parts info_evs
 have := run_make (P := Tryz.prog) w 42 45 i0 _ Tryz.underlying42 hi hz0 .i64 .i64 4 4 (by omega) (by omega) (by rw [hz2]; omega) (by omega)
 rw [this, hz1]
 have : madeCells (Value.slice none 0 0).cells (Int.toNat 4 * 1) = #[.slice none 0 0, .slice none 0 0, .slice none 0 0, .slice none 0 0] := by
  apply Array.ext'
  simp [madeCells, Value.cells, List.range_succ]
 rw [this]
 rfl
set_option maxRecDepth 100000 in
set_option maxHeartbeats 1600000 in
theorem play_any (w : World) {d : Fc} (s1 : 1 ≤ d.s) (s2 : d.s ≤ 16) (m1 : 1 ≤ d.m) (m2 : d.m ≤ 24) (n1 : 1 ≤ d.n) (n2 : d.n ≤ 40) :
  Calls Tryz.prog 7 #[fcV d] w fun e w' => ∃ B X R p Tp A cap cur, e = .returned (.pointer (some ⟨B, 0, none⟩)) ∧ GG w' w.heap.size p 8 d.s [] Tp (fun _ => newX d.s d.n d.mu d.m) A ∧ w'.heap[B]? = some (gmO p (.slice (some ⟨X, 0, none⟩) 4 cap) (.slice none 0 0) (.slice none 0 0) (.slice (some ⟨R, 0, none⟩) 4 4)) ∧ w'.heap[X]? = some (txsO cur) ∧ Ptrs cur Tp ∧ w'.heap[R]? = some (.cells #[.slice none 0 0, .slice none 0 0, .slice none 0 0, .slice none 0 0] 45 (0, 0)) ∧ B ∉ A ∧ X ∉ A ∧ R ∉ A ∧ w.heap.size ≤ B ∧ w.heap.size ≤ X ∧ w.heap.size ≤ R ∧ Below w.heap.size w w' := by
 have HMN : Hid (∀ w : World, Calls Tryz.prog 20 #[.int .i64 8, .int .i64 (d.s : Int)] w fun e w' => ∃ p F, e = .returned (.tuple #[p, .int .i64 0]) ∧ p ≠ .pointer none ∧ MemAt w' w.heap.size p 8 d.s [] F ∧ Below w.heap.size w w') := fun w => new_yes w 8 d.s (by decide) ⟨by omega, s2⟩
 have HTN : Hid (∀ (w : World) (base : Nat), base ≤ w.heap.size → Calls Tryz.prog 21 #[fcV d] w fun e w' => ∃ T G, e = .returned (.tuple #[.pointer (some ⟨T, 0, none⟩), .int .i64 0]) ∧ TxAt w' base T (newX d.s d.n d.mu d.m) G ∧ (∀ q ∈ G, w.heap.size ≤ q) ∧ Below w.heap.size w w') := fun w base hb => newT_yes w base hb 0 d.s d.m d.n d.mu 0 (.slice none 0 0) s1 s2 (by omega) (by omega) m1 m2
 obtain ⟨s, m, n, mu⟩ := d
 simp only at HMN HTN s1 s2 m1 m2 n1 n2 ⊢
 unfold fcV at *
 simp only at HTN ⊢
 have HMK : Hid (∀ w, (Instr.makeSlice 42 (.int .i64 4) (.int .i64 4)).run Tryz.prog w = .ok (.slice (some ⟨w.heap.size, 0, none⟩) 4 4) (w.alloc nilR)) := make_evs
 have hmk := HMK.out
 go_enter Tryz.func7, Tryz.ntmps7
 go_wp2_with fail
 refine (HMN.out _).mono ?_
 rintro e y1 ⟨p, F, rfl, hp, hm, hb1⟩
 obtain ⟨M, rfl⟩ := hm.ptr
 clear hp
 go_wp2_with fail
 have HM1 : Hid (MemAt y1 w.heap.size (.pointer (some ⟨M, 0, none⟩)) 8 s [] F) := (show MemAt y1 w.heap.size _ 8 s [] F from memAt_low hm (by simp))
 have HB1 : Hid (Below w.heap.size w y1) := below_then (below_a1 _ _) hb1
 have HC1 : Hid (y1.heap[w.heap.size]? = some (.cells #[.int .i64 0, .int .i64 (s : Int), .int .i64 (m : Int), .int .i64 (n : Int), .bool mu, .int .i64 0, .slice none 0 0] 24 (0, 0))) := row_on (heap_alloc_new _ _) hb1
 have hy1 : w.heap.size ≤ y1.heap.size := HB1.out.size
 obtain ⟨R, hR⟩ : ∃ R, R = y1.heap.size := ⟨_, rfl⟩
 obtain ⟨B, hB⟩ : ∃ B, B = y1.heap.size + 1 := ⟨_, rfl⟩
 obtain ⟨y2, hy2⟩ : ∃ y2, y2 = (y1.alloc nilR).alloc (.cells #[.pointer (some ⟨M, 0, none⟩), .slice none 0 0, .slice none 0 0, .slice none 0 0, .slice (some ⟨y1.heap.size, 0, none⟩) 4 4] 44) := ⟨_, rfl⟩
 have HP0 : Hid (PL y2 w.heap.size s n mu m M B R 0 (.slice none 0 0) (fun _ => 0) F (fun _ => [])) := by
  have hlF := HM1.out.lt
  have k2 : Below y1.heap.size y1 y2 := by rw [hy2]; exact below_then (below_a1 _ _) (below_a1 _ _)
  refine ⟨HM1.out.below k2, fun k hk => by omega, fun k hk => by omega, fun j k hj => by omega, ?_, by simpa [ptrC] using World.ownsRow_nil _ _ _ _, ?_, fun z hz => ?_⟩
  ·rw [hy2, hB, hR]; exact heap_alloc2_new y1 _ _
  ·rw [hy2, hR]; exact row_on (heap_alloc_new _ _) (below_a1 _ _)
  ·have hz' : y1.heap.size ≤ z := by
    rcases hz with e | e | e
    ·omega
    ·omega
    ·simp [Value.ownBlock] at e
   exact ⟨by omega, fun e => by have := (hlF z e).2; omega, fun k hk => by omega⟩
 have HB2 : Hid (Below w.heap.size w y2) := by rw [hy2]; exact below_then HB1.out (below_then (below_a1 _ _) (below_a1 _ _))
 have HC2 : Hid (y2.heap[w.heap.size]? = some (.cells #[.int .i64 0, .int .i64 (s : Int), .int .i64 (m : Int), .int .i64 (n : Int), .bool mu, .int .i64 0, .slice none 0 0] 24 (0, 0))) := by rw [hy2]; exact row_on HC1.out (below_then (below_a1 _ _) (below_a1 _ _))
 rw [← hy2, ← hB]
 have HWB : Hid (w.heap.size < B) := by show w.heap.size < B; omega
 clear hy2 HM1 HB1 HC1 hy1 hm hb1 hmk HMK HMN hB hR
 obtain ⟨i0, hi, hz0, hz1, hz2⟩ := info_parts info_txp
 go_loopw [6] (fun iv wr => ∃ (q : Nat) (tv : Value) (Tp : Nat → Nat) (G : Nat → List Nat), q ≤ 4 ∧ iv = .int .i64 q ∧ PL wr w.heap.size s n mu m M B R q tv Tp F G ∧ Below w.heap.size w wr ∧ wr.heap[w.heap.size]? = some (.cells #[.int .i64 0, .int .i64 (s : Int), .int .i64 (m : Int), .int .i64 (n : Int), .bool mu, .int .i64 0, .slice none 0 0] 24 (0, 0))) (fun iv _ => 4 - (intOf iv).toNat)
 case atStart => exact ⟨0, _, _, _, by omega, rfl, HP0.out, HB2.out, HC2.out⟩
 case round =>
  obtain ⟨q, tv, Tp, G, hq, rfl, hpl, hb, hc⟩ := hrel
  have HPL : Hid (PL wr w.heap.size s n mu m M B R q tv Tp F G) := hpl
  have HB : Hid (Below w.heap.size w wr) := hb
  have HC : Hid (wr.heap[w.heap.size]? = some (.cells #[.int .i64 0, .int .i64 (s : Int), .int .i64 (m : Int), .int .i64 (n : Int), .bool mu, .int .i64 0, .slice none 0 0] 24 (0, 0))) := hc
  by_cases hlt : q < 4
  ·obtain ⟨⟨r0, r1, r2, r3, r4, r5, r6⟩, _⟩ := cfg_cells hc
   have hcl := heap_lt hc
   have hx1 : (q : Int) < 4 := by omega
   clear hpl hb hc
   go_wp2_with fail
   refine (HTN.out _ w.heap.size HB.out.size).mono ?_
   rintro e w1 ⟨T, Gq, rfl, ht, hG, hb1⟩
   have HT : Hid (TxAt w1 w.heap.size T (newX s n mu m) Gq ∧ ∀ z ∈ Gq, wr.heap.size ≤ z) := ⟨ht, hG⟩
   have HPB : Hid (Below wr.heap.size wr w1) := hb1
   have HP1 : Hid (PL w1 w.heap.size s n mu m M B R q tv Tp F G) := pl_below HPL.out hb1
   have c1 := gm_c1 HP1.out.gm
   have f1 : w1.frozen? ⟨B, 1, none⟩ = false := by have := HP1.out.gm; unfold gmO at this; exact frozen_at this 1
   have hBl := heap_lt HP1.out.gm
   have HOW : Hid (w1.ownsRow w.heap.size 37 1 tv q (ptrC Tp q)) := HP1.out.own
   have hlen := ptrC_len Tp q
   obtain ⟨av, cv, rfl⟩ := own_slice HOW.out
   have hbs : w.heap.size ≤ w1.heap.size := Nat.le_trans HB.out.size hb1.size
   have hMv : (Value.slice av q cv).ownBlock ≠ some B := by have := HP1.out.gm; unfold gmO at this; exact own_ne HOW.out this (by decide)
   have HMv : Hid ((Value.slice av q cv).ownBlock ≠ some B) := hMv
   obtain ⟨xs, HXS⟩ : ∃ xs, Hid (ptrC Tp q = xs) := ⟨_, rfl⟩
   rw [HXS.out] at HOW hlen
   clear ht hG hb1 r0 r1 r2 r3 r4 r5 r6 hcl hMv
   go_wp2_with (at_builtin; refine list_lies_wide _ rfl _ _ 39 rfl w.heap.size 37 i0 _ 1 8 Tryz.underlying39 hi hz0 hz1 hz2 rfl (by decide) _ _ _ rfl (HOW.out.alloc _) ⟨w1.heap.size, 0, none⟩ 1 1 [.pointer (some ⟨T, 0, none⟩)] rfl rfl ?c1 ?c2 (by decide) ?c3 ?c4 ?c5 _ rfl ?_)
   case c1 => exact World.news_of_block (cs := #[.pointer (some ⟨T, 0, none⟩)]) (t := 37) (fr := (0, 0)) (heap_alloc_new w1 _)
   case c2 => simp [Value.oneCell']
   case c3 => unfold maxLen; omega
   case c4 => omega
   case c5 => simp; omega
   intro gg cap' w3 hown1 hgrow hat hlt2
   have hat2 : (Value.slice av q cv).ownBlock = some gg ∨ gg = w1.heap.size + 1 := by simpa using hat
   have hs1 : w3.cell? ⟨B, 1, none⟩ = some (.slice av q cv) := by rw [hgrow.cell_far _ (by simp; omega) (Ne.symm HMv.out), World.cell?_alloc_past _ _ _ hBl]; exact c1
   have hs2 : w3.frozen? ⟨B, 1, none⟩ = false := by rw [hgrow.frozen_far _ (by simp; omega) (Ne.symm HMv.out), World.frozen?_alloc_past _ _ _ hBl]; exact f1
   have hs3 : B < w3.heap.size := by have := hgrow.size; simp at this; omega
   have HN : Hid (PL (w3.setCell ⟨B, 1, none⟩ (.slice (some ⟨gg, 0, none⟩) (q + 1) cap')) w.heap.size s n mu m M B R (q + 1) (.slice (some ⟨gg, 0, none⟩) (q + 1) cap') (setT Tp q T) F (setT G q Gq) ∧ Below w.heap.size w (w3.setCell ⟨B, 1, none⟩ (.slice (some ⟨gg, 0, none⟩) (q + 1) cap')) ∧ (w3.setCell ⟨B, 1, none⟩ (.slice (some ⟨gg, 0, none⟩) (q + 1) cap')).heap[w.heap.size]? = some (.cells #[.int .i64 0, .int .i64 (s : Int), .int .i64 (m : Int), .int .i64 (n : Int), .bool mu, .int .i64 0, .slice none 0 0] 24 (0, 0))) := by
    have hK3 : Keep (B :: (Value.slice av q cv).ownBlock.toList) w1 w3 := ((Keep.refl _ _).alloc _).grown hgrow (fun b hb => Or.inl (by simp [hb]))
    have hK : Keep (B :: (Value.slice av q cv).ownBlock.toList) w1 (w3.setCell ⟨B, 1, none⟩ (.slice (some ⟨gg, 0, none⟩) (q + 1) cap')) := hK3.setCell _ _ (Or.inl (by simp))
    have hgB : gg ≠ B := fun e => by
     rcases hat2 with h | h
     ·exact HMv.out (by rw [← e]; exact h)
     ·omega
    have hw3B : w3.heap[B]? = some (gmO (.pointer (some ⟨M, 0, none⟩)) (.slice av q cv) (.slice none 0 0) (.slice none 0 0) (.slice (some ⟨R, 0, none⟩) 4 4)) := by
     have hk' : Keep (Value.slice av q cv).ownBlock.toList w1 w3 := ((Keep.refl _ _).alloc _).grown hgrow (fun b hb => Or.inl (by simp [hb]))
     exact keep_row hk' HP1.out.gm (fun e => HMv.out (by simpa using e))
    have hgm : (w3.setCell ⟨B, 1, none⟩ (.slice (some ⟨gg, 0, none⟩) (q + 1) cap')).heap[B]? = some (gmO (.pointer (some ⟨M, 0, none⟩)) (.slice (some ⟨gg, 0, none⟩) (q + 1) cap') (.slice none 0 0) (.slice none 0 0) (.slice (some ⟨R, 0, none⟩) 4 4)) := by
     unfold gmO at hw3B ⊢
     rw [heap_set hw3B]; rfl
    have hown3 : (w3.setCell ⟨B, 1, none⟩ (.slice (some ⟨gg, 0, none⟩) (q + 1) cap')).ownsRow w.heap.size 37 1 (.slice (some ⟨gg, 0, none⟩) (q + 1) cap') (q + 1) (xs ++ [.pointer (some ⟨T, 0, none⟩)]) :=
     own_keep hown1 (F := [B]) ((Keep.refl _ _).setCell _ _ (Or.inl (by simp))) (fun b hb e => by simp [Value.ownBlock] at hb e; omega)
    have hBw : w.heap.size ∉ B :: (Value.slice av q cv).ownBlock.toList := fun e => by
     have := HWB.out
     simp only [List.mem_cons, Option.mem_toList] at e
     rcases e with e | e
     ·omega
     ·exact (own_ne HOW.out (row_on HC.out HPB.out) (by decide)) e
    refine ⟨pl_add HPL.out HPB.out HT.out.1 HT.out.2 (by rw [HXS.out]; exact hown3) hK ?_ hgm, ?_, keep_row hK (row_on HC.out HPB.out) hBw⟩
    ·rcases hat2 with h | h
     ·exact Or.inl (by rw [h]; rfl)
     ·exact Or.inr ⟨gg, rfl, by omega⟩
    ·refine below_keep (below_then HB.out HPB.out) hK (fun b hb => ?_)
     have := HWB.out
     simp only [List.mem_cons, Option.mem_toList] at hb
     rcases hb with e | e
     ·omega
     ·exact (own_block HOW.out b e).1
   clear hown1 hgrow hat hat2 hlt2 c1 f1
   go_wp2
   go_roundw
   case rel => exact ⟨q + 1, _, _, _, by omega, by go_num, HN.out⟩
   case measure => simp [intOf]; omega
  ·obtain rfl : q = 4 := by omega
   obtain ⟨X, A, cap, cur, rfl, q1, q2, q3, q4, q5, q6, q7, q8, q9⟩ := pl_end HPL.out
   have HGM := HPL.out.gm
   have HRD := HPL.out.rd
   clear hpl hb hc
   go_wp2
   go_ret
   exact ⟨B, X, R, _, Tp, A, cap, cur, rfl, q1, HGM, q2, q3, HRD, q4, q5, q6, q7, q8, q9, HB.out⟩
end Go.Proofs.YtgjahjnomfijfaaGreat
