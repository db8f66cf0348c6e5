/- T4, T5 as numbers: the owner of the oldest entry goes on, and is through; someone moves. -/
import Derived.Test.YtbeaaapkjoegoaaGreatJTyBTyI
import Derived.Test.YtbeaaapkjoegoaaGreatBkU
namespace Go.Proofs.YtbeaaapkjoegoaaGreat
open Go.RowKit (wrap64)
set_option linter.unusedVariables false

theorem own_ho {L : List Ac} {g : Rg} (h : RI (wordOf L) g) {q : Nat} (h1 : q = g.d + 1) (h2 : q ≤ g.n) : Ba.HO (g.P q) L := fun k hk => by
  obtain ⟨k1, k2, k3⟩ := hk
  have k2' : k < (q : Int) := k2
  have hv := ri_over h (k := k) k1 (by omega)
  unfold Ba.hdB
  rw [ad_head h.s1 h.s16 q k, hv]
  simp
  omega
theorem hap_len {W : Ev → Prop} {c : Nat} {N : Int} {m : Nat} {L : List Ac} {g : Rg} {T : Nat → Tx} {R : Nat → List (Int × Int)} {k : Nat} {pre : List Ev} {o : Out} {E : List Ev} {g' : Rg} {r' : List (Int × Int)} (h : Hap W c N m L g T R k pre o E g' r') : o.L.length ≤ L.length + 1 := by
  rcases h.acc with ⟨_, e⟩ | ⟨_, e⟩
  · omega
  · rw [e]; omega
/-- A step of the oldest entry's owner. -/
theorem mv_step {c : Nat} {N : Int} {m : Nat} {L : List Ac} {g : Rg} {T : Nat → Tx} {R : Nat → List (Int × Int)} {k : Nat} (h : WI c N m L g T R) (hk : k < 4) (t : Int) {P : Ba.Bp} {b : Ba.Bk} (hy : (T k).wy = .wr P b) (hst : P.st = (g.d : Int) + 1) :
    (stepX c g.s (T k) L t).k ≠ 1 ∧ ((stepX c g.s (T k) L t).x.phase = 0 ∨ ∃ b', (stepX c g.s (T k) L t).x.wy = .wr P b' ∧ Ba.mB P b' < Ba.mB P b) := by
  obtain ⟨q, q1, q2, rfl, rfl⟩ := h.wr k hk P b hy
  have hq : q = g.d + 1 := by have : (q : Int) = (g.d : Int) + 1 := hst; omega
  obtain ⟨b1, b2, b3⟩ := h.ri.bk q q1 q2
  have hx := h.ok k hk
  have hw := hx.wy
  unfold wyOk at hw
  rw [hy] at hw
  have hg : Ba.goesB c g.s (g.P q) (g.bk q) = true := Ba.goesB_iff.mpr ⟨b2, rfl, fun y hy' => by
    rw [hw.2.1] at hy'
    unfold toW at hy'
    obtain ⟨z, hz, rfl⟩ := List.mem_map.1 hy'
    exact (h.ti k hk).1 z hz⟩
  obtain ⟨e1, e2⟩ := Ba.end_step b1 (own_ho h.ri hq q2) hg
  have hM : stepM c g.s (T k) L t = ⟨.wr (g.P q) (Ba.nextBk c g.s (g.P q) (g.bk q) L), Ba.nextBL c g.s (g.P q) (g.bk q) L t, Ba.ansBk c g.s (g.P q) (g.bk q) L, 0, 0, Ba.goesB c g.s (g.P q) (g.bk q)⟩ := by unfold stepM; rw [hy]
  have ha : Ba.ansBk c g.s (g.P q) (g.bk q) L = if (g.bk q).nx = 8 then 3 else 2 := by unfold Ba.ansBk; rw [if_pos hg, e1]; simp
  have hn : Ba.nextBk c g.s (g.P q) (g.bk q) L = Ba.stepB (g.P q) (g.bk q) (wordOf L (Ba.adB (g.P q) (g.bk q))) := by unfold Ba.nextBk; rw [if_pos hg]
  unfold stepX
  rw [hM, ha, hn]
  unfold goOn
  by_cases e8 : (g.bk q).nx = 8
  · simp only [e8, if_true, show ¬ ((3 : Int) = 4) by decide, if_false, finX]
    exact ⟨by decide, Or.inl rfl⟩
  · simp only [e8, if_false, show ¬ ((2 : Int) = 4) by decide, show ¬ ((2 : Int) = 3) by decide]
    exact ⟨by decide, Or.inr ⟨_, rfl, e2⟩⟩
/-- One that is in no transaction stays there. -/
theorem mv_none {c r : Nat} {x : Tx} {L : List Ac} {t : Int} (h : x.phase = 0) : stepX c r x L t = ⟨x, L, 0, 0, 0, false⟩ := by
  refine stepX_no ?_
  unfold Tx.phase at h
  cases hy : x.wy with
  | no => rfl
  | _ => rw [hy] at h; simp at h
/-- How far the owner of the oldest entry is: n steps are left. -/
def Lft (g : Rg) (x : Tx) (n : Nat) : Prop := x.phase = 0 ∨ ∃ P b, x.wy = .wr P b ∧ P.st = (g.d : Int) + 1 ∧ Ba.mB P b ≤ n
theorem lft_step {c : Nat} {N : Int} {m : Nat} {L : List Ac} {g : Rg} {T : Nat → Tx} {R : Nat → List (Int × Int)} {k n : Nat} (h : WI c N m L g T R) (hk : k < 4) (hl : Lft g (T k) (n + 1)) (t : Int) :
    (stepX c g.s (T k) L t).k ≠ 1 ∧ ∃ g' R', WI c N m (stepX c g.s (T k) L t).L g' (setT T k (stepX c g.s (T k) L t).x) R' ∧ Lft g' (stepX c g.s (T k) L t).x n ∧ g'.s = g.s ∧ (stepX c g.s (T k) L t).L.length ≤ L.length + 1 := by
  rcases hl with h0 | ⟨P, b, hy, hst, hb⟩
  · rw [mv_none h0]
    exact ⟨by simp, g, R, by rw [setT_id]; exact h, Or.inl h0, rfl, by simp⟩
  · obtain ⟨a1, a2⟩ := mv_step h hk t hy hst
    obtain ⟨E, g', r', q⟩ := hap_step h hk t
    have hs : g'.s = g.s := by
      have h1 := (q.wi.cf k hk).s
      rw [setT_self] at h1
      rw [← h1, (step_cf (h.cf k hk) c g.s L t).s]
    refine ⟨a1, g', setT R k r', q.wi, ?_, hs, hap_len q⟩
    rcases a2 with e | ⟨b', e, lt⟩
    · exact Or.inl e
    · refine Or.inr ⟨P, b', e, ?_, by omega⟩
      have hst' : stOf (stepX c g.s (T k) L t).x = P.st := by unfold stOf; rw [e]
      have hsx : stOf (T k) = P.st := by unfold stOf; rw [hy]
      have hpos : stOf (stepX c g.s (T k) L t).x ≠ 0 := by rw [hst', hst]; omega
      have hdd : g'.d = g.d := by
        rcases q.tel with ⟨_, _, e3, _⟩ | ⟨ev, _, t1⟩
        · exact e3
        · unfold Tel at t1
          rcases t1 with ⟨_, e3, _⟩ | ⟨_, e3, _⟩ | ⟨_, e3, _⟩ | ⟨_, e3, _⟩ | ⟨_, _, _, _, e5⟩ | ⟨_, e3, _⟩
          · rw [e3]
          · rw [e3]
          · rw [e3]
          · rw [e3]; rfl
          · exact absurd e5 hpos
          · rw [e3]
      rw [hst, hdd]
theorem lft_end {g : Rg} {x : Tx} (hx : XOk x) (h : Lft g x 0) : x.phase = 0 := by
  rcases h with h | ⟨P, b, hy, _, hb⟩
  · exact h
  · have hw := hx.wy
    unfold wyOk at hw
    rw [hy] at hw
    exact absurd (Ba.mB_zero hw.2.2.1 (by omega)) hw.2.2.2
theorem lft_first {c : Nat} {N : Int} {m : Nat} {L : List Ac} {g : Rg} {T : Nat → Tx} {R : Nat → List (Int × Int)} {k : Nat} (h : WI c N m L g T R) (hk : k < 4) (hst : stOf (T k) = (g.d : Int) + 1) : Lft g (T k) (m + 9 * g.s + 2) := by
  unfold stOf at hst
  cases hy : (T k).wy with
  | wr P b =>
    rw [hy] at hst
    have hx := h.ok k hk
    have hw := hx.wy
    unfold wyOk at hw
    rw [hy] at hw
    refine Or.inr ⟨P, b, hy, hst, ?_⟩
    have h1 := Ba.mB_le hw.2.2.1
    have h2 : P.W.length ≤ m := by rw [hw.2.1, toW_len, ← (h.cf k hk).m]; exact hx.inv.len
    have := h.ri.s1
    omega
  | no => rw [hy] at hst; simp only at hst; omega
  | bg b => rw [hy] at hst; simp only at hst; omega
  | rd P b => rw [hy] at hst; simp only at hst; omega
  | cm P b u => rw [hy] at hst; simp only at hst; omega
theorem st_one {c : Nat} {N : Int} {m : Nat} {L : List Ac} {g : Rg} {T : Nat → Tx} {R : Nat → List (Int × Int)} {i j : Nat} (h : WI c N m L g T R) (hi : i < 4) (hj : j < 4) {o : Int} (ho : 1 ≤ o) (h1 : stOf (T i) = o) (h2 : stOf (T j) = o) : i = j := by
  have key : ∀ x : Tx, stOf x = o → ∃ P b, x.wy = .wr P b ∧ P.st = o := fun x hx => by
    unfold stOf at hx
    cases hy : x.wy with
    | wr P b => rw [hy] at hx; exact ⟨P, b, rfl, hx⟩
    | no => rw [hy] at hx; simp only at hx; omega
    | bg b => rw [hy] at hx; simp only at hx; omega
    | rd P b => rw [hy] at hx; simp only at hx; omega
    | cm P b u => rw [hy] at hx; simp only at hx; omega
  obtain ⟨P, b, e1, e2⟩ := key _ h1
  obtain ⟨P', b', e3, e4⟩ := key _ h2
  exact h.one i j P b P' b' hi hj e1 e3 (e2.trans e4.symm)
/-! ### someone moves -/
def Mv (g : Rg) (T : Nat → Tx) (k : Nat) (busy moves : Nat) : Prop := 0 < moves ∨ (moves = 0 ∧ (g.d = g.n → busy = 0) ∧ (g.d ≠ g.n → ∃ q, k ≤ q ∧ q < 4 ∧ stOf (T q) = (g.d : Int) + 1))
theorem mv_first {c : Nat} {N : Int} {m : Nat} {L : List Ac} {g : Rg} {T : Nat → Tx} {R : Nat → List (Int × Int)} (h : WI c N m L g T R) : Mv g T 0 0 0 := by
  refine Or.inr ⟨rfl, fun _ => rfl, fun hne => ?_⟩
  have := h.ri.dn
  obtain ⟨q, q1, q2⟩ := h.own (g.d + 1) (by omega) (by omega)
  refine ⟨q, Nat.zero_le _, q1, ?_⟩
  unfold stOf
  rw [q2]
  show ((g.d + 1 : Nat) : Int) = _
  omega
theorem mv_idle {g : Rg} {T : Nat → Tx} {k busy moves : Nat} (h : Mv g T k busy moves) (hp : (T k).phase = 0 ∨ (T k).phase = 2) : Mv g T (k + 1) busy moves := by
  rcases h with h | ⟨h1, h2, h3⟩
  · exact Or.inl h
  · refine Or.inr ⟨h1, h2, fun hne => ?_⟩
    obtain ⟨q, q1, q2, q3⟩ := h3 hne
    have hqk : q ≠ k := fun e => by
      subst e
      have := stOf_no ((ph_no (p := (T q).phase) rfl).2 (by rcases hp with e | e <;> omega))
      omega
    exact ⟨q, by omega, q2, q3⟩
theorem mv_busy {c : Nat} {N : Int} {m : Nat} {L : List Ac} {g : Rg} {T : Nat → Tx} {R : Nat → List (Int × Int)} {k busy moves : Nat} (h : WI c N m L g T R) (hk : k < 4) (hm : Mv g T k busy moves) (t : Int) :
    ∃ g' R', WI c N m (stepX c g.s (T k) L t).L g' (setT T k (stepX c g.s (T k) L t).x) R' ∧ g'.s = g.s ∧ (stepX c g.s (T k) L t).L.length ≤ L.length + 1 ∧ Mv g' (setT T k (stepX c g.s (T k) L t).x) (k + 1) (busy + 1) (if (stepX c g.s (T k) L t).k = 1 then moves else moves + 1) := by
  obtain ⟨E, g', r', q⟩ := hap_step h hk t
  have hs : g'.s = g.s := by
    have h1 := (q.wi.cf k hk).s
    rw [setT_self] at h1
    rw [← h1, (step_cf (h.cf k hk) c g.s L t).s]
  refine ⟨g', setT R k r', q.wi, hs, hap_len q, ?_⟩
  by_cases e : (stepX c g.s (T k) L t).k = 1
  · rw [if_pos e]
    obtain ⟨w1, w2, w3, w4, w5, w6⟩ := q.wait e
    rcases hm with hm | ⟨m1, m2, m3⟩
    · exact Or.inl hm
    · rw [w5]
      refine Or.inr ⟨m1, fun e => absurd e w4, fun _ => ?_⟩
      obtain ⟨z, z1, z2, z3⟩ := m3 w4
      have hzk : z ≠ k := fun e => by subst e; exact w6 z3
      exact ⟨z, by omega, z2, by rw [setT_else _ _ hzk]; exact z3⟩
  · rw [if_neg e]
    exact Or.inl (Nat.succ_pos _)
theorem mv_last {g : Rg} {T : Nat → Tx} {busy moves : Nat} (h : Mv g T 4 busy moves) : busy = 0 ∨ 0 < moves := by
  rcases h with h | ⟨h1, h2, h3⟩
  · exact Or.inr h
  · by_cases e : g.d = g.n
    · exact Or.inl (h2 e)
    · obtain ⟨q, q1, q2, _⟩ := h3 e
      omega
/-! ### the first loop: what the stamps say -/
theorem st_tells {W : Ev → Prop} {c : Nat} {N : Int} {m : Nat} {L : List Ac} {g : Rg} {T : Nat → Tx} {R : Nat → List (Int × Int)} {k : Nat} {pre : List Ev} {o : Out} {E : List Ev} {g' : Rg} {r' : List (Int × Int)} (h : Hap W c N m L g T R k pre o E g' r') :
    (E = [] ∧ stOf o.x = stOf (T k) ∧ g'.d = g.d) ∨ ∃ e, E = [e] ∧ ((e.kind = 4 ∧ stOf o.x = e.stamp ∧ g'.d = g.d) ∨ (e.kind = 5 ∧ stOf o.x = 0 ∧ (g'.d : Int) = e.stamp) ∨ (e.kind ≠ 4 ∧ e.kind ≠ 5 ∧ stOf o.x = stOf (T k) ∧ g'.d = g.d)) := by
  rcases h.tel with ⟨a1, _, a3, _, a5⟩ | ⟨e, a1, t⟩
  · exact Or.inl ⟨a1, a5, a3⟩
  · refine Or.inr ⟨e, a1, ?_⟩
    unfold Tel at t
    rcases t with ⟨b1, b2, _, _, _, b6⟩ | ⟨b1, b2, _, _, b6⟩ | ⟨b1, b2, _, b6⟩ | ⟨b1, b2, _, b4, _, _, _, b6⟩ | ⟨b1, b2, _, b4, b6⟩ | ⟨b1, b2, _, _, b6⟩
    · exact Or.inr (Or.inr ⟨by omega, by omega, b6, by rw [b2]⟩)
    · exact Or.inr (Or.inr ⟨by omega, by omega, b6, by rw [b2]⟩)
    · exact Or.inr (Or.inr ⟨by omega, by omega, b6, by rw [b2]⟩)
    · exact Or.inl ⟨b1, by rw [b6, b4], by rw [b2]; rfl⟩
    · exact Or.inr (Or.inl ⟨b1, b6, by rw [b2, b4]; show ((g.d + 1 : Nat) : Int) = _; omega⟩)
    · exact Or.inr (Or.inr ⟨by omega, by omega, b6, by rw [b2]⟩)
end Go.Proofs.YtbeaaapkjoegoaaGreat
/- A game as it lies, and acts that are handed in. -/
namespace Go.Proofs.YtbeaaapkjoegoaaGreat
open Go.ChangeShapes Go.WideShapes Go.ChangeAt Go.RowKit
set_option linter.unusedVariables false

structure GB (w : World) (base s : Nat) (p : Value) (L : List Ac) (Tp : Nat → Nat) (T : Nat → Tx) (A : List Nat) (B X cap : Nat) (cur : Array Value) (sv wv rv : Value) : Prop where
  gg : GG w base p 8 s L Tp T A
  gm : w.heap[B]? = some (gmO p (.slice (some ⟨X, 0, none⟩) 4 cap) sv wv rv)
  tx : w.heap[X]? = some (txsO cur)
  pt : Ptrs cur Tp
  bA : B ∉ A
  xA : X ∉ A
theorem GB.below {w w' : World} {base s : Nat} {p : Value} {L : List Ac} {Tp : Nat → Nat} {T : Nat → Tx} {A : List Nat} {B X cap : Nat} {cur : Array Value} {sv wv rv : Value} (h : GB w base s p L Tp T A B X cap cur sv wv rv) (k : Below w.heap.size w w') : GB w' base s p L Tp T A B X cap cur sv wv rv :=
  ⟨h.gg.below k, row_on h.gm k, row_on h.tx k, h.pt, h.bA, h.xA⟩
theorem GB.next {w w' : World} {base s : Nat} {p : Value} {L L' : List Ac} {Tp : Nat → Nat} {T T' : Nat → Tx} {A A' : List Nat} {B X cap : Nat} {cur : Array Value} {sv wv rv : Value} (h : GB w base s p L Tp T A B X cap cur sv wv rv) (q : GG w' base p 8 s L' Tp T' A') (n : Next A A' w w') : GB w' base s p L' Tp T' A' B X cap cur sv wv rv :=
  ⟨q, (row_next0 h.gm h.bA n).1, (row_next0 h.tx h.xA n).1, h.pt, (row_next0 h.gm h.bA n).2, (row_next0 h.tx h.xA n).2⟩
theorem GB.keep {w w' : World} {base s : Nat} {p : Value} {L : List Ac} {Tp : Nat → Nat} {T : Nat → Tx} {A H : List Nat} {B X cap : Nat} {cur : Array Value} {sv wv rv : Value} (h : GB w base s p L Tp T A B X cap cur sv wv rv) (k : Keep H w w') (h1 : ∀ q ∈ A, q ∉ H) (h2 : B ∉ H) (h3 : X ∉ H) : GB w' base s p L Tp T A B X cap cur sv wv rv :=
  ⟨h.gg.keep k h1, keep_row k h.gm h2, keep_row k h.tx h3, h.pt, h.bA, h.xA⟩
theorem GB.cells {w : World} {base s : Nat} {p : Value} {L : List Ac} {Tp : Nat → Nat} {T : Nat → Tx} {A : List Nat} {B X cap : Nat} {cur : Array Value} {sv wv rv : Value} (h : GB w base s p L Tp T A B X cap cur sv wv rv) {k : Nat} (hk : k < 4) : w.cell? ⟨B, 0, none⟩ = some p ∧ w.cell? ⟨B, 1, none⟩ = some (.slice (some ⟨X, 0, none⟩) 4 cap) ∧ w.cell? ⟨X, k, none⟩ = some (.pointer (some ⟨Tp k, 0, none⟩)) :=
  ⟨gm_c0 h.gm, gm_c1 h.gm, txs_cell h.tx h.pt hk⟩
theorem GB.told {w : World} {base s : Nat} {p : Value} {L : List Ac} {Tp : Nat → Nat} {T : Nat → Tx} {A : List Nat} {B X cap : Nat} {cur : Array Value} {sv wv rv : Value} (h : GB w base s p L Tp T A B X cap cur sv wv rv) {k : Nat} (hk : k < 4) (hE : (T k).ev.length < 1073741824) (n : Int) :
    Calls Tryz.prog 26 #[.pointer (some ⟨Tp k, 0, none⟩), .int .i64 n] w fun e w' => ∃ v, e = .returned v ∧ w'.ownsRow w.heap.size 94 19 v (fromE (T k).ev n).length (evsC (fromE (T k).ev n)) ∧ Below w.heap.size w w' := by
  obtain ⟨G, ht⟩ := h.gg.tx hk
  exact told_any ht hE n
theorem GB.step {w : World} {base s : Nat} {p : Value} {L : List Ac} {Tp : Nat → Nat} {T : Nat → Tx} {A : List Nat} {B X cap : Nat} {cur : Array Value} {sv wv rv : Value} (h : GB w base s p L Tp T A B X cap cur sv wv rv) {k : Nat} (hk : k < 4) (hb : base ≤ w.heap.size) (hL : L.length < 3298534883328) (hE : (T k).ev.length + 1 < 1073741824) (hx : XOk (T k)) (hd : Wd L) :
    Calls Tryz.prog 17 #[.pointer (some ⟨Tp k, 0, none⟩), p, .int .i64 (k : Int)] w fun e w' => e = .returned (anV (stepX 8 s (T k) L k).k (stepX 8 s (T k) L k).e (stepX 8 s (T k) L k).v (stepX 8 s (T k) L k).y) ∧ ∃ A', GB w' base s p (stepX 8 s (T k) L k).L Tp (setT T k (stepX 8 s (T k) L k).x) A' B X cap cur sv wv rv ∧ Next A A' w w' := by
  obtain ⟨F, G, tm, _, back⟩ := h.gg.at_ hk
  refine (step_any tm hb hL (by omega) hx hd (k : Int)).mono ?_
  rintro e w'' ⟨rfl, F', G', q, nx⟩
  obtain ⟨A', q1, q2⟩ := back _ _ _ _ _ q nx
  exact ⟨rfl, A', h.next q1 q2, q2⟩
theorem GB.act {w : World} {base s : Nat} {p : Value} {L : List Ac} {Tp : Nat → Nat} {T : Nat → Tx} {A : List Nat} {B X cap : Nat} {cur : Array Value} {sv wv rv : Value} (h : GB w base s p L Tp T A B X cap cur sv wv rv) {k : Nat} (hk : k < 4) (hb : base ≤ w.heap.size) (hL : L.length < 3298534883328) (hE : (T k).ev.length + 1 < 1073741824) (hx : XOk (T k)) (hd : Wd L) (a : At) :
    Calls Tryz.prog 29 #[.pointer (some ⟨B, 0, none⟩), .int .i64 (k : Int), atV a] w fun e w' => e = .returned (anV (actX 8 s (T k) L k (wantA a)).k (actX 8 s (T k) L k (wantA a)).e (actX 8 s (T k) L k (wantA a)).v (actX 8 s (T k) L k (wantA a)).y) ∧ ∃ A', GB w' base s p (actX 8 s (T k) L k (wantA a)).L Tp (setT T k (actX 8 s (T k) L k (wantA a)).x) A' B X cap cur sv wv rv ∧ Next A A' w w' := by
  refine (act_any h.gg h.gm h.tx h.pt h.bA h.xA hk hb hL hE hx hd a).mono ?_
  rintro e w' ⟨rfl, A', q1, q2⟩
  exact ⟨rfl, A', h.next q1 q2, q2⟩
/-! ### acts that are handed in -/
def noAt : At := ⟨0, 0, 0, ⟨0, 0, 0, 0⟩, 0, 0, 0, 0, 0⟩
def AcL (w : World) (v : Value) (S : List At) : Prop := ∃ a cap, v = .slice a S.length cap ∧ S.length ≤ 1048576 ∧ (S = [] ∨ ∃ x : Addr, a = some x ∧ x.block < w.heap.size ∧ ∀ i, i < S.length → ∀ j u, (atC (S.getD i noAt))[j]? = some u → w.cell? ((x.add (i * 12)).add j) = some u)
/-- What the wants of acts may be. -/
def AcOk (S : List At) : Prop := ∀ i, i < S.length → W64 (S.getD i noAt).w.value
theorem pick4 (x : Int) : ∃ k : Nat, k < 4 ∧ x % 4 = (k : Int) := ⟨(x % 4).toNat, by omega, by omega⟩
theorem fromE_app (l D : List Ev) : fromE (l ++ D) (l.length : Int) = D := by unfold fromE; simp
/-- What each event of an act says of the stamps. -/
theorem st_each {W : Ev → Prop} {c : Nat} {N : Int} {m : Nat} {L : List Ac} {g : Rg} {T : Nat → Tx} {R : Nat → List (Int × Int)} {k : Nat} {pre : List Ev} {o : Out} {E : List Ev} {g' : Rg} {r' : List (Int × Int)} (h : Hap W c N m L g T R k pre o E g' r') (hp : pre = [] ∨ pre = [{ kind := 7 }]) :
    (pre ++ E = [] → stOf o.x = stOf (T k) ∧ g'.d = g.d) ∧ ∀ j, (hj : j < (pre ++ E).length) → (((pre ++ E)[j].kind = 4 ∧ j + 1 = (pre ++ E).length ∧ stOf o.x = (pre ++ E)[j].stamp ∧ g'.d = g.d) ∨ ((pre ++ E)[j].kind = 5 ∧ j + 1 = (pre ++ E).length ∧ stOf o.x = 0 ∧ (g'.d : Int) = (pre ++ E)[j].stamp) ∨ ((pre ++ E)[j].kind ≠ 4 ∧ (pre ++ E)[j].kind ≠ 5 ∧ (j + 1 = (pre ++ E).length → stOf o.x = stOf (T k) ∧ g'.d = g.d))) := by
  have t := st_tells h
  refine ⟨fun e => ?_, fun j hj => ?_⟩
  · rcases t with ⟨_, a2, a3⟩ | ⟨e', a1, _⟩
    · exact ⟨a2, a3⟩
    · rw [a1] at e; simp at e
  · rcases t with ⟨rfl, a2, a3⟩ | ⟨e, rfl, t⟩
    · rcases hp with rfl | rfl
      · simp at hj
      · have : j = 0 := by simp at hj; omega
        subst this
        exact Or.inr (Or.inr ⟨by simp, by simp, fun _ => ⟨a2, a3⟩⟩)
    · rcases hp with rfl | rfl
      · have : j = 0 := by simp at hj; omega
        subst this
        rcases t with ⟨t1, t2, t3⟩ | ⟨t1, t2, t3⟩ | ⟨t1, t2, t3, t4⟩
        · exact Or.inl ⟨t1, rfl, t2, t3⟩
        · exact Or.inr (Or.inl ⟨t1, rfl, t2, t3⟩)
        · exact Or.inr (Or.inr ⟨t1, t2, fun _ => ⟨t3, t4⟩⟩)
      · have : j = 0 ∨ j = 1 := by simp at hj; omega
        rcases this with rfl | rfl
        · exact Or.inr (Or.inr ⟨by simp, by simp, fun e => by simp at e⟩)
        · rcases t with ⟨t1, t2, t3⟩ | ⟨t1, t2, t3⟩ | ⟨t1, t2, t3, t4⟩
          · exact Or.inl ⟨t1, rfl, t2, t3⟩
          · exact Or.inr (Or.inl ⟨t1, rfl, t2, t3⟩)
          · exact Or.inr (Or.inr ⟨t1, t2, fun _ => ⟨t3, t4⟩⟩)
end Go.Proofs.YtbeaaapkjoegoaaGreat
/- A game at its beginning; what is so of a game under way. -/
namespace Go.Proofs.YtbeaaapkjoegoaaGreat
open Go.ChangeShapes Go.WideShapes Go.ChangeAt Go.RowKit
set_option linter.unusedVariables false

def g0 (s : Nat) (mu : Bool) : Rg := ⟨s, mu, [], 0, fun _ => ⟨0, 0, 0, false, 0⟩⟩
theorem word_first {a : Ad} (h : a.k ≠ 2) : wordOf [] a = 0 := by rw [wordOf_nil]; unfold first; rw [if_neg h]
theorem ri_first {s : Nat} {mu : Bool} (h1 : 1 ≤ s) (h2 : s ≤ 16) : RI (wordOf []) (g0 s mu) := by
  refine ⟨h1, h2, Nat.le_refl _, by simp [g0, Rg.n], fun _ => by simp [g0, Rg.n], by simp [g0, Rg.n], by rw [word_first (by simp)]; simp [g0, Rg.n], fun t t1 t2 => by simp [g0, Rg.n] at t2; omega, fun t t1 t2 => by simp [g0, Rg.n] at t2; omega, fun u u1 u2 => ?_, fun u u1 u2 j hj => ?_, fun c c0 c1 => ⟨0, Nat.le_refl _, by simp [g0, Rg.n], by rw [word_first (by simp)]; simp [Rg.val], fun t t1 t2 => by simp [g0, Rg.n] at t2; omega⟩⟩
  · have : u ≤ 0 := by simpa [g0, Rg.n] using u2
    rw [wordOf_nil]; unfold hdW; rw [if_pos this]; rfl
  · have : u ≤ 0 := by simpa [g0, Rg.n] using u2
    rw [word_first (by simp)]; unfold sgW; rw [if_pos this]; unfold wrap64; omega
theorem wi_first {s m : Nat} {n : Int} {mu : Bool} (h1 : 1 ≤ s) (h2 : s ≤ 16) (h3 : 1 ≤ n) (h4 : n ≤ 1099511627776) (m1 : 1 ≤ m) (m2 : m ≤ 24) : WI 8 n m [] (g0 s mu) (fun _ => newX s n mu m) (fun _ => []) :=
  ⟨ri_first h1 h2, fun a => by rw [wordOf_nil]; unfold W64 first; split <;> omega, fun _ _ => xok_new h1 h2 h3 h4 m1 m2, fun _ _ => ⟨rfl, rfl, rfl, rfl⟩, by simp [g0, Rg.n]; omega, fun _ _ => ⟨fun y hy => by simp [newX, Tl.empty] at hy, fun hb => by simp [newX] at hb⟩, fun t t1 t2 => by simp [g0, Rg.n] at t2; omega, fun k hk P b e => by simp [newX] at e, fun k j P b P' b' hk hj e => by simp [newX] at e, fun k hk P b e => by simp [newX] at e⟩
/-- A game under way: q acts were done. -/
structure MI (w wr : World) (base s m : Nat) (N : Int) (p : Value) (Tp : Nat → Nat) (B X cap : Nat) (cur : Array Value) (sv wv rv : Value) (q : Nat) (L : List Ac) (g : Rg) (T : Nat → Tx) (R : Nat → List (Int × Int)) (A : List Nat) : Prop where
  wi : WI 8 N m L g T R
  gs : g.s = s
  gb : GB wr base s p L Tp T A B X cap cur sv wv rv
  len : L.length ≤ q
  evs : ∀ k, k < 4 → (T k).ev.length ≤ 2 * q
  bel : Below w.heap.size w wr
  lo : w.heap.size ≤ base
  hi : base ≤ wr.heap.size
theorem MI.below {w wr w' : World} {base s m : Nat} {N : Int} {p : Value} {Tp : Nat → Nat} {B X cap : Nat} {cur : Array Value} {sv wv rv : Value} {q : Nat} {L : List Ac} {g : Rg} {T : Nat → Tx} {R : Nat → List (Int × Int)} {A : List Nat} (h : MI w wr base s m N p Tp B X cap cur sv wv rv q L g T R A) (k : Below wr.heap.size wr w') : MI w w' base s m N p Tp B X cap cur sv wv rv q L g T R A :=
  ⟨h.wi, h.gs, h.gb.below k, h.len, h.evs, below_then h.bel k, h.lo, Nat.le_trans h.hi k.size⟩
/-- Others change. -/
theorem MI.other {w wr w' : World} {base s m : Nat} {N : Int} {p : Value} {Tp : Nat → Nat} {B X cap : Nat} {cur : Array Value} {sv wv rv : Value} {q : Nat} {L : List Ac} {g : Rg} {T : Nat → Tx} {R : Nat → List (Int × Int)} {A H : List Nat} (h : MI w wr base s m N p Tp B X cap cur sv wv rv q L g T R A) (k : Keep H wr w') (h1 : ∀ z ∈ H, w.heap.size ≤ z ∧ z ∉ A) (h2 : B ∉ H) (h3 : X ∉ H) : MI w w' base s m N p Tp B X cap cur sv wv rv q L g T R A :=
  ⟨h.wi, h.gs, h.gb.keep k (fun z hz e => (h1 z e).2 hz) h2 h3, h.len, h.evs, below_keep h.bel k (fun z hz => (h1 z hz).1), h.lo, Nat.le_trans h.hi k.size⟩
theorem MI.more {w wr : World} {base s m : Nat} {N : Int} {p : Value} {Tp : Nat → Nat} {B X cap : Nat} {cur : Array Value} {sv wv rv : Value} {q q' : Nat} {L : List Ac} {g : Rg} {T : Nat → Tx} {R : Nat → List (Int × Int)} {A : List Nat} (h : MI w wr base s m N p Tp B X cap cur sv wv rv q L g T R A) (hq : q ≤ q') : MI w wr base s m N p Tp B X cap cur sv wv rv q' L g T R A :=
  ⟨h.wi, h.gs, h.gb, Nat.le_trans h.len hq, fun k hk => by have := h.evs k hk; omega, h.bel, h.lo, h.hi⟩
/-- An act. -/
theorem MI.acts {w wr w' : World} {base s m : Nat} {N : Int} {p : Value} {Tp : Nat → Nat} {B X cap : Nat} {cur : Array Value} {sv wv rv : Value} {q : Nat} {L : List Ac} {g : Rg} {T : Nat → Tx} {R : Nat → List (Int × Int)} {A A' : List Nat} (h : MI w wr base s m N p Tp B X cap cur sv wv rv q L g T R A) {k : Nat} (hk : k < 4) {W : Ev → Prop} {pre E : List Ev} {o : Out} {g' : Rg} {r' : List (Int × Int)} (hp : pre = [] ∨ pre = [{ kind := 7 }]) (ha : Hap W 8 N m L g T R k pre o E g' r')
    (hg : GB w' base s p o.L Tp (setT T k o.x) A' B X cap cur sv wv rv) (hn : Next A A' wr w') : MI w w' base s m N p Tp B X cap cur sv wv rv (q + 1) o.L g' (setT T k o.x) (setT R k r') A' := by
  have hl := hap_len ha
  have hgs : g'.s = g.s := by
    rcases ha.tel with ⟨_, e2, e3, _⟩ | ⟨e, _, t⟩
    · have h1 := (ha.wi.cf ((k + 1) % 4) (Nat.mod_lt _ (by omega))).s
      rw [setT_else _ _ (by omega)] at h1
      have h2 := (h.wi.cf ((k + 1) % 4) (Nat.mod_lt _ (by omega))).s
      omega
    · have h1 := (ha.wi.cf ((k + 1) % 4) (Nat.mod_lt _ (by omega))).s
      rw [setT_else _ _ (by omega)] at h1
      have h2 := (h.wi.cf ((k + 1) % 4) (Nat.mod_lt _ (by omega))).s
      omega
  refine ⟨ha.wi, hgs.trans h.gs, hg, by have := h.len; omega, fun j hj => ?_, below_keep h.bel hn.1 (fun b hb => Nat.le_trans h.lo (h.gb.gg.lt b hb).1), h.lo, Nat.le_trans h.hi hn.1.size⟩
  by_cases e : j = k
  · subst e
    rw [setT_self, ha.ev]
    have := h.evs j hj
    have hE : E.length ≤ 1 := by
      rcases ha.tel with ⟨e1, _⟩ | ⟨e, e1, _⟩ <;> rw [e1] <;> simp
    have hpl : pre.length ≤ 1 := by rcases hp with e | e <;> rw [e] <;> simp
    simp only [List.length_append]
    omega
  · rw [setT_else _ _ e]
    have := h.evs j hj
    omega
/-! ### four numbers -/
def fourO (st : Nat → Int) : Obj := .cells #[.int .i64 (st 0), .int .i64 (st 1), .int .i64 (st 2), .int .i64 (st 3)] 2 (0, 0)
theorem four_cell {w : World} {S : Nat} {st : Nat → Int} (h : w.heap[S]? = some (fourO st)) {k : Nat} (hk : k < 4) : w.cell? ⟨S, k, none⟩ = some (.int .i64 (st k)) := by
  unfold fourO at h
  rw [cell_at h]
  rcases (show k = 0 ∨ k = 1 ∨ k = 2 ∨ k = 3 by omega) with rfl | rfl | rfl | rfl <;> rfl
theorem four_set {w : World} {S : Nat} {st : Nat → Int} (h : w.heap[S]? = some (fourO st)) {k : Nat} (hk : k < 4) (v : Int) : (w.setCell ⟨S, k, none⟩ (.int .i64 v)).heap[S]? = some (fourO (setT st k v)) := by
  unfold fourO at h ⊢
  rw [heap_set h]
  rcases (show k = 0 ∨ k = 1 ∨ k = 2 ∨ k = 3 by omega) with rfl | rfl | rfl | rfl <;> rfl
theorem info_i64' : (Tryz.prog.info? 2).map (fun i => (i.zero, i.size, i.bytes)) = some (some (.int .i64 0), 1, 8) := by kernel_rfl
theorem make_four (w : World) : (Instr.makeSlice 47 (.int .i64 4) (.int .i64 4)).run Tryz.prog w = .ok (.slice (some ⟨w.heap.size, 0, none⟩) 4 4) (w.alloc (fourO (fun _ => 0))) := by
  obtain ⟨i0, hi, hz0, hz1, hz2⟩ := info_parts info_i64'
  have := run_make (P := Tryz.prog) w 47 2 i0 _ Tryz.underlying47 hi hz0 .i64 .i64 4 4 (by omega) (by omega) (by rw [hz2]; omega) (by omega)
  rw [this, hz1]
  have : madeCells (Value.int IntKind.i64 0).cells (Int.toNat 4 * 1) = #[.int .i64 0, .int .i64 0, .int .i64 0, .int .i64 0] := by
    apply Array.ext'
    simp [madeCells, Value.cells, List.range_succ]
  rw [this]
  rfl
/-! ### events as they lie -/
theorem ev_cell {w : World} {base gg cap : Nat} {l : List Ev} (h : w.ownsRow base 94 19 (.slice (some ⟨gg, 0, none⟩) l.length cap) l.length (evsC l)) {i : Nat} (hi : i < l.length) {j : Nat} (hj : j < 19) : w.cell? ⟨gg, i * 19 + j, none⟩ = (evC l[i])[j]? := by
  have hlen := evsC_len l
  have hc : (evsC l)[i * 19 + j]? = (evC l[i])[j]? := by
    have h1 : evsC (l.drop i) = (evsC l).drop (i * 19) := evsC_drop l i
    rw [List.drop_eq_getElem_cons hi] at h1
    have h2 : ((evsC l).drop (i * 19))[j]? = (evC l[i])[j]? := by
      rw [← h1]
      unfold evsC
      rw [List.flatMap_cons, List.getElem?_append_left (by simpa [evC] using hj)]
    rw [List.getElem?_drop] at h2
    exact h2
  have hsome : ∃ u, (evC l[i])[j]? = some u := ⟨_, List.getElem?_eq_getElem (by simpa [evC] using hj)⟩
  obtain ⟨u, hu⟩ := hsome
  rw [hu]
  exact own_cells h _ _ (by rw [hc, hu])
end Go.Proofs.YtbeaaapkjoegoaaGreat
/- Steps of transactions in a game, as they lie. -/
namespace Go.Proofs.YtbeaaapkjoegoaaGreat
open Go.ChangeShapes Go.WideShapes Go.ChangeAt Go.RowKit
set_option linter.unusedVariables false

theorem MI.steps {w wr w' : World} {base s m : Nat} {N : Int} {p : Value} {Tp : Nat → Nat} {B X cap : Nat} {cur : Array Value} {sv wv rv : Value} {q : Nat} {L : List Ac} {g : Rg} {T : Nat → Tx} {R : Nat → List (Int × Int)} {A A' : List Nat} (h : MI w wr base s m N p Tp B X cap cur sv wv rv q L g T R A) {k : Nat} (hk : k < 4) {o : Out} {g' : Rg} {R' : Nat → List (Int × Int)} (wi : WI 8 N m o.L g' (setT T k o.x) R') (gs : g'.s = g.s) (len : o.L.length ≤ L.length + 1) (ev : o.x.ev.length ≤ (T k).ev.length + 2)
    (hg : GB w' base s p o.L Tp (setT T k o.x) A' B X cap cur sv wv rv) (hn : Next A A' wr w') : MI w w' base s m N p Tp B X cap cur sv wv rv (q + 1) o.L g' (setT T k o.x) R' A' := by
  refine ⟨wi, gs.trans h.gs, hg, by have := h.len; omega, fun j hj => ?_, below_keep h.bel hn.1 (fun b hb => Nat.le_trans h.lo (h.gb.gg.lt b hb).1), h.lo, Nat.le_trans h.hi hn.1.size⟩
  have := h.evs j hj
  by_cases e : j = k
  · subst e; rw [setT_self]; omega
  · rw [setT_else _ _ e]; omega
/-- A step of the oldest entry's owner. -/
theorem MI.step1 {w wr : World} {base s m : Nat} {N : Int} {p : Value} {Tp : Nat → Nat} {B X cap : Nat} {cur : Array Value} {sv wv rv : Value} {q : Nat} {L : List Ac} {g : Rg} {T : Nat → Tx} {R : Nat → List (Int × Int)} {A : List Nat} (h : MI w wr base s m N p Tp B X cap cur sv wv rv q L g T R A) (hq : q ≤ 10000000) {k n : Nat} (hk : k < 4) (hl : Lft g (T k) (n + 1)) :
    ∃ (o : Out) (g' : Rg) (R' : Nat → List (Int × Int)), o.k ≠ 1 ∧ Lft g' (setT T k o.x k) n ∧ ∀ w', Below wr.heap.size wr w' → Calls Tryz.prog 17 #[.pointer (some ⟨Tp k, 0, none⟩), p, .int .i64 (k : Int)] w' fun e w'' => e = .returned (anV o.k o.e o.v o.y) ∧ ∃ A', MI w w'' base s m N p Tp B X cap cur sv wv rv (q + 1) o.L g' (setT T k o.x) R' A' ∧ Next A A' w' w'' := by
  obtain ⟨a1, g', R', a2, a3, a4, a5⟩ := lft_step h.wi hk hl (k : Int)
  rw [h.gs] at a1 a2 a3 a5
  have hx := xok_step (c := 8) (r := s) (t := (k : Int)) (h.wi.ok k hk) h.wi.wd
  refine ⟨_, g', R', a1, by rw [setT_self]; exact a3, fun w' kb => ?_⟩
  have h' := h.below kb
  refine (h'.gb.step hk h'.hi (by have := h.len; omega) (by have := h.evs k hk; omega) (h.wi.ok k hk) h.wi.wd).mono ?_
  rintro e w'' ⟨rfl, A', gb, nx⟩
  exact ⟨rfl, A', h'.steps hk a2 a4 a5 (by have := hx.2.2.2; omega) gb nx, nx⟩
/-- A step of one that is busy. -/
theorem MI.step2 {w wr : World} {base s m : Nat} {N : Int} {p : Value} {Tp : Nat → Nat} {B X cap : Nat} {cur : Array Value} {sv wv rv : Value} {q : Nat} {L : List Ac} {g : Rg} {T : Nat → Tx} {R : Nat → List (Int × Int)} {A : List Nat} (h : MI w wr base s m N p Tp B X cap cur sv wv rv q L g T R A) (hq : q ≤ 10000000) {k busy moves : Nat} (hk : k < 4) (hl : Mv g T k busy moves) :
    ∃ (o : Out) (g' : Rg) (R' : Nat → List (Int × Int)), Mv g' (setT T k o.x) (k + 1) (busy + 1) (if o.k = 1 then moves else moves + 1) ∧ ∀ w', Below wr.heap.size wr w' → Calls Tryz.prog 17 #[.pointer (some ⟨Tp k, 0, none⟩), p, .int .i64 (k : Int)] w' fun e w'' => e = .returned (anV o.k o.e o.v o.y) ∧ ∃ A', MI w w'' base s m N p Tp B X cap cur sv wv rv (q + 1) o.L g' (setT T k o.x) R' A' ∧ Next A A' w' w'' := by
  obtain ⟨g', R', a2, a4, a5, a3⟩ := mv_busy h.wi hk hl (k : Int)
  rw [h.gs] at a2 a3 a5
  have hx := xok_step (c := 8) (r := s) (t := (k : Int)) (h.wi.ok k hk) h.wi.wd
  refine ⟨_, g', R', a3, fun w' kb => ?_⟩
  have h' := h.below kb
  refine (h'.gb.step hk h'.hi (by have := h.len; omega) (by have := h.evs k hk; omega) (h.wi.ok k hk) h.wi.wd).mono ?_
  rintro e w'' ⟨rfl, A', gb, nx⟩
  exact ⟨rfl, A', h'.steps hk a2 a4 a5 (by have := hx.2.2.2; omega) gb nx, nx⟩
/-- An answer lies in a new block beside the game. -/
def AnsAt (w0 wx : World) (v : Value) (A' : List Nat) (k e z : Int) (y : Bool) : Prop := ∃ P, v = .pointer (some ⟨P, 0, none⟩) ∧ w0.heap.size ≤ P ∧ P ∉ A' ∧ wx.heap[P]? = some (.cells #[.int .i64 k, .int .i64 e, .int .i64 z, .bool y] 64 (0, 0))
end Go.Proofs.YtbeaaapkjoegoaaGreat
