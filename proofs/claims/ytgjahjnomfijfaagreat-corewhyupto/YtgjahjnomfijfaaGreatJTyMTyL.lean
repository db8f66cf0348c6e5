/- T4, T5 as numbers: the owner of the oldest entry goes on, and is through; someone moves. -/
import Derived.Test.YtgjahjnomfijfaaGreatJTyBTyI
import Derived.Test.YtgjahjnomfijfaaGreatBkU
namespace Go.Proofs.YtgjahjnomfijfaaGreat
open Go.RowKit (wrap64)
set_option linter.unusedVariables false
theorem hap_len {W : Ev → Prop} {c : Nat} {N : Int} {m : Nat} {L : List Ac} {g : Rg} {T : Nat → Tx} {R : Nat → List (Int × Int)} {k : Nat} {pre : List Ev} {o : Out} {E : List Ev} {g' : Rg} {r' : List (Int × Int)} (h : Hap W c N m L g T R k pre o E g' r') : o.L.length ≤ L.length + 1 := by
 rcases h.acc with ⟨_, e⟩ | ⟨_, e⟩
 ·omega
 ·rw [e]; omega
def Lft (g : Rg) (x : Tx) (n : Nat) : Prop := x.phase = 0 ∨ ∃ P b, x.wy = .wr P b ∧ P.st = (g.d : Int) + 1 ∧ Ba.mB P b ≤ n
def Mv (g : Rg) (T : Nat → Tx) (k : Nat) (busy moves : Nat) : Prop := 0 < moves ∨ (moves = 0 ∧ (g.d = g.n → busy = 0) ∧ (g.d ≠ g.n → ∃ q, k ≤ q ∧ q < 4 ∧ stOf (T q) = (g.d : Int) + 1))
end Go.Proofs.YtgjahjnomfijfaaGreat
/- A game as it lies, and acts that are handed in. -/
namespace Go.Proofs.YtgjahjnomfijfaaGreat
open Go.ChangeShapes Go.WideShapes Go.ChangeAt Go.RowKit
set_option linter.unusedVariables false
structure GB (w : World) (base s : Nat) (p : Value) (L : List Ac) (Tp : Nat → Nat) (T : Nat → Tx) (A : List Nat) (B X cap : Nat) (cur : Array Value) (sv wv rv : Value) : Prop where
 gg : GG w base p 8 s L Tp T A
 gm : w.heap[B]? = some (gmO p (.slice (some ⟨X, 0, none⟩) 4 cap) sv wv rv)
 tx : w.heap[X]? = some (txsO cur)
 pt : Ptrs cur Tp
 bA : B ∉ A
 xA : X ∉ A
theorem GB.below {w w' : World} {base s : Nat} {p : Value} {L : List Ac} {Tp : Nat → Nat} {T : Nat → Tx} {A : List Nat} {B X cap : Nat} {cur : Array Value} {sv wv rv : Value} (h : GB w base s p L Tp T A B X cap cur sv wv rv) (k : Below w.heap.size w w') : GB w' base s p L Tp T A B X cap cur sv wv rv :=
 ⟨h.gg.below k, row_on h.gm k, row_on h.tx k, h.pt, h.bA, h.xA⟩
theorem GB.next {w w' : World} {base s : Nat} {p : Value} {L L' : List Ac} {Tp : Nat → Nat} {T T' : Nat → Tx} {A A' : List Nat} {B X cap : Nat} {cur : Array Value} {sv wv rv : Value} (h : GB w base s p L Tp T A B X cap cur sv wv rv) (q : GG w' base p 8 s L' Tp T' A') (n : Next A A' w w') : GB w' base s p L' Tp T' A' B X cap cur sv wv rv :=
 ⟨q, (row_next0 h.gm h.bA n).1, (row_next0 h.tx h.xA n).1, h.pt, (row_next0 h.gm h.bA n).2, (row_next0 h.tx h.xA n).2⟩
theorem GB.cells {w : World} {base s : Nat} {p : Value} {L : List Ac} {Tp : Nat → Nat} {T : Nat → Tx} {A : List Nat} {B X cap : Nat} {cur : Array Value} {sv wv rv : Value} (h : GB w base s p L Tp T A B X cap cur sv wv rv) {k : Nat} (hk : k < 4) : w.cell? ⟨B, 0, none⟩ = some p ∧ w.cell? ⟨B, 1, none⟩ = some (.slice (some ⟨X, 0, none⟩) 4 cap) ∧ w.cell? ⟨X, k, none⟩ = some (.pointer (some ⟨Tp k, 0, none⟩)) :=
 ⟨gm_c0 h.gm, gm_c1 h.gm, txs_cell h.tx h.pt hk⟩
theorem GB.told {w : World} {base s : Nat} {p : Value} {L : List Ac} {Tp : Nat → Nat} {T : Nat → Tx} {A : List Nat} {B X cap : Nat} {cur : Array Value} {sv wv rv : Value} (h : GB w base s p L Tp T A B X cap cur sv wv rv) {k : Nat} (hk : k < 4) (hE : (T k).ev.length < 1073741824) (n : Int) :
  Calls Tryz.prog 10 #[.pointer (some ⟨Tp k, 0, none⟩), .int .i64 n] w fun e w' => ∃ v, e = .returned v ∧ w'.ownsRow w.heap.size 58 19 v (fromE (T k).ev n).length (evsC (fromE (T k).ev n)) ∧ Below w.heap.size w w' := by
 obtain ⟨G, ht⟩ := h.gg.tx hk
 exact told_any ht hE n
theorem GB.step {w : World} {base s : Nat} {p : Value} {L : List Ac} {Tp : Nat → Nat} {T : Nat → Tx} {A : List Nat} {B X cap : Nat} {cur : Array Value} {sv wv rv : Value} (h : GB w base s p L Tp T A B X cap cur sv wv rv) {k : Nat} (hk : k < 4) (hb : base ≤ w.heap.size) (hL : L.length < 3298534883328) (hE : (T k).ev.length + 1 < 1073741824) (hx : XOk (T k)) (hd : Wd L) :
  Calls Tryz.prog 19 #[.pointer (some ⟨Tp k, 0, none⟩), p, .int .i64 (k : Int)] w fun e w' => e = .returned (anV (stepX 8 s (T k) L k).k (stepX 8 s (T k) L k).e (stepX 8 s (T k) L k).v (stepX 8 s (T k) L k).y) ∧ ∃ A', GB w' base s p (stepX 8 s (T k) L k).L Tp (setT T k (stepX 8 s (T k) L k).x) A' B X cap cur sv wv rv ∧ Next A A' w w' := by
 obtain ⟨F, G, tm, _, back⟩ := h.gg.at_ hk
 refine (step_any tm hb hL (by omega) hx hd (k : Int)).mono ?_
 rintro e w'' ⟨rfl, F', G', q, nx⟩
 obtain ⟨A', q1, q2⟩ := back _ _ _ _ _ q nx
 exact ⟨rfl, A', h.next q1 q2, q2⟩
theorem GB.act {w : World} {base s : Nat} {p : Value} {L : List Ac} {Tp : Nat → Nat} {T : Nat → Tx} {A : List Nat} {B X cap : Nat} {cur : Array Value} {sv wv rv : Value} (h : GB w base s p L Tp T A B X cap cur sv wv rv) {k : Nat} (hk : k < 4) (hb : base ≤ w.heap.size) (hL : L.length < 3298534883328) (hE : (T k).ev.length + 1 < 1073741824) (hx : XOk (T k)) (hd : Wd L) (a : At) :
  Calls Tryz.prog 13 #[.pointer (some ⟨B, 0, none⟩), .int .i64 (k : Int), atV a] w fun e w' => e = .returned (anV (actX 8 s (T k) L k (wantA a)).k (actX 8 s (T k) L k (wantA a)).e (actX 8 s (T k) L k (wantA a)).v (actX 8 s (T k) L k (wantA a)).y) ∧ ∃ A', GB w' base s p (actX 8 s (T k) L k (wantA a)).L Tp (setT T k (actX 8 s (T k) L k (wantA a)).x) A' B X cap cur sv wv rv ∧ Next A A' w w' := by
 refine (act_any h.gg h.gm h.tx h.pt h.bA h.xA hk hb hL hE hx hd a).mono ?_
 rintro e w' ⟨rfl, A', q1, q2⟩
 exact ⟨rfl, A', h.next q1 q2, q2⟩
def noAt : At := ⟨0, 0, 0, ⟨0, 0, 0, 0⟩, 0, 0, 0, 0, 0⟩
def AcL (w : World) (v : Value) (S : List At) : Prop := ∃ a cap, v = .slice a S.length cap ∧ S.length ≤ 1048576 ∧ (S = [] ∨ ∃ x : Addr, a = some x ∧ x.block < w.heap.size ∧ ∀ i, i < S.length → ∀ j u, (atC (S.getD i noAt))[j]? = some u → w.cell? ((x.add (i * 12)).add j) = some u)
def AcOk (S : List At) : Prop := ∀ i, i < S.length → W64 (S.getD i noAt).w.value
theorem pick4 (x : Int) : ∃ k : Nat, k < 4 ∧ x % 4 = (k : Int) := ⟨(x % 4).toNat, by omega, by omega⟩
theorem fromE_app (l D : List Ev) : fromE (l ++ D) (l.length : Int) = D := by unfold fromE; simp
end Go.Proofs.YtgjahjnomfijfaaGreat
/- A game at its beginning; what is so of a game under way. -/
namespace Go.Proofs.YtgjahjnomfijfaaGreat
open Go.ChangeShapes Go.WideShapes Go.ChangeAt Go.RowKit
set_option linter.unusedVariables false
def g0 (s : Nat) (mu : Bool) : Rg := ⟨s, mu, [], 0, fun _ => ⟨0, 0, 0, false, 0⟩⟩
theorem word_first {a : Ad} (h : a.k ≠ 2) : wordOf [] a = 0 := by rw [wordOf_nil]; unfold first; rw [if_neg h]
theorem ri_first {s : Nat} {mu : Bool} (h1 : 1 ≤ s) (h2 : s ≤ 16) : RI (wordOf []) (g0 s mu) := by
 refine ⟨h1, h2, Nat.le_refl _, by simp [g0, Rg.n], fun _ => by simp [g0, Rg.n], by simp [g0, Rg.n], by rw [word_first (by simp)]; simp [g0, Rg.n], fun t t1 t2 => by simp [g0, Rg.n] at t2; omega, fun t t1 t2 => by simp [g0, Rg.n] at t2; omega, fun u u1 u2 => ?_, fun u u1 u2 j hj => ?_, fun c c0 c1 => ⟨0, Nat.le_refl _, by simp [g0, Rg.n], by rw [word_first (by simp)]; simp [Rg.val], fun t t1 t2 => by simp [g0, Rg.n] at t2; omega⟩⟩
 ·have : u ≤ 0 := by simpa [g0, Rg.n] using u2
  rw [wordOf_nil]; unfold hdW; rw [if_pos this]; rfl
 ·have : u ≤ 0 := by simpa [g0, Rg.n] using u2
  rw [word_first (by simp)]; unfold sgW; rw [if_pos this]; unfold wrap64; omega
theorem wi_first {s m : Nat} {n : Int} {mu : Bool} (h1 : 1 ≤ s) (h2 : s ≤ 16) (h3 : 1 ≤ n) (h4 : n ≤ 1099511627776) (m1 : 1 ≤ m) (m2 : m ≤ 24) : WI 8 n m [] (g0 s mu) (fun _ => newX s n mu m) (fun _ => []) :=
 ⟨ri_first h1 h2, fun a => by rw [wordOf_nil]; unfold W64 first; split <;> omega, fun _ _ => xok_new h1 h2 h3 h4 m1 m2, fun _ _ => ⟨rfl, rfl, rfl, rfl⟩, by simp [g0, Rg.n]; omega, fun _ _ => ⟨fun y hy => by simp [newX, Tl.empty] at hy, fun hb => by simp [newX] at hb⟩, fun t t1 t2 => by simp [g0, Rg.n] at t2; omega, fun k hk P b e => by simp [newX] at e, fun k j P b P' b' hk hj e => by simp [newX] at e, fun k hk P b e => by simp [newX] at e⟩
structure MI (w wr : World) (base s m : Nat) (N : Int) (p : Value) (Tp : Nat → Nat) (B X cap : Nat) (cur : Array Value) (sv wv rv : Value) (q : Nat) (L : List Ac) (g : Rg) (T : Nat → Tx) (R : Nat → List (Int × Int)) (A : List Nat) : Prop where
 wi : WI 8 N m L g T R
 gs : g.s = s
 gb : GB wr base s p L Tp T A B X cap cur sv wv rv
 len : L.length ≤ q
 evs : ∀ k, k < 4 → (T k).ev.length ≤ 2 * q
 bel : Below w.heap.size w wr
 lo : w.heap.size ≤ base
 hi : base ≤ wr.heap.size
theorem MI.below {w wr w' : World} {base s m : Nat} {N : Int} {p : Value} {Tp : Nat → Nat} {B X cap : Nat} {cur : Array Value} {sv wv rv : Value} {q : Nat} {L : List Ac} {g : Rg} {T : Nat → Tx} {R : Nat → List (Int × Int)} {A : List Nat} (h : MI w wr base s m N p Tp B X cap cur sv wv rv q L g T R A) (k : Below wr.heap.size wr w') : MI w w' base s m N p Tp B X cap cur sv wv rv q L g T R A :=
 ⟨h.wi, h.gs, h.gb.below k, h.len, h.evs, below_then h.bel k, h.lo, Nat.le_trans h.hi k.size⟩
theorem MI.acts {w wr w' : World} {base s m : Nat} {N : Int} {p : Value} {Tp : Nat → Nat} {B X cap : Nat} {cur : Array Value} {sv wv rv : Value} {q : Nat} {L : List Ac} {g : Rg} {T : Nat → Tx} {R : Nat → List (Int × Int)} {A A' : List Nat} (h : MI w wr base s m N p Tp B X cap cur sv wv rv q L g T R A) {k : Nat} (hk : k < 4) {W : Ev → Prop} {pre E : List Ev} {o : Out} {g' : Rg} {r' : List (Int × Int)} (hp : pre = [] ∨ pre = [{ kind := 7 }]) (ha : Hap W 8 N m L g T R k pre o E g' r')
  (hg : GB w' base s p o.L Tp (setT T k o.x) A' B X cap cur sv wv rv) (hn : Next A A' wr w') : MI w w' base s m N p Tp B X cap cur sv wv rv (q + 1) o.L g' (setT T k o.x) (setT R k r') A' := by
 have hl := hap_len ha
 have hgs : g'.s = g.s := by
  rcases ha.tel with ⟨_, e2, e3, _⟩ | ⟨e, _, t⟩
  ·have h1 := (ha.wi.cf ((k + 1) % 4) (Nat.mod_lt _ (by omega))).s
   rw [setT_else _ _ (by omega)] at h1
   have h2 := (h.wi.cf ((k + 1) % 4) (Nat.mod_lt _ (by omega))).s
   omega
  ·have h1 := (ha.wi.cf ((k + 1) % 4) (Nat.mod_lt _ (by omega))).s
   rw [setT_else _ _ (by omega)] at h1
   have h2 := (h.wi.cf ((k + 1) % 4) (Nat.mod_lt _ (by omega))).s
   omega
 refine ⟨ha.wi, hgs.trans h.gs, hg, by have := h.len; omega, fun j hj => ?_, below_keep h.bel hn.1 (fun b hb => Nat.le_trans h.lo (h.gb.gg.lt b hb).1), h.lo, Nat.le_trans h.hi hn.1.size⟩
 by_cases e : j = k
 ·subst e
  rw [setT_self, ha.ev]
  have := h.evs j hj
  have hE : E.length ≤ 1 := by
   rcases ha.tel with ⟨e1, _⟩ | ⟨e, e1, _⟩ <;> rw [e1] <;> simp
  have hpl : pre.length ≤ 1 := by rcases hp with e | e <;> rw [e] <;> simp
  simp only [List.length_append]
  omega
 ·rw [setT_else _ _ e]
  have := h.evs j hj
  omega
def fourO (st : Nat → Int) : Obj := .cells #[.int .i64 (st 0), .int .i64 (st 1), .int .i64 (st 2), .int .i64 (st 3)] 2 (0, 0)
theorem ev_cell {w : World} {base gg cap : Nat} {l : List Ev} (h : w.ownsRow base 58 19 (.slice (some ⟨gg, 0, none⟩) l.length cap) l.length (evsC l)) {i : Nat} (hi : i < l.length) {j : Nat} (hj : j < 19) : w.cell? ⟨gg, i * 19 + j, none⟩ = (evC l[i])[j]? := by
 have hlen := evsC_len l
 have hc : (evsC l)[i * 19 + j]? = (evC l[i])[j]? := by
  have h1 : evsC (l.drop i) = (evsC l).drop (i * 19) := evsC_drop l i
  rw [List.drop_eq_getElem_cons hi] at h1
  have h2 : ((evsC l).drop (i * 19))[j]? = (evC l[i])[j]? := by
   rw [← h1]
   unfold evsC
   rw [List.flatMap_cons, List.getElem?_append_left (by simpa [evC] using hj)]
  rw [List.getElem?_drop] at h2
  exact h2
 have hsome : ∃ u, (evC l[i])[j]? = some u := ⟨_, List.getElem?_eq_getElem (by simpa [evC] using hj)⟩
 obtain ⟨u, hu⟩ := hsome
 rw [hu]
 exact own_cells h _ _ (by rw [hc, hu])
end Go.Proofs.YtgjahjnomfijfaaGreat
