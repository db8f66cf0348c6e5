/- BackEnds: what the law's walk is made of. -/
import Derived.Test.YtbmmicfdnfpcaaaBkT
import Derived.Test.YtbmmicfdnfpcaaaBkU
import Derived.Test.YtbmmicfdnfpcaaaActL
import Derived.Test.YtbmmicfdnfpcaaaGroA
namespace Go.Proofs.Ytbmmicfdnfpcaaa
open Go.ChangeShapes Go.WideShapes Go.ChangeAt Go.RowKit

/-- What the law makes of a list of writes. -/
def inW (S : List Wt) (n : Nat) : List Wt := (S.take n).map fun x => ⟨x.c % 8, x.v⟩
theorem inW_snoc {S : List Wt} {q : Nat} (hq : q < S.length) : inW S (q + 1) = inW S q ++ [⟨(S.getD q noWt).c % 8, (S.getD q noWt).v⟩] := by
  unfold inW
  rw [List.take_add_one, List.map_append]
  congr 1
  simp [hq]
theorem inW_end {S : List Wt} {q n : Nat} (h : q = n ∨ (q = S.length ∧ q ≤ n)) : inW S q = inW S n := by
  unfold inW
  rcases h with rfl | ⟨rfl, h⟩
  · rfl
  · rw [List.take_length, List.take_of_length_le h]
theorem inW_len (S : List Wt) (q : Nat) : (inW S q).length ≤ q := by unfold inW; simp; omega
theorem inW_cell {S : List Wt} {q : Nat} (hS : ∀ i, i < S.length → W64 (S.getD i noWt).v) : ∀ x ∈ inW S q, 0 ≤ x.c ∧ x.c < 8 ∧ W64 x.v := fun x hx => by
  unfold inW at hx
  obtain ⟨y, hy, rfl⟩ := List.mem_map.1 hx
  have hm := List.mem_of_mem_take hy
  obtain ⟨i, hi, rfl⟩ := List.getElem_of_mem hm
  have := hS i hi
  rw [List.getD_eq_getElem?_getD, List.getElem?_eq_getElem hi] at this
  exact ⟨Int.emod_nonneg _ (by decide), Int.emod_lt_of_pos _ (by decide), this⟩
/-- The machine of the law. -/
def enP (s st : Nat) (S : List Wt) : Bp := ⟨s, (st : Int), inW S 24, sgOf (inW S 24)⟩
theorem enP_ok {s st : Nat} {S : List Wt} (h1 : 1 ≤ s) (h2 : s ≤ 16) (h3 : 1 ≤ st) (h4 : st ≤ 1000) (hS : ∀ i, i < S.length → W64 (S.getD i noWt).v) : BpOk (enP s st S) :=
  ⟨h1, h2, by unfold enP; simp only; omega, by unfold enP; simp only; omega, inW_len _ _, fun x hx => by obtain ⟨a, b, c⟩ := inW_cell hS x hx; exact ⟨a, by omega, c⟩, rfl⟩
theorem enP_tk {s st : Nat} {S : List Wt} (h1 : 1 ≤ s) (h2 : s ≤ 16) (h3 : 1 ≤ st) (h4 : st ≤ 1000) (hS : ∀ i, i < S.length → W64 (S.getD i noWt).v) : tkB s st (inW S 24) = true := by
  unfold tkB
  simp only [Bool.and_eq_true, decide_eq_true_eq, List.all_eq_true]
  refine ⟨⟨⟨⟨⟨by omega, by omega⟩, by omega⟩, by omega⟩, inW_len _ _⟩, fun x hx => ?_⟩
  obtain ⟨a, b, _⟩ := inW_cell hS x hx
  exact ⟨a, by omega⟩
theorem enP_goes {s st : Nat} {S : List Wt} {b : Bk} (hS : ∀ i, i < S.length → W64 (S.getD i noWt).v) : goesB 8 s (enP s st S) b = true ↔ b.nx ≠ 0 := by
  rw [goesB_iff]
  exact ⟨fun h => h.1, fun h => ⟨h, rfl, fun x hx => (inW_cell hS x hx).2.1⟩⟩
theorem ei_new {c : Nat} {P : Bp} (h : BpOk P) (mu : Bool) : EI c P (bkNew P mu) [] :=
  ⟨bk_new h mu, fun x v hx => by simp [bkNew, lastW] at hx, fun h0 => by simp [bkNew] at h0⟩
theorem memAt_base {w : World} {base base' : Nat} {p : Value} {c r : Nat} {L : List Ac} {F : List Nat} (h : MemAt w base p c r L F) (hb : base' ≤ base) : MemAt w base' p c r L F := by
  obtain ⟨M, H, S, C, v, h⟩ := h
  have h1 := h.bM
  have h2 := h.bH
  have h3 := h.bS
  have h4 := h.bC
  exact ⟨M, H, S, C, v, h.p, h.m, own_base h.own hb, h.F, by omega, by omega, by omega, by omega, h.c, h.r⟩
/-- The rows that a list lies in. -/
theorem own_rows {w : World} {base n k : Nat} {e : TypeId} {v : Value} {xs : List Value} (h : w.ownsRow base e k v n xs) : ∃ R : List (Nat × Obj), (∀ z ∈ R, w.heap[z.1]? = some z.2) ∧ ∀ w' : World, (∀ z ∈ R, w'.heap[z.1]? = some z.2) → w'.ownsRow base e k v n xs := by
  obtain ⟨hl, h⟩ := h
  rcases h with ⟨rfl, rfl⟩ | ⟨g, cap, cur, e1, e2, e3, e4⟩
  · exact ⟨[], fun z hz => by simp at hz, fun w' _ => ⟨hl, Or.inl ⟨rfl, rfl⟩⟩⟩
  · exact ⟨[(g, .cells cur e (0, 0))], fun z hz => by simp at hz; subst hz; exact e3, fun w' hw => ⟨hl, Or.inr ⟨g, cap, cur, e1, e2, hw (g, _) (by simp), e4⟩⟩⟩
/-- Some way into the law: the machine and its memory, behind so many accesses; the rows R are kept. -/
structure EW (w0 w : World) (M Z : Nat) (s st : Nat) (S : List Wt) (u : Value) (n : Nat) (b : Bk) (L : List Ac) (R : List (Nat × Obj)) : Prop where
  bw : ∃ base, BW w0 w base (.pointer (some ⟨M, 0, none⟩)) 8 s L Z (enP s st S) b u R
  ei : EI 8 (enP s st S) b L
  len : L.length ≤ n
theorem EW.later {w0 w w' : World} {M Z s st : Nat} {S : List Wt} {u : Value} {n : Nat} {b : Bk} {L : List Ac} {R : List (Nat × Obj)} (h : EW w0 w M Z s st S u n b L R) (hb : Below w.heap.size w w') : EW w0 w' M Z s st S u n b L R := by
  obtain ⟨base, hw⟩ := h.bw
  exact ⟨⟨base, hw.later hb⟩, h.ei, h.len⟩
theorem EW.bel {w0 w : World} {M Z s st : Nat} {S : List Wt} {u : Value} {n : Nat} {b : Bk} {L : List Ac} {R : List (Nat × Obj)} (h : EW w0 w M Z s st S u n b L R) : Below w0.heap.size w0 w := by
  obtain ⟨base, hw⟩ := h.bw
  exact hw.bel
theorem EW.row {w0 w : World} {M Z s st : Nat} {S : List Wt} {u : Value} {n : Nat} {b : Bk} {L : List Ac} {R : List (Nat × Obj)} (h : EW w0 w M Z s st S u n b L R) : ∀ z ∈ R, w.heap[z.1]? = some z.2 := fun z hz => by
  obtain ⟨base, hw⟩ := h.bw
  exact hw.row (B := z.1) (o := z.2) hz
theorem ew_step {w0 w : World} {M Z s st : Nat} {S : List Wt} {u : Value} {n : Nat} {b : Bk} {L : List Ac} {R : List (Nat × Obj)} (h : EW w0 w M Z s st S u n b L R) (hn : n < 3298534883328) :
    Calls Try.prog 15 #[.pointer (some ⟨Z, 0, none⟩), .pointer (some ⟨M, 0, none⟩), .int .i64 1] w fun e w' => e = .returned (ansC (ansBk 8 s (enP s st S) b L) (goesB 8 s (enP s st S) b)) ∧ EW w0 w' M Z s st S u (n + 1) (nextBk 8 s (enP s st S) b L) (nextBL 8 s (enP s st S) b L 1) R := by
  obtain ⟨base, hw⟩ := h.bw
  have hl := h.len
  refine (bw_step hw (by omega) h.ei.ok 1).mono ?_
  rintro e w' ⟨rfl, h1⟩
  exact ⟨rfl, ⟨base, h1⟩, ei_step h.ei 1, Nat.le_trans nextBL_len (by omega)⟩
theorem ew_store {w0 w : World} {M Z s st : Nat} {S : List Wt} {u : Value} {n : Nat} {b : Bk} {L : List Ac} {R : List (Nat × Obj)} (h : EW w0 w M Z s st S u n b L R) (hn : n < 3298534883328) (a : Ad) (z : Int) (hk : a.k = 2 ∨ a.k = 3) (hi : a.i ≠ slotV (st : Int) s) :
    Calls Try.prog 13 #[.pointer (some ⟨M, 0, none⟩), .int .i64 (-1), .agg #[.int .i64 a.k, .int .i64 a.i, .int .i64 a.j], .int .i64 z] w fun e w' => (∃ r, e = .returned (.int .i64 r)) ∧ EW w0 w' M Z s st S u (n + 1) b (storeL 8 s L (-1) a z) R := by
  obtain ⟨base, hw⟩ := h.bw
  have hl := h.len
  refine (bw_store hw (by omega) (-1) a z).mono ?_
  rintro e w' ⟨rfl, h1⟩
  exact ⟨⟨_, rfl⟩, ⟨base, h1⟩, ei_store h.ei (-1) a z hk hi, by unfold storeL; split; (simp; omega); omega⟩
theorem ew_new {w0 w1 w2 w3 : World} {M Z s st : Nat} {S : List Wt} {u : Value} {mu : Bool} {F : List Nat} {R : List (Nat × Obj)} (hp : BpOk (enP s st S)) (hb0 : Below w0.heap.size w0 w1) (hZ : w1.heap.size ≤ Z) (hr : BRow w2 Z (enP s st S) (bkNew (enP s st S) mu) u) (ho : w2.ownsRow w1.heap.size 36 2 u (enP s st S).W.length (wtC (enP s st S).W)) (hne : ∀ k, u.ownBlock = some k → k ≠ Z)
    (hb2 : Below w0.heap.size w0 w2) (hm : MemAt w3 w2.heap.size (.pointer (some ⟨M, 0, none⟩)) 8 s [] F) (hb3 : Below w2.heap.size w2 w3) (hR : ∀ z ∈ R, w3.heap[z.1]? = some z.2 ∧ z.1 < w1.heap.size) : EW w0 w3 M Z s st S u 0 (bkNew (enP s st S) mu) [] R := by
  have hs12 : w1.heap.size ≤ w2.heap.size := by have := heap_lt hr; omega
  have hm2 := memAt_base hm hs12
  refine ⟨⟨w1.heap.size, ⟨F, bs_new2 hZ hr ho hne (Below.refl _ _) hm hb3 hm2, fun z hz => ⟨(hR z hz).1, fun e => ?_⟩⟩, below_then hb2 hb3, hb0.size, Nat.le_trans hs12 hb3.size⟩, ei_new hp mu, by simp⟩
  have h1 := (hR z hz).2
  rcases List.mem_cons.1 e with e | e
  · omega
  · have := (hm2.lt _ e).1; omega
/-- Slots of stamps that lie near one another. -/
theorem slot_ne2 {s : Nat} (h1 : 1 ≤ s) (h2 : s ≤ 16) {k l : Int} (hk : k < l) (hd : l - k < (s : Int)) : slotV k s ≠ slotV l s := by
  have hs : sizeOk (s : Int) = true := sizeOk_iff.mpr ⟨by omega, by omega⟩
  unfold slotV
  rw [if_pos hs, if_pos hs]
  intro e
  have e1 := Int.emod_add_mul_ediv k s
  have e2 := Int.emod_add_mul_ediv l s
  have hd : (s : Int) * (l / s - k / s) = l - k := by rw [Int.mul_sub]; omega
  have hlt : (s : Int) * (l / s - k / s) < (s : Int) * 1 := by omega
  have hgt : (s : Int) * 0 < (s : Int) * (l / s - k / s) := by omega
  have q1 := Int.lt_of_mul_lt_mul_left hlt (by omega)
  have q2 := Int.lt_of_mul_lt_mul_left hgt (by omega)
  omega
/-- The older entries up to a stamp are complete. -/
def HT (P : Bp) (L : List Ac) (j : Int) : Prop := ∀ k, olderOk P k → k < j → overV (wordOf L (hdB P k)) k = true
theorem ht_first (P : Bp) (L : List Ac) : HT P L (P.st - (P.s : Int) + 1) := fun k ho hk => by have := ho.2.2; omega
theorem ht_all {P : Bp} {L : List Ac} (h : HT P L P.st) : HO P L := fun k ho => h k ho ho.2.1
theorem ht_skip (P : Bp) (L : List Ac) {j : Int} (hj : j < 1) : HT P L (j + 1) := fun k ho hk => by have := ho.1; omega
theorem ht_store {P : Bp} {L : List Ac} {j : Int} {c r : Nat} (hp : BpOk P) (h : HT P L j) (hj2 : j < P.st) (hr : r = P.s) : HT P (storeL c r L (-1) (hdB P j) (2 * j + 1)) (j + 1) := fun k ho hk => by
  subst hr
  unfold storeL
  rw [if_pos (by have := slotB_bd hp j; unfold hdB; simp [isAd, this]), wordOf_hit (Or.inl rfl)]
  by_cases e : k = j
  · subst e
    rw [upd_same]
    unfold overV laidV
    simp
    omega
  · have hne := slot_ne2 hp.s1 hp.s16 (show k < j by omega) (by have := ho.2.2; have := ho.2.1; omega)
    rw [upd_other (fun e => hne (by unfold hdB at e; simpa using e.symm))]
    exact h k ho (by omega)
end Go.Proofs.Ytbmmicfdnfpcaaa
