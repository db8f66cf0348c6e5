/- The program's machine of layer 10: how it lies; Stamp, goesOver, beginRound, moved, held, head, noneUnderWay, slotIsFree. -/
import Derived.Test.YtfbbcjlbelnfaaaCmM
import Derived.RegionTactic
import Derived.BigRegion
namespace Go.Proofs.Ytfbbcjlbelnfaaa
open Go.ChangeShapes Go.WideShapes Go.ChangeAt Go.RowKit
attribute [local go_sem ↓] Go.wp_at_zero Go.wp_at_succ

def cmR (s n : Int) (mu : Bool) (z : Int) (rd : List Nat) (st : Int) (x : Value) (seen stamp : Int) : Array Value := #[.int .i64 s, .int .i64 n, .bool mu, .int .i64 z, rdV rd 0, rdV rd 1, rdV rd 2, rdV rd 3, rdV rd 4, rdV rd 5, rdV rd 6, rdV rd 7, .int .i64 st, x, .int .i64 seen, .int .i64 stamp]
def ptr (X : Nat) : Value := .pointer (some ⟨X, 0, none⟩)
def CRow (w : World) (Z : Nat) (s n : Int) (mu : Bool) (z : Int) (rd : List Nat) (st : Int) (x : Value) (seen stamp : Int) : Prop := w.heap[Z]? = some (.cells (cmR s n mu z rd st x seen stamp) 88 (0, 0))
/-- A machine in a block of its own; x: where the machine of its round lies. -/
def CAt (w : World) (Z : Nat) (P : Cp) (u : Cu) (x : Value) : Prop := CRow w Z (P.s : Int) P.ex.n P.ex.mu P.z P.rd u.st x u.seen u.stamp
theorem CRow.keep {w w' : World} {Z : Nat} {s n : Int} {mu : Bool} {z : Int} {rd : List Nat} {st : Int} {x : Value} {seen stamp : Int} {F : List Nat} (h : CRow w Z s n mu z rd st x seen stamp) (k : Keep F w w') (hx : Z ∉ F) : CRow w' Z s n mu z rd st x seen stamp := by
  unfold CRow; rw [k.block _ (heap_lt h) hx]; exact h
theorem CRow.below {w w' : World} {Z : Nat} {s n : Int} {mu : Bool} {z : Int} {rd : List Nat} {st : Int} {x : Value} {seen stamp : Int} {B : Nat} (h : CRow w Z s n mu z rd st x seen stamp) (k : Below B w w') (hx : Z < B) : CRow w' Z s n mu z rd st x seen stamp := by
  unfold CRow; rw [k.block _ hx]; exact h
theorem CRow.cells {w : World} {Z : Nat} {s n : Int} {mu : Bool} {z : Int} {rd : List Nat} {st : Int} {x : Value} {seen stamp : Int} (h : CRow w Z s n mu z rd st x seen stamp) : w.cell? ⟨Z, 0, none⟩ = some (.int .i64 s) ∧ w.cell? ⟨Z, 1, none⟩ = some (.int .i64 n) ∧ w.cell? ⟨Z, 2, none⟩ = some (.bool mu) ∧ w.cell? ⟨Z, 3, none⟩ = some (.int .i64 z) ∧
    w.cell? ⟨Z, 12, none⟩ = some (.int .i64 st) ∧ w.cell? ⟨Z, 13, none⟩ = some x ∧ w.cell? ⟨Z, 14, none⟩ = some (.int .i64 seen) ∧ w.cell? ⟨Z, 15, none⟩ = some (.int .i64 stamp) :=
  ⟨by rw [cell_at h]; rfl, by rw [cell_at h]; rfl, by rw [cell_at h]; rfl, by rw [cell_at h]; rfl, by rw [cell_at h]; rfl, by rw [cell_at h]; rfl, by rw [cell_at h]; rfl, by rw [cell_at h]; rfl⟩
theorem CRow.reads {w : World} {Z : Nat} {s n : Int} {mu : Bool} {z : Int} {rd : List Nat} {st : Int} {x : Value} {seen stamp : Int} (h : CRow w Z s n mu z rd st x seen stamp) : w.cell? ⟨Z, 4, none⟩ = some (rdV rd 0) ∧ w.cell? ⟨Z, 5, none⟩ = some (rdV rd 1) ∧ w.cell? ⟨Z, 6, none⟩ = some (rdV rd 2) ∧ w.cell? ⟨Z, 7, none⟩ = some (rdV rd 3) ∧ w.cell? ⟨Z, 8, none⟩ = some (rdV rd 4) ∧ w.cell? ⟨Z, 9, none⟩ = some (rdV rd 5) ∧ w.cell? ⟨Z, 10, none⟩ = some (rdV rd 6) ∧ w.cell? ⟨Z, 11, none⟩ = some (rdV rd 7) :=
  ⟨by rw [cell_at h]; rfl, by rw [cell_at h]; rfl, by rw [cell_at h]; rfl, by rw [cell_at h]; rfl, by rw [cell_at h]; rfl, by rw [cell_at h]; rfl, by rw [cell_at h]; rfl, by rw [cell_at h]; rfl⟩
theorem CRow.fz {w : World} {Z : Nat} {s n : Int} {mu : Bool} {z : Int} {rd : List Nat} {st : Int} {x : Value} {seen stamp : Int} (h : CRow w Z s n mu z rd st x seen stamp) : w.frozen? ⟨Z, 12, none⟩ = false ∧ w.frozen? ⟨Z, 13, none⟩ = false ∧ w.frozen? ⟨Z, 14, none⟩ = false ∧ w.frozen? ⟨Z, 15, none⟩ = false := ⟨frozen_at h 12, frozen_at h 13, frozen_at h 14, frozen_at h 15⟩
theorem cset {w : World} {Z : Nat} {s n : Int} {mu : Bool} {z : Int} {rd : List Nat} {st : Int} {x : Value} {seen stamp : Int} (h : CRow w Z s n mu z rd st x seen stamp) (v : Int) (y : Value) :
    CRow (w.setCell ⟨Z, 12, none⟩ (.int .i64 v)) Z s n mu z rd v x seen stamp ∧ CRow (w.setCell ⟨Z, 13, none⟩ y) Z s n mu z rd st y seen stamp ∧ CRow (w.setCell ⟨Z, 14, none⟩ (.int .i64 v)) Z s n mu z rd st x v stamp ∧ CRow (w.setCell ⟨Z, 15, none⟩ (.int .i64 v)) Z s n mu z rd st x seen v :=
  ⟨by unfold CRow; rw [heap_set h]; rfl, by unfold CRow; rw [heap_set h]; rfl, by unfold CRow; rw [heap_set h]; rfl, by unfold CRow; rw [heap_set h]; rfl⟩
theorem CAt.keep {w w' : World} {Z : Nat} {P : Cp} {u : Cu} {x : Value} {F : List Nat} (h : CAt w Z P u x) (k : Keep F w w') (hx : Z ∉ F) : CAt w' Z P u x := CRow.keep h k hx
theorem CAt.below {w w' : World} {Z : Nat} {P : Cp} {u : Cu} {x : Value} {B : Nat} (h : CAt w Z P u x) (k : Below B w w') (hx : Z < B) : CAt w' Z P u x := CRow.below h k hx

/-- A machine, its round's, and a memory. -/
structure CS (w : World) (base : Nat) (p : Value) (c r : Nat) (L : List Ac) (F : List Nat) (X Z : Nat) (P : Cp) (b : Ck) (u : Cu) : Prop where
  ks : KS w base p c r L F X P b
  cm : CAt w Z P u (ptr X)
  out : Z ∉ X :: F
  lo : base ≤ Z
theorem CS.lt {w : World} {base : Nat} {p : Value} {c r : Nat} {L : List Ac} {F : List Nat} {X Z : Nat} {P : Cp} {b : Ck} {u : Cu} (h : CS w base p c r L F X Z P b u) : ∀ q ∈ Z :: X :: F, base ≤ q ∧ q < w.heap.size := fun q hq => by
  rcases List.mem_cons.1 hq with rfl | hq
  · exact ⟨h.lo, heap_lt h.cm⟩
  · exact h.ks.lt q hq
theorem CS.keep {w w' : World} {base : Nat} {p : Value} {c r : Nat} {L : List Ac} {F G : List Nat} {X Z : Nat} {P : Cp} {b : Ck} {u : Cu} (h : CS w base p c r L F X Z P b u) (k : Keep G w w') (hd : ∀ q ∈ Z :: X :: F, q ∉ G) : CS w' base p c r L F X Z P b u :=
  ⟨h.ks.keep k (fun q hq => hd q (List.mem_cons_of_mem _ hq)), h.cm.keep k (hd Z (by simp)), h.out, h.lo⟩
theorem CS.below {w w' : World} {base : Nat} {p : Value} {c r : Nat} {L : List Ac} {F : List Nat} {X Z : Nat} {P : Cp} {b : Ck} {u : Cu} (h : CS w base p c r L F X Z P b u) (hb : Below w.heap.size w w') : CS w' base p c r L F X Z P b u := h.keep (Keep.of_below hb []) (fun _ _ => by simp)
/-- The round's machine or the memory changes. -/
theorem CS.onKS {w w' : World} {base : Nat} {p : Value} {c r : Nat} {L L' : List Ac} {F F' : List Nat} {X Z : Nat} {P : Cp} {b b' : Ck} {u : Cu} (h : CS w base p c r L F X Z P b u) (hk : KS w' base p c r L' F' X P b') (hn : Next (X :: F) (X :: F') w w') : CS w' base p c r L' F' X Z P b' u :=
  ⟨hk, h.cm.keep hn.1 h.out, fun e => by
    rcases hn.2 Z e with h1 | h1
    · exact h.out h1
    · have := heap_lt h.cm; omega, h.lo⟩
/-- Its own cells change. -/
theorem CS.onZ {w w' : World} {base : Nat} {p : Value} {c r : Nat} {L : List Ac} {F : List Nat} {X Z : Nat} {P : Cp} {b : Ck} {u u' : Cu} (h : CS w base p c r L F X Z P b u) (hc : CAt w' Z P u' (ptr X)) (hk : Keep [Z] w w') : CS w' base p c r L F X Z P b u' ∧ Next (Z :: X :: F) (Z :: X :: F) w w' :=
  ⟨⟨h.ks.keep hk (fun q hq e => by simp at e; exact h.out (e ▸ hq)), hc, h.out, h.lo⟩, hk.mono (fun q hq => by simp at hq; subst hq; simp), fun q hq => Or.inl hq⟩
/-- The answer's block, fresh, through a change of what lies beside it. -/
theorem nx_row {w w1 w2 : World} {G G' : List Nat} {o : Obj} (hlt : ∀ q ∈ G, q < w.heap.size) (hb : Below w.heap.size w w1) (hr : w1.heap[w.heap.size]? = some o) (hn : Next G G' w1 w2) : w2.heap[w.heap.size]? = some o ∧ w.heap.size ∉ G' ∧ Next G G' w w2 := by
  have h1 := heap_lt hr
  have h2 := hb.size
  have hno : w.heap.size ∉ G := fun e => by have := hlt _ e; omega
  refine ⟨hn.row hr hno, fun e => ?_, (Keep.of_below hb _).trans hn.1 (fun q hq => Or.inl hq), fun q hq => ?_⟩
  · rcases hn.2 _ e with h3 | h3
    · exact hno h3
    · omega
  · rcases hn.2 q hq with h3 | h3
    · exact Or.inl h3
    · exact Or.inr (by omega)
theorem cs_other {w w3 w4 : World} {base : Nat} {p : Value} {c r : Nat} {L : List Ac} {G F' : List Nat} {X Z B : Nat} {P : Cp} {b : Ck} {u : Cu} (h : CS w3 base p c r L F' X Z P b u) (hB : B ∉ Z :: X :: F') (hlo : w.heap.size ≤ B) (hn : Next G (Z :: X :: F') w w3) (hk : Keep [B] w3 w4) :
    CS w4 base p c r L F' X Z P b u ∧ Next G (Z :: X :: F') w w4 :=
  ⟨h.keep hk (fun q hq e => by simp at e; exact hB (e ▸ hq)), hn.1.trans hk (fun q hq => by simp at hq; subst hq; exact Or.inr hlo), hn.2⟩

/-- An answer with a value. -/
def ansW (k e v : Int) (y : Bool) : Value := .agg #[.int .i64 k, .int .i64 e, .int .i64 v, .bool y]
def laidW (w : World) (B : Nat) (k e v : Int) (y : Bool) : World := (((w.setCell ⟨B, 0, none⟩ (.int .i64 k)).setCell ⟨B, 1, none⟩ (.int .i64 e)).setCell ⟨B, 2, none⟩ (.int .i64 v)).setCell ⟨B, 3, none⟩ (.bool y)
theorem ansW_set {w : World} {B : Nat} {cs : Array Value} (hz : cs.size = 4) (h : w.heap[B]? = some (.cells cs 52 (0, 0))) (k e v : Int) (y : Bool) :
    (laidW w B k e v y).heap[B]? = some (.cells #[.int .i64 k, .int .i64 e, .int .i64 v, .bool y] 52 (0, 0)) := by
  have h1 := heap_set (i := 0) (v := .int .i64 k) h
  have h2 := heap_set (i := 1) (v := .int .i64 e) h1
  have h3 := heap_set (i := 2) (v := .int .i64 v) h2
  have h4 := heap_set (i := 3) (v := .bool y) h3
  unfold laidW
  rw [h4]
  obtain ⟨l⟩ := cs
  match l, hz with
  | [_, _, _, _], _ => rfl
theorem keepWB {w : World} {B : Nat} (k e v : Int) (y : Bool) : Keep [B] w (laidW w B k e v y) :=
  ((((Keep.refl [B] w).setCell _ _ (Or.inl (by simp))).setCell _ _ (Or.inl (by simp))).setCell _ _ (Or.inl (by simp))).setCell _ _ (Or.inl (by simp))
theorem belowW {w0 w : World} {A B : Nat} (hk : Below A w0 w) (hB : A ≤ B) (k e v : Int) (y : Bool) : Below A w0 (laidW w B k e v y) := (((hk.setCell hB _).setCell hB _).setCell hB _).setCell hB _

theorem moved_any (w : World) : Calls Try.prog 53 #[] w fun e w' => e = .returned (ansW 2 0 0 true) ∧ Below w.heap.size w w' := by
  unfold ansW
  go_enter Try.func53, Try.ntmps53
  go_wp2
  exact ret_ans rfl rfl (heap_alloc_new _ _) rfl rfl ⟨rfl, below_a1 _ _⟩
theorem mstamp_any {w : World} {Z : Nat} {P : Cp} {u : Cu} {x : Value} (h : CAt w Z P u x) : Calls Try.prog 24 #[.pointer (some ⟨Z, 0, none⟩)] w fun e w' => e = .returned (.tuple #[.int .i64 u.stamp, .bool (u.stamp != 0)]) ∧ Below w.heap.size w w' := by
  obtain ⟨x0, x1, x2, x3, x4, x5, x6, x7⟩ := CRow.cells h
  clear h
  go_enter Try.func24, Try.ntmps24
  go_wp2
  first | (go_ret2; exact ⟨rfl, Below.refl _ _⟩) | (go_quiet (fail); go_wp2; go_ret2; exact ⟨rfl, below_drawn (Below.refl _ _) _⟩)
theorem mgoes_any {w : World} {base : Nat} {p : Value} {c r : Nat} {L : List Ac} {F : List Nat} {Z : Nat} {P : Cp} {u : Cu} {x : Value} (hm : MemAt w base p c r L F) (h : CAt w Z P u x) :
    Calls Try.prog 31 #[.pointer (some ⟨Z, 0, none⟩), p] w fun e w' => e = .returned (.bool (goesC r P u)) ∧ Below w.heap.size w w' := by
  have HS : Hid (Calls Try.prog 39 #[p] w fun e w' => e = .returned (.tuple #[.int .i64 (c : Int), .int .i64 (r : Int)]) ∧ Below w.heap.size w w') := sizes_any hm
  obtain ⟨M, rfl⟩ := hm.ptr
  have HX : Hid (CAt w Z P u x) := h
  have hx : Z < w.heap.size := heap_lt h
  obtain ⟨x0, x1, x2, x3, x4, x5, x6, x7⟩ := CRow.cells h
  have hd : ((r : Int) == (P.s : Int)) = decide (r = P.s) := by rw [Bool.eq_iff_iff]; simp; try omega
  clear hm h
  unfold goesC
  by_cases e4 : u.st = 3
  · have d4 : decide (u.st ≠ 3) = false := decide_eq_false (by omega)
    rw [d4]
    rw [e4] at x4
    clear e4 d4
    go_enter Try.func31, Try.ntmps31
    go_wp2
    go_ret
    exact ⟨rfl, Below.refl _ _⟩
  · have d4 : decide (u.st ≠ 3) = true := decide_eq_true e4
    rw [d4]
    have q4 : (u.st == 3) = false := by simpa using e4
    clear d4
    go_enter Try.func31, Try.ntmps31
    go_wp2_with fail
    refine HS.out.mono ?_
    rintro e w1 ⟨rfl, hb⟩
    clear x0 x1 x2 x3 x4 x5 x6 x7
    obtain ⟨x0, x1, x2, x3, x4, x5, x6, x7⟩ := CRow.cells (HX.out.below hb hx)
    have HB : Hid (Below w.heap.size w w1) := hb
    clear hb
    go_wp2
    go_ret
    exact ⟨rfl, HB.out⟩
set_option maxRecDepth 10000 in
theorem mbegin_yes {w : World} {Z : Nat} {P : Cp} {u : Cu} {x : Value} (h : CAt w Z P u x) (hp : POk P) (hl : P.last = false) :
    Calls Try.prog 26 #[.pointer (some ⟨Z, 0, none⟩)] w fun e w' => e = .returned (.int .i64 0) ∧ ∃ X, CAt w' Z P ⟨0, u.seen, u.stamp⟩ (ptr X) ∧ KAt w' X P (ckNew P) ∧ w.heap.size ≤ X ∧ Keep [Z] w w' := by
  have HC : Hid (∀ w, Calls Try.prog 46 #[.int .i64 (P.s : Int), .int .i64 P.z, .agg #[rdV P.rd 0, rdV P.rd 1, rdV P.rd 2, rdV P.rd 3, rdV P.rd 4, rdV P.rd 5, rdV P.rd 6, rdV P.rd 7], .bool false] w fun e w' => e = .returned (.tuple #[.pointer (some ⟨w.heap.size + 1, 0, none⟩), .int .i64 0]) ∧ KAt w' (w.heap.size + 1) P (ckNew P) ∧ Below w.heap.size w w') := fun w => by
    rw [rd_cells hp.rd.1, ← hl]
    exact cnew_yes w hp
  have hx : Z < w.heap.size := heap_lt h
  have HX : Hid (CAt w Z P u x) := h
  obtain ⟨x0, x1, x2, x3, x4, x5, x6, x7⟩ := CRow.cells h
  obtain ⟨y0, y1, y2, y3, y4, y5, y6, y7⟩ := CRow.reads h
  clear h hp hl
  unfold rdV at *
  generalize P.rd.getD 0 0 = n0 at *
  generalize P.rd.getD 1 0 = n1 at *
  generalize P.rd.getD 2 0 = n2 at *
  generalize P.rd.getD 3 0 = n3 at *
  generalize P.rd.getD 4 0 = n4 at *
  generalize P.rd.getD 5 0 = n5 at *
  generalize P.rd.getD 6 0 = n6 at *
  generalize P.rd.getD 7 0 = n7 at *
  go_enter Try.func26, Try.ntmps26
  go_wp2
  go_region_with ((go_at_call 46; refine (HC.out _).mono ?_; rintro e w1 ⟨rfl, hk1, hb1⟩))
  all_goals
    have hb : Below w.heap.size w w1 := by first | exact below_then (below_drawn (Below.refl _ _) 1) hb1 | exact hb1
    have HK1 : Hid (KAt w1 (w.heap.size + 1) P (ckNew P) ∧ CAt w1 Z P u x ∧ Keep [Z] w w1) := ⟨hk1, HX.out.below hb hx, Keep.of_below hb _⟩
    clear x0 x1 x2 x3 x4 x5 x6 x7 y0 y1 y2 y3 y4 y5 y6 y7
    obtain ⟨x0, x1, x2, x3, x4, x5, x6, x7⟩ := CRow.cells (HX.out.below hb hx)
    obtain ⟨f0, f1, f2, f3⟩ := CRow.fz (HX.out.below hb hx)
    have hx1 : Z < w1.heap.size := Nat.lt_of_lt_of_le hx hb.size
    clear hk1 hb1 hb
    go_wp2
    have hc := (cset (cset HK1.out.2.1 0 (ptr (w.heap.size + 1))).2.1 0 (ptr 0)).1
    have hkk : Keep [Z] w1 ((w1.setCell ⟨Z, 13, none⟩ (ptr (w.heap.size + 1))).setCell ⟨Z, 12, none⟩ (.int .i64 0)) := kkeep (kkeep (Keep.refl _ _) _ _) _ _
    go_ret
    exact ⟨rfl, w.heap.size + 1, hc, HK1.out.1.keep hkk (by simp; omega), by omega, HK1.out.2.2.trans hkk (fun q hq => Or.inl hq)⟩
end Go.Proofs.Ytfbbcjlbelnfaaa
