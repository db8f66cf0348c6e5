/- The program's machine of layer 8: addr, fail, goOn. -/
import Derived.Test.YtfbbcjlbelnfaaaCqA
import Derived.Test.YtfbbcjlbelnfaaaAns
namespace Go.Proofs.Ytfbbcjlbelnfaaa
open Go.ChangeShapes Go.WideShapes Go.ChangeAt Go.RowKit
attribute [local go_sem ↓] Go.wp_at_zero Go.wp_at_succ

def ansE (k e : Int) (y : Bool) : Value := .agg #[.int .i64 k, .int .i64 e, .int .i64 0, .bool y]
/-- An answer is laid. -/
def laidE (w : World) (B : Nat) (k e : Int) (y : Bool) : World := (((w.setCell ⟨B, 0, none⟩ (.int .i64 k)).setCell ⟨B, 1, none⟩ (.int .i64 e)).setCell ⟨B, 2, none⟩ (.int .i64 0)).setCell ⟨B, 3, none⟩ (.bool y)
theorem ansE_set {w : World} {B : Nat} {cs : Array Value} (hz : cs.size = 4) (h : w.heap[B]? = some (.cells cs 52 (0, 0))) (k e : Int) (y : Bool) :
    (laidE w B k e y).heap[B]? = some (.cells #[.int .i64 k, .int .i64 e, .int .i64 0, .bool y] 52 (0, 0)) := by
  have h1 := heap_set (i := 0) (v := .int .i64 k) h
  have h2 := heap_set (i := 1) (v := .int .i64 e) h1
  have h3 := heap_set (i := 2) (v := .int .i64 0) h2
  have h4 := heap_set (i := 3) (v := .bool y) h3
  unfold laidE
  rw [h4]
  obtain ⟨l⟩ := cs
  obtain ⟨a, b, c, d, rfl⟩ : ∃ a b c d, l = [a, b, c, d] := by
    rcases l with _ | ⟨a, _ | ⟨b, _ | ⟨c, _ | ⟨d, _ | ⟨_, _⟩⟩⟩⟩⟩ <;> simp at hz
    exact ⟨a, b, c, d, rfl⟩
  rfl
theorem keepE {w0 w : World} {F : List Nat} {B : Nat} (hk : Keep F w0 w) (hB : w0.heap.size ≤ B) (k e : Int) (y : Bool) : Keep F w0 (laidE w B k e y) :=
  (((hk.setCell _ _ (Or.inr hB)).setCell _ _ (Or.inr hB)).setCell _ _ (Or.inr hB)).setCell _ _ (Or.inr hB)
theorem keepEB {w : World} {B : Nat} (k e : Int) (y : Bool) : Keep [B] w (laidE w B k e y) :=
  ((((Keep.refl [B] w).setCell _ _ (Or.inl (by simp))).setCell _ _ (Or.inl (by simp))).setCell _ _ (Or.inl (by simp))).setCell _ _ (Or.inl (by simp))

theorem KAt.alloc {w : World} {X : Nat} {P : Cp} {b : Ck} (h : KAt w X P b) (o : Obj) : KAt (w.alloc o) X P b := h.below (below_a1 _ _) (heap_lt h)
theorem size_set (w : World) (a : Addr) (v : Value) : (w.setCell a v).heap.size = w.heap.size := by simp
theorem heap_alloc_set_new (w : World) (a : Addr) (v : Value) {o : Obj} : ((w.setCell a v).alloc o).heap[w.heap.size]? = some o := by
  have := heap_alloc_new (w.setCell a v) o
  rwa [size_set] at this
set_option maxRecDepth 10000 in
theorem cfail_any {w : World} {X : Nat} {P : Cp} {b : Ck} (h : KAt w X P b) (e : Int) :
    Calls Try.prog 87 #[.pointer (some ⟨X, 0, none⟩), .int .i64 e] w fun en w' => en = .returned (ansE 4 e true) ∧ KAt w' X P (failV b e) ∧ Keep [X] w w' := by
  obtain ⟨x0, x1, x2, x3, x4, x5, x6, x7⟩ := h.cells
  obtain ⟨f3, f4, f5, f6, f7⟩ := h.fz
  have hx : X < w.heap.size := heap_lt h
  have HX : Hid (KAt w X P b) := h
  clear h
  obtain ⟨st, seen, stamp, word, comp, err⟩ := b
  go_enter Try.func87, Try.ntmps87
  go_wp2
  exact ret_ans rfl rfl (heap_alloc_set_new _ _ _) rfl rfl ⟨rfl, ((kset HX.out 5).1.alloc _).err e, (kkeep (Keep.refl _ _) _ _).alloc _⟩
/-- goOn under way: its answer's block, the block of what it answers where it goes on, the machine. -/
structure Ret2 (w w1 : World) (X : Nat) (P : Cp) (b : Ck) : Prop where
  r0 : w1.heap[w.heap.size]? = some (.cells #[.int .i64 0, .int .i64 0, .int .i64 0, .bool false] 52 (0, 0))
  r1 : w1.heap[w.heap.size + 1]? = some (.cells #[.int .i64 2, .int .i64 0, .int .i64 0, .bool true] 52 (0, 0))
  a : KAt w1 X P b
  k : Keep [X] w w1
  x : X < w.heap.size
theorem ret2_call {w w0 w1 : World} {X : Nat} {P : Cp} {b b' : Ck} (r : Ret2 w w0 X P b) (ha : KAt w1 X P b') (hk : Keep [X] w0 w1) : Ret2 w w1 X P b' := by
  have hx := r.x
  refine ⟨?_, ?_, ha, r.k.trans hk (fun q hq => Or.inl hq), hx⟩
  · rw [hk.block _ (heap_lt r.r0) (by simp; omega)]; exact r.r0
  · rw [hk.block _ (heap_lt r.r1) (by simp; omega)]; exact r.r1
theorem ret2_start {w : World} {X : Nat} {P : Cp} {b : Ck} (h : KAt w X P b) : Ret2 w ((w.alloc (.cells #[.int .i64 0, .int .i64 0, .int .i64 0, .bool false] 52)).alloc (.cells #[.int .i64 2, .int .i64 0, .int .i64 0, .bool true] 52)) X P b :=
  ⟨heap_alloc2_old _ _ _, heap_alloc2_new _ _ _, (h.alloc _).alloc _, ((Keep.refl _ _).alloc _).alloc _, heap_lt h⟩
theorem ret2_set {w : World} {X : Nat} {P : Cp} {b : Ck} (h : KAt w X P b) : Ret2 w (((w.setCell ⟨X, 14, none⟩ (.int .i64 (-1))).alloc (.cells #[.int .i64 0, .int .i64 0, .int .i64 0, .bool false] 52)).alloc (.cells #[.int .i64 2, .int .i64 0, .int .i64 0, .bool true] 52)) X P ⟨b.st, b.seen, b.stamp, -1, b.comp, b.err⟩ := by
  have hz : (w.setCell ⟨X, 14, none⟩ (.int .i64 (-1))).heap.size = w.heap.size := size_set _ _ _
  have hr := ret2_start (kset h (-1)).2.2.2.1
  exact ⟨hz ▸ hr.r0, hz ▸ hr.r1, hr.a, ((kkeep (Keep.refl _ _) _ _).alloc _).alloc _, heap_lt h⟩
theorem Ret2.set {w w1 : World} {X : Nat} {P : Cp} {b : Ck} (r : Ret2 w w1 X P b) (v : Int) : Ret2 w (w1.setCell ⟨X, 11, none⟩ (.int .i64 v)) X P ⟨v, b.seen, b.stamp, b.word, b.comp, b.err⟩ :=
  ret2_call r (kset r.a v).1 (kkeep (Keep.refl _ _) _ _)
theorem Ret2.done {w w1 : World} {X : Nat} {P : Cp} {b : Ck} (r : Ret2 w w1 X P b) (k e : Int) (y : Bool) : KAt (laidE w1 w.heap.size k e y) X P b ∧ Keep [X] w (laidE w1 w.heap.size k e y) :=
  ⟨r.a.keep (keepEB k e y) (by have := r.x; simp; omega), keepE r.k (Nat.le_refl _) k e y⟩
theorem row_2_0 (w : World) (a : Addr) (v : Value) (o1 o2 : Obj) : (((w.setCell a v).alloc o1).alloc o2).heap[w.heap.size]? = some o1 := by
  have := heap_alloc2_old (w.setCell a v) o1 o2
  rwa [size_set] at this

--CASES
set_option maxRecDepth 10000 in
theorem goon_1h {w : World} {X : Nat} {P : Cp} {b : Ck} (h : KAt w X P b) (hst : b.st = 1) (hn : nxW P.rd 0 < 8) :
    Calls Try.prog 88 #[.pointer (some ⟨X, 0, none⟩)] w fun en w' => en = .returned (ansE 2 0 true) ∧ KAt w' X P ⟨2, b.seen, b.stamp, (nxW P.rd 0 : Int), b.comp, b.err⟩ ∧ Keep [X] w w' := by
  obtain ⟨x0, x1, x2, x3, x4, x5, x6, x7⟩ := h.cells
  obtain ⟨f3, f4, f5, f6, f7⟩ := h.fz
  have hx : X < w.heap.size := heap_lt h
  have HX : Hid (KAt w X P b) := h
  clear h
  obtain ⟨st, seen, stamp, word, comp, err⟩ := b
  simp only at *
  subst hst
  have HW : Hid (∀ w, KAt w X P ⟨1, seen, stamp, (-1), comp, err⟩ → Calls Try.prog 97 #[.pointer (some ⟨X, 0, none⟩)] w fun e w' => e = .returned (.bool true) ∧ KAt w' X P ⟨2, seen, stamp, (nxW P.rd 0 : Int), comp, err⟩ ∧ Keep [X] w w') := fun w h => by
    have := nextw_any h (by simp only; omega) (by simp only; omega)
    simp only at this
    rw [show ((-1 : Int) + 1).toNat = 0 from rfl] at this
    rw [if_pos hn, decide_eq_true hn] at this
    exact this
  clear hn
  generalize nxW P.rd 0 = nx at *
  have hne : w.heap.size ≠ X := by omega
  have hne2 : w.heap.size + 1 ≠ X := by omega
  go_enter Try.func88, Try.ntmps88
  go_wp2_with fail
  refine (HW.out _ (ret2_set HX.out).a).mono ?_
  rintro e w1 ⟨rfl, ha1, hk1⟩
  have R1 : Hid (Ret2 w w1 X P ⟨2, seen, stamp, (nx : Int), comp, err⟩) := ret2_call (ret2_set HX.out) ha1 hk1
  clear ha1 hk1 x0 x1 x2 x3 x4 x5 x6 x7 f3 f4 f5 f6 f7
  obtain ⟨x0, x1, x2, x3, x4, x5, x6, x7⟩ := R1.out.a.cells
  obtain ⟨f3, f4, f5, f6, f7⟩ := R1.out.a.fz
  obtain ⟨⟨a0, a1, a2, a3⟩, g0, g1, g2, g3⟩ := ans_cells R1.out.r0
  obtain ⟨⟨m0, m1, m2, m3⟩, i0, i1, i2, i3⟩ := ans_cells R1.out.r1
  have hz := heap_lt R1.out.r0
  have hz2 := heap_lt R1.out.r1
  simp only at x3 x4 x5 x6 x7
  go_wp2
  exact ret_ans rfl rfl (ansE_set rfl R1.out.r0 2 0 true) rfl rfl ⟨rfl, R1.out.done 2 0 true⟩
set_option maxRecDepth 10000 in
theorem goon_1m {w : World} {X : Nat} {P : Cp} {b : Ck} (h : KAt w X P b) (hst : b.st = 1) (hn : ¬ nxW P.rd 0 < 8) (hse : b.seen ≤ 9223372036854775807) (h0 : 0 ≤ b.stamp) (hs : b.stamp < b.seen) :
    Calls Try.prog 88 #[.pointer (some ⟨X, 0, none⟩)] w fun en w' => en = .returned (ansE 2 0 true) ∧ KAt w' X P ⟨1, b.seen, b.stamp + 1, 8, b.comp, b.err⟩ ∧ Keep [X] w w' := by
  obtain ⟨x0, x1, x2, x3, x4, x5, x6, x7⟩ := h.cells
  obtain ⟨f3, f4, f5, f6, f7⟩ := h.fz
  have hx : X < w.heap.size := heap_lt h
  have HX : Hid (KAt w X P b) := h
  clear h
  obtain ⟨st, seen, stamp, word, comp, err⟩ := b
  simp only at *
  subst hst
  have HW : Hid (∀ w, KAt w X P ⟨1, seen, stamp, (-1), comp, err⟩ → Calls Try.prog 97 #[.pointer (some ⟨X, 0, none⟩)] w fun e w' => e = .returned (.bool false) ∧ KAt w' X P ⟨1, seen, stamp, 8, comp, err⟩ ∧ Keep [X] w w') := fun w h => by
    have := nextw_any h (by simp only; omega) (by simp only; omega)
    simp only at this
    rw [show ((-1 : Int) + 1).toNat = 0 from rfl] at this
    rw [if_neg hn, decide_eq_false hn] at this
    exact this
  have HS : Hid (∀ w, KAt w X P ⟨1, seen, stamp, 8, comp, err⟩ → Calls Try.prog 98 #[.pointer (some ⟨X, 0, none⟩)] w fun e w' => e = .returned (.bool true) ∧ KAt w' X P ⟨1, seen, stamp + 1, 8, comp, err⟩ ∧ Keep [X] w w') := fun w h => by
    have := nexts_any h hse h0
    simp only at this
    rw [if_pos hs, decide_eq_true hs] at this
    exact this
  clear hn
  clear hs
  have hne : w.heap.size ≠ X := by omega
  have hne2 : w.heap.size + 1 ≠ X := by omega
  go_enter Try.func88, Try.ntmps88
  go_wp2_with fail
  refine (HW.out _ (ret2_set HX.out).a).mono ?_
  rintro e w1 ⟨rfl, ha1, hk1⟩
  have R1 : Hid (Ret2 w w1 X P ⟨1, seen, stamp, 8, comp, err⟩) := ret2_call (ret2_set HX.out) ha1 hk1
  clear ha1 hk1 x0 x1 x2 x3 x4 x5 x6 x7 f3 f4 f5 f6 f7
  obtain ⟨x0, x1, x2, x3, x4, x5, x6, x7⟩ := R1.out.a.cells
  obtain ⟨f3, f4, f5, f6, f7⟩ := R1.out.a.fz
  obtain ⟨⟨a0, a1, a2, a3⟩, g0, g1, g2, g3⟩ := ans_cells R1.out.r0
  obtain ⟨⟨m0, m1, m2, m3⟩, i0, i1, i2, i3⟩ := ans_cells R1.out.r1
  have hz := heap_lt R1.out.r0
  have hz2 := heap_lt R1.out.r1
  simp only at x3 x4 x5 x6 x7
  go_wp2_with fail
  refine (HS.out _ (R1.out).a).mono ?_
  rintro e w2 ⟨rfl, ha2, hk2⟩
  have R2 : Hid (Ret2 w w2 X P ⟨1, seen, stamp + 1, 8, comp, err⟩) := ret2_call (R1.out) ha2 hk2
  clear ha2 hk2 x0 x1 x2 x3 x4 x5 x6 x7 f3 f4 f5 f6 f7 R1 a0 a1 a2 a3 g0 g1 g2 g3 m0 m1 m2 m3 i0 i1 i2 i3 hz hz2
  obtain ⟨x0, x1, x2, x3, x4, x5, x6, x7⟩ := R2.out.a.cells
  obtain ⟨f3, f4, f5, f6, f7⟩ := R2.out.a.fz
  obtain ⟨⟨a0, a1, a2, a3⟩, g0, g1, g2, g3⟩ := ans_cells R2.out.r0
  obtain ⟨⟨m0, m1, m2, m3⟩, i0, i1, i2, i3⟩ := ans_cells R2.out.r1
  have hz := heap_lt R2.out.r0
  have hz2 := heap_lt R2.out.r1
  simp only at x3 x4 x5 x6 x7
  go_wp2
  exact ret_ans rfl rfl (ansE_set rfl R2.out.r0 2 0 true) rfl rfl ⟨rfl, R2.out.done 2 0 true⟩
set_option maxRecDepth 10000 in
theorem goon_1l {w : World} {X : Nat} {P : Cp} {b : Ck} (h : KAt w X P b) (hst : b.st = 1) (hn : ¬ nxW P.rd 0 < 8) (hse : b.seen ≤ 9223372036854775807) (h0 : 0 ≤ b.stamp) (hs : ¬ b.stamp < b.seen) (hl : P.last = true) :
    Calls Try.prog 88 #[.pointer (some ⟨X, 0, none⟩)] w fun en w' => en = .returned (ansE 2 0 true) ∧ KAt w' X P ⟨3, b.seen, b.stamp, 8, b.comp, b.err⟩ ∧ Keep [X] w w' := by
  obtain ⟨x0, x1, x2, x3, x4, x5, x6, x7⟩ := h.cells
  obtain ⟨f3, f4, f5, f6, f7⟩ := h.fz
  have hx : X < w.heap.size := heap_lt h
  have HX : Hid (KAt w X P b) := h
  clear h
  obtain ⟨st, seen, stamp, word, comp, err⟩ := b
  simp only at *
  subst hst
  rw [hl] at x2
  have HW : Hid (∀ w, KAt w X P ⟨1, seen, stamp, (-1), comp, err⟩ → Calls Try.prog 97 #[.pointer (some ⟨X, 0, none⟩)] w fun e w' => e = .returned (.bool false) ∧ KAt w' X P ⟨1, seen, stamp, 8, comp, err⟩ ∧ Keep [X] w w') := fun w h => by
    have := nextw_any h (by simp only; omega) (by simp only; omega)
    simp only at this
    rw [show ((-1 : Int) + 1).toNat = 0 from rfl] at this
    rw [if_neg hn, decide_eq_false hn] at this
    exact this
  have HS : Hid (∀ w, KAt w X P ⟨1, seen, stamp, 8, comp, err⟩ → Calls Try.prog 98 #[.pointer (some ⟨X, 0, none⟩)] w fun e w' => e = .returned (.bool false) ∧ KAt w' X P ⟨1, seen, stamp, 8, comp, err⟩ ∧ Keep [X] w w') := fun w h => by
    have := nexts_any h hse h0
    simp only at this
    rw [if_neg hs, decide_eq_false hs] at this
    exact this
  clear hn
  clear hs
  have hne : w.heap.size ≠ X := by omega
  have hne2 : w.heap.size + 1 ≠ X := by omega
  go_enter Try.func88, Try.ntmps88
  go_wp2_with fail
  refine (HW.out _ (ret2_set HX.out).a).mono ?_
  rintro e w1 ⟨rfl, ha1, hk1⟩
  have R1 : Hid (Ret2 w w1 X P ⟨1, seen, stamp, 8, comp, err⟩) := ret2_call (ret2_set HX.out) ha1 hk1
  clear ha1 hk1 x0 x1 x2 x3 x4 x5 x6 x7 f3 f4 f5 f6 f7
  obtain ⟨x0, x1, x2, x3, x4, x5, x6, x7⟩ := R1.out.a.cells
  obtain ⟨f3, f4, f5, f6, f7⟩ := R1.out.a.fz
  obtain ⟨⟨a0, a1, a2, a3⟩, g0, g1, g2, g3⟩ := ans_cells R1.out.r0
  obtain ⟨⟨m0, m1, m2, m3⟩, i0, i1, i2, i3⟩ := ans_cells R1.out.r1
  have hz := heap_lt R1.out.r0
  have hz2 := heap_lt R1.out.r1
  simp only at x3 x4 x5 x6 x7
  rw [hl] at x2
  go_wp2_with fail
  refine (HS.out _ (R1.out).a).mono ?_
  rintro e w2 ⟨rfl, ha2, hk2⟩
  have R2 : Hid (Ret2 w w2 X P ⟨1, seen, stamp, 8, comp, err⟩) := ret2_call (R1.out) ha2 hk2
  clear ha2 hk2 x0 x1 x2 x3 x4 x5 x6 x7 f3 f4 f5 f6 f7 R1 a0 a1 a2 a3 g0 g1 g2 g3 m0 m1 m2 m3 i0 i1 i2 i3 hz hz2
  obtain ⟨x0, x1, x2, x3, x4, x5, x6, x7⟩ := R2.out.a.cells
  obtain ⟨f3, f4, f5, f6, f7⟩ := R2.out.a.fz
  obtain ⟨⟨a0, a1, a2, a3⟩, g0, g1, g2, g3⟩ := ans_cells R2.out.r0
  obtain ⟨⟨m0, m1, m2, m3⟩, i0, i1, i2, i3⟩ := ans_cells R2.out.r1
  have hz := heap_lt R2.out.r0
  have hz2 := heap_lt R2.out.r1
  simp only at x3 x4 x5 x6 x7
  rw [hl] at x2
  go_wp2
  exact ret_ans rfl rfl (ansE_set rfl (R2.out.set 3).r0 2 0 true) rfl rfl ⟨rfl, (R2.out.set 3).done 2 0 true⟩
set_option maxRecDepth 10000 in
theorem goon_1e {w : World} {X : Nat} {P : Cp} {b : Ck} (h : KAt w X P b) (hst : b.st = 1) (hn : ¬ nxW P.rd 0 < 8) (hse : b.seen ≤ 9223372036854775807) (h0 : 0 ≤ b.stamp) (hs : ¬ b.stamp < b.seen) (hl : P.last = false) :
    Calls Try.prog 88 #[.pointer (some ⟨X, 0, none⟩)] w fun en w' => en = .returned (ansE 3 0 true) ∧ KAt w' X P ⟨4, b.seen, b.stamp, 8, b.comp, b.err⟩ ∧ Keep [X] w w' := by
  obtain ⟨x0, x1, x2, x3, x4, x5, x6, x7⟩ := h.cells
  obtain ⟨f3, f4, f5, f6, f7⟩ := h.fz
  have hx : X < w.heap.size := heap_lt h
  have HX : Hid (KAt w X P b) := h
  clear h
  obtain ⟨st, seen, stamp, word, comp, err⟩ := b
  simp only at *
  subst hst
  rw [hl] at x2
  have HW : Hid (∀ w, KAt w X P ⟨1, seen, stamp, (-1), comp, err⟩ → Calls Try.prog 97 #[.pointer (some ⟨X, 0, none⟩)] w fun e w' => e = .returned (.bool false) ∧ KAt w' X P ⟨1, seen, stamp, 8, comp, err⟩ ∧ Keep [X] w w') := fun w h => by
    have := nextw_any h (by simp only; omega) (by simp only; omega)
    simp only at this
    rw [show ((-1 : Int) + 1).toNat = 0 from rfl] at this
    rw [if_neg hn, decide_eq_false hn] at this
    exact this
  have HS : Hid (∀ w, KAt w X P ⟨1, seen, stamp, 8, comp, err⟩ → Calls Try.prog 98 #[.pointer (some ⟨X, 0, none⟩)] w fun e w' => e = .returned (.bool false) ∧ KAt w' X P ⟨1, seen, stamp, 8, comp, err⟩ ∧ Keep [X] w w') := fun w h => by
    have := nexts_any h hse h0
    simp only at this
    rw [if_neg hs, decide_eq_false hs] at this
    exact this
  clear hn
  clear hs
  have hne : w.heap.size ≠ X := by omega
  have hne2 : w.heap.size + 1 ≠ X := by omega
  go_enter Try.func88, Try.ntmps88
  go_wp2_with fail
  refine (HW.out _ (ret2_set HX.out).a).mono ?_
  rintro e w1 ⟨rfl, ha1, hk1⟩
  have R1 : Hid (Ret2 w w1 X P ⟨1, seen, stamp, 8, comp, err⟩) := ret2_call (ret2_set HX.out) ha1 hk1
  clear ha1 hk1 x0 x1 x2 x3 x4 x5 x6 x7 f3 f4 f5 f6 f7
  obtain ⟨x0, x1, x2, x3, x4, x5, x6, x7⟩ := R1.out.a.cells
  obtain ⟨f3, f4, f5, f6, f7⟩ := R1.out.a.fz
  obtain ⟨⟨a0, a1, a2, a3⟩, g0, g1, g2, g3⟩ := ans_cells R1.out.r0
  obtain ⟨⟨m0, m1, m2, m3⟩, i0, i1, i2, i3⟩ := ans_cells R1.out.r1
  have hz := heap_lt R1.out.r0
  have hz2 := heap_lt R1.out.r1
  simp only at x3 x4 x5 x6 x7
  rw [hl] at x2
  go_wp2_with fail
  refine (HS.out _ (R1.out).a).mono ?_
  rintro e w2 ⟨rfl, ha2, hk2⟩
  have R2 : Hid (Ret2 w w2 X P ⟨1, seen, stamp, 8, comp, err⟩) := ret2_call (R1.out) ha2 hk2
  clear ha2 hk2 x0 x1 x2 x3 x4 x5 x6 x7 f3 f4 f5 f6 f7 R1 a0 a1 a2 a3 g0 g1 g2 g3 m0 m1 m2 m3 i0 i1 i2 i3 hz hz2
  obtain ⟨x0, x1, x2, x3, x4, x5, x6, x7⟩ := R2.out.a.cells
  obtain ⟨f3, f4, f5, f6, f7⟩ := R2.out.a.fz
  obtain ⟨⟨a0, a1, a2, a3⟩, g0, g1, g2, g3⟩ := ans_cells R2.out.r0
  obtain ⟨⟨m0, m1, m2, m3⟩, i0, i1, i2, i3⟩ := ans_cells R2.out.r1
  have hz := heap_lt R2.out.r0
  have hz2 := heap_lt R2.out.r1
  simp only at x3 x4 x5 x6 x7
  rw [hl] at x2
  go_wp2
  exact ret_ans rfl rfl (ansE_set rfl (R2.out.set 4).r0 3 0 true) rfl rfl ⟨rfl, (R2.out.set 4).done 3 0 true⟩
set_option maxRecDepth 10000 in
theorem goon_2h {w : World} {X : Nat} {P : Cp} {b : Ck} (h : KAt w X P b) (hst : b.st = 2) (hw1 : -1 ≤ b.word) (hw2 : b.word ≤ 7) (hn : nxW P.rd (b.word + 1).toNat < 8) :
    Calls Try.prog 88 #[.pointer (some ⟨X, 0, none⟩)] w fun en w' => en = .returned (ansE 2 0 true) ∧ KAt w' X P ⟨2, b.seen, b.stamp, (nxW P.rd (b.word + 1).toNat : Int), b.comp, b.err⟩ ∧ Keep [X] w w' := by
  obtain ⟨x0, x1, x2, x3, x4, x5, x6, x7⟩ := h.cells
  obtain ⟨f3, f4, f5, f6, f7⟩ := h.fz
  have hx : X < w.heap.size := heap_lt h
  have HX : Hid (KAt w X P b) := h
  clear h
  obtain ⟨st, seen, stamp, word, comp, err⟩ := b
  simp only at *
  subst hst
  have HW : Hid (∀ w, KAt w X P ⟨2, seen, stamp, word, comp, err⟩ → Calls Try.prog 97 #[.pointer (some ⟨X, 0, none⟩)] w fun e w' => e = .returned (.bool true) ∧ KAt w' X P ⟨2, seen, stamp, (nxW P.rd (word + 1).toNat : Int), comp, err⟩ ∧ Keep [X] w w') := fun w h => by
    have := nextw_any h (by simp only; omega) (by simp only; omega)
    simp only at this
    rw [if_pos hn, decide_eq_true hn] at this
    exact this
  clear hn
  generalize nxW P.rd (word + 1).toNat = nx at *
  have hne : w.heap.size ≠ X := by omega
  have hne2 : w.heap.size + 1 ≠ X := by omega
  go_enter Try.func88, Try.ntmps88
  go_wp2_with fail
  refine (HW.out _ (ret2_start HX.out).a).mono ?_
  rintro e w1 ⟨rfl, ha1, hk1⟩
  have R1 : Hid (Ret2 w w1 X P ⟨2, seen, stamp, (nx : Int), comp, err⟩) := ret2_call (ret2_start HX.out) ha1 hk1
  clear ha1 hk1 x0 x1 x2 x3 x4 x5 x6 x7 f3 f4 f5 f6 f7
  obtain ⟨x0, x1, x2, x3, x4, x5, x6, x7⟩ := R1.out.a.cells
  obtain ⟨f3, f4, f5, f6, f7⟩ := R1.out.a.fz
  obtain ⟨⟨a0, a1, a2, a3⟩, g0, g1, g2, g3⟩ := ans_cells R1.out.r0
  obtain ⟨⟨m0, m1, m2, m3⟩, i0, i1, i2, i3⟩ := ans_cells R1.out.r1
  have hz := heap_lt R1.out.r0
  have hz2 := heap_lt R1.out.r1
  simp only at x3 x4 x5 x6 x7
  go_wp2
  exact ret_ans rfl rfl (ansE_set rfl R1.out.r0 2 0 true) rfl rfl ⟨rfl, R1.out.done 2 0 true⟩
set_option maxRecDepth 10000 in
theorem goon_2m {w : World} {X : Nat} {P : Cp} {b : Ck} (h : KAt w X P b) (hst : b.st = 2) (hw1 : -1 ≤ b.word) (hw2 : b.word ≤ 7) (hn : ¬ nxW P.rd (b.word + 1).toNat < 8) (hse : b.seen ≤ 9223372036854775807) (h0 : 0 ≤ b.stamp) (hs : b.stamp < b.seen) :
    Calls Try.prog 88 #[.pointer (some ⟨X, 0, none⟩)] w fun en w' => en = .returned (ansE 2 0 true) ∧ KAt w' X P ⟨1, b.seen, b.stamp + 1, 8, b.comp, b.err⟩ ∧ Keep [X] w w' := by
  obtain ⟨x0, x1, x2, x3, x4, x5, x6, x7⟩ := h.cells
  obtain ⟨f3, f4, f5, f6, f7⟩ := h.fz
  have hx : X < w.heap.size := heap_lt h
  have HX : Hid (KAt w X P b) := h
  clear h
  obtain ⟨st, seen, stamp, word, comp, err⟩ := b
  simp only at *
  subst hst
  have HW : Hid (∀ w, KAt w X P ⟨2, seen, stamp, word, comp, err⟩ → Calls Try.prog 97 #[.pointer (some ⟨X, 0, none⟩)] w fun e w' => e = .returned (.bool false) ∧ KAt w' X P ⟨2, seen, stamp, 8, comp, err⟩ ∧ Keep [X] w w') := fun w h => by
    have := nextw_any h (by simp only; omega) (by simp only; omega)
    simp only at this
    rw [if_neg hn, decide_eq_false hn] at this
    exact this
  have HS : Hid (∀ w, KAt w X P ⟨2, seen, stamp, 8, comp, err⟩ → Calls Try.prog 98 #[.pointer (some ⟨X, 0, none⟩)] w fun e w' => e = .returned (.bool true) ∧ KAt w' X P ⟨1, seen, stamp + 1, 8, comp, err⟩ ∧ Keep [X] w w') := fun w h => by
    have := nexts_any h hse h0
    simp only at this
    rw [if_pos hs, decide_eq_true hs] at this
    exact this
  clear hn
  clear hs
  have hne : w.heap.size ≠ X := by omega
  have hne2 : w.heap.size + 1 ≠ X := by omega
  go_enter Try.func88, Try.ntmps88
  go_wp2_with fail
  refine (HW.out _ (ret2_start HX.out).a).mono ?_
  rintro e w1 ⟨rfl, ha1, hk1⟩
  have R1 : Hid (Ret2 w w1 X P ⟨2, seen, stamp, 8, comp, err⟩) := ret2_call (ret2_start HX.out) ha1 hk1
  clear ha1 hk1 x0 x1 x2 x3 x4 x5 x6 x7 f3 f4 f5 f6 f7
  obtain ⟨x0, x1, x2, x3, x4, x5, x6, x7⟩ := R1.out.a.cells
  obtain ⟨f3, f4, f5, f6, f7⟩ := R1.out.a.fz
  obtain ⟨⟨a0, a1, a2, a3⟩, g0, g1, g2, g3⟩ := ans_cells R1.out.r0
  obtain ⟨⟨m0, m1, m2, m3⟩, i0, i1, i2, i3⟩ := ans_cells R1.out.r1
  have hz := heap_lt R1.out.r0
  have hz2 := heap_lt R1.out.r1
  simp only at x3 x4 x5 x6 x7
  go_wp2_with fail
  refine (HS.out _ (R1.out).a).mono ?_
  rintro e w2 ⟨rfl, ha2, hk2⟩
  have R2 : Hid (Ret2 w w2 X P ⟨1, seen, stamp + 1, 8, comp, err⟩) := ret2_call (R1.out) ha2 hk2
  clear ha2 hk2 x0 x1 x2 x3 x4 x5 x6 x7 f3 f4 f5 f6 f7 R1 a0 a1 a2 a3 g0 g1 g2 g3 m0 m1 m2 m3 i0 i1 i2 i3 hz hz2
  obtain ⟨x0, x1, x2, x3, x4, x5, x6, x7⟩ := R2.out.a.cells
  obtain ⟨f3, f4, f5, f6, f7⟩ := R2.out.a.fz
  obtain ⟨⟨a0, a1, a2, a3⟩, g0, g1, g2, g3⟩ := ans_cells R2.out.r0
  obtain ⟨⟨m0, m1, m2, m3⟩, i0, i1, i2, i3⟩ := ans_cells R2.out.r1
  have hz := heap_lt R2.out.r0
  have hz2 := heap_lt R2.out.r1
  simp only at x3 x4 x5 x6 x7
  go_wp2
  exact ret_ans rfl rfl (ansE_set rfl R2.out.r0 2 0 true) rfl rfl ⟨rfl, R2.out.done 2 0 true⟩
set_option maxRecDepth 10000 in
theorem goon_2l {w : World} {X : Nat} {P : Cp} {b : Ck} (h : KAt w X P b) (hst : b.st = 2) (hw1 : -1 ≤ b.word) (hw2 : b.word ≤ 7) (hn : ¬ nxW P.rd (b.word + 1).toNat < 8) (hse : b.seen ≤ 9223372036854775807) (h0 : 0 ≤ b.stamp) (hs : ¬ b.stamp < b.seen) (hl : P.last = true) :
    Calls Try.prog 88 #[.pointer (some ⟨X, 0, none⟩)] w fun en w' => en = .returned (ansE 2 0 true) ∧ KAt w' X P ⟨3, b.seen, b.stamp, 8, b.comp, b.err⟩ ∧ Keep [X] w w' := by
  obtain ⟨x0, x1, x2, x3, x4, x5, x6, x7⟩ := h.cells
  obtain ⟨f3, f4, f5, f6, f7⟩ := h.fz
  have hx : X < w.heap.size := heap_lt h
  have HX : Hid (KAt w X P b) := h
  clear h
  obtain ⟨st, seen, stamp, word, comp, err⟩ := b
  simp only at *
  subst hst
  rw [hl] at x2
  have HW : Hid (∀ w, KAt w X P ⟨2, seen, stamp, word, comp, err⟩ → Calls Try.prog 97 #[.pointer (some ⟨X, 0, none⟩)] w fun e w' => e = .returned (.bool false) ∧ KAt w' X P ⟨2, seen, stamp, 8, comp, err⟩ ∧ Keep [X] w w') := fun w h => by
    have := nextw_any h (by simp only; omega) (by simp only; omega)
    simp only at this
    rw [if_neg hn, decide_eq_false hn] at this
    exact this
  have HS : Hid (∀ w, KAt w X P ⟨2, seen, stamp, 8, comp, err⟩ → Calls Try.prog 98 #[.pointer (some ⟨X, 0, none⟩)] w fun e w' => e = .returned (.bool false) ∧ KAt w' X P ⟨2, seen, stamp, 8, comp, err⟩ ∧ Keep [X] w w') := fun w h => by
    have := nexts_any h hse h0
    simp only at this
    rw [if_neg hs, decide_eq_false hs] at this
    exact this
  clear hn
  clear hs
  have hne : w.heap.size ≠ X := by omega
  have hne2 : w.heap.size + 1 ≠ X := by omega
  go_enter Try.func88, Try.ntmps88
  go_wp2_with fail
  refine (HW.out _ (ret2_start HX.out).a).mono ?_
  rintro e w1 ⟨rfl, ha1, hk1⟩
  have R1 : Hid (Ret2 w w1 X P ⟨2, seen, stamp, 8, comp, err⟩) := ret2_call (ret2_start HX.out) ha1 hk1
  clear ha1 hk1 x0 x1 x2 x3 x4 x5 x6 x7 f3 f4 f5 f6 f7
  obtain ⟨x0, x1, x2, x3, x4, x5, x6, x7⟩ := R1.out.a.cells
  obtain ⟨f3, f4, f5, f6, f7⟩ := R1.out.a.fz
  obtain ⟨⟨a0, a1, a2, a3⟩, g0, g1, g2, g3⟩ := ans_cells R1.out.r0
  obtain ⟨⟨m0, m1, m2, m3⟩, i0, i1, i2, i3⟩ := ans_cells R1.out.r1
  have hz := heap_lt R1.out.r0
  have hz2 := heap_lt R1.out.r1
  simp only at x3 x4 x5 x6 x7
  rw [hl] at x2
  go_wp2_with fail
  refine (HS.out _ (R1.out).a).mono ?_
  rintro e w2 ⟨rfl, ha2, hk2⟩
  have R2 : Hid (Ret2 w w2 X P ⟨2, seen, stamp, 8, comp, err⟩) := ret2_call (R1.out) ha2 hk2
  clear ha2 hk2 x0 x1 x2 x3 x4 x5 x6 x7 f3 f4 f5 f6 f7 R1 a0 a1 a2 a3 g0 g1 g2 g3 m0 m1 m2 m3 i0 i1 i2 i3 hz hz2
  obtain ⟨x0, x1, x2, x3, x4, x5, x6, x7⟩ := R2.out.a.cells
  obtain ⟨f3, f4, f5, f6, f7⟩ := R2.out.a.fz
  obtain ⟨⟨a0, a1, a2, a3⟩, g0, g1, g2, g3⟩ := ans_cells R2.out.r0
  obtain ⟨⟨m0, m1, m2, m3⟩, i0, i1, i2, i3⟩ := ans_cells R2.out.r1
  have hz := heap_lt R2.out.r0
  have hz2 := heap_lt R2.out.r1
  simp only at x3 x4 x5 x6 x7
  rw [hl] at x2
  go_wp2
  exact ret_ans rfl rfl (ansE_set rfl (R2.out.set 3).r0 2 0 true) rfl rfl ⟨rfl, (R2.out.set 3).done 2 0 true⟩
set_option maxRecDepth 10000 in
theorem goon_2e {w : World} {X : Nat} {P : Cp} {b : Ck} (h : KAt w X P b) (hst : b.st = 2) (hw1 : -1 ≤ b.word) (hw2 : b.word ≤ 7) (hn : ¬ nxW P.rd (b.word + 1).toNat < 8) (hse : b.seen ≤ 9223372036854775807) (h0 : 0 ≤ b.stamp) (hs : ¬ b.stamp < b.seen) (hl : P.last = false) :
    Calls Try.prog 88 #[.pointer (some ⟨X, 0, none⟩)] w fun en w' => en = .returned (ansE 3 0 true) ∧ KAt w' X P ⟨4, b.seen, b.stamp, 8, b.comp, b.err⟩ ∧ Keep [X] w w' := by
  obtain ⟨x0, x1, x2, x3, x4, x5, x6, x7⟩ := h.cells
  obtain ⟨f3, f4, f5, f6, f7⟩ := h.fz
  have hx : X < w.heap.size := heap_lt h
  have HX : Hid (KAt w X P b) := h
  clear h
  obtain ⟨st, seen, stamp, word, comp, err⟩ := b
  simp only at *
  subst hst
  rw [hl] at x2
  have HW : Hid (∀ w, KAt w X P ⟨2, seen, stamp, word, comp, err⟩ → Calls Try.prog 97 #[.pointer (some ⟨X, 0, none⟩)] w fun e w' => e = .returned (.bool false) ∧ KAt w' X P ⟨2, seen, stamp, 8, comp, err⟩ ∧ Keep [X] w w') := fun w h => by
    have := nextw_any h (by simp only; omega) (by simp only; omega)
    simp only at this
    rw [if_neg hn, decide_eq_false hn] at this
    exact this
  have HS : Hid (∀ w, KAt w X P ⟨2, seen, stamp, 8, comp, err⟩ → Calls Try.prog 98 #[.pointer (some ⟨X, 0, none⟩)] w fun e w' => e = .returned (.bool false) ∧ KAt w' X P ⟨2, seen, stamp, 8, comp, err⟩ ∧ Keep [X] w w') := fun w h => by
    have := nexts_any h hse h0
    simp only at this
    rw [if_neg hs, decide_eq_false hs] at this
    exact this
  clear hn
  clear hs
  have hne : w.heap.size ≠ X := by omega
  have hne2 : w.heap.size + 1 ≠ X := by omega
  go_enter Try.func88, Try.ntmps88
  go_wp2_with fail
  refine (HW.out _ (ret2_start HX.out).a).mono ?_
  rintro e w1 ⟨rfl, ha1, hk1⟩
  have R1 : Hid (Ret2 w w1 X P ⟨2, seen, stamp, 8, comp, err⟩) := ret2_call (ret2_start HX.out) ha1 hk1
  clear ha1 hk1 x0 x1 x2 x3 x4 x5 x6 x7 f3 f4 f5 f6 f7
  obtain ⟨x0, x1, x2, x3, x4, x5, x6, x7⟩ := R1.out.a.cells
  obtain ⟨f3, f4, f5, f6, f7⟩ := R1.out.a.fz
  obtain ⟨⟨a0, a1, a2, a3⟩, g0, g1, g2, g3⟩ := ans_cells R1.out.r0
  obtain ⟨⟨m0, m1, m2, m3⟩, i0, i1, i2, i3⟩ := ans_cells R1.out.r1
  have hz := heap_lt R1.out.r0
  have hz2 := heap_lt R1.out.r1
  simp only at x3 x4 x5 x6 x7
  rw [hl] at x2
  go_wp2_with fail
  refine (HS.out _ (R1.out).a).mono ?_
  rintro e w2 ⟨rfl, ha2, hk2⟩
  have R2 : Hid (Ret2 w w2 X P ⟨2, seen, stamp, 8, comp, err⟩) := ret2_call (R1.out) ha2 hk2
  clear ha2 hk2 x0 x1 x2 x3 x4 x5 x6 x7 f3 f4 f5 f6 f7 R1 a0 a1 a2 a3 g0 g1 g2 g3 m0 m1 m2 m3 i0 i1 i2 i3 hz hz2
  obtain ⟨x0, x1, x2, x3, x4, x5, x6, x7⟩ := R2.out.a.cells
  obtain ⟨f3, f4, f5, f6, f7⟩ := R2.out.a.fz
  obtain ⟨⟨a0, a1, a2, a3⟩, g0, g1, g2, g3⟩ := ans_cells R2.out.r0
  obtain ⟨⟨m0, m1, m2, m3⟩, i0, i1, i2, i3⟩ := ans_cells R2.out.r1
  have hz := heap_lt R2.out.r0
  have hz2 := heap_lt R2.out.r1
  simp only at x3 x4 x5 x6 x7
  rw [hl] at x2
  go_wp2
  exact ret_ans rfl rfl (ansE_set rfl (R2.out.set 4).r0 3 0 true) rfl rfl ⟨rfl, (R2.out.set 4).done 3 0 true⟩
set_option maxRecDepth 10000 in
theorem goon_0m {w : World} {X : Nat} {P : Cp} {b : Ck} (h : KAt w X P b) (hst : b.st = 0) (hse : b.seen ≤ 9223372036854775807) (h0 : 0 ≤ b.stamp) (hs : b.stamp < b.seen) :
    Calls Try.prog 88 #[.pointer (some ⟨X, 0, none⟩)] w fun en w' => en = .returned (ansE 2 0 true) ∧ KAt w' X P ⟨1, b.seen, b.stamp + 1, b.word, b.comp, b.err⟩ ∧ Keep [X] w w' := by
  obtain ⟨x0, x1, x2, x3, x4, x5, x6, x7⟩ := h.cells
  obtain ⟨f3, f4, f5, f6, f7⟩ := h.fz
  have hx : X < w.heap.size := heap_lt h
  have HX : Hid (KAt w X P b) := h
  clear h
  obtain ⟨st, seen, stamp, word, comp, err⟩ := b
  simp only at *
  subst hst
  have HS : Hid (∀ w, KAt w X P ⟨0, seen, stamp, word, comp, err⟩ → Calls Try.prog 98 #[.pointer (some ⟨X, 0, none⟩)] w fun e w' => e = .returned (.bool true) ∧ KAt w' X P ⟨1, seen, stamp + 1, word, comp, err⟩ ∧ Keep [X] w w') := fun w h => by
    have := nexts_any h hse h0
    simp only at this
    rw [if_pos hs, decide_eq_true hs] at this
    exact this
  clear hs
  have hne : w.heap.size ≠ X := by omega
  have hne2 : w.heap.size + 1 ≠ X := by omega
  go_enter Try.func88, Try.ntmps88
  go_wp2_with fail
  refine (HS.out _ (ret2_start HX.out).a).mono ?_
  rintro e w1 ⟨rfl, ha1, hk1⟩
  have R1 : Hid (Ret2 w w1 X P ⟨1, seen, stamp + 1, word, comp, err⟩) := ret2_call (ret2_start HX.out) ha1 hk1
  clear ha1 hk1 x0 x1 x2 x3 x4 x5 x6 x7 f3 f4 f5 f6 f7
  obtain ⟨x0, x1, x2, x3, x4, x5, x6, x7⟩ := R1.out.a.cells
  obtain ⟨f3, f4, f5, f6, f7⟩ := R1.out.a.fz
  obtain ⟨⟨a0, a1, a2, a3⟩, g0, g1, g2, g3⟩ := ans_cells R1.out.r0
  obtain ⟨⟨m0, m1, m2, m3⟩, i0, i1, i2, i3⟩ := ans_cells R1.out.r1
  have hz := heap_lt R1.out.r0
  have hz2 := heap_lt R1.out.r1
  simp only at x3 x4 x5 x6 x7
  go_wp2
  exact ret_ans rfl rfl (ansE_set rfl R1.out.r0 2 0 true) rfl rfl ⟨rfl, R1.out.done 2 0 true⟩
set_option maxRecDepth 10000 in
theorem goon_0l {w : World} {X : Nat} {P : Cp} {b : Ck} (h : KAt w X P b) (hst : b.st = 0) (hse : b.seen ≤ 9223372036854775807) (h0 : 0 ≤ b.stamp) (hs : ¬ b.stamp < b.seen) (hl : P.last = true) :
    Calls Try.prog 88 #[.pointer (some ⟨X, 0, none⟩)] w fun en w' => en = .returned (ansE 2 0 true) ∧ KAt w' X P ⟨3, b.seen, b.stamp, b.word, b.comp, b.err⟩ ∧ Keep [X] w w' := by
  obtain ⟨x0, x1, x2, x3, x4, x5, x6, x7⟩ := h.cells
  obtain ⟨f3, f4, f5, f6, f7⟩ := h.fz
  have hx : X < w.heap.size := heap_lt h
  have HX : Hid (KAt w X P b) := h
  clear h
  obtain ⟨st, seen, stamp, word, comp, err⟩ := b
  simp only at *
  subst hst
  rw [hl] at x2
  have HS : Hid (∀ w, KAt w X P ⟨0, seen, stamp, word, comp, err⟩ → Calls Try.prog 98 #[.pointer (some ⟨X, 0, none⟩)] w fun e w' => e = .returned (.bool false) ∧ KAt w' X P ⟨0, seen, stamp, word, comp, err⟩ ∧ Keep [X] w w') := fun w h => by
    have := nexts_any h hse h0
    simp only at this
    rw [if_neg hs, decide_eq_false hs] at this
    exact this
  clear hs
  have hne : w.heap.size ≠ X := by omega
  have hne2 : w.heap.size + 1 ≠ X := by omega
  go_enter Try.func88, Try.ntmps88
  go_wp2_with fail
  refine (HS.out _ (ret2_start HX.out).a).mono ?_
  rintro e w1 ⟨rfl, ha1, hk1⟩
  have R1 : Hid (Ret2 w w1 X P ⟨0, seen, stamp, word, comp, err⟩) := ret2_call (ret2_start HX.out) ha1 hk1
  clear ha1 hk1 x0 x1 x2 x3 x4 x5 x6 x7 f3 f4 f5 f6 f7
  obtain ⟨x0, x1, x2, x3, x4, x5, x6, x7⟩ := R1.out.a.cells
  obtain ⟨f3, f4, f5, f6, f7⟩ := R1.out.a.fz
  obtain ⟨⟨a0, a1, a2, a3⟩, g0, g1, g2, g3⟩ := ans_cells R1.out.r0
  obtain ⟨⟨m0, m1, m2, m3⟩, i0, i1, i2, i3⟩ := ans_cells R1.out.r1
  have hz := heap_lt R1.out.r0
  have hz2 := heap_lt R1.out.r1
  simp only at x3 x4 x5 x6 x7
  rw [hl] at x2
  go_wp2
  exact ret_ans rfl rfl (ansE_set rfl (R1.out.set 3).r0 2 0 true) rfl rfl ⟨rfl, (R1.out.set 3).done 2 0 true⟩
set_option maxRecDepth 10000 in
theorem goon_0e {w : World} {X : Nat} {P : Cp} {b : Ck} (h : KAt w X P b) (hst : b.st = 0) (hse : b.seen ≤ 9223372036854775807) (h0 : 0 ≤ b.stamp) (hs : ¬ b.stamp < b.seen) (hl : P.last = false) :
    Calls Try.prog 88 #[.pointer (some ⟨X, 0, none⟩)] w fun en w' => en = .returned (ansE 3 0 true) ∧ KAt w' X P ⟨4, b.seen, b.stamp, b.word, b.comp, b.err⟩ ∧ Keep [X] w w' := by
  obtain ⟨x0, x1, x2, x3, x4, x5, x6, x7⟩ := h.cells
  obtain ⟨f3, f4, f5, f6, f7⟩ := h.fz
  have hx : X < w.heap.size := heap_lt h
  have HX : Hid (KAt w X P b) := h
  clear h
  obtain ⟨st, seen, stamp, word, comp, err⟩ := b
  simp only at *
  subst hst
  rw [hl] at x2
  have HS : Hid (∀ w, KAt w X P ⟨0, seen, stamp, word, comp, err⟩ → Calls Try.prog 98 #[.pointer (some ⟨X, 0, none⟩)] w fun e w' => e = .returned (.bool false) ∧ KAt w' X P ⟨0, seen, stamp, word, comp, err⟩ ∧ Keep [X] w w') := fun w h => by
    have := nexts_any h hse h0
    simp only at this
    rw [if_neg hs, decide_eq_false hs] at this
    exact this
  clear hs
  have hne : w.heap.size ≠ X := by omega
  have hne2 : w.heap.size + 1 ≠ X := by omega
  go_enter Try.func88, Try.ntmps88
  go_wp2_with fail
  refine (HS.out _ (ret2_start HX.out).a).mono ?_
  rintro e w1 ⟨rfl, ha1, hk1⟩
  have R1 : Hid (Ret2 w w1 X P ⟨0, seen, stamp, word, comp, err⟩) := ret2_call (ret2_start HX.out) ha1 hk1
  clear ha1 hk1 x0 x1 x2 x3 x4 x5 x6 x7 f3 f4 f5 f6 f7
  obtain ⟨x0, x1, x2, x3, x4, x5, x6, x7⟩ := R1.out.a.cells
  obtain ⟨f3, f4, f5, f6, f7⟩ := R1.out.a.fz
  obtain ⟨⟨a0, a1, a2, a3⟩, g0, g1, g2, g3⟩ := ans_cells R1.out.r0
  obtain ⟨⟨m0, m1, m2, m3⟩, i0, i1, i2, i3⟩ := ans_cells R1.out.r1
  have hz := heap_lt R1.out.r0
  have hz2 := heap_lt R1.out.r1
  simp only at x3 x4 x5 x6 x7
  rw [hl] at x2
  go_wp2
  exact ret_ans rfl rfl (ansE_set rfl (R1.out.set 4).r0 3 0 true) rfl rfl ⟨rfl, (R1.out.set 4).done 3 0 true⟩
set_option maxRecDepth 10000 in
theorem goon_3e {w : World} {X : Nat} {P : Cp} {b : Ck} (h : KAt w X P b) (hst : b.st = 3)  :
    Calls Try.prog 88 #[.pointer (some ⟨X, 0, none⟩)] w fun en w' => en = .returned (ansE 3 0 true) ∧ KAt w' X P ⟨4, b.seen, b.stamp, b.word, b.comp, b.err⟩ ∧ Keep [X] w w' := by
  obtain ⟨x0, x1, x2, x3, x4, x5, x6, x7⟩ := h.cells
  obtain ⟨f3, f4, f5, f6, f7⟩ := h.fz
  have hx : X < w.heap.size := heap_lt h
  have HX : Hid (KAt w X P b) := h
  clear h
  obtain ⟨st, seen, stamp, word, comp, err⟩ := b
  simp only at *
  subst hst
  have hne : w.heap.size ≠ X := by omega
  have hne2 : w.heap.size + 1 ≠ X := by omega
  go_enter Try.func88, Try.ntmps88
  go_wp2
  exact ret_ans rfl rfl (row_2_0 _ _ _ _ _) rfl rfl ⟨rfl, ((kset HX.out 4).1.alloc _).alloc _, ((kkeep (Keep.refl _ _) _ _).alloc _).alloc _⟩
--END CASES

theorem goon_any {w : World} {X : Nat} {P : Cp} {b : Ck} (h : KAt w X P b) (hst : b.st = 0 ∨ b.st = 1 ∨ b.st = 2 ∨ b.st = 3) (hw : b.st = 2 → -1 ≤ b.word ∧ b.word ≤ 7) (hse : b.seen ≤ 9223372036854775807) (h0 : 0 ≤ b.stamp) :
    Calls Try.prog 88 #[.pointer (some ⟨X, 0, none⟩)] w fun en w' => en = .returned (ansE (kindV (onV P b)) 0 true) ∧ KAt w' X P (onV P b) ∧ Keep [X] w w' := by
  unfold onV
  rcases hst with e | e | e | e
  · rw [if_neg (by omega), if_neg (by omega), if_pos e]
    unfold stampOn
    by_cases hs : b.stamp < b.seen
    · rw [if_pos hs]; exact goon_0m (b := b) h e hse h0 hs
    · rw [if_neg hs]
      by_cases hl : P.last = true
      · rw [if_pos hl]; exact goon_0l (b := b) h e hse h0 hs hl
      · rw [if_neg hl]; exact goon_0e (b := b) h e hse h0 hs (by simpa using hl)
  · rw [if_pos e]
    unfold wordOn stampOn
    rw [show ((-1 : Int) + 1).toNat = 0 from rfl]
    by_cases hn : nxW P.rd 0 < 8
    · rw [if_pos hn]; exact goon_1h (b := b) h e hn
    · rw [if_neg hn]
      simp only
      by_cases hs : b.stamp < b.seen
      · rw [if_pos hs]; exact goon_1m (b := b) h e hn hse h0 hs
      · rw [if_neg hs]
        by_cases hl : P.last = true
        · rw [if_pos hl]; exact goon_1l (b := b) h e hn hse h0 hs hl
        · rw [if_neg hl]; exact goon_1e (b := b) h e hn hse h0 hs (by simpa using hl)
  · rw [if_neg (by omega), if_pos e]
    obtain ⟨hw1, hw2⟩ := hw e
    unfold wordOn stampOn
    by_cases hn : nxW P.rd (b.word + 1).toNat < 8
    · rw [if_pos hn]; exact goon_2h (b := b) h e hw1 hw2 hn
    · rw [if_neg hn]
      simp only
      by_cases hs : b.stamp < b.seen
      · rw [if_pos hs]; exact goon_2m (b := b) h e hw1 hw2 hn hse h0 hs
      · rw [if_neg hs]
        by_cases hl : P.last = true
        · rw [if_pos hl]; exact goon_2l (b := b) h e hw1 hw2 hn hse h0 hs hl
        · rw [if_neg hl]; exact goon_2e (b := b) h e hw1 hw2 hn hse h0 hs (by simpa using hl)
  · rw [if_neg (by omega), if_neg (by omega), if_neg (by omega)]
    exact goon_3e (b := b) h e
end Go.Proofs.Ytfbbcjlbelnfaaa
