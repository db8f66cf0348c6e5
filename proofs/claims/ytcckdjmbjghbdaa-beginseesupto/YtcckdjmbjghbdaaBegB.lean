/- The program's Step of layer 7. -/
import Derived.Test.YtcckdjmbjghbdaaBegA
namespace Go.Proofs.Ytcckdjmbjghbdaa
open Go.ChangeShapes Go.WideShapes Go.ChangeAt Go.RowKit
attribute [local go_sem ↓] Go.wp_at_zero Go.wp_at_succ

def ansC (k : Int) (y : Bool) : Value := .agg #[.int .i64 k, .int .i64 0, .int .i64 0, .bool y]

theorem ret_ans {fn : Func} {p : Tmp} {R : Ending → World → Prop} {a : Act} {w : World} {g : Nat} {cs : Array Value} (h : fn.results = #[.cell p 46]) (hp : a.tmps.getD p undef = .pointer (some ⟨g, 0, none⟩))
    (hg : w.heap[g]? = some (.cells cs 46 (0, 0))) (hz : cs.size = 4) (hd : a.defers = []) (hR : R (.returned (.agg cs)) w) : bodyPost Try.prog fn R .ret a w :=
  bodyPost_ret (results_cell_row h _ _ g 46 cs (0, 0) _ hp hg Try.underlying46 rfl (by rw [hz]; kernel_rfl)) hd hR
theorem ans_cells {w : World} {B : Nat} {k : Int} {y : Bool} (h : w.heap[B]? = some (.cells #[.int .i64 k, .int .i64 0, .int .i64 0, .bool y] 46 (0, 0))) :
    (w.cell? ⟨B, 0, none⟩ = some (.int .i64 k) ∧ w.cell? ⟨B, 1, none⟩ = some (.int .i64 0) ∧ w.cell? ⟨B, 2, none⟩ = some (.int .i64 0) ∧ w.cell? ⟨B, 3, none⟩ = some (.bool y)) ∧
    (w.frozen? ⟨B, 0, none⟩ = false ∧ w.frozen? ⟨B, 1, none⟩ = false ∧ w.frozen? ⟨B, 2, none⟩ = false ∧ w.frozen? ⟨B, 3, none⟩ = false) :=
  ⟨⟨by rw [cell_at h]; rfl, by rw [cell_at h]; rfl, by rw [cell_at h]; rfl, by rw [cell_at h]; rfl⟩, frozen_at h 0, frozen_at h 1, frozen_at h 2, frozen_at h 3⟩

theorem row_on {w w' : World} {b : Nat} {o : Obj} (h : w.heap[b]? = some o) (hb : Below w.heap.size w w') : w'.heap[b]? = some o := by
  rw [hb.block _ (heap_lt h)]; exact h
/-- An answer is laid. -/
def laid4 (w : World) (B : Nat) (k : Int) (y : Bool) : World := (((w.setCell ⟨B, 0, none⟩ (.int .i64 k)).setCell ⟨B, 1, none⟩ (.int .i64 0)).setCell ⟨B, 2, none⟩ (.int .i64 0)).setCell ⟨B, 3, none⟩ (.bool y)
theorem ans_set {w : World} {B : Nat} {cs : Array Value} (hz : cs.size = 4) (h : w.heap[B]? = some (.cells cs 46 (0, 0))) (k : Int) (y : Bool) :
    (laid4 w B k y).heap[B]? = some (.cells #[.int .i64 k, .int .i64 0, .int .i64 0, .bool y] 46 (0, 0)) := by
  have h1 := heap_set (i := 0) (v := .int .i64 k) h
  have h2 := heap_set (i := 1) (v := .int .i64 0) h1
  have h3 := heap_set (i := 2) (v := .int .i64 0) h2
  have h4 := heap_set (i := 3) (v := .bool y) h3
  unfold laid4
  rw [h4]
  obtain ⟨l⟩ := cs
  match l, hz with
  | [_, _, _, _], _ => rfl
theorem keep4 {w0 w : World} {F : List Nat} {B : Nat} (hk : Keep F w0 w) (hB : w0.heap.size ≤ B) (k : Int) (y : Bool) : Keep F w0 (laid4 w B k y) :=
  (((hk.setCell _ _ (Or.inr hB)).setCell _ _ (Or.inr hB)).setCell _ _ (Or.inr hB)).setCell _ _ (Or.inr hB)
theorem keepB {w : World} {B : Nat} (k : Int) (y : Bool) : Keep [B] w (laid4 w B k y) :=
  ((((Keep.refl [B] w).setCell _ _ (Or.inl (by simp))).setCell _ _ (Or.inl (by simp))).setCell _ _ (Or.inl (by simp))).setCell _ _ (Or.inl (by simp))
theorem below4 {w0 w : World} {A B : Nat} (hk : Below A w0 w) (hB : A ≤ B) (k : Int) (y : Bool) : Below A w0 (laid4 w B k y) :=
  (((hk.setCell hB _).setCell hB _).setCell hB _).setCell hB _

set_option maxRecDepth 10000 in
theorem step_none {w : World} {base : Nat} {p : Value} {c r : Nat} {L : List Ac} {F : List Nat} {X s : Nat} {b : Bg} (hm : MemAt w base p c r L F) (h : BAt w X s b) (hn : r ≠ s ∨ b.st = 2) (t : Int) :
    Calls Try.prog 14 #[.pointer (some ⟨X, 0, none⟩), p, .int .i64 t] w fun e w' => e = .returned (ansC 0 false) ∧ Below w.heap.size w w' := by
  have HG : Hid (∀ o, Calls Try.prog 25 #[.pointer (some ⟨X, 0, none⟩), p] (w.alloc o) fun e w' => e = .returned (.bool (decide (r = s))) ∧ Below (w.alloc o).heap.size (w.alloc o) w') := fun o => goes_any (hm.below (below_a1 _ _)) (h.below (below_a1 _ _) (heap_lt h))
  obtain ⟨M, rfl⟩ := hm.ptr
  have HX : Hid (BAt w X s b) := h
  have hx : X < w.heap.size := heap_lt h
  clear hm h
  unfold ansC
  by_cases hr : r = s
  · have h2 : b.st = 2 := by rcases hn with h | h
                             · exact absurd hr h
                             · exact h
    have hd : decide (r = s) = true := by simpa using hr
    rw [hd] at HG
    clear hn hr hd
    go_enter Try.func14, Try.ntmps14
    go_wp2_with fail
    refine (HG.out _).mono ?_
    rintro e w1 ⟨rfl, hb⟩
    have HR : Hid (w1.heap[w.heap.size]? = some (.cells #[.int .i64 0, .int .i64 0, .int .i64 0, .bool false] 46 (0, 0))) := row_on (heap_alloc_new _ _) hb
    obtain ⟨⟨a0, a1, a2, a3⟩, g0, g1, g2, g3⟩ := ans_cells HR.out
    have hB := heap_lt HR.out
    have HB : Hid (Below w.heap.size w w1) := below_then (below_a1 _ _) hb
    obtain ⟨x0, x1, x2, x3⟩ := (HX.out.below HB.out hx).cells
    rw [h2] at x1
    clear hb
    go_wp2
    exact ret_ans rfl rfl (ans_set rfl HR.out 0 false) rfl rfl ⟨rfl, below4 HB.out (Nat.le_refl _) 0 false⟩
  · have hd : decide (r = s) = false := by simpa using hr
    rw [hd] at HG
    clear hn hr hd
    go_enter Try.func14, Try.ntmps14
    go_wp2_with fail
    refine (HG.out _).mono ?_
    rintro e w1 ⟨rfl, hb⟩
    have HR : Hid (w1.heap[w.heap.size]? = some (.cells #[.int .i64 0, .int .i64 0, .int .i64 0, .bool false] 46 (0, 0))) := row_on (heap_alloc_new _ _) hb
    obtain ⟨⟨a0, a1, a2, a3⟩, g0, g1, g2, g3⟩ := ans_cells HR.out
    have hB := heap_lt HR.out
    have HB : Hid (Below w.heap.size w w1) := below_then (below_a1 _ _) hb
    clear hb
    go_wp2
    exact ret_ans rfl rfl (ans_set rfl HR.out 0 false) rfl rfl ⟨rfl, below4 HB.out (Nat.le_refl _) 0 false⟩

/-- A machine beside a memory with its ring. -/
structure BMem (w : World) (base : Nat) (p : Value) (c : Nat) (L : List Ac) (F : List Nat) (X s : Nat) (b : Bg) : Prop where
  mem : MemAt w base p c s L F
  at_ : BAt w X s b
  out : X ∉ F
  lo : base ≤ X
theorem step_load {w w1 w2 : World} {base : Nat} {p : Value} {c s : Nat} {L L' : List Ac} {F F' : List Nat} {X B : Nat} {b : Bg} {o : Obj} (h : BMem w base p c L F X s b) (hb : Below w.heap.size w w1) (hB : w1.heap[B]? = some o) (hlo : w.heap.size ≤ B)
    (hm : MemAt w2 base p c s L' F') (hn : Next F F' w1 w2) : w2.heap[B]? = some o ∧ BMem w2 base p c L' F' X s b ∧ B ∉ F' ∧ B ≠ X ∧ Next (X :: F) (X :: F') w w2 := by
  have hx : X < w.heap.size := heap_lt h.at_
  have hF : ∀ q ∈ F, q < w.heap.size := fun q hq => (h.mem.lt q hq).2
  have hs := hb.size
  have hB1 := heap_lt hB
  refine ⟨hn.row hB (fun e => by have := hF _ e; omega), ⟨hm, (h.at_.below hb hx).keep hn.1 h.out, ?_, h.lo⟩, ?_, by omega, ?_, ?_⟩
  · intro e
    rcases hn.2 X e with h1 | h1
    · exact h.out h1
    · omega
  · intro e
    rcases hn.2 B e with h1 | h1
    · have := hF _ h1; omega
    · omega
  · exact ((Keep.of_below hb F).trans hn.1 (fun q hq => Or.inl hq)).mono (fun q hq => by simp [hq])
  · intro q hq
    rcases List.mem_cons.1 hq with rfl | hq
    · exact Or.inl (by simp)
    · rcases hn.2 q hq with h1 | h1
      · exact Or.inl (by simp [h1])
      · exact Or.inr (by omega)
theorem step_moves {w w2 w3 : World} {base : Nat} {p : Value} {c s : Nat} {L' : List Ac} {F F' : List Nat} {X B : Nat} {b b' : Bg} {o : Obj} (hB : w2.heap[B]? = some o) (h : BMem w2 base p c L' F' X s b) (hBX : B ≠ X) (hn : Next (X :: F) (X :: F') w w2)
    (ha : BAt w3 X s b') (hk : Keep [X] w2 w3) : w3.heap[B]? = some o ∧ BMem w3 base p c L' F' X s b' ∧ Next (X :: F) (X :: F') w w3 := by
  refine ⟨by rw [hk.block B (heap_lt hB) (by simpa using hBX)]; exact hB, ⟨h.mem.keep hk (fun q hq e => by simp at e; exact h.out (e ▸ hq)), ha, h.out, h.lo⟩, ?_, hn.2⟩
  exact hn.1.trans hk (fun q hq => by simp at hq; subst hq; exact Or.inl (by simp))
theorem step_lays {w w3 : World} {base : Nat} {p : Value} {c s : Nat} {L' : List Ac} {F F' : List Nat} {X B : Nat} {b : Bg} (h : BMem w3 base p c L' F' X s b) (hBX : B ≠ X) (hBF : B ∉ F') (hlo : w.heap.size ≤ B) (hn : Next (X :: F) (X :: F') w w3) (k : Int) (y : Bool) :
    BMem (laid4 w3 B k y) base p c L' F' X s b ∧ Next (X :: F) (X :: F') w (laid4 w3 B k y) :=
  ⟨⟨h.mem.keep (keepB k y) (fun q hq e => by simp at e; exact hBF (e ▸ hq)), h.at_.keep (keepB k y) (by simpa using fun e => hBX e.symm), h.out, h.lo⟩, keep4 hn.1 hlo k y, hn.2⟩

set_option maxRecDepth 10000 in
set_option maxHeartbeats 1600000 in
theorem step_some {w : World} {base : Nat} {p : Value} {c : Nat} {L : List Ac} {F : List Nat} {X s : Nat} {b : Bg} (h : BMem w base p c L F X s b) (hb : base ≤ w.heap.size) (hL : L.length < 3298534883328) (hk : BOk s b) (hn : b.st ≠ 2) (t : Int) :
    Calls Try.prog 14 #[.pointer (some ⟨X, 0, none⟩), p, .int .i64 t] w fun e w' => e = .returned (ansC (if (stepV s b (wordOf L (adV s b))).st = 2 then 3 else 2) true) ∧ ∃ F', BMem w' base p c (loadL c s L t (adV s b)) F' X s (stepV s b (wordOf L (adV s b))) ∧ Next (X :: F) (X :: F') w w' := by
  have HG : Hid (∀ o, Calls Try.prog 25 #[.pointer (some ⟨X, 0, none⟩), p] (w.alloc o) fun e w' => e = .returned (.bool true) ∧ Below (w.alloc o).heap.size (w.alloc o) w') := fun o => by
    have := goes_any (hm := h.mem.below (below_a1 w o)) (h.at_.below (below_a1 w o) (heap_lt h.at_))
    simpa using this
  have hx : X < w.heap.size := heap_lt h.at_
  have HH : Hid (BMem w base p c L F X s b) := h
  have HL : Hid (∀ (w' : World), Below w.heap.size w w' → Calls Try.prog 26 #[p, .int .i64 t, .agg (adC (adV s b))] w' fun e w'' => e = .returned (.tuple #[.int .i64 (wordOf L (adV s b)), .int .i64 0]) ∧ ∃ F', MemAt w'' base p c s (loadL c s L t (adV s b)) F' ∧ Next F F' w' w'') := fun w' hb' => by
    have := load_any (h.mem.below hb') (Nat.le_trans hb hb'.size) hL t (adV s b)
    rw [if_pos (adV_is hk), if_pos (adV_is hk)] at this
    exact this
  obtain ⟨M, rfl⟩ := h.mem.ptr
  unfold ansC
  clear h
  rcases bok_st hk with h0 | h1 | h2
  · have ha : adV s b = ⟨1, 0, 0⟩ := by unfold adV; rw [if_pos h0]
    have HS : Hid (∀ w2 v, BAt w2 X s b → Calls Try.prog 27 #[.pointer (some ⟨X, 0, none⟩), .int .i64 v] w2 fun e w' => e = .returned (.tuple #[]) ∧ BAt w' X s (stepV s b v) ∧ Keep [X] w2 w') := fun w2 v h => by
      unfold stepV; rw [if_pos h0]; exact see_any h v
    rw [ha] at HL ⊢
    unfold adC at HL
    simp only at HL
    generalize wordOf L ⟨1, 0, 0⟩ = v at *
    generalize loadL c s L t ⟨1, 0, 0⟩ = L' at *
    replace HS : Hid (∀ w2, BAt w2 X s b → Calls Try.prog 27 #[.pointer (some ⟨X, 0, none⟩), .int .i64 v] w2 fun e w' => e = .returned (.tuple #[]) ∧ BAt w' X s (stepV s b v) ∧ Keep [X] w2 w') := fun w2 h => HS.out w2 v h
    clear ha hn
    generalize stepV s b v = b' at *
    obtain ⟨st', seen', stamp'⟩ := b'
    by_cases e2 : st' = 2
    · subst e2
      rw [if_pos rfl]
      go_enter Try.func14, Try.ntmps14
      go_wp2_with fail
      refine (HG.out _).mono ?_
      rintro e w1 ⟨rfl, hb1⟩
      have HR : Hid (w1.heap[w.heap.size]? = some (.cells #[.int .i64 0, .int .i64 0, .int .i64 0, .bool false] 46 (0, 0))) := row_on (heap_alloc_new _ _) hb1
      have HB : Hid (Below w.heap.size w w1) := below_then (below_a1 _ _) hb1
      obtain ⟨x0, x1, x2, x3⟩ := (HH.out.at_.below HB.out hx).cells
      rw [h0] at x1
      clear hb1
      go_wp2_with fail
      refine (HL.out _ HB.out).mono ?_
      rintro e w2 ⟨rfl, F', hm2, hn2⟩
      obtain ⟨r2, m2, o2, n2, nx2⟩ := step_load HH.out HB.out HR.out (Nat.le_refl _) hm2 hn2
      have HR2 : Hid (w2.heap[w.heap.size]? = some (.cells #[.int .i64 0, .int .i64 0, .int .i64 0, .bool false] 46 (0, 0))) := r2
      have HM2 : Hid (BMem w2 base (.pointer (some ⟨M, 0, none⟩)) c L' F' X s b) := m2
      have HN2 : Hid (Next (X :: F) (X :: F') w w2) := nx2
      clear hm2 hn2 r2 m2 nx2 x0 x1 x2 x3
      go_wp2_with fail
      refine (HS.out _ HM2.out.at_).mono ?_
      rintro e w3 ⟨rfl, ha3, hk3⟩
      obtain ⟨r3, m3, n3⟩ := step_moves HR2.out HM2.out n2 HN2.out ha3 hk3
      have HR3 : Hid (w3.heap[w.heap.size]? = some (.cells #[.int .i64 0, .int .i64 0, .int .i64 0, .bool false] 46 (0, 0))) := r3
      have HM3 : Hid (BMem w3 base (.pointer (some ⟨M, 0, none⟩)) c L' F' X s ⟨2, seen', stamp'⟩) := m3
      have HN3 : Hid (Next (X :: F) (X :: F') w w3) := n3
      obtain ⟨⟨a0, a1, a2, a3⟩, g0, g1, g2, g3⟩ := ans_cells HR3.out
      have hB := heap_lt HR3.out
      obtain ⟨x0, x1, x2, x3⟩ := ha3.cells
      clear ha3 hk3 r3 m3 n3
      go_wp2
      obtain ⟨f1, f2⟩ := step_lays HM3.out n2 o2 (Nat.le_refl _) HN3.out 3 true
      exact ret_ans rfl rfl (ans_set rfl HR3.out 3 true) rfl rfl ⟨rfl, F', f1, f2⟩
    · have d2 : decide (st' = 2) = false := by simpa using e2
      rw [if_neg e2]
      go_enter Try.func14, Try.ntmps14
      go_wp2_with fail
      refine (HG.out _).mono ?_
      rintro e w1 ⟨rfl, hb1⟩
      have HR : Hid (w1.heap[w.heap.size]? = some (.cells #[.int .i64 0, .int .i64 0, .int .i64 0, .bool false] 46 (0, 0))) := row_on (heap_alloc_new _ _) hb1
      have HB : Hid (Below w.heap.size w w1) := below_then (below_a1 _ _) hb1
      obtain ⟨x0, x1, x2, x3⟩ := (HH.out.at_.below HB.out hx).cells
      rw [h0] at x1
      clear hb1
      go_wp2_with fail
      refine (HL.out _ HB.out).mono ?_
      rintro e w2 ⟨rfl, F', hm2, hn2⟩
      obtain ⟨r2, m2, o2, n2, nx2⟩ := step_load HH.out HB.out HR.out (Nat.le_refl _) hm2 hn2
      have HR2 : Hid (w2.heap[w.heap.size]? = some (.cells #[.int .i64 0, .int .i64 0, .int .i64 0, .bool false] 46 (0, 0))) := r2
      have HM2 : Hid (BMem w2 base (.pointer (some ⟨M, 0, none⟩)) c L' F' X s b) := m2
      have HN2 : Hid (Next (X :: F) (X :: F') w w2) := nx2
      clear hm2 hn2 r2 m2 nx2 x0 x1 x2 x3
      go_wp2_with fail
      refine (HS.out _ HM2.out.at_).mono ?_
      rintro e w3 ⟨rfl, ha3, hk3⟩
      obtain ⟨r3, m3, n3⟩ := step_moves HR2.out HM2.out n2 HN2.out ha3 hk3
      have HR3 : Hid (w3.heap[w.heap.size]? = some (.cells #[.int .i64 0, .int .i64 0, .int .i64 0, .bool false] 46 (0, 0))) := r3
      have HM3 : Hid (BMem w3 base (.pointer (some ⟨M, 0, none⟩)) c L' F' X s ⟨st', seen', stamp'⟩) := m3
      have HN3 : Hid (Next (X :: F) (X :: F') w w3) := n3
      obtain ⟨⟨a0, a1, a2, a3⟩, g0, g1, g2, g3⟩ := ans_cells HR3.out
      have hB := heap_lt HR3.out
      obtain ⟨x0, x1, x2, x3⟩ := ha3.cells
      clear ha3 hk3 r3 m3 n3
      go_wp2
      obtain ⟨f1, f2⟩ := step_lays HM3.out n2 o2 (Nat.le_refl _) HN3.out 2 true
      exact ret_ans rfl rfl (ans_set rfl HR3.out 2 true) rfl rfl ⟨rfl, F', f1, f2⟩
  · have ha : adV s b = ⟨2, slotV b.stamp s, 0⟩ := by unfold adV; rw [if_neg (by omega)]
    have HS : Hid (∀ w2 v, BAt w2 X s b → Calls Try.prog 29 #[.pointer (some ⟨X, 0, none⟩), .int .i64 v] w2 fun e w' => e = .returned (.tuple #[]) ∧ BAt w' X s (stepV s b v) ∧ Keep [X] w2 w') := fun w2 v h => by
      unfold stepV; rw [if_neg (by omega), if_pos h1]; exact look_any h hk h1 v
    rw [ha] at HL ⊢
    unfold adC at HL
    simp only at HL
    have HSL : Hid (∀ w, Calls Try.prog 28 #[.int .i64 b.stamp, .int .i64 (s : Int)] w fun e w' => e = .returned (.int .i64 (slotV b.stamp s)) ∧ w' = w) := slot_any b.stamp s
    generalize slotV b.stamp s = k at *
    generalize wordOf L ⟨2, k, 0⟩ = v at *
    generalize loadL c s L t ⟨2, k, 0⟩ = L' at *
    replace HS : Hid (∀ w2, BAt w2 X s b → Calls Try.prog 29 #[.pointer (some ⟨X, 0, none⟩), .int .i64 v] w2 fun e w' => e = .returned (.tuple #[]) ∧ BAt w' X s (stepV s b v) ∧ Keep [X] w2 w') := fun w2 h => HS.out w2 v h
    clear ha hn
    generalize stepV s b v = b' at *
    obtain ⟨st', seen', stamp'⟩ := b'
    by_cases e2 : st' = 2
    · subst e2
      rw [if_pos rfl]
      go_enter Try.func14, Try.ntmps14
      go_wp2_with fail
      refine (HG.out _).mono ?_
      rintro e w1 ⟨rfl, hb1⟩
      have HR : Hid (w1.heap[w.heap.size]? = some (.cells #[.int .i64 0, .int .i64 0, .int .i64 0, .bool false] 46 (0, 0))) := row_on (heap_alloc_new _ _) hb1
      have HB : Hid (Below w.heap.size w w1) := below_then (below_a1 _ _) hb1
      obtain ⟨x0, x1, x2, x3⟩ := (HH.out.at_.below HB.out hx).cells
      rw [h1] at x1
      clear hb1
      go_wp2_with fail
      go_region_with ((first | (go_at_call 28; refine (HSL.out _).mono ?_; rintro e w' ⟨rfl, rfl⟩) | (go_at_call 26; refine (HL.out _ (below_drawn HB.out 1)).mono ?_; rintro e w2 ⟨rfl, F', hm2, hn2⟩)))
      all_goals
        obtain ⟨r2, m2, o2, n2, nx2⟩ := step_load HH.out (below_drawn HB.out 1) HR.out (Nat.le_refl _) hm2 hn2
        have HR2 : Hid (w2.heap[w.heap.size]? = some (.cells #[.int .i64 0, .int .i64 0, .int .i64 0, .bool false] 46 (0, 0))) := r2
        have HM2 : Hid (BMem w2 base (.pointer (some ⟨M, 0, none⟩)) c L' F' X s b) := m2
        have HN2 : Hid (Next (X :: F) (X :: F') w w2) := nx2
        clear hm2 hn2 r2 m2 nx2 x0 x1 x2 x3
        go_wp2_with fail
        refine (HS.out _ HM2.out.at_).mono ?_
        rintro e w3 ⟨rfl, ha3, hk3⟩
        obtain ⟨r3, m3, n3⟩ := step_moves HR2.out HM2.out n2 HN2.out ha3 hk3
        have HR3 : Hid (w3.heap[w.heap.size]? = some (.cells #[.int .i64 0, .int .i64 0, .int .i64 0, .bool false] 46 (0, 0))) := r3
        have HM3 : Hid (BMem w3 base (.pointer (some ⟨M, 0, none⟩)) c L' F' X s ⟨2, seen', stamp'⟩) := m3
        have HN3 : Hid (Next (X :: F) (X :: F') w w3) := n3
        obtain ⟨⟨a0, a1, a2, a3⟩, g0, g1, g2, g3⟩ := ans_cells HR3.out
        have hB := heap_lt HR3.out
        obtain ⟨x0, x1, x2, x3⟩ := ha3.cells
        clear ha3 hk3 r3 m3 n3
        go_wp2
        obtain ⟨f1, f2⟩ := step_lays HM3.out n2 o2 (Nat.le_refl _) HN3.out 3 true
        exact ret_ans rfl rfl (ans_set rfl HR3.out 3 true) rfl rfl ⟨rfl, F', f1, f2⟩
    · have d2 : decide (st' = 2) = false := by simpa using e2
      rw [if_neg e2]
      go_enter Try.func14, Try.ntmps14
      go_wp2_with fail
      refine (HG.out _).mono ?_
      rintro e w1 ⟨rfl, hb1⟩
      have HR : Hid (w1.heap[w.heap.size]? = some (.cells #[.int .i64 0, .int .i64 0, .int .i64 0, .bool false] 46 (0, 0))) := row_on (heap_alloc_new _ _) hb1
      have HB : Hid (Below w.heap.size w w1) := below_then (below_a1 _ _) hb1
      obtain ⟨x0, x1, x2, x3⟩ := (HH.out.at_.below HB.out hx).cells
      rw [h1] at x1
      clear hb1
      go_wp2_with fail
      go_region_with ((first | (go_at_call 28; refine (HSL.out _).mono ?_; rintro e w' ⟨rfl, rfl⟩) | (go_at_call 26; refine (HL.out _ (below_drawn HB.out 1)).mono ?_; rintro e w2 ⟨rfl, F', hm2, hn2⟩)))
      all_goals
        obtain ⟨r2, m2, o2, n2, nx2⟩ := step_load HH.out (below_drawn HB.out 1) HR.out (Nat.le_refl _) hm2 hn2
        have HR2 : Hid (w2.heap[w.heap.size]? = some (.cells #[.int .i64 0, .int .i64 0, .int .i64 0, .bool false] 46 (0, 0))) := r2
        have HM2 : Hid (BMem w2 base (.pointer (some ⟨M, 0, none⟩)) c L' F' X s b) := m2
        have HN2 : Hid (Next (X :: F) (X :: F') w w2) := nx2
        clear hm2 hn2 r2 m2 nx2 x0 x1 x2 x3
        go_wp2_with fail
        refine (HS.out _ HM2.out.at_).mono ?_
        rintro e w3 ⟨rfl, ha3, hk3⟩
        obtain ⟨r3, m3, n3⟩ := step_moves HR2.out HM2.out n2 HN2.out ha3 hk3
        have HR3 : Hid (w3.heap[w.heap.size]? = some (.cells #[.int .i64 0, .int .i64 0, .int .i64 0, .bool false] 46 (0, 0))) := r3
        have HM3 : Hid (BMem w3 base (.pointer (some ⟨M, 0, none⟩)) c L' F' X s ⟨st', seen', stamp'⟩) := m3
        have HN3 : Hid (Next (X :: F) (X :: F') w w3) := n3
        obtain ⟨⟨a0, a1, a2, a3⟩, g0, g1, g2, g3⟩ := ans_cells HR3.out
        have hB := heap_lt HR3.out
        obtain ⟨x0, x1, x2, x3⟩ := ha3.cells
        clear ha3 hk3 r3 m3 n3
        go_wp2
        obtain ⟨f1, f2⟩ := step_lays HM3.out n2 o2 (Nat.le_refl _) HN3.out 2 true
        exact ret_ans rfl rfl (ans_set rfl HR3.out 2 true) rfl rfl ⟨rfl, F', f1, f2⟩
  · exact absurd h2 hn
end Go.Proofs.Ytcckdjmbjghbdaa
