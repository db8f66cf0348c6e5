/- The document's machine of layer 8: what comes next. -/
import Derived.Test.YtfbbcjlbelnfaaaCqF
namespace Go.Proofs.Ytfbbcjlbelnfaaa
open Go.ChangeShapes Go.WideShapes Go.ChangeAt Go.RowKit
attribute [local go_sem ↓] Go.wp_at_zero Go.wp_at_succ

def rmC (P : Cp) (v : Value) : Array Value := #[.int .i64 (P.s : Int), .int .i64 P.ex.n, .bool P.ex.mu, .int .i64 (P.s : Int), .int .i64 P.z, rdV P.rd 0, rdV P.rd 1, rdV P.rd 2, rdV P.rd 3, rdV P.rd 4, rdV P.rd 5, rdV P.rd 6, rdV P.rd 7, .bool P.last, v, .bool P.ex.ready, .bool P.ex.looked, .int .i64 P.ex.stamp, .bool P.ex.over, .int .i64 P.ex.seen]
/-- The document's machine lies in a block; its loads lie behind a slice. -/
structure KL (w : World) (Y : Nat) (P : Cp) (l : List Int) (a : Option Addr) (cap : Nat) : Prop where
  m : w.heap[Y]? = some (.cells (rmC P (.slice a l.length cap)) 98 (0, 0))
  c : l = [] ∨ ∃ g, a = some ⟨g, 0, none⟩ ∧ g < w.heap.size ∧ ∀ i, i < l.length → w.cell? ⟨g, i, none⟩ = some (.int .i64 (l.getD i 0))
theorem KL.later {w w' : World} {Y : Nat} {P : Cp} {l : List Int} {a : Option Addr} {cap : Nat} (h : KL w Y P l a cap) (hb : Below w.heap.size w w') : KL w' Y P l a cap := by
  refine ⟨row_on h.m hb, ?_⟩
  rcases h.c with h | ⟨g, h1, h2, h3⟩
  · exact Or.inl h
  · exact Or.inr ⟨g, h1, Nat.lt_of_lt_of_le h2 hb.size, fun i hi => cell_later hb h2 (h3 i hi)⟩
theorem KL.cells {w : World} {Y : Nat} {P : Cp} {l : List Int} {a : Option Addr} {cap : Nat} (h : KL w Y P l a cap) : w.cell? ⟨Y, 3, none⟩ = some (.int .i64 (P.s : Int)) ∧ w.cell? ⟨Y, 4, none⟩ = some (.int .i64 P.z) ∧ w.cell? ⟨Y, 13, none⟩ = some (.bool P.last) ∧ w.cell? ⟨Y, 14, none⟩ = some (.slice a l.length cap) :=
  ⟨by rw [cell_at h.m]; rfl, by rw [cell_at h.m]; rfl, by rw [cell_at h.m]; rfl, by rw [cell_at h.m]; rfl⟩
theorem KL.reads {w : World} {Y : Nat} {P : Cp} {l : List Int} {a : Option Addr} {cap : Nat} (h : KL w Y P l a cap) : w.cell? ⟨Y, 5, none⟩ = some (rdV P.rd 0) ∧ w.cell? ⟨Y, 6, none⟩ = some (rdV P.rd 1) ∧ w.cell? ⟨Y, 7, none⟩ = some (rdV P.rd 2) ∧ w.cell? ⟨Y, 8, none⟩ = some (rdV P.rd 3) ∧ w.cell? ⟨Y, 9, none⟩ = some (rdV P.rd 4) ∧ w.cell? ⟨Y, 10, none⟩ = some (rdV P.rd 5) ∧ w.cell? ⟨Y, 11, none⟩ = some (rdV P.rd 6) ∧ w.cell? ⟨Y, 12, none⟩ = some (rdV P.rd 7) :=
  ⟨by rw [cell_at h.m]; rfl, by rw [cell_at h.m]; rfl, by rw [cell_at h.m]; rfl, by rw [cell_at h.m]; rfl, by rw [cell_at h.m]; rfl, by rw [cell_at h.m]; rfl, by rw [cell_at h.m]; rfl, by rw [cell_at h.m]; rfl⟩
theorem KL.read {w : World} {Y : Nat} {P : Cp} {l : List Int} {a : Option Addr} {cap : Nat} (h : KL w Y P l a cap) (j : Nat) (hj : j < 8) : w.cell? ⟨Y, 5 + j, none⟩ = some (.int .u64 ((P.rd.getD j 0 : Nat) : Int)) := by
  rw [cell_at h.m]
  rcases j with _ | _ | _ | _ | _ | _ | _ | _ | j
  all_goals first
    | rfl
    | omega
theorem KL.load {w : World} {Y : Nat} {P : Cp} {l : List Int} {a : Option Addr} {cap : Nat} (h : KL w Y P l a cap) (hl : l ≠ []) : ∃ g, a = some ⟨g, 0, none⟩ ∧ g < w.heap.size ∧ ∀ i, i < l.length → w.cell? ⟨g, i, none⟩ = some (.int .i64 (l.getD i 0)) := by
  rcases h.c with h | h
  · exact absurd h hl
  · exact h
/-- What comes next. -/
def thrB (b : Ck) : Bool := decide (b.st = 4) || decide (b.st = 5)
def plK (P : Cp) (b : Ck) : Ad := if thrB b then ⟨0, 0, 0⟩ else adK P b
def planK (P : Cp) (b : Ck) : Array Value := #[.bool (thrB b), .int .i64 b.err, .int .i64 (if b.st = 4 then b.comp else 0), .int .i64 (if b.st = 4 then b.seen else 0), .int .i64 (plK P b).k, .int .i64 (plK P b).i, .int .i64 (plK P b).j, .int .i64 (if b.st = 1 then b.stamp else 0)]
theorem ret_planK {fn : Func} {p : Tmp} {R : Ending → World → Prop} {a : Act} {w : World} {g : Nat} {cs : Array Value} (h : fn.results = #[.cell p 148]) (hp : a.tmps.getD p undef = .pointer (some ⟨g, 0, none⟩))
    (hg : w.heap[g]? = some (.cells cs 148 (0, 0))) (hz : cs.size = 8) (hd : a.defers = []) (hR : R (.returned (.agg cs)) w) : bodyPost Try.prog fn R .ret a w :=
  bodyPost_ret (results_cell_row h _ _ g 148 cs (0, 0) _ hp hg Try.underlying148 rfl (by rw [hz]; kernel_rfl)) hd hR
def laid8 (w : World) (B : Nat) (c0 c1 c2 c3 c4 c5 c6 c7 : Value) : World := (((((((w.setCell ⟨B, 0, none⟩ c0).setCell ⟨B, 1, none⟩ c1).setCell ⟨B, 2, none⟩ c2).setCell ⟨B, 3, none⟩ c3).setCell ⟨B, 4, none⟩ c4).setCell ⟨B, 5, none⟩ c5).setCell ⟨B, 6, none⟩ c6).setCell ⟨B, 7, none⟩ c7
theorem below8 {w0 w : World} {A B : Nat} (hk : Below A w0 w) (hB : A ≤ B) (c0 c1 c2 c3 c4 c5 c6 c7 : Value) : Below A w0 (laid8 w B c0 c1 c2 c3 c4 c5 c6 c7) :=
  (((((((hk.setCell hB _).setCell hB _).setCell hB _).setCell hB _).setCell hB _).setCell hB _).setCell hB _).setCell hB _
def noPlanK : Array Value := #[.bool false, .int .i64 0, .int .i64 0, .int .i64 0, .int .i64 0, .int .i64 0, .int .i64 0, .int .i64 0]
theorem planK_set {w : World} {B : Nat} (h : w.heap[B]? = some (.cells noPlanK 148 (0, 0))) (c0 c1 c2 c3 c4 c5 c6 c7 : Value) :
    (laid8 w B c0 c1 c2 c3 c4 c5 c6 c7).heap[B]? = some (.cells #[c0, c1, c2, c3, c4, c5, c6, c7] 148 (0, 0)) := by
  have h1 : (w.setCell ⟨B, 0, none⟩ c0).heap[B]? = some (.cells #[c0, .int .i64 0, .int .i64 0, .int .i64 0, .int .i64 0, .int .i64 0, .int .i64 0, .int .i64 0] 148 (0, 0)) := by rw [heap_set h]; rfl
  have h2 : ((w.setCell ⟨B, 0, none⟩ c0).setCell ⟨B, 1, none⟩ c1).heap[B]? = some (.cells #[c0, c1, .int .i64 0, .int .i64 0, .int .i64 0, .int .i64 0, .int .i64 0, .int .i64 0] 148 (0, 0)) := by rw [heap_set h1]; rfl
  have h3 : (((w.setCell ⟨B, 0, none⟩ c0).setCell ⟨B, 1, none⟩ c1).setCell ⟨B, 2, none⟩ c2).heap[B]? = some (.cells #[c0, c1, c2, .int .i64 0, .int .i64 0, .int .i64 0, .int .i64 0, .int .i64 0] 148 (0, 0)) := by rw [heap_set h2]; rfl
  have h4 : ((((w.setCell ⟨B, 0, none⟩ c0).setCell ⟨B, 1, none⟩ c1).setCell ⟨B, 2, none⟩ c2).setCell ⟨B, 3, none⟩ c3).heap[B]? = some (.cells #[c0, c1, c2, c3, .int .i64 0, .int .i64 0, .int .i64 0, .int .i64 0] 148 (0, 0)) := by rw [heap_set h3]; rfl
  have h5 : (((((w.setCell ⟨B, 0, none⟩ c0).setCell ⟨B, 1, none⟩ c1).setCell ⟨B, 2, none⟩ c2).setCell ⟨B, 3, none⟩ c3).setCell ⟨B, 4, none⟩ c4).heap[B]? = some (.cells #[c0, c1, c2, c3, c4, .int .i64 0, .int .i64 0, .int .i64 0] 148 (0, 0)) := by rw [heap_set h4]; rfl
  have h6 : ((((((w.setCell ⟨B, 0, none⟩ c0).setCell ⟨B, 1, none⟩ c1).setCell ⟨B, 2, none⟩ c2).setCell ⟨B, 3, none⟩ c3).setCell ⟨B, 4, none⟩ c4).setCell ⟨B, 5, none⟩ c5).heap[B]? = some (.cells #[c0, c1, c2, c3, c4, c5, .int .i64 0, .int .i64 0] 148 (0, 0)) := by rw [heap_set h5]; rfl
  have h7 : (((((((w.setCell ⟨B, 0, none⟩ c0).setCell ⟨B, 1, none⟩ c1).setCell ⟨B, 2, none⟩ c2).setCell ⟨B, 3, none⟩ c3).setCell ⟨B, 4, none⟩ c4).setCell ⟨B, 5, none⟩ c5).setCell ⟨B, 6, none⟩ c6).heap[B]? = some (.cells #[c0, c1, c2, c3, c4, c5, c6, .int .i64 0] 148 (0, 0)) := by rw [heap_set h6]; rfl
  have h8 : ((((((((w.setCell ⟨B, 0, none⟩ c0).setCell ⟨B, 1, none⟩ c1).setCell ⟨B, 2, none⟩ c2).setCell ⟨B, 3, none⟩ c3).setCell ⟨B, 4, none⟩ c4).setCell ⟨B, 5, none⟩ c5).setCell ⟨B, 6, none⟩ c6).setCell ⟨B, 7, none⟩ c7).heap[B]? = some (.cells #[c0, c1, c2, c3, c4, c5, c6, c7] 148 (0, 0)) := by rw [heap_set h7]; rfl
  exact h8
theorem planK_cells {w : World} {B : Nat} (h : w.heap[B]? = some (.cells noPlanK 148 (0, 0))) :
    (w.cell? ⟨B, 0, none⟩ = some (.bool false) ∧ w.cell? ⟨B, 1, none⟩ = some (.int .i64 0) ∧ w.cell? ⟨B, 2, none⟩ = some (.int .i64 0) ∧ w.cell? ⟨B, 3, none⟩ = some (.int .i64 0) ∧ w.cell? ⟨B, 4, none⟩ = some (.int .i64 0) ∧ w.cell? ⟨B, 5, none⟩ = some (.int .i64 0) ∧ w.cell? ⟨B, 6, none⟩ = some (.int .i64 0) ∧ w.cell? ⟨B, 7, none⟩ = some (.int .i64 0)) ∧
    (w.frozen? ⟨B, 0, none⟩ = false ∧ w.frozen? ⟨B, 1, none⟩ = false ∧ w.frozen? ⟨B, 2, none⟩ = false ∧ w.frozen? ⟨B, 3, none⟩ = false ∧ w.frozen? ⟨B, 4, none⟩ = false ∧ w.frozen? ⟨B, 5, none⟩ = false ∧ w.frozen? ⟨B, 6, none⟩ = false ∧ w.frozen? ⟨B, 7, none⟩ = false) :=
  ⟨⟨by rw [cell_at h]; rfl, by rw [cell_at h]; rfl, by rw [cell_at h]; rfl, by rw [cell_at h]; rfl, by rw [cell_at h]; rfl, by rw [cell_at h]; rfl, by rw [cell_at h]; rfl, by rw [cell_at h]; rfl⟩, frozen_at h 0, frozen_at h 1, frozen_at h 2, frozen_at h 3, frozen_at h 4, frozen_at h 5, frozen_at h 6, frozen_at h 7⟩
set_option maxRecDepth 10000 in
theorem far_any {w : World} {Y : Nat} {P : Cp} {l : List Int} {a : Option Addr} {cap : Nat} (h : KL w Y P l a cap) (hp : POk P) {v : Int} (hv : W64 v) :
    Calls Try.prog 94 #[.pointer (some ⟨Y, 3, none⟩), .int .i64 v] w fun e w' => e = .returned (.bool (farV P v)) ∧ Below w.heap.size w w' := by
  obtain ⟨x0, x1, x2, x3⟩ := h.cells
  obtain ⟨v1, v2⟩ := hv
  have hz := hp.z0
  have hz1 := hp.z1
  have hs := hp.s16
  unfold farV
  by_cases e : P.z < v
  · have hw : wrap64 (v - P.z) = v - P.z := by unfold wrap64; omega
    have d : decide (P.z < v) = true := decide_eq_true e
    rw [d]
    clear h hp
    go_enter Try.func94, Try.ntmps94
    go_wp2
    first | (go_ret; exact ⟨rfl, Below.refl _ _⟩) | (go_quiet (fail); go_wp2; first | (go_ret; exact ⟨rfl, below_drawn (Below.refl _ _) _⟩) | (go_quiet (fail); go_wp2; go_ret; exact ⟨rfl, below_drawn (below_drawn (Below.refl _ _) _) _⟩))
  · have d : decide (P.z < v) = false := decide_eq_false e
    rw [d]
    clear h hp
    go_enter Try.func94, Try.ntmps94
    go_wp2
    first | (go_ret; exact ⟨rfl, Below.refl _ _⟩) | (go_quiet (fail); go_wp2; go_ret; exact ⟨rfl, below_drawn (Below.refl _ _) _⟩)
set_option maxRecDepth 10000 in
theorem knext_nil {w : World} {Y : Nat} {P : Cp} {a : Option Addr} {cap : Nat} (h : KL w Y P [] a cap) :
    Calls Try.prog 76 #[.pointer (some ⟨Y, 3, none⟩)] w fun e w' => e = .returned (.agg (planK P (ckNew P))) ∧ Below w.heap.size w w' := by
  obtain ⟨x0, x1, x2, x3⟩ := h.cells
  have hx : Y < w.heap.size := heap_lt h.m
  have HP : Hid (planK P (ckNew P) = #[.bool false, .int .i64 0, .int .i64 0, .int .i64 0, .int .i64 1, .int .i64 0, .int .i64 0, .int .i64 0]) := rfl
  rw [HP.out]
  clear h HP
  go_enter Try.func76, Try.ntmps76
  go_wp2
  exact ret_planK rfl rfl (heap_alloc_new _ _) rfl rfl ⟨rfl, below_a1 _ _⟩
/-- Behind the first load. -/
theorem run_one {P : Cp} {l : List Int} (hl : l ≠ []) : runK P (l.take 1) = seeK P (ckNew P) (l.getD 0 0) := by
  rcases l with _ | ⟨n, t⟩
  · exact absurd rfl hl
  · rfl
theorem first_w {P : Cp} {l : List Int} (hk : LKk P l) (hl : l ≠ []) : W64 (l.getD 0 0) := by
  rcases l with _ | ⟨n, t⟩
  · exact absurd rfl hl
  · exact hk.w _ (by simp)
theorem see_through {P : Cp} {n : Int} (h : P.rd = Sg.nought ∨ n ≤ P.z) : seeK P (ckNew P) n = ⟨4, n, P.z, 0, P.z, 0⟩ := by unfold seeK; rw [if_pos h]; rfl
theorem see_far {P : Cp} {n : Int} (h : ¬ (P.rd = Sg.nought ∨ n ≤ P.z)) (hf : farV P n = true) : seeK P (ckNew P) n = ⟨5, n, P.z, 0, P.z, 4⟩ := by unfold seeK; rw [if_neg h, if_pos hf]; rfl
theorem see_on {P : Cp} {n : Int} (h : ¬ (P.rd = Sg.nought ∨ n ≤ P.z)) (hf : farV P n = false) : seeK P (ckNew P) n = stampOn P ⟨0, n, P.z, 0, P.z, 0⟩ := by
  unfold seeK onV
  rw [if_neg h, hf, if_neg (by simp), if_neg (by simp [ckNew]), if_neg (by simp [ckNew]), if_pos (by rfl)]
  rfl
theorem len_one {P : Cp} {l : List Int} (h : LKk P l) (hl : l ≠ []) (ht : thr (runK P (l.take 1))) : runK P l = runK P (l.take 1) := by
  have := h.last (k := 1) (List.length_pos_iff.2 hl) ht
  rw [this, List.take_length]

set_option maxRecDepth 10000 in
set_option maxHeartbeats 3200000 in
theorem knext_low {w : World} {Y : Nat} {P : Cp} {l : List Int} {a : Option Addr} {cap : Nat} (h : KL w Y P l a cap) (hk : LKk P l) (hp : POk P) (hl : l ≠ []) (hn : P.rd = Sg.nought ∨ l.getD 0 0 ≤ P.z) :
    Calls Try.prog 76 #[.pointer (some ⟨Y, 3, none⟩)] w fun e w' => e = .returned (.agg (planK P (runK P l))) ∧ Below w.heap.size w w' := by
  obtain ⟨g, rfl, hg, hc⟩ := h.load hl
  have c0 : w.cell? ⟨g, 0, none⟩ = some (.int .i64 (l.getD 0 0)) := hc 0 (List.length_pos_iff.2 hl)
  obtain ⟨x0, x1, x2, x3⟩ := h.cells
  obtain ⟨r0, r1, r2, r3, r4, r5, r6, r7⟩ := h.reads
  have hx : Y < w.heap.size := heap_lt h.m
  have hnz : ((l.length : Int) == 0) = false := by have := List.length_pos_iff.2 hl; simp; omega
  have hnp : 0 < l.length := List.length_pos_iff.2 hl
  have HWD : Hid (∀ w, Calls Try.prog 93 #[.agg #[rdV P.rd 0, rdV P.rd 1, rdV P.rd 2, rdV P.rd 3, rdV P.rd 4, rdV P.rd 5, rdV P.rd 6, rdV P.rd 7]] w fun e w' => ∃ u, e = .returned u ∧ w'.ownsRow w.heap.size 3 1 u (wdsF P.rd 0).length (Sg.iv (wdsF P.rd 0)) ∧ Below w.heap.size w w') := fun w => words_any w P.rd hp.rd
  have HKL : Hid (KL w Y P l (some ⟨g, 0, none⟩) cap) := h
  have HRN : Hid (runK P l = ⟨4, l.getD 0 0, P.z, 0, P.z, 0⟩) := by
    have h1 := run_one (P := P) hl
    rw [see_through hn] at h1
    have := len_one hk hl (by rw [h1]; exact Or.inl rfl)
    rw [this, h1]; exact rfl
  have hcond : ((wdsF P.rd 0).length = 0) ∨ (l.getD 0 0 ≤ P.z) := by
    rcases hn with e | e
    · exact Or.inl (by rw [(wds_nil hp.rd).mpr e]; rfl)
    · exact Or.inr e
  have HZ : Hid (((((wdsF P.rd 0).length : Int) == 0) || decide (l.getD 0 0 ≤ P.z)) = true) := by
    rcases hcond with e | e
    · rw [e]; exact rfl
    · rw [decide_eq_true e, Bool.or_true]; exact rfl
  generalize hPL : planK P (runK P l) = PL
  have HPL : Hid (planK P (runK P l) = PL) := hPL
  clear hPL
  clear h hk hc hcond hn hp
  generalize l.getD 0 0 = n0 at *
  generalize l.length = ln at *
  generalize (wdsF P.rd 0).length = lw at *
  go_enter Try.func76, Try.ntmps76
  go_wp2_with fail
  refine (HWD.out _).mono ?_
  rintro e w1 ⟨u1, rfl, ho1, hb1⟩
  obtain ⟨ua, ucap, rfl⟩ := own_slice ho1
  have HR1 : Hid (w1.heap[w.heap.size]? = some (.cells noPlanK 148 (0, 0))) := row_on (heap_alloc_new _ _) hb1
  have HB1 : Hid (Below w.heap.size w w1) := below_then (below_a1 _ _) hb1
  clear hb1 ho1 c0 r0 r1 r2 r3 r4 r5 r6 r7 x0 x1 x2 x3
  obtain ⟨x0, x1, x2, x3⟩ := (HKL.out.later HB1.out).cells
  obtain ⟨⟨p0, p1, p2, p3, p4, p5, p6, p7⟩, f0, f1, f2, f3, f4, f5, f6, f7⟩ := planK_cells HR1.out
  have hz := heap_lt HR1.out
  have hzz := HZ.out
  by_cases hq : ((lw : Int) == 0) = true
  · clear hzz
    go_wp2
    exact ret_planK rfl rfl (planK_set HR1.out _ _ _ _ _ _ _ _) rfl rfl ⟨by rw [← HPL.out, HRN.out]; rfl, below8 HB1.out (Nat.le_refl _) _ _ _ _ _ _ _ _⟩
  · have hq' : ((lw : Int) == 0) = false := by simpa using hq
    rw [hq', Bool.false_or] at hzz
    clear hq
    go_wp2
    exact ret_planK rfl rfl (planK_set HR1.out _ _ _ _ _ _ _ _) rfl rfl ⟨by rw [← HPL.out, HRN.out]; rfl, below8 HB1.out (Nat.le_refl _) _ _ _ _ _ _ _ _⟩
set_option maxRecDepth 10000 in
set_option maxHeartbeats 3200000 in
theorem knext_far {w : World} {Y : Nat} {P : Cp} {l : List Int} {a : Option Addr} {cap : Nat} (h : KL w Y P l a cap) (hk : LKk P l) (hp : POk P) (hl : l ≠ []) (hn : ¬ (P.rd = Sg.nought ∨ l.getD 0 0 ≤ P.z)) (hf : farV P (l.getD 0 0) = true) :
    Calls Try.prog 76 #[.pointer (some ⟨Y, 3, none⟩)] w fun e w' => e = .returned (.agg (planK P (runK P l))) ∧ Below w.heap.size w w' := by
  obtain ⟨g, rfl, hg, hc⟩ := h.load hl
  have c0 : w.cell? ⟨g, 0, none⟩ = some (.int .i64 (l.getD 0 0)) := hc 0 (List.length_pos_iff.2 hl)
  obtain ⟨x0, x1, x2, x3⟩ := h.cells
  obtain ⟨r0, r1, r2, r3, r4, r5, r6, r7⟩ := h.reads
  have hx : Y < w.heap.size := heap_lt h.m
  have hnz : ((l.length : Int) == 0) = false := by have := List.length_pos_iff.2 hl; simp; omega
  have hnp : 0 < l.length := List.length_pos_iff.2 hl
  have HWD : Hid (∀ w, Calls Try.prog 93 #[.agg #[rdV P.rd 0, rdV P.rd 1, rdV P.rd 2, rdV P.rd 3, rdV P.rd 4, rdV P.rd 5, rdV P.rd 6, rdV P.rd 7]] w fun e w' => ∃ u, e = .returned u ∧ w'.ownsRow w.heap.size 3 1 u (wdsF P.rd 0).length (Sg.iv (wdsF P.rd 0)) ∧ Below w.heap.size w w') := fun w => words_any w P.rd hp.rd
  have HKL : Hid (KL w Y P l (some ⟨g, 0, none⟩) cap) := h
  have HRN : Hid (runK P l = ⟨5, l.getD 0 0, P.z, 0, P.z, 4⟩) := by
    have h1 := run_one (P := P) hl
    rw [see_far hn hf] at h1
    have := len_one hk hl (by rw [h1]; exact Or.inr rfl)
    rw [this, h1]; exact rfl
  have hw0 : W64 (l.getD 0 0) := first_w hk hl
  have HFA : Hid (∀ w', Below w.heap.size w w' → Calls Try.prog 94 #[.pointer (some ⟨Y, 3, none⟩), .int .i64 (l.getD 0 0)] w' fun e w'' => e = .returned (.bool true) ∧ Below w'.heap.size w' w'') := fun w' hb => by
    rw [← hf]; exact far_any (HKL.out.later hb) hp hw0
  have hq : (((wdsF P.rd 0).length : Int) == 0) = false := by
    have : (wdsF P.rd 0).length ≠ 0 := fun e => hn (Or.inl ((wds_nil hp.rd).mp (List.length_eq_zero_iff.1 e)))
    simp only [beq_eq_false_iff_ne, ne_eq]; omega
  have hd : decide (l.getD 0 0 ≤ P.z) = false := decide_eq_false (fun e => hn (Or.inr e))
  generalize hPL : planK P (runK P l) = PL
  have HPL : Hid (planK P (runK P l) = PL) := hPL
  clear hPL
  clear h hk hc hn hp hf hw0
  generalize l.getD 0 0 = n0 at *
  generalize l.length = ln at *
  generalize (wdsF P.rd 0).length = lw at *
  go_enter Try.func76, Try.ntmps76
  go_wp2_with fail
  refine (HWD.out _).mono ?_
  rintro e w1 ⟨u1, rfl, ho1, hb1⟩
  obtain ⟨ua, ucap, rfl⟩ := own_slice ho1
  have HR1 : Hid (w1.heap[w.heap.size]? = some (.cells noPlanK 148 (0, 0))) := row_on (heap_alloc_new _ _) hb1
  have HB1 : Hid (Below w.heap.size w w1) := below_then (below_a1 _ _) hb1
  clear hb1 ho1 c0 r0 r1 r2 r3 r4 r5 r6 r7 x0 x1 x2 x3
  obtain ⟨x0, x1, x2, x3⟩ := (HKL.out.later HB1.out).cells
  go_wp2_with fail
  refine (HFA.out _ HB1.out).mono ?_
  rintro e w2 ⟨rfl, hb2⟩
  have HR2 : Hid (w2.heap[w.heap.size]? = some (.cells noPlanK 148 (0, 0))) := row_on HR1.out hb2
  have HB2 : Hid (Below w.heap.size w w2) := below_then HB1.out hb2
  clear hb2 x0 x1 x2 x3
  obtain ⟨⟨p0, p1, p2, p3, p4, p5, p6, p7⟩, f0, f1, f2, f3, f4, f5, f6, f7⟩ := planK_cells HR2.out
  have hz := heap_lt HR2.out
  go_wp2
  exact ret_planK rfl rfl (planK_set HR2.out _ _ _ _ _ _ _ _) rfl rfl ⟨by rw [← HPL.out, HRN.out]; rfl, below8 HB2.out (Nat.le_refl _) _ _ _ _ _ _ _ _⟩
--GO
end Go.Proofs.Ytfbbcjlbelnfaaa
