/- The program's machine of layer 11: how it lies; Left, Sig, goOn, lookAt, toWord, olderIsOver, headOf, wordAt, moved, waits. -/
import Derived.Test.YtbeaaapkjoegoaaGreatBkM
import Derived.Test.YtbeaaapkjoegoaaGreatJMemCAns
import Derived.Test.YtbeaaapkjoegoaaGreatRngA
import Derived.Test.YtbeaaapkjoegoaaGreatJSigESigU
import Derived.RegionTactic
import Derived.BigRegion
import Derived.Laws.EntriesVeiled
import Derived.Deep.RegionHeld3
namespace Go.Proofs.YtbeaaapkjoegoaaGreat.Ba
open Go.ChangeShapes Go.WideShapes Go.ChangeAt Go.RowKit
attribute [local go_sem ↓] Go.wp_at_zero Go.wp_at_succ

/-- What comes next, as a value. -/
def fnB (k : Nat) : Value :=
  if k = 1 then .func (.func 145) #[] #[] else if k = 2 then .func (.func 148) #[] #[] else if k = 3 then .func (.func 160) #[] #[] else if k = 4 then .func (.func 170) #[] #[]
  else if k = 5 then .func (.func 171) #[] #[] else if k = 6 then .func (.func 157) #[] #[] else if k = 7 then .func (.func 158) #[] #[] else if k = 8 then .func (.func 159) #[] #[] else .nilFunc
def bsV (s : List Nat) (i : Nat) : Value := .int .u64 ((s.getD i 0 : Nat) : Int)
def bkR (s : Int) (st : Int) (lv : Value) (sg : List Nat) (f : Value) (wd old : Int) (kn : Bool) (wr : Int) : Array Value := #[.int .i64 s, .int .i64 st, lv, bsV sg 0, bsV sg 1, bsV sg 2, bsV sg 3, bsV sg 4, bsV sg 5, bsV sg 6, bsV sg 7, f, .int .i64 wd, .int .i64 old, .bool kn, .int .i64 wr]
def BRaw (w : World) (Z : Nat) (s st : Int) (lv : Value) (sg : List Nat) (f : Value) (wd old : Int) (kn : Bool) (wr : Int) : Prop := w.heap[Z]? = some (.cells (bkR s st lv sg f wd old kn wr) 244 (0, 0))
/-- A machine in a block of its own. -/
def BRow (w : World) (Z : Nat) (P : Bp) (b : Bk) (lv : Value) : Prop := BRaw w Z (P.s : Int) P.st lv P.sg (fnB b.nx) (b.wd : Int) b.old b.kn (b.wr : Int)
theorem BRaw.keep {w w' : World} {Z : Nat} {s st : Int} {lv : Value} {sg : List Nat} {f : Value} {wd old : Int} {kn : Bool} {wr : Int} {F : List Nat} (h : BRaw w Z s st lv sg f wd old kn wr) (k : Keep F w w') (hx : Z ∉ F) : BRaw w' Z s st lv sg f wd old kn wr := by
  unfold BRaw; rw [k.block _ (heap_lt h) hx]; exact h
theorem BRaw.below {w w' : World} {Z : Nat} {s st : Int} {lv : Value} {sg : List Nat} {f : Value} {wd old : Int} {kn : Bool} {wr : Int} {B : Nat} (h : BRaw w Z s st lv sg f wd old kn wr) (k : Below B w w') (hx : Z < B) : BRaw w' Z s st lv sg f wd old kn wr := by
  unfold BRaw; rw [k.block _ hx]; exact h
theorem BRaw.cells {w : World} {Z : Nat} {s st : Int} {lv : Value} {sg : List Nat} {f : Value} {wd old : Int} {kn : Bool} {wr : Int} (h : BRaw w Z s st lv sg f wd old kn wr) : w.cell? ⟨Z, 0, none⟩ = some (.int .i64 s) ∧ w.cell? ⟨Z, 1, none⟩ = some (.int .i64 st) ∧ w.cell? ⟨Z, 2, none⟩ = some lv ∧
    w.cell? ⟨Z, 11, none⟩ = some f ∧ w.cell? ⟨Z, 12, none⟩ = some (.int .i64 wd) ∧ w.cell? ⟨Z, 13, none⟩ = some (.int .i64 old) ∧ w.cell? ⟨Z, 14, none⟩ = some (.bool kn) ∧ w.cell? ⟨Z, 15, none⟩ = some (.int .i64 wr) :=
  ⟨by rw [cell_at h]; rfl, by rw [cell_at h]; rfl, by rw [cell_at h]; rfl, by rw [cell_at h]; rfl, by rw [cell_at h]; rfl, by rw [cell_at h]; rfl, by rw [cell_at h]; rfl, by rw [cell_at h]; rfl⟩
theorem BRaw.sig {w : World} {Z : Nat} {s st : Int} {lv : Value} {sg : List Nat} {f : Value} {wd old : Int} {kn : Bool} {wr : Int} (h : BRaw w Z s st lv sg f wd old kn wr) : w.cell? ⟨Z, 3, none⟩ = some (bsV sg 0) ∧ w.cell? ⟨Z, 4, none⟩ = some (bsV sg 1) ∧ w.cell? ⟨Z, 5, none⟩ = some (bsV sg 2) ∧ w.cell? ⟨Z, 6, none⟩ = some (bsV sg 3) ∧ w.cell? ⟨Z, 7, none⟩ = some (bsV sg 4) ∧ w.cell? ⟨Z, 8, none⟩ = some (bsV sg 5) ∧ w.cell? ⟨Z, 9, none⟩ = some (bsV sg 6) ∧ w.cell? ⟨Z, 10, none⟩ = some (bsV sg 7) :=
  ⟨by rw [cell_at h]; rfl, by rw [cell_at h]; rfl, by rw [cell_at h]; rfl, by rw [cell_at h]; rfl, by rw [cell_at h]; rfl, by rw [cell_at h]; rfl, by rw [cell_at h]; rfl, by rw [cell_at h]; rfl⟩
theorem BRaw.sigAt {w : World} {Z : Nat} {s st : Int} {lv : Value} {sg : List Nat} {f : Value} {wd old : Int} {kn : Bool} {wr : Int} (h : BRaw w Z s st lv sg f wd old kn wr) (j : Nat) (hj : j < 8) : w.cell? ⟨Z, 3 + j, none⟩ = some (bsV sg j) := by
  rw [cell_at h]
  match j, hj with
  | 0, _ | 1, _ | 2, _ | 3, _ | 4, _ | 5, _ | 6, _ | 7, _ => rfl
theorem BRaw.fz {w : World} {Z : Nat} {s st : Int} {lv : Value} {sg : List Nat} {f : Value} {wd old : Int} {kn : Bool} {wr : Int} (h : BRaw w Z s st lv sg f wd old kn wr) : w.frozen? ⟨Z, 11, none⟩ = false ∧ w.frozen? ⟨Z, 12, none⟩ = false ∧ w.frozen? ⟨Z, 13, none⟩ = false ∧ w.frozen? ⟨Z, 14, none⟩ = false ∧ w.frozen? ⟨Z, 15, none⟩ = false := ⟨frozen_at h 11, frozen_at h 12, frozen_at h 13, frozen_at h 14, frozen_at h 15⟩
theorem BRaw.set11 {w : World} {Z : Nat} {s st : Int} {lv : Value} {sg : List Nat} {f : Value} {wd old : Int} {kn : Bool} {wr : Int} (h : BRaw w Z s st lv sg f wd old kn wr) (v : Value) : BRaw (w.setCell ⟨Z, 11, none⟩ v) Z s st lv sg v wd old kn wr := by unfold BRaw; rw [heap_set h]; rfl
theorem BRaw.set12 {w : World} {Z : Nat} {s st : Int} {lv : Value} {sg : List Nat} {f : Value} {wd old : Int} {kn : Bool} {wr : Int} (h : BRaw w Z s st lv sg f wd old kn wr) (v : Int) : BRaw (w.setCell ⟨Z, 12, none⟩ (.int .i64 v)) Z s st lv sg f v old kn wr := by unfold BRaw; rw [heap_set h]; rfl
theorem BRaw.set13 {w : World} {Z : Nat} {s st : Int} {lv : Value} {sg : List Nat} {f : Value} {wd old : Int} {kn : Bool} {wr : Int} (h : BRaw w Z s st lv sg f wd old kn wr) (v : Int) : BRaw (w.setCell ⟨Z, 13, none⟩ (.int .i64 v)) Z s st lv sg f wd v kn wr := by unfold BRaw; rw [heap_set h]; rfl
theorem BRaw.set14 {w : World} {Z : Nat} {s st : Int} {lv : Value} {sg : List Nat} {f : Value} {wd old : Int} {kn : Bool} {wr : Int} (h : BRaw w Z s st lv sg f wd old kn wr) (v : Bool) : BRaw (w.setCell ⟨Z, 14, none⟩ (.bool v)) Z s st lv sg f wd old v wr := by unfold BRaw; rw [heap_set h]; rfl
theorem BRaw.set15 {w : World} {Z : Nat} {s st : Int} {lv : Value} {sg : List Nat} {f : Value} {wd old : Int} {kn : Bool} {wr : Int} (h : BRaw w Z s st lv sg f wd old kn wr) (v : Int) : BRaw (w.setCell ⟨Z, 15, none⟩ (.int .i64 v)) Z s st lv sg f wd old kn v := by unfold BRaw; rw [heap_set h]; rfl
theorem BRow.keep {w w' : World} {Z : Nat} {P : Bp} {b : Bk} {lv : Value} {F : List Nat} (h : BRow w Z P b lv) (k : Keep F w w') (hx : Z ∉ F) : BRow w' Z P b lv := BRaw.keep h k hx
theorem BRow.below {w w' : World} {Z : Nat} {P : Bp} {b : Bk} {lv : Value} {B : Nat} (h : BRow w Z P b lv) (k : Below B w w') (hx : Z < B) : BRow w' Z P b lv := BRaw.below h k hx
theorem keepZ {w0 w : World} {Z : Nat} (k : Keep [Z] w0 w) (i : Nat) (v : Value) : Keep [Z] w0 (w.setCell ⟨Z, i, none⟩ v) := k.setCell _ _ (Or.inl (by simp))

/-- An answer. -/
def ansM (k : Int) : Value := .agg #[.int .i64 k, .int .i64 0, .int .i64 0, .bool true]
theorem bmoved_any (w : World) : Calls Tryz.prog 149 #[] w fun e w' => e = .returned (ansM 2) ∧ Below w.heap.size w w' := by
  unfold ansM
  go_enter Tryz.func149, Tryz.ntmps149
  go_wp2
  exact ret_ans rfl rfl (heap_alloc_new _ _) rfl rfl ⟨rfl, below_a1 _ _⟩
theorem bwaits_any (w : World) : Calls Tryz.prog 163 #[] w fun e w' => e = .returned (ansM 1) ∧ Below w.heap.size w w' := by
  unfold ansM
  go_enter Tryz.func163, Tryz.ntmps163
  go_wp2
  exact ret_ans rfl rfl (heap_alloc_new _ _) rfl rfl ⟨rfl, below_a1 _ _⟩
theorem head_any (x : Int) (d : Bool) (w : World) : Calls Tryz.prog 152 #[.int .i64 x, .bool d] w fun e w' => e = .returned (.int .i64 (headV x d)) ∧ w' = w := by
  have h1 := or1 x
  cases d
  all_goals
    go_enter Tryz.func152, Tryz.ntmps152
    go_wp2
    go_ret
    exact ⟨by simp [headV], rfl⟩
theorem headV_is {P : Bp} (h : BpOk P) (d : Bool) : headV P.st d = if d then 2 * P.st + 1 else 2 * P.st := by
  have h1 := h.st1
  have h2 := h.st2
  unfold headV
  cases d
  · rw [if_neg (by simp), if_neg (by simp)]; unfold wrap64; omega
  · rw [if_pos rfl, if_pos rfl]; unfold wrap64; omega
theorem bleft_any {w : World} {Z : Nat} {P : Bp} {b : Bk} {lv : Value} {cap : Nat} {a : Option Addr} (h : BRow w Z P b lv) (hl : lv = .slice a P.W.length cap) (hk : P.W.length ≤ 24) (hb : b.wr ≤ P.W.length) : Calls Tryz.prog 156 #[.pointer (some ⟨Z, 0, none⟩)] w fun e w' => e = .returned (.int .i64 ((P.W.length : Int) - (b.wr : Int))) ∧ Below w.heap.size w w' := by
  subst hl
  obtain ⟨x0, x1, x2, x11, x12, x13, x14, x15⟩ := BRaw.cells h
  generalize P.W.length = n at *
  clear h
  go_enter Tryz.func156, Tryz.ntmps156
  go_wp2
  go_quiet (fail)
  go_wp2
  go_ret
  exact ⟨rfl, below_drawn (Below.refl _ _) _⟩
theorem ret_addr {fn : Func} {p : Tmp} {R : Ending → World → Prop} {a : Act} {w : World} {g : Nat} {cs : Array Value} (h : fn.results = #[.cell p 60]) (hp : a.tmps.getD p undef = .pointer (some ⟨g, 0, none⟩))
    (hg : w.heap[g]? = some (.cells cs 60 (0, 0))) (hz : cs.size = 3) (hd : a.defers = []) (hR : R (.returned (.agg cs)) w) : bodyPost Tryz.prog fn R .ret a w :=
  bodyPost_ret (results_cell_row h _ _ g 60 cs (0, 0) _ hp hg Tryz.underlying60 rfl (by rw [hz]; kernel_rfl)) hd hR
theorem bheadOf_any {w : World} {Z : Nat} {P : Bp} {b : Bk} {lv : Value} (h : BRow w Z P b lv) (st : Int) : Calls Tryz.prog 151 #[.pointer (some ⟨Z, 0, none⟩), .int .i64 st] w fun e w' => e = .returned (.agg #[.int .i64 2, .int .i64 (slotV st P.s), .int .i64 0]) ∧ Below w.heap.size w w' := by
  have HSL : Hid (∀ w, Calls Tryz.prog 150 #[.int .i64 st, .int .i64 (P.s : Int)] w fun e w' => e = .returned (.int .i64 (slotV st P.s)) ∧ w' = w) := slot_any st P.s
  obtain ⟨x0, x1, x2, x11, x12, x13, x14, x15⟩ := BRaw.cells h
  have hx : Z < w.heap.size := heap_lt h
  clear h
  generalize slotV st P.s = sl at *
  go_enter Tryz.func151, Tryz.ntmps151
  go_wp2_with fail
  refine (HSL.out _).mono ?_
  rintro e w1 ⟨rfl, rfl⟩
  go_wp2
  exact ret_addr rfl rfl (heap_alloc_new _ _) rfl rfl ⟨rfl, below_a1 _ _⟩
theorem bwordAt_any {w : World} {Z : Nat} {P : Bp} {b : Bk} {lv : Value} (h : BRow w Z P b lv) (st : Int) : Calls Tryz.prog 147 #[.pointer (some ⟨Z, 0, none⟩), .int .i64 st] w fun e w' => e = .returned (.agg #[.int .i64 3, .int .i64 (slotV st P.s), .int .i64 (b.wd : Int)]) ∧ Below w.heap.size w w' := by
  have HSL : Hid (∀ w, Calls Tryz.prog 150 #[.int .i64 st, .int .i64 (P.s : Int)] w fun e w' => e = .returned (.int .i64 (slotV st P.s)) ∧ w' = w) := slot_any st P.s
  obtain ⟨x0, x1, x2, x11, x12, x13, x14, x15⟩ := BRaw.cells h
  have hx : Z < w.heap.size := heap_lt h
  clear h
  generalize slotV st P.s = sl at *
  go_enter Tryz.func147, Tryz.ntmps147
  go_wp2
  go_region_with ((go_at_call 150; refine (HSL.out _).mono ?_; rintro e w' ⟨rfl, rfl⟩))
  all_goals
    go_wp2
    exact ret_addr rfl rfl (heap_alloc_new _ _) rfl rfl ⟨rfl, below_drawn (below_a1 _ _) _⟩
theorem bgoOn_any {w : World} {Z : Nat} {P : Bp} {b : Bk} {lv : Value} {cap : Nat} {a : Option Addr} (h : BRow w Z P b lv) (hl : lv = .slice a P.W.length cap) (hk : P.W.length ≤ 24) (hb : b.wr ≤ P.W.length) :
    Calls Tryz.prog 153 #[.pointer (some ⟨Z, 0, none⟩)] w fun e w' => e = .returned (.tuple #[]) ∧ BRow w' Z P (goB P b) lv ∧ Keep [Z] w w' := by
  have HL : Hid (Calls Tryz.prog 156 #[.pointer (some ⟨Z, 0, none⟩)] w fun e w' => e = .returned (.int .i64 ((P.W.length : Int) - (b.wr : Int))) ∧ Below w.heap.size w w') := bleft_any h hl hk hb
  have hx : Z < w.heap.size := heap_lt h
  have HR : Hid (∀ w', Below w.heap.size w w' → BRow w' Z P b lv) := fun w' k => h.below k hx
  have HD : Hid (∀ (w : World) (n : Nat), BRow w Z P b lv → goB P b = ⟨n, b.wd, b.old, b.kn, b.wr⟩ → BRow (w.setCell ⟨Z, 11, none⟩ (fnB n)) Z P (goB P b) lv) := fun w n h e => by rw [e]; exact BRaw.set11 h (fnB n)
  clear h hl hk hb
  by_cases e6 : b.wr < P.W.length
  · have H6 : Hid (∀ w, BRow w Z P b lv → BRow (w.setCell ⟨Z, 11, none⟩ (.func (.func 157) #[] #[])) Z P (goB P b) lv) := fun w h => HD.out w 6 h (by unfold goB; rw [if_pos e6])
    have d : decide ((P.W.length : Int) - (b.wr : Int) > 0) = true := decide_eq_true (by omega)
    generalize (P.W.length : Int) - (b.wr : Int) = n at *
    clear HD e6
    go_enter Tryz.func153, Tryz.ntmps153
    go_wp2_with fail
    refine HL.out.mono ?_
    rintro e w1 ⟨rfl, hb1⟩
    obtain ⟨x0, x1, x2, x11, x12, x13, x14, x15⟩ := BRaw.cells (HR.out _ hb1)
    obtain ⟨f11, f12, f13, f14, f15⟩ := BRaw.fz (HR.out _ hb1)
    have HB : Hid (Below w.heap.size w w1) := hb1
    clear hb1
    go_wp2
    refine bodyPost_end (results_none rfl _ _ _) rfl ?_
    exact ⟨rfl, H6.out _ (HR.out _ HB.out), keepZ (Keep.of_below HB.out _) _ _⟩
  · have d : decide ((P.W.length : Int) - (b.wr : Int) > 0) = false := decide_eq_false (by omega)
    cases hkn : b.kn
    · have H6 : Hid (∀ w, BRow w Z P b lv → BRow (w.setCell ⟨Z, 11, none⟩ (.func (.func 158) #[] #[])) Z P (goB P b) lv) := fun w h => HD.out w 7 h (by unfold goB; rw [if_neg e6, if_neg (by simp [hkn])])
      generalize (P.W.length : Int) - (b.wr : Int) = n at *
      clear HD e6
      go_enter Tryz.func153, Tryz.ntmps153
      go_wp2_with fail
      refine HL.out.mono ?_
      rintro e w1 ⟨rfl, hb1⟩
      obtain ⟨x0, x1, x2, x11, x12, x13, x14, x15⟩ := BRaw.cells (HR.out _ hb1)
      obtain ⟨f11, f12, f13, f14, f15⟩ := BRaw.fz (HR.out _ hb1)
      rw [hkn] at x14
      have HB : Hid (Below w.heap.size w w1) := hb1
      clear hb1 hkn
      go_wp2
      refine bodyPost_end (results_none rfl _ _ _) rfl ?_
      exact ⟨rfl, H6.out _ (HR.out _ HB.out), keepZ (Keep.of_below HB.out _) _ _⟩
    · have H6 : Hid (∀ w, BRow w Z P b lv → BRow (w.setCell ⟨Z, 11, none⟩ (.func (.func 159) #[] #[])) Z P (goB P b) lv) := fun w h => HD.out w 8 h (by unfold goB; rw [if_neg e6, if_pos hkn])
      generalize (P.W.length : Int) - (b.wr : Int) = n at *
      clear HD e6
      go_enter Tryz.func153, Tryz.ntmps153
      go_wp2_with fail
      refine HL.out.mono ?_
      rintro e w1 ⟨rfl, hb1⟩
      obtain ⟨x0, x1, x2, x11, x12, x13, x14, x15⟩ := BRaw.cells (HR.out _ hb1)
      obtain ⟨f11, f12, f13, f14, f15⟩ := BRaw.fz (HR.out _ hb1)
      rw [hkn] at x14
      have HB : Hid (Below w.heap.size w w1) := hb1
      clear hb1 hkn
      go_wp2
      refine bodyPost_end (results_none rfl _ _ _) rfl ?_
      exact ⟨rfl, H6.out _ (HR.out _ HB.out), keepZ (Keep.of_below HB.out _) _ _⟩
end Go.Proofs.YtbeaaapkjoegoaaGreat.Ba
/- The program's machine of layer 11: lookAt, toWord, olderIsOver. -/
namespace Go.Proofs.YtbeaaapkjoegoaaGreat.Ba
open Go.ChangeShapes Go.WideShapes Go.ChangeAt Go.RowKit
attribute [local go_sem ↓] Go.wp_at_zero Go.wp_at_succ

/-- The answer's block, fresh, beside the machine. -/
def An (w0 w : World) : Prop := w.heap[w0.heap.size]? = some (.cells #[.int .i64 0, .int .i64 0, .int .i64 0, .bool false] 64 (0, 0))
theorem An.keep {w0 w w' : World} {F : List Nat} (h : An w0 w) (k : Keep F w w') (hF : w0.heap.size ∉ F) : An w0 w' := by
  unfold An; rw [k.block _ (heap_lt h) hF]; exact h
theorem An.below {w0 w w' : World} (h : An w0 w) (k : Below w.heap.size w w') : An w0 w' := h.keep (Keep.of_below k []) (by simp)
/-- A machine's row and an answer's, under way. -/
def AB (w0 w : World) (Z : Nat) (P : Bp) (b : Bk) (lv : Value) : Prop := An w0 w ∧ BRow w Z P b lv ∧ Keep [Z] w0 w ∧ Z < w0.heap.size
theorem AB.below {w0 w w' : World} {Z : Nat} {P : Bp} {b : Bk} {lv : Value} (h : AB w0 w Z P b lv) (k : Below w.heap.size w w') : AB w0 w' Z P b lv :=
  ⟨h.1.below k, h.2.1.below k (heap_lt h.2.1), h.2.2.1.trans (Keep.of_below k [Z]) (fun _ hq => Or.inl hq), h.2.2.2⟩
theorem AB.keep {w0 w w' : World} {Z : Nat} {P : Bp} {b b' : Bk} {lv : Value} (h : AB w0 w Z P b lv) (hb : BRow w' Z P b' lv) (k : Keep [Z] w w') : AB w0 w' Z P b' lv :=
  ⟨h.1.keep k (by have := h.2.2.2; simp; omega), hb, h.2.2.1.trans k (fun _ hq => Or.inl hq), h.2.2.2⟩
theorem AB.new {w : World} {Z : Nat} {P : Bp} {b : Bk} {lv : Value} (h : BRow w Z P b lv) : AB w (w.alloc (.cells #[.int .i64 0, .int .i64 0, .int .i64 0, .bool false] 64)) Z P b lv :=
  ⟨heap_alloc_new _ _, h.below (below_a1 _ _) (heap_lt h), Keep.of_below (below_a1 _ _) _, heap_lt h⟩
theorem AB.fin {w0 w : World} {Z : Nat} {P : Bp} {b : Bk} {lv : Value} (h : AB w0 w Z P b lv) (k : Int) (y : Bool) : BRow (laid4 w w0.heap.size k y) Z P b lv ∧ Keep [Z] w0 (laid4 w w0.heap.size k y) :=
  ⟨h.2.1.keep (keepB k y) (by have := h.2.2.2; simp; omega), keep4 h.2.2.1 (Nat.le_refl _) k y⟩

set_option maxRecDepth 10000 in
theorem blookAt_any {w : World} {Z : Nat} {P : Bp} {b : Bk} {lv : Value} {cap : Nat} {a : Option Addr} (h : BRow w Z P b lv) (hl : lv = .slice a P.W.length cap) (hp : BpOk P) (hb : b.wr ≤ P.W.length) (st : Int) :
    Calls Tryz.prog 154 #[.pointer (some ⟨Z, 0, none⟩), .int .i64 st] w fun e w' => e = .returned (.tuple #[]) ∧ BRow w' Z P (lookAtB P b st) lv ∧ Keep [Z] w w' := by
  have HG : Hid (∀ w', Below w.heap.size w w' → Calls Tryz.prog 153 #[.pointer (some ⟨Z, 0, none⟩)] w' fun e w'' => e = .returned (.tuple #[]) ∧ BRow w'' Z P (goB P b) lv ∧ Keep [Z] w w'') := fun w' k => (bgoOn_any (h.below k (heap_lt h)) hl hp.len hb).mono fun e w'' h => ⟨h.1, h.2.1, (Keep.of_below k _).trans h.2.2 (fun q hq => Or.inl hq)⟩
  obtain ⟨x0, x1, x2, x11, x12, x13, x14, x15⟩ := BRaw.cells h
  obtain ⟨f11, f12, f13, f14, f15⟩ := BRaw.fz h
  have hx : Z < w.heap.size := heap_lt h
  have HR : Hid (BRow w Z P b lv) := h
  have hw : wrap64 (P.st - (P.s : Int)) = P.st - (P.s : Int) := by
    have h1 := hp.s1
    have h2 := hp.s16
    have h3 := hp.st1
    have h4 := hp.st2
    unfold wrap64; omega
  clear h hl hp hb
  unfold lookAtB
  by_cases e1 : st < 1 ∨ st ≤ P.st - (P.s : Int)
  · rw [if_pos e1]
    by_cases e2 : st < 1
    · have d1 : decide (st < 1) = true := decide_eq_true e2
      clear e1
      go_enter Tryz.func154, Tryz.ntmps154
      go_wp2
      go_quiet (fail)
      go_wp2_with fail
      refine (HG.out _ (below_drawn (Below.refl _ _) _)).mono ?_
      rintro e w1 ⟨rfl, h1, k1⟩
      have HE : Hid (BRow w1 Z P (goB P b) lv ∧ Keep [Z] w w1) := ⟨h1, k1⟩
      clear h1 k1
      go_wp2
      refine bodyPost_ret (results_none rfl _ _ _) rfl ?_
      exact ⟨rfl, HE.out⟩
    · have d1 : decide (st < 1) = false := decide_eq_false e2
      have e3 : st ≤ P.st - (P.s : Int) := by omega
      have d2 : decide (st ≤ P.st - (P.s : Int)) = true := decide_eq_true e3
      clear e1
      go_enter Tryz.func154, Tryz.ntmps154
      go_wp2
      go_quiet (fail)
      go_wp2_with fail
      refine (HG.out _ (below_drawn (Below.refl _ _) _)).mono ?_
      rintro e w1 ⟨rfl, h1, k1⟩
      have HE : Hid (BRow w1 Z P (goB P b) lv ∧ Keep [Z] w w1) := ⟨h1, k1⟩
      clear h1 k1
      go_wp2
      refine bodyPost_ret (results_none rfl _ _ _) rfl ?_
      exact ⟨rfl, HE.out⟩
  · rw [if_neg e1]
    have d1 : decide (st < 1) = false := decide_eq_false (by omega)
    have d2 : decide (st ≤ P.st - (P.s : Int)) = false := decide_eq_false (by omega)
    clear e1
    go_enter Tryz.func154, Tryz.ntmps154
    go_wp2
    go_quiet (fail)
    go_wp2
    refine bodyPost_end (results_none rfl _ _ _) rfl ?_
    exact ⟨rfl, BRaw.set11 (BRaw.set13 (HR.out.below (below_drawn (Below.refl _ _) _) hx) st) (fnB 3), keepZ (keepZ ((Keep.refl _ _).drewN _) _ _) _ _⟩
set_option maxRecDepth 10000 in
theorem bover_any {w : World} {Z : Nat} {P : Bp} {b : Bk} {lv : Value} {cap : Nat} {a : Option Addr} (h : BRow w Z P b lv) (hl : lv = .slice a P.W.length cap) (hp : BpOk P) (hb : b.wr ≤ P.W.length) :
    Calls Tryz.prog 164 #[.pointer (some ⟨Z, 0, none⟩)] w fun e w' => e = .returned (ansM 2) ∧ BRow w' Z P (overB P b) lv ∧ Keep [Z] w w' := by
  have HM : Hid (∀ w, Calls Tryz.prog 149 #[] w fun e w' => e = .returned (ansM 2) ∧ Below w.heap.size w w') := bmoved_any
  have HG : Hid (∀ w' (b : Bk), b.wr ≤ P.W.length → BRow w' Z P b lv → Calls Tryz.prog 153 #[.pointer (some ⟨Z, 0, none⟩)] w' fun e w'' => e = .returned (.tuple #[]) ∧ BRow w'' Z P (goB P b) lv ∧ Keep [Z] w' w'') := fun w' b hb h => bgoOn_any h hl hp.len hb
  obtain ⟨x0, x1, x2, x11, x12, x13, x14, x15⟩ := BRaw.cells h
  obtain ⟨f11, f12, f13, f14, f15⟩ := BRaw.fz h
  have hx : Z < w.heap.size := heap_lt h
  have HR : Hid (BRow w Z P b lv) := h
  have hw : wrap64 (P.st - 1) = P.st - 1 := by
    have h3 := hp.st1
    have h4 := hp.st2
    unfold wrap64; omega
  clear h hl hp
  unfold ansM overB at *
  go_enter Tryz.func164, Tryz.ntmps164
  go_wp2
  go_region
  all_goals
    go_wp2_with fail
    have q : AB w ((w.setCell ⟨Z, 14, none⟩ (.bool (b.old == P.st - 1))).alloc (.cells #[.int .i64 0, .int .i64 0, .int .i64 0, .bool false] 64)) Z P ⟨b.nx, b.wd, b.old, b.old == P.st - 1, b.wr⟩ lv :=
      ⟨by unfold An; rw [show w.heap.size = (w.setCell ⟨Z, 14, none⟩ (.bool (b.old == P.st - 1))).heap.size by simp]; exact heap_alloc_new _ _, (BRaw.set14 HR.out _).below (below_a1 _ _) (by simpa using hx), (keepZ (Keep.refl _ _) _ _).alloc _, hx⟩
    have Q : Hid (AB w (World.drew ((w.setCell ⟨Z, 14, none⟩ (.bool (b.old == P.st - 1))).alloc (.cells #[.int .i64 0, .int .i64 0, .int .i64 0, .bool false] 64))) Z P ⟨b.nx, b.wd, b.old, b.old == P.st - 1, b.wr⟩ lv) := q.below (below_drawn (Below.refl _ _) 1)
    refine (HG.out _ ⟨b.nx, b.wd, b.old, b.old == P.st - 1, b.wr⟩ hb Q.out.2.1).mono ?_
    rintro e w1 ⟨rfl, h1, k1⟩
    have Q1 : Hid (AB w w1 Z P (goB P ⟨b.nx, b.wd, b.old, b.old == P.st - 1, b.wr⟩) lv) := Q.out.keep h1 k1
    clear h1 k1 q Q
    go_wp2_with fail
    refine (HM.out _).mono ?_
    rintro e w2 ⟨rfl, b2⟩
    have Q2 : Hid (AB w w2 Z P (goB P ⟨b.nx, b.wd, b.old, b.old == P.st - 1, b.wr⟩) lv) := Q1.out.below b2
    clear b2 Q1
    obtain ⟨⟨a0, a1, a2, a3⟩, g0, g1, g2, g3⟩ := ans_cells Q2.out.1
    have hB := heap_lt Q2.out.1
    go_wp2
    exact ret_ans rfl rfl (ans_set rfl Q2.out.1 2 true) rfl rfl ⟨rfl, Q2.out.fin 2 true⟩
set_option maxRecDepth 10000 in
theorem btoWord_any {w : World} {Z : Nat} {P : Bp} {b : Bk} {lv : Value} {cap : Nat} {a : Option Addr} (h : BRow w Z P b lv) (hl : lv = .slice a P.W.length cap) (hp : BpOk P) (hb : b.wr ≤ P.W.length) (hd : b.wd ≤ 8) (ho : olderOk P b.old) :
    Calls Tryz.prog 166 #[.pointer (some ⟨Z, 0, none⟩)] w fun e w' => e = .returned (.tuple #[]) ∧ BRow w' Z P (toWordB P b) lv ∧ Keep [Z] w w' := by
  have HG : Hid (∀ w' (b : Bk) st, b.wr ≤ P.W.length → BRow w' Z P b lv → Calls Tryz.prog 154 #[.pointer (some ⟨Z, 0, none⟩), .int .i64 st] w' fun e w'' => e = .returned (.tuple #[]) ∧ BRow w'' Z P (lookAtB P b st) lv ∧ Keep [Z] w' w'') := fun w' b st hb h => blookAt_any h hl hp hb st
  have hw : wrap64 (b.old - 1) = b.old - 1 := by
    have h1 := ho.1
    have h2 := ho.2.1
    have h4 := hp.st2
    unfold wrap64; omega
  have HR : Hid (BRow w Z P b lv) := h
  clear h hl hp ho
  generalize hT : toWordB P b = T
  have HT : Hid (toWordB P b = T) := hT
  clear hT
  go_enter Tryz.func166, Tryz.ntmps166
  go_wp2
  go_loopw [2] (fun _ wr => ∃ q : Nat, q ≤ 8 ∧ fsW P.sg q = fsW P.sg b.wd ∧ BRow wr Z P ⟨b.nx, q, b.old, b.kn, b.wr⟩ lv ∧ Keep [Z] w wr) (fun _ wr => 8 - (intOf ((wr.cell? ⟨Z, 12, none⟩).getD (.bool false))).toNat)
  case atStart => exact ⟨b.wd, hd, rfl, HR.out, Keep.refl _ _⟩
  case round =>
    obtain ⟨q, hq, hn, ha, hkp⟩ := hrel
    obtain ⟨x0, x1, x2, x11, x12, x13, x14, x15⟩ := BRaw.cells ha
    obtain ⟨f11, f12, f13, f14, f15⟩ := BRaw.fz ha
    simp only at x12 x13
    have HA : Hid (BRow wr Z P ⟨b.nx, q, b.old, b.kn, b.wr⟩ lv) := ha
    have HK : Hid (Keep [Z] w wr) := hkp
    have hxr : Z < wr.heap.size := heap_lt ha
    clear hkp
    by_cases hlt : q < 8
    · have d1 : decide ((q : Int) < 8) = true := by simp; omega
      have hrd := BRaw.sigAt ha q hlt
      clear ha
      unfold bsV at hrd
      have hr8 : (q : Int) < 8 := by omega
      by_cases hr : P.sg.getD q 0 = 0
      · rw [hr] at hrd
        have hn2 : fsW P.sg (q + 1) = fsW P.sg b.wd := by rw [← hn, fsW_no hlt hr]
        clear hr
        go_wp2
        go_quiet (fail)
        go_wp2
        go_roundw
        case rel => exact ⟨q + 1, by omega, hn2, by unfold BRow; rw [show ((q + 1 : Nat) : Int) = (q : Int) + 1 by omega]; exact BRaw.set12 (w := wr.drewN _) HA.out _, keepZ (HK.out.drewN _) _ _⟩
        case measure =>
          have hm := (BRaw.cells (BRaw.set12 (w := wr.drewN nq) HA.out ((q : Int) + 1))).2.2.2.2.1
          rw [x12, hm]; simp [intOf]; omega
      · have HE : Hid (fsW P.sg b.wd = q) := by rw [← hn, fsW_yes hlt hr]; exact rfl
        clear hn
        generalize P.sg.getD q 0 = z at *
        have d2 : decide ((z : Int) = 0) = false := decide_eq_false (by omega)
        go_wp2
        go_quiet (fail)
        go_wp2
        refine bodyPost_ret (results_none rfl _ _ _) rfl ?_
        refine ⟨rfl, ?_, keepZ (HK.out.drewN _) _ _⟩
        rw [← HT.out]
        unfold toWordB
        rw [HE.out, if_pos hlt]
        exact BRaw.set11 (w := wr.drewN _) HA.out (fnB 4)
    · obtain rfl : q = 8 := by omega
      have d1 : decide (((8 : Nat) : Int) < 8) = false := by simp
      have HE : Hid (fsW P.sg b.wd = 8) := by rw [← hn, fsW_end]; exact rfl
      clear ha hn
      go_wp2_with fail
      refine (HG.out _ ⟨b.nx, 8, b.old, b.kn, b.wr⟩ _ hb HA.out).mono ?_
      rintro e w1 ⟨rfl, h1, k1⟩
      have HF : Hid (BRow w1 Z P T lv ∧ Keep [Z] w w1) := by
        refine ⟨?_, HK.out.trans k1 (fun q hq => Or.inl hq)⟩
        rw [← HT.out]
        unfold toWordB
        rw [HE.out, if_neg (by omega)]
        exact h1
      clear h1 k1
      go_wp2
      refine bodyPost_end (results_none rfl _ _ _) rfl ?_
      exact ⟨rfl, HF.out⟩
end Go.Proofs.YtbeaaapkjoegoaaGreat.Ba
/- The program's machine of layer 11 beside a memory: what calls do to both. -/
namespace Go.Proofs.YtbeaaapkjoegoaaGreat.Ba
open Go.ChangeShapes Go.WideShapes Go.ChangeAt Go.RowKit
attribute [local go_sem ↓] Go.wp_at_zero Go.wp_at_succ

/-- A machine and a memory. -/
structure BS (w : World) (base : Nat) (p : Value) (c r : Nat) (L : List Ac) (F : List Nat) (Z : Nat) (P : Bp) (b : Bk) (lv : Value) : Prop where
  mem : MemAt w base p c r L F
  row : BRow w Z P b lv
  own : w.ownsRow base 96 2 lv P.W.length (wtC P.W)
  out : Z ∉ F
  gout : ∀ k, lv.ownBlock = some k → k ∉ Z :: F
  lo : base ≤ Z
theorem BS.lt {w : World} {base : Nat} {p : Value} {c r : Nat} {L : List Ac} {F : List Nat} {Z : Nat} {P : Bp} {b : Bk} {lv : Value} (h : BS w base p c r L F Z P b lv) : ∀ q ∈ Z :: F, base ≤ q ∧ q < w.heap.size := fun q hq => by
  rcases List.mem_cons.1 hq with rfl | hq
  · exact ⟨h.lo, heap_lt h.row⟩
  · exact h.mem.lt q hq
theorem BS.keep {w w' : World} {base : Nat} {p : Value} {c r : Nat} {L : List Ac} {F G : List Nat} {Z : Nat} {P : Bp} {b : Bk} {lv : Value} (h : BS w base p c r L F Z P b lv) (k : Keep G w w') (hd : ∀ q ∈ Z :: F, q ∉ G) (hl : ∀ q, lv.ownBlock = some q → q ∉ G) : BS w' base p c r L F Z P b lv :=
  ⟨h.mem.keep k (fun q hq => hd q (List.mem_cons_of_mem _ hq)), h.row.keep k (hd Z (by simp)), own_keep h.own k hl, h.out, h.gout, h.lo⟩
theorem BS.below {w w' : World} {base : Nat} {p : Value} {c r : Nat} {L : List Ac} {F : List Nat} {Z : Nat} {P : Bp} {b : Bk} {lv : Value} (h : BS w base p c r L F Z P b lv) (hb : Below w.heap.size w w') : BS w' base p c r L F Z P b lv := h.keep (Keep.of_below hb []) (fun _ _ => by simp) (fun _ _ => by simp)
theorem BS.onMem {w w' : World} {base : Nat} {p : Value} {c r : Nat} {L L' : List Ac} {F F' : List Nat} {Z : Nat} {P : Bp} {b : Bk} {lv : Value} (h : BS w base p c r L F Z P b lv) (hm : MemAt w' base p c r L' F') (hn : Next F F' w w') : BS w' base p c r L' F' Z P b lv := by
  have hZ := heap_lt h.row
  refine ⟨hm, h.row.keep hn.1 h.out, own_keep h.own hn.1 (fun q hq e => h.gout q hq (List.mem_cons_of_mem _ e)), fun e => ?_, fun k hk e => ?_, h.lo⟩
  · rcases hn.2 Z e with h1 | h1
    · exact h.out h1
    · omega
  · rcases List.mem_cons.1 e with e | e
    · exact h.gout k hk (by simp [e])
    · rcases hn.2 k e with h1 | h1
      · exact h.gout k hk (List.mem_cons_of_mem _ h1)
      · have := (own_block h.own k hk).2; omega
theorem BS.onRow {w w' : World} {base : Nat} {p : Value} {c r : Nat} {L : List Ac} {F : List Nat} {Z : Nat} {P : Bp} {b b' : Bk} {lv : Value} (h : BS w base p c r L F Z P b lv) (hr : BRow w' Z P b' lv) (hk : Keep [Z] w w') : BS w' base p c r L F Z P b' lv :=
  ⟨h.mem.keep hk (fun q hq e => by simp at e; exact h.out (e ▸ hq)), hr, own_keep h.own hk (fun q hq e => by simp at e; exact h.gout q hq (by simp [e])), h.out, h.gout, h.lo⟩
theorem BS.slice {w : World} {base : Nat} {p : Value} {c r : Nat} {L : List Ac} {F : List Nat} {Z : Nat} {P : Bp} {b : Bk} {lv : Value} (h : BS w base p c r L F Z P b lv) : ∃ a cap, lv = .slice a P.W.length cap := own_slice h.own
/-- A machine, a memory and an answer, under way. -/
structure AS (w0 w : World) (base : Nat) (p : Value) (c r : Nat) (L : List Ac) (F F' : List Nat) (Z : Nat) (P : Bp) (b : Bk) (lv : Value) : Prop where
  an : An w0 w
  bs : BS w base p c r L F' Z P b lv
  nx : Next (Z :: F) (Z :: F') w0 w
  no : w0.heap.size ∉ Z :: F'
  nl : ∀ k, lv.ownBlock = some k → k ≠ w0.heap.size
  hb : base ≤ w0.heap.size
theorem AS.new {w w' : World} {base : Nat} {p : Value} {c r : Nat} {L : List Ac} {F : List Nat} {Z : Nat} {P : Bp} {b : Bk} {lv : Value} (h : BS w base p c r L F Z P b lv) (hb : base ≤ w.heap.size)
    (k : Below (w.alloc (.cells #[.int .i64 0, .int .i64 0, .int .i64 0, .bool false] 64)).heap.size (w.alloc (.cells #[.int .i64 0, .int .i64 0, .int .i64 0, .bool false] 64)) w') : AS w w' base p c r L F F Z P b lv := by
  have kb := below_then (below_a1 w _) k
  refine ⟨An.below (w := w.alloc _) (heap_alloc_new _ _) k, h.below kb, Next.of_below kb _, fun e => ?_, fun q hq e => ?_, hb⟩
  · have := (h.lt _ e).2; omega
  · have := (own_block h.own q hq).2; omega
theorem AS.below {w0 w w' : World} {base : Nat} {p : Value} {c r : Nat} {L : List Ac} {F F' : List Nat} {Z : Nat} {P : Bp} {b : Bk} {lv : Value} (h : AS w0 w base p c r L F F' Z P b lv) (k : Below w.heap.size w w') : AS w0 w' base p c r L F F' Z P b lv :=
  ⟨h.an.below k, h.bs.below k, h.nx.trans (Next.of_below k _), h.no, h.nl, h.hb⟩
theorem AS.onMem {w0 w w' : World} {base : Nat} {p : Value} {c r : Nat} {L L' : List Ac} {F F' F'' : List Nat} {Z : Nat} {P : Bp} {b : Bk} {lv : Value} (h : AS w0 w base p c r L F F' Z P b lv) (hm : MemAt w' base p c r L' F'') (hn : Next F' F'' w w') : AS w0 w' base p c r L' F F'' Z P b lv :=
  ⟨h.an.keep hn.1 (fun e => h.no (List.mem_cons_of_mem _ e)), h.bs.onMem hm hn, h.nx.trans (nextX hn), fun e => by
    rcases List.mem_cons.1 e with e | e
    · exact h.no (by simp [e])
    · rcases hn.2 _ e with h1 | h1
      · exact h.no (List.mem_cons_of_mem _ h1)
      · have := heap_lt h.an; omega, h.nl, h.hb⟩
theorem AS.onRow {w0 w w' : World} {base : Nat} {p : Value} {c r : Nat} {L : List Ac} {F F' : List Nat} {Z : Nat} {P : Bp} {b b' : Bk} {lv : Value} (h : AS w0 w base p c r L F F' Z P b lv) (hr : BRow w' Z P b' lv) (hk : Keep [Z] w w') : AS w0 w' base p c r L F F' Z P b' lv :=
  ⟨h.an.keep hk (fun e => h.no (by simp at e; simp [e])), h.bs.onRow hr hk, h.nx.trans ⟨hk.mono (fun q hq => by simp at hq; simp [hq]), fun q hq => Or.inl hq⟩, h.no, h.nl, h.hb⟩
theorem AS.size {w0 w : World} {base : Nat} {p : Value} {c r : Nat} {L : List Ac} {F F' : List Nat} {Z : Nat} {P : Bp} {b : Bk} {lv : Value} (h : AS w0 w base p c r L F F' Z P b lv) : base ≤ w.heap.size := Nat.le_trans h.hb h.nx.1.size
theorem AS.fin {w0 w : World} {base : Nat} {p : Value} {c r : Nat} {L : List Ac} {F F' : List Nat} {Z : Nat} {P : Bp} {b : Bk} {lv : Value} (h : AS w0 w base p c r L F F' Z P b lv) (k : Int) (y : Bool) : BS (laid4 w w0.heap.size k y) base p c r L F' Z P b lv ∧ Next (Z :: F) (Z :: F') w0 (laid4 w w0.heap.size k y) :=
  ⟨h.bs.keep (keepB k y) (fun q hq e => by simp at e; exact h.no (e ▸ hq)) (fun q hq e => by simp at e; exact h.nl q hq e), keep4 h.nx.1 (Nat.le_refl _) k y, h.nx.2⟩
theorem AS.drew {w0 w : World} {base : Nat} {p : Value} {c r : Nat} {L : List Ac} {F F' : List Nat} {Z : Nat} {P : Bp} {b : Bk} {lv : Value} (h : AS w0 w base p c r L F F' Z P b lv) : AS w0 w.drew base p c r L F F' Z P b lv := h.below (below_drawn (Below.refl _ _) 1)
/-- What a function of the machine's answers and makes of all. -/
def Does (f : FuncId) (w : World) (base : Nat) (p : Value) (c r : Nat) (F : List Nat) (Z : Nat) (P : Bp) (lv : Value) (t : Int) (k : Int) (L' : List Ac) (b' : Bk) : Prop :=
  Calls Tryz.prog f #[.pointer (some ⟨Z, 0, none⟩), p, .int .i64 t] w fun e w' => e = .returned (ansM k) ∧ ∃ F', BS w' base p c r L' F' Z P b' lv ∧ Next (Z :: F) (Z :: F') w w'
theorem as_store {w0 w : World} {base : Nat} {p : Value} {c r : Nat} {L : List Ac} {F F' : List Nat} {Z : Nat} {P : Bp} {b : Bk} {lv : Value} (h : AS w0 w base p c r L F F' Z P b lv) (hL : L.length < 3298534883328) (t : Int) (a : Ad) (z : Int) (ha : isAd c r a = true) :
    Calls Tryz.prog 19 #[p, .int .i64 t, .agg #[.int .i64 a.k, .int .i64 a.i, .int .i64 a.j], .int .i64 z] w fun e w' => e = .returned (.int .i64 0) ∧ ∃ F'', AS w0 w' base p c r (storeL c r L t a z) F F'' Z P b lv := by
  have := store_any h.bs.mem h.size hL t a z
  rw [if_pos ha] at this
  refine this.mono ?_
  rintro e w' ⟨rfl, F'', h1, h2⟩
  exact ⟨rfl, F'', h.onMem h1 h2⟩
theorem as_load {w0 w : World} {base : Nat} {p : Value} {c r : Nat} {L : List Ac} {F F' : List Nat} {Z : Nat} {P : Bp} {b : Bk} {lv : Value} (h : AS w0 w base p c r L F F' Z P b lv) (hL : L.length < 3298534883328) (t : Int) (a : Ad) (ha : isAd c r a = true) :
    Calls Tryz.prog 169 #[p, .int .i64 t, .agg #[.int .i64 a.k, .int .i64 a.i, .int .i64 a.j]] w fun e w' => e = .returned (.tuple #[.int .i64 (wordOf L a), .int .i64 0]) ∧ ∃ F'', AS w0 w' base p c r (loadL c r L t a) F F'' Z P b lv := by
  have := load_any h.bs.mem h.size hL t a
  rw [if_pos ha, if_pos ha] at this
  refine this.mono ?_
  rintro e w' ⟨rfl, F'', h1, h2⟩
  exact ⟨rfl, F'', h.onMem h1 h2⟩
theorem AS.start {w : World} {base : Nat} {p : Value} {c r : Nat} {L : List Ac} {F : List Nat} {Z : Nat} {P : Bp} {b : Bk} {lv : Value} (h : BS w base p c r L F Z P b lv) (hb : base ≤ w.heap.size) : AS w (w.alloc (.cells #[.int .i64 0, .int .i64 0, .int .i64 0, .bool false] 64)) base p c r L F F Z P b lv := AS.new h hb (Below.refl _ _)
theorem AS.cells {w0 w : World} {base : Nat} {p : Value} {c r : Nat} {L : List Ac} {F F' : List Nat} {Z : Nat} {P : Bp} {b : Bk} {lv : Value} (h : AS w0 w base p c r L F F' Z P b lv) : w.cell? ⟨Z, 0, none⟩ = some (.int .i64 (P.s : Int)) ∧ w.cell? ⟨Z, 1, none⟩ = some (.int .i64 P.st) ∧ w.cell? ⟨Z, 2, none⟩ = some lv ∧
    w.cell? ⟨Z, 11, none⟩ = some (fnB b.nx) ∧ w.cell? ⟨Z, 12, none⟩ = some (.int .i64 (b.wd : Int)) ∧ w.cell? ⟨Z, 13, none⟩ = some (.int .i64 b.old) ∧ w.cell? ⟨Z, 14, none⟩ = some (.bool b.kn) ∧ w.cell? ⟨Z, 15, none⟩ = some (.int .i64 (b.wr : Int)) := BRaw.cells h.bs.row
theorem AS.fz {w0 w : World} {base : Nat} {p : Value} {c r : Nat} {L : List Ac} {F F' : List Nat} {Z : Nat} {P : Bp} {b : Bk} {lv : Value} (h : AS w0 w base p c r L F F' Z P b lv) : w.frozen? ⟨Z, 11, none⟩ = false ∧ w.frozen? ⟨Z, 12, none⟩ = false ∧ w.frozen? ⟨Z, 13, none⟩ = false ∧ w.frozen? ⟨Z, 14, none⟩ = false ∧ w.frozen? ⟨Z, 15, none⟩ = false := BRaw.fz h.bs.row
theorem AS.z {w0 w : World} {base : Nat} {p : Value} {c r : Nat} {L : List Ac} {F F' : List Nat} {Z : Nat} {P : Bp} {b : Bk} {lv : Value} (h : AS w0 w base p c r L F F' Z P b lv) : Z < w.heap.size := heap_lt h.bs.row
theorem as_goOn {w0 w : World} {base : Nat} {p : Value} {c r : Nat} {L : List Ac} {F F' : List Nat} {Z : Nat} {P : Bp} {b : Bk} {lv : Value} (h : AS w0 w base p c r L F F' Z P b lv) (hp : BpOk P) (hb : b.wr ≤ P.W.length) :
    Calls Tryz.prog 153 #[.pointer (some ⟨Z, 0, none⟩)] w fun e w' => e = .returned (.tuple #[]) ∧ AS w0 w' base p c r L F F' Z P (goB P b) lv := by
  obtain ⟨a, cap, hl⟩ := h.bs.slice
  exact (bgoOn_any h.bs.row hl hp.len hb).mono fun _ _ q => ⟨q.1, h.onRow q.2.1 q.2.2⟩
theorem as_lookAt {w0 w : World} {base : Nat} {p : Value} {c r : Nat} {L : List Ac} {F F' : List Nat} {Z : Nat} {P : Bp} {b : Bk} {lv : Value} (h : AS w0 w base p c r L F F' Z P b lv) (hp : BpOk P) (hb : b.wr ≤ P.W.length) (st : Int) :
    Calls Tryz.prog 154 #[.pointer (some ⟨Z, 0, none⟩), .int .i64 st] w fun e w' => e = .returned (.tuple #[]) ∧ AS w0 w' base p c r L F F' Z P (lookAtB P b st) lv := by
  obtain ⟨a, cap, hl⟩ := h.bs.slice
  exact (blookAt_any h.bs.row hl hp hb st).mono fun _ _ q => ⟨q.1, h.onRow q.2.1 q.2.2⟩
theorem as_toWord {w0 w : World} {base : Nat} {p : Value} {c r : Nat} {L : List Ac} {F F' : List Nat} {Z : Nat} {P : Bp} {b : Bk} {lv : Value} (h : AS w0 w base p c r L F F' Z P b lv) (hp : BpOk P) (hb : b.wr ≤ P.W.length) (hd : b.wd ≤ 8) (ho : olderOk P b.old) :
    Calls Tryz.prog 166 #[.pointer (some ⟨Z, 0, none⟩)] w fun e w' => e = .returned (.tuple #[]) ∧ AS w0 w' base p c r L F F' Z P (toWordB P b) lv := by
  obtain ⟨a, cap, hl⟩ := h.bs.slice
  exact (btoWord_any h.bs.row hl hp hb hd ho).mono fun _ _ q => ⟨q.1, h.onRow q.2.1 q.2.2⟩
theorem as_over {w0 w : World} {base : Nat} {p : Value} {c r : Nat} {L : List Ac} {F F' : List Nat} {Z : Nat} {P : Bp} {b : Bk} {lv : Value} (h : AS w0 w base p c r L F F' Z P b lv) (hp : BpOk P) (hb : b.wr ≤ P.W.length) :
    Calls Tryz.prog 164 #[.pointer (some ⟨Z, 0, none⟩)] w fun e w' => e = .returned (ansM 2) ∧ AS w0 w' base p c r L F F' Z P (overB P b) lv := by
  obtain ⟨a, cap, hl⟩ := h.bs.slice
  exact (bover_any h.bs.row hl hp hb).mono fun _ _ q => ⟨q.1, h.onRow q.2.1 q.2.2⟩
theorem as_moved {w0 w : World} {base : Nat} {p : Value} {c r : Nat} {L : List Ac} {F F' : List Nat} {Z : Nat} {P : Bp} {b : Bk} {lv : Value} (h : AS w0 w base p c r L F F' Z P b lv) :
    Calls Tryz.prog 149 #[] w fun e w' => e = .returned (ansM 2) ∧ AS w0 w' base p c r L F F' Z P b lv := (bmoved_any w).mono fun _ _ q => ⟨q.1, h.below q.2⟩
theorem as_waits {w0 w : World} {base : Nat} {p : Value} {c r : Nat} {L : List Ac} {F F' : List Nat} {Z : Nat} {P : Bp} {b : Bk} {lv : Value} (h : AS w0 w base p c r L F F' Z P b lv) :
    Calls Tryz.prog 163 #[] w fun e w' => e = .returned (ansM 1) ∧ AS w0 w' base p c r L F F' Z P b lv := (bwaits_any w).mono fun _ _ q => ⟨q.1, h.below q.2⟩
theorem as_headOf {w0 w : World} {base : Nat} {p : Value} {c r : Nat} {L : List Ac} {F F' : List Nat} {Z : Nat} {P : Bp} {b : Bk} {lv : Value} (h : AS w0 w base p c r L F F' Z P b lv) (st : Int) :
    Calls Tryz.prog 151 #[.pointer (some ⟨Z, 0, none⟩), .int .i64 st] w fun e w' => e = .returned (.agg #[.int .i64 2, .int .i64 (slotV st P.s), .int .i64 0]) ∧ AS w0 w' base p c r L F F' Z P b lv := (bheadOf_any h.bs.row st).mono fun _ _ q => ⟨q.1, h.below q.2⟩
theorem as_wordAt {w0 w : World} {base : Nat} {p : Value} {c r : Nat} {L : List Ac} {F F' : List Nat} {Z : Nat} {P : Bp} {b : Bk} {lv : Value} (h : AS w0 w base p c r L F F' Z P b lv) (st : Int) :
    Calls Tryz.prog 147 #[.pointer (some ⟨Z, 0, none⟩), .int .i64 st] w fun e w' => e = .returned (.agg #[.int .i64 3, .int .i64 (slotV st P.s), .int .i64 (b.wd : Int)]) ∧ AS w0 w' base p c r L F F' Z P b lv := (bwordAt_any h.bs.row st).mono fun _ _ q => ⟨q.1, h.below q.2⟩
end Go.Proofs.YtbeaaapkjoegoaaGreat.Ba
