/- The program's machine of layer 11: how it lies; Left, Sig, goOn, lookAt, toWord, olderIsOver, headOf, wordAt, moved, waits. -/
import Derived.Test.YtbmmicfdnfpcaaaBkM
import Derived.Test.YtbmmicfdnfpcaaaAns
import Derived.Test.YtbmmicfdnfpcaaaRngA
import Derived.Test.YtbmmicfdnfpcaaaSigE
import Derived.RegionTactic
import Derived.BigRegion
import Derived.Laws.EntriesVeiled
namespace Go.Proofs.Ytbmmicfdnfpcaaa
open Go.ChangeShapes Go.WideShapes Go.ChangeAt Go.RowKit
attribute [local go_sem ↓] Go.wp_at_zero Go.wp_at_succ

/-- What comes next, as a value. -/
def fnB (k : Nat) : Value :=
  if k = 1 then .func (.func 27) #[] #[] else if k = 2 then .func (.func 47) #[] #[] else if k = 3 then .func (.func 74) #[] #[] else if k = 4 then .func (.func 85) #[] #[]
  else if k = 5 then .func (.func 86) #[] #[] else if k = 6 then .func (.func 71) #[] #[] else if k = 7 then .func (.func 72) #[] #[] else if k = 8 then .func (.func 73) #[] #[] else .nilFunc
def bsV (s : List Nat) (i : Nat) : Value := .int .u64 ((s.getD i 0 : Nat) : Int)
def bkR (s : Int) (st : Int) (lv : Value) (sg : List Nat) (f : Value) (wd old : Int) (kn : Bool) (wr : Int) : Array Value := #[.int .i64 s, .int .i64 st, lv, bsV sg 0, bsV sg 1, bsV sg 2, bsV sg 3, bsV sg 4, bsV sg 5, bsV sg 6, bsV sg 7, f, .int .i64 wd, .int .i64 old, .bool kn, .int .i64 wr]
def BRaw (w : World) (Z : Nat) (s st : Int) (lv : Value) (sg : List Nat) (f : Value) (wd old : Int) (kn : Bool) (wr : Int) : Prop := w.heap[Z]? = some (.cells (bkR s st lv sg f wd old kn wr) 82 (0, 0))
/-- A machine in a block of its own. -/
def BRow (w : World) (Z : Nat) (P : Bp) (b : Bk) (lv : Value) : Prop := BRaw w Z (P.s : Int) P.st lv P.sg (fnB b.nx) (b.wd : Int) b.old b.kn (b.wr : Int)
theorem BRaw.keep {w w' : World} {Z : Nat} {s st : Int} {lv : Value} {sg : List Nat} {f : Value} {wd old : Int} {kn : Bool} {wr : Int} {F : List Nat} (h : BRaw w Z s st lv sg f wd old kn wr) (k : Keep F w w') (hx : Z ∉ F) : BRaw w' Z s st lv sg f wd old kn wr := by
  unfold BRaw; rw [k.block _ (heap_lt h) hx]; exact h
theorem BRaw.below {w w' : World} {Z : Nat} {s st : Int} {lv : Value} {sg : List Nat} {f : Value} {wd old : Int} {kn : Bool} {wr : Int} {B : Nat} (h : BRaw w Z s st lv sg f wd old kn wr) (k : Below B w w') (hx : Z < B) : BRaw w' Z s st lv sg f wd old kn wr := by
  unfold BRaw; rw [k.block _ hx]; exact h
theorem BRaw.cells {w : World} {Z : Nat} {s st : Int} {lv : Value} {sg : List Nat} {f : Value} {wd old : Int} {kn : Bool} {wr : Int} (h : BRaw w Z s st lv sg f wd old kn wr) : w.cell? ⟨Z, 0, none⟩ = some (.int .i64 s) ∧ w.cell? ⟨Z, 1, none⟩ = some (.int .i64 st) ∧ w.cell? ⟨Z, 2, none⟩ = some lv ∧
    w.cell? ⟨Z, 11, none⟩ = some f ∧ w.cell? ⟨Z, 12, none⟩ = some (.int .i64 wd) ∧ w.cell? ⟨Z, 13, none⟩ = some (.int .i64 old) ∧ w.cell? ⟨Z, 14, none⟩ = some (.bool kn) ∧ w.cell? ⟨Z, 15, none⟩ = some (.int .i64 wr) :=
  ⟨by rw [cell_at h]; rfl, by rw [cell_at h]; rfl, by rw [cell_at h]; rfl, by rw [cell_at h]; rfl, by rw [cell_at h]; rfl, by rw [cell_at h]; rfl, by rw [cell_at h]; rfl, by rw [cell_at h]; rfl⟩
theorem BRaw.sig {w : World} {Z : Nat} {s st : Int} {lv : Value} {sg : List Nat} {f : Value} {wd old : Int} {kn : Bool} {wr : Int} (h : BRaw w Z s st lv sg f wd old kn wr) : w.cell? ⟨Z, 3, none⟩ = some (bsV sg 0) ∧ w.cell? ⟨Z, 4, none⟩ = some (bsV sg 1) ∧ w.cell? ⟨Z, 5, none⟩ = some (bsV sg 2) ∧ w.cell? ⟨Z, 6, none⟩ = some (bsV sg 3) ∧ w.cell? ⟨Z, 7, none⟩ = some (bsV sg 4) ∧ w.cell? ⟨Z, 8, none⟩ = some (bsV sg 5) ∧ w.cell? ⟨Z, 9, none⟩ = some (bsV sg 6) ∧ w.cell? ⟨Z, 10, none⟩ = some (bsV sg 7) :=
  ⟨by rw [cell_at h]; rfl, by rw [cell_at h]; rfl, by rw [cell_at h]; rfl, by rw [cell_at h]; rfl, by rw [cell_at h]; rfl, by rw [cell_at h]; rfl, by rw [cell_at h]; rfl, by rw [cell_at h]; rfl⟩
theorem BRaw.sigAt {w : World} {Z : Nat} {s st : Int} {lv : Value} {sg : List Nat} {f : Value} {wd old : Int} {kn : Bool} {wr : Int} (h : BRaw w Z s st lv sg f wd old kn wr) (j : Nat) (hj : j < 8) : w.cell? ⟨Z, 3 + j, none⟩ = some (bsV sg j) := by
  rw [cell_at h]
  match j, hj with
  | 0, _ | 1, _ | 2, _ | 3, _ | 4, _ | 5, _ | 6, _ | 7, _ => rfl
theorem BRaw.fz {w : World} {Z : Nat} {s st : Int} {lv : Value} {sg : List Nat} {f : Value} {wd old : Int} {kn : Bool} {wr : Int} (h : BRaw w Z s st lv sg f wd old kn wr) : w.frozen? ⟨Z, 11, none⟩ = false ∧ w.frozen? ⟨Z, 12, none⟩ = false ∧ w.frozen? ⟨Z, 13, none⟩ = false ∧ w.frozen? ⟨Z, 14, none⟩ = false ∧ w.frozen? ⟨Z, 15, none⟩ = false := ⟨frozen_at h 11, frozen_at h 12, frozen_at h 13, frozen_at h 14, frozen_at h 15⟩
theorem BRaw.set11 {w : World} {Z : Nat} {s st : Int} {lv : Value} {sg : List Nat} {f : Value} {wd old : Int} {kn : Bool} {wr : Int} (h : BRaw w Z s st lv sg f wd old kn wr) (v : Value) : BRaw (w.setCell ⟨Z, 11, none⟩ v) Z s st lv sg v wd old kn wr := by unfold BRaw; rw [heap_set h]; rfl
theorem BRaw.set12 {w : World} {Z : Nat} {s st : Int} {lv : Value} {sg : List Nat} {f : Value} {wd old : Int} {kn : Bool} {wr : Int} (h : BRaw w Z s st lv sg f wd old kn wr) (v : Int) : BRaw (w.setCell ⟨Z, 12, none⟩ (.int .i64 v)) Z s st lv sg f v old kn wr := by unfold BRaw; rw [heap_set h]; rfl
theorem BRaw.set13 {w : World} {Z : Nat} {s st : Int} {lv : Value} {sg : List Nat} {f : Value} {wd old : Int} {kn : Bool} {wr : Int} (h : BRaw w Z s st lv sg f wd old kn wr) (v : Int) : BRaw (w.setCell ⟨Z, 13, none⟩ (.int .i64 v)) Z s st lv sg f wd v kn wr := by unfold BRaw; rw [heap_set h]; rfl
theorem BRaw.set14 {w : World} {Z : Nat} {s st : Int} {lv : Value} {sg : List Nat} {f : Value} {wd old : Int} {kn : Bool} {wr : Int} (h : BRaw w Z s st lv sg f wd old kn wr) (v : Bool) : BRaw (w.setCell ⟨Z, 14, none⟩ (.bool v)) Z s st lv sg f wd old v wr := by unfold BRaw; rw [heap_set h]; rfl
theorem BRaw.set15 {w : World} {Z : Nat} {s st : Int} {lv : Value} {sg : List Nat} {f : Value} {wd old : Int} {kn : Bool} {wr : Int} (h : BRaw w Z s st lv sg f wd old kn wr) (v : Int) : BRaw (w.setCell ⟨Z, 15, none⟩ (.int .i64 v)) Z s st lv sg f wd old kn v := by unfold BRaw; rw [heap_set h]; rfl
theorem BRow.keep {w w' : World} {Z : Nat} {P : Bp} {b : Bk} {lv : Value} {F : List Nat} (h : BRow w Z P b lv) (k : Keep F w w') (hx : Z ∉ F) : BRow w' Z P b lv := BRaw.keep h k hx
theorem BRow.below {w w' : World} {Z : Nat} {P : Bp} {b : Bk} {lv : Value} {B : Nat} (h : BRow w Z P b lv) (k : Below B w w') (hx : Z < B) : BRow w' Z P b lv := BRaw.below h k hx
theorem keepZ {w0 w : World} {Z : Nat} (k : Keep [Z] w0 w) (i : Nat) (v : Value) : Keep [Z] w0 (w.setCell ⟨Z, i, none⟩ v) := k.setCell _ _ (Or.inl (by simp))

/-- An answer. -/
def ansM (k : Int) : Value := .agg #[.int .i64 k, .int .i64 0, .int .i64 0, .bool true]
theorem bmoved_any (w : World) : Calls Try.prog 48 #[] w fun e w' => e = .returned (ansM 2) ∧ Below w.heap.size w w' := by
  unfold ansM
  go_enter Try.func48, Try.ntmps48
  go_wp2
  exact ret_ans rfl rfl (heap_alloc_new _ _) rfl rfl ⟨rfl, below_a1 _ _⟩
theorem bwaits_any (w : World) : Calls Try.prog 78 #[] w fun e w' => e = .returned (ansM 1) ∧ Below w.heap.size w w' := by
  unfold ansM
  go_enter Try.func78, Try.ntmps78
  go_wp2
  exact ret_ans rfl rfl (heap_alloc_new _ _) rfl rfl ⟨rfl, below_a1 _ _⟩
theorem head_any (x : Int) (d : Bool) (w : World) : Calls Try.prog 63 #[.int .i64 x, .bool d] w fun e w' => e = .returned (.int .i64 (headV x d)) ∧ w' = w := by
  have h1 := or1 x
  cases d
  all_goals
    go_enter Try.func63, Try.ntmps63
    go_wp2
    go_ret
    exact ⟨by simp [headV], rfl⟩
theorem rhead_any (x : Int) (d : Bool) (w : World) : Calls Try.prog 40 #[.int .i64 x, .bool d] w fun e w' => e = .returned (.int .i64 (headV x d)) ∧ w' = w := by
  cases d
  · go_enter Try.func40, Try.ntmps40
    go_wp2
    go_ret
    exact ⟨by simp [headV, head_dbl], rfl⟩
  · go_enter Try.func40, Try.ntmps40
    go_wp2
    go_ret
    exact ⟨by simp [headV, head_one], rfl⟩
theorem headV_is {P : Bp} (h : BpOk P) (d : Bool) : headV P.st d = if d then 2 * P.st + 1 else 2 * P.st := by
  have h1 := h.st1
  have h2 := h.st2
  unfold headV
  cases d
  · rw [if_neg (by simp), if_neg (by simp)]; unfold wrap64; omega
  · rw [if_pos rfl, if_pos rfl]; unfold wrap64; omega
theorem bleft_any {w : World} {Z : Nat} {P : Bp} {b : Bk} {lv : Value} {cap : Nat} {a : Option Addr} (h : BRow w Z P b lv) (hl : lv = .slice a P.W.length cap) (hk : P.W.length ≤ 24) (hb : b.wr ≤ P.W.length) : Calls Try.prog 18 #[.pointer (some ⟨Z, 0, none⟩)] w fun e w' => e = .returned (.int .i64 ((P.W.length : Int) - (b.wr : Int))) ∧ Below w.heap.size w w' := by
  subst hl
  obtain ⟨x0, x1, x2, x11, x12, x13, x14, x15⟩ := BRaw.cells h
  generalize P.W.length = n at *
  clear h
  go_enter Try.func18, Try.ntmps18
  go_wp2
  go_quiet (fail)
  go_wp2
  go_ret
  exact ⟨rfl, below_drawn (Below.refl _ _) _⟩
theorem bsig_any {w : World} {Z : Nat} {P : Bp} {b : Bk} {lv : Value} (h : BRow w Z P b lv) (hs : Sg.Ok P.sg) : Calls Try.prog 17 #[.pointer (some ⟨Z, 0, none⟩)] w fun e w' => e = .returned (Sg.sv P.sg) ∧ Below w.heap.size w w' := by
  obtain ⟨x3, x4, x5, x6, x7, x8, x9, x10⟩ := BRaw.sig h
  have hx : Z < w.heap.size := heap_lt h
  have HE : Hid (Sg.sv P.sg = .agg #[bsV P.sg 0, bsV P.sg 1, bsV P.sg 2, bsV P.sg 3, bsV P.sg 4, bsV P.sg 5, bsV P.sg 6, bsV P.sg 7]) := by
    have h8 := hs.1
    generalize P.sg = l at *
    match l, h8 with
    | [_, _, _, _, _, _, _, _], _ => rfl
  rw [HE.out]
  clear h HE
  unfold bsV at *
  generalize P.sg.getD 0 0 = n0 at *
  generalize P.sg.getD 1 0 = n1 at *
  generalize P.sg.getD 2 0 = n2 at *
  generalize P.sg.getD 3 0 = n3 at *
  generalize P.sg.getD 4 0 = n4 at *
  generalize P.sg.getD 5 0 = n5 at *
  generalize P.sg.getD 6 0 = n6 at *
  generalize P.sg.getD 7 0 = n7 at *
  go_enter Try.func17, Try.ntmps17
  go_wp2
  exact Sg.ret_sig rfl rfl (heap_alloc_new _ _) rfl rfl ⟨rfl, below_a1 _ _⟩
theorem ret_addr {fn : Func} {p : Tmp} {R : Ending → World → Prop} {a : Act} {w : World} {g : Nat} {cs : Array Value} (h : fn.results = #[.cell p 46]) (hp : a.tmps.getD p undef = .pointer (some ⟨g, 0, none⟩))
    (hg : w.heap[g]? = some (.cells cs 46 (0, 0))) (hz : cs.size = 3) (hd : a.defers = []) (hR : R (.returned (.agg cs)) w) : bodyPost Try.prog fn R .ret a w :=
  bodyPost_ret (results_cell_row h _ _ g 46 cs (0, 0) _ hp hg Try.underlying46 rfl (by rw [hz]; kernel_rfl)) hd hR
theorem bheadOf_any {w : World} {Z : Nat} {P : Bp} {b : Bk} {lv : Value} (h : BRow w Z P b lv) (st : Int) : Calls Try.prog 62 #[.pointer (some ⟨Z, 0, none⟩), .int .i64 st] w fun e w' => e = .returned (.agg #[.int .i64 2, .int .i64 (slotV st P.s), .int .i64 0]) ∧ Below w.heap.size w w' := by
  have HSL : Hid (∀ w, Calls Try.prog 61 #[.int .i64 st, .int .i64 (P.s : Int)] w fun e w' => e = .returned (.int .i64 (slotV st P.s)) ∧ w' = w) := slot_any st P.s
  obtain ⟨x0, x1, x2, x11, x12, x13, x14, x15⟩ := BRaw.cells h
  have hx : Z < w.heap.size := heap_lt h
  clear h
  generalize slotV st P.s = sl at *
  go_enter Try.func62, Try.ntmps62
  go_wp2_with fail
  refine (HSL.out _).mono ?_
  rintro e w1 ⟨rfl, rfl⟩
  go_wp2
  exact ret_addr rfl rfl (heap_alloc_new _ _) rfl rfl ⟨rfl, below_a1 _ _⟩
theorem bwordAt_any {w : World} {Z : Nat} {P : Bp} {b : Bk} {lv : Value} (h : BRow w Z P b lv) (st : Int) : Calls Try.prog 46 #[.pointer (some ⟨Z, 0, none⟩), .int .i64 st] w fun e w' => e = .returned (.agg #[.int .i64 3, .int .i64 (slotV st P.s), .int .i64 (b.wd : Int)]) ∧ Below w.heap.size w w' := by
  have HSL : Hid (∀ w, Calls Try.prog 61 #[.int .i64 st, .int .i64 (P.s : Int)] w fun e w' => e = .returned (.int .i64 (slotV st P.s)) ∧ w' = w) := slot_any st P.s
  obtain ⟨x0, x1, x2, x11, x12, x13, x14, x15⟩ := BRaw.cells h
  have hx : Z < w.heap.size := heap_lt h
  clear h
  generalize slotV st P.s = sl at *
  go_enter Try.func46, Try.ntmps46
  go_wp2
  go_region_with ((go_at_call 61; refine (HSL.out _).mono ?_; rintro e w' ⟨rfl, rfl⟩))
  all_goals
    go_wp2
    exact ret_addr rfl rfl (heap_alloc_new _ _) rfl rfl ⟨rfl, below_drawn (below_a1 _ _) _⟩
theorem bgoOn_any {w : World} {Z : Nat} {P : Bp} {b : Bk} {lv : Value} {cap : Nat} {a : Option Addr} (h : BRow w Z P b lv) (hl : lv = .slice a P.W.length cap) (hk : P.W.length ≤ 24) (hb : b.wr ≤ P.W.length) :
    Calls Try.prog 64 #[.pointer (some ⟨Z, 0, none⟩)] w fun e w' => e = .returned (.tuple #[]) ∧ BRow w' Z P (goB P b) lv ∧ Keep [Z] w w' := by
  have HL : Hid (Calls Try.prog 18 #[.pointer (some ⟨Z, 0, none⟩)] w fun e w' => e = .returned (.int .i64 ((P.W.length : Int) - (b.wr : Int))) ∧ Below w.heap.size w w') := bleft_any h hl hk hb
  have hx : Z < w.heap.size := heap_lt h
  have HR : Hid (∀ w', Below w.heap.size w w' → BRow w' Z P b lv) := fun w' k => h.below k hx
  have HD : Hid (∀ (w : World) (n : Nat), BRow w Z P b lv → goB P b = ⟨n, b.wd, b.old, b.kn, b.wr⟩ → BRow (w.setCell ⟨Z, 11, none⟩ (fnB n)) Z P (goB P b) lv) := fun w n h e => by rw [e]; exact BRaw.set11 h (fnB n)
  clear h hl hk hb
  by_cases e6 : b.wr < P.W.length
  · have H6 : Hid (∀ w, BRow w Z P b lv → BRow (w.setCell ⟨Z, 11, none⟩ (.func (.func 71) #[] #[])) Z P (goB P b) lv) := fun w h => HD.out w 6 h (by unfold goB; rw [if_pos e6])
    have d : decide ((P.W.length : Int) - (b.wr : Int) > 0) = true := decide_eq_true (by omega)
    generalize (P.W.length : Int) - (b.wr : Int) = n at *
    clear HD e6
    go_enter Try.func64, Try.ntmps64
    go_wp2_with fail
    refine HL.out.mono ?_
    rintro e w1 ⟨rfl, hb1⟩
    obtain ⟨x0, x1, x2, x11, x12, x13, x14, x15⟩ := BRaw.cells (HR.out _ hb1)
    obtain ⟨f11, f12, f13, f14, f15⟩ := BRaw.fz (HR.out _ hb1)
    have HB : Hid (Below w.heap.size w w1) := hb1
    clear hb1
    go_wp2
    refine bodyPost_end (results_none rfl _ _ _) rfl ?_
    exact ⟨rfl, H6.out _ (HR.out _ HB.out), keepZ (Keep.of_below HB.out _) _ _⟩
  · have d : decide ((P.W.length : Int) - (b.wr : Int) > 0) = false := decide_eq_false (by omega)
    cases hkn : b.kn
    · have H6 : Hid (∀ w, BRow w Z P b lv → BRow (w.setCell ⟨Z, 11, none⟩ (.func (.func 72) #[] #[])) Z P (goB P b) lv) := fun w h => HD.out w 7 h (by unfold goB; rw [if_neg e6, if_neg (by simp [hkn])])
      generalize (P.W.length : Int) - (b.wr : Int) = n at *
      clear HD e6
      go_enter Try.func64, Try.ntmps64
      go_wp2_with fail
      refine HL.out.mono ?_
      rintro e w1 ⟨rfl, hb1⟩
      obtain ⟨x0, x1, x2, x11, x12, x13, x14, x15⟩ := BRaw.cells (HR.out _ hb1)
      obtain ⟨f11, f12, f13, f14, f15⟩ := BRaw.fz (HR.out _ hb1)
      rw [hkn] at x14
      have HB : Hid (Below w.heap.size w w1) := hb1
      clear hb1 hkn
      go_wp2
      refine bodyPost_end (results_none rfl _ _ _) rfl ?_
      exact ⟨rfl, H6.out _ (HR.out _ HB.out), keepZ (Keep.of_below HB.out _) _ _⟩
    · have H6 : Hid (∀ w, BRow w Z P b lv → BRow (w.setCell ⟨Z, 11, none⟩ (.func (.func 73) #[] #[])) Z P (goB P b) lv) := fun w h => HD.out w 8 h (by unfold goB; rw [if_neg e6, if_pos hkn])
      generalize (P.W.length : Int) - (b.wr : Int) = n at *
      clear HD e6
      go_enter Try.func64, Try.ntmps64
      go_wp2_with fail
      refine HL.out.mono ?_
      rintro e w1 ⟨rfl, hb1⟩
      obtain ⟨x0, x1, x2, x11, x12, x13, x14, x15⟩ := BRaw.cells (HR.out _ hb1)
      obtain ⟨f11, f12, f13, f14, f15⟩ := BRaw.fz (HR.out _ hb1)
      rw [hkn] at x14
      have HB : Hid (Below w.heap.size w w1) := hb1
      clear hb1 hkn
      go_wp2
      refine bodyPost_end (results_none rfl _ _ _) rfl ?_
      exact ⟨rfl, H6.out _ (HR.out _ HB.out), keepZ (Keep.of_below HB.out _) _ _⟩
end Go.Proofs.Ytbmmicfdnfpcaaa
