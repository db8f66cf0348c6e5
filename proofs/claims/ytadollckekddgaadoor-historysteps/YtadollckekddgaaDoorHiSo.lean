/- The program's: where a transaction stands; places compared. -/
import Derived.Test.YtadollckekddgaaDoorHiPl
import Derived.Test.YtadollckekddgaaDoorHiB
import Derived.Deep.RegionHeld3
namespace Go.Proofs.YtadollckekddgaaDoor.Hi
open Go.ChangeShapes Go.WideShapes Go.ChangeAt Go.RowKit
attribute [local go_sem ↓] Go.wp_at_zero Go.wp_at_succ
set_option linter.unusedVariables false

def plVal (t : Tr) : Value := .agg #[.int .i64 (plA t), .int .i64 (plB t)]
theorem ret_pl {fn : Func} {p : Tmp} {R : Ending → World → Prop} {a : Act} {w : World} {g : Nat} {cs : Array Value} (h : fn.results = #[.cell p 61]) (hp : a.tmps.getD p undef = .pointer (some ⟨g, 0, none⟩))
    (hg : w.heap[g]? = some (.cells cs 61 (0, 0))) (hz : cs.size = 2) (hd : a.defers = []) (hR : R (.returned (.agg cs)) w) : bodyPost Tryd.prog fn R .ret a w := by
  refine bodyPost_ret (v := .agg cs) ?_ hd hR
  have hp' : a.tmps[p]?.getD undef = .pointer (some ⟨g, 0, none⟩) := by simpa using hp
  have hl := run_loadVar_row (P := Tryd.prog) w g 61 61 cs (0, 0) _ hg Tryd.underlying61 rfl (by rw [hz]; kernel_rfl)
  simp [results, h, hp', asAddr, hl]
theorem cell_old {w : World} {b i : Nat} (h : b < w.heap.size) (o : Obj) : (w.alloc o).cell? ⟨b, i, none⟩ = w.cell? ⟨b, i, none⟩ := by
  unfold World.cell?
  rw [heap_alloc_old _ _ h]
theorem cell_below {w w' : World} {n b i : Nat} (hb : Below n w w') (h : b < n) : w'.cell? ⟨b, i, none⟩ = w.cell? ⟨b, i, none⟩ := by
  unfold World.cell?
  rw [hb.block b h]
theorem stands_q {w : World} {b : Nat} {s q : Int} (hlt : b < w.heap.size) (e3 : w.cell? ⟨b, 3, none⟩ = some (.int .i64 s)) (e4 : w.cell? ⟨b, 4, none⟩ = some (.int .i64 q)) :
    Calls Tryd.prog 15 #[.pointer (some ⟨b, 0, none⟩)] w fun e w' => e = .returned (.agg #[.int .i64 (if 0 < s then s else q), .int .i64 (if 0 < s then 0 else 1)]) ∧ Below w.heap.size w w' := by
  have h3 : ∀ o, (w.alloc o).cell? ⟨b, 3, none⟩ = some (.int .i64 s) := fun o => by rw [cell_old hlt]; exact e3
  have h4 : ∀ o, (w.alloc o).cell? ⟨b, 4, none⟩ = some (.int .i64 q) := fun o => by rw [cell_old hlt]; exact e4
  clear e3 e4
  by_cases hs : 0 < s
  · rw [if_pos hs, if_pos hs]
    go_enter Tryd.func15, Tryd.ntmps15
    go_wp2
    refine ret_pl rfl rfl (heap_alloc_new _ _) rfl rfl ⟨rfl, below_a1 _ _⟩
  · rw [if_neg hs, if_neg hs]
    go_enter Tryd.func15, Tryd.ntmps15
    go_wp2
    refine ret_pl rfl rfl (heap_alloc_new _ _) rfl rfl ⟨rfl, below_a1 _ _⟩

def cmpN (x y : Int) : Int := if x < y then -1 else if y < x then 1 else 0
theorem cmpl_any (x y : Int) (w : World) : Calls Tryd.prog 27 #[.int .i64 x, .int .i64 y] w fun e w' => e = .returned (.int .i64 (cmpN x y)) ∧ w' = w := by
  by_cases h1 : x < y
  · go_enter Tryd.func27, Tryd.ntmps27
    go_wp2
    go_ret
    exact ⟨by simp [cmpN, h1], rfl⟩
  · by_cases h2 : y < x
    · go_enter Tryd.func27, Tryd.ntmps27
      go_wp2
      go_ret
      exact ⟨by simp [cmpN, h1, h2], rfl⟩
    · go_enter Tryd.func27, Tryd.ntmps27
      go_wp2
      go_ret
      exact ⟨by unfold cmpN; rw [if_neg (by omega), if_neg (by omega)]; rfl, rfl⟩
theorem cmpi_any (x y : Int) (w : World) : Calls Tryd.prog 28 #[.int .i64 x, .int .i64 y] w fun e w' => e = .returned (.int .i64 (cmpN x y)) ∧ w' = w := by
  by_cases h1 : x < y
  · go_enter Tryd.func28, Tryd.ntmps28
    go_wp2
    go_ret
    exact ⟨by simp [cmpN, h1], rfl⟩
  · by_cases h2 : y < x
    · go_enter Tryd.func28, Tryd.ntmps28
      go_wp2
      go_ret
      exact ⟨by simp [cmpN, h1, h2], rfl⟩
    · go_enter Tryd.func28, Tryd.ntmps28
      go_wp2
      go_ret
      exact ⟨by unfold cmpN; rw [if_neg (by omega), if_neg (by omega)]; rfl, rfl⟩
def or2 (x y : Int) : Int := if x ≠ 0 then x else y
theorem or2_any (x y : Int) (w : World) (g : Nat) (h0 : w.cell? ⟨g, 0, none⟩ = some (.int .i64 x)) (h1 : w.cell? ⟨g, 1, none⟩ = some (.int .i64 y)) :
    Calls Tryd.prog 26 #[.slice (some ⟨g, 0, none⟩) 2 2] w fun e w' => e = .returned (.int .i64 (or2 x y)) ∧ w' = w := by
  by_cases e0 : x = 0
  · subst e0
    by_cases e1 : y = 0
    · subst e1
      go_enter Tryd.func26, Tryd.ntmps26
      go_wp2
      refine wp_loop_rounds 3 ?_
      rw [rounds_succ]
      go_wp2
      rw [rounds_succ]
      go_wp2
      rw [rounds_succ]
      go_wp2
      go_ret
      exact ⟨by simp [or2], rfl⟩
    · have b : (y != 0) = true := by simpa using e1
      go_enter Tryd.func26, Tryd.ntmps26
      go_wp2
      refine wp_loop_rounds 3 ?_
      rw [rounds_succ]
      go_wp2
      rw [rounds_succ]
      go_wp2
      go_ret
      exact ⟨by simp [or2], rfl⟩
  · have b : (x != 0) = true := by simpa using e0
    go_enter Tryd.func26, Tryd.ntmps26
    go_wp2
    refine wp_loop_rounds 3 ?_
    rw [rounds_succ]
    go_wp2
    go_ret
    exact ⟨by simp [or2, e0], rfl⟩

theorem h3_2 (w : World) (a b c : Obj) : (((w.alloc a).alloc b).alloc c).heap[w.heap.size + 1 + 1]? = some c := by
  have := heap_alloc_new ((w.alloc a).alloc b) c
  simpa using this
theorem cl_drew (w : World) (a : Addr) : w.drew.cell? a = w.cell? a := rfl
theorem below3d (w : World) (a b c : Obj) : Below w.heap.size w (((w.alloc a).alloc b).alloc c).drew := below_drawn (below_alloc (below_alloc (below_a1 _ _) _) _) 1
def cmpP (a b c d : Int) : Int := or2 (cmpN a c) (cmpN b d)
set_option maxRecDepth 100000 in
set_option maxHeartbeats 6400000 in
theorem place_compare (a b c d : Int) (w : World) :
    Calls Tryd.prog 16 #[.agg #[.int .i64 a, .int .i64 b], .agg #[.int .i64 c, .int .i64 d]] w fun e w' => e = .returned (.int .i64 (cmpP a b c d)) ∧ Below w.heap.size w w' := by
  unfold cmpP
  generalize hx1 : cmpN a c = x1
  generalize hx2 : cmpN b d = x2
  have HCL : Hid (∀ (x y : Int) (w : World), Calls Tryd.prog 27 #[.int .i64 x, .int .i64 y] w fun e w' => e = .returned (.int .i64 (cmpN x y)) ∧ w' = w) := cmpl_any
  have HCI : Hid (∀ (x y : Int) (w : World), Calls Tryd.prog 28 #[.int .i64 x, .int .i64 y] w fun e w' => e = .returned (.int .i64 (cmpN x y)) ∧ w' = w) := cmpi_any
  have HO : Hid (∀ (w : World) (g : Nat), w.cell? ⟨g, 0, none⟩ = some (.int .i64 x1) → w.cell? ⟨g, 1, none⟩ = some (.int .i64 x2) → Calls Tryd.prog 26 #[.slice (some ⟨g, 0, none⟩) 2 2] w fun e w' => e = .returned (.int .i64 (or2 x1 x2)) ∧ w' = w) := fun w g => or2_any x1 x2 w g
  go_enter Tryd.func16, Tryd.ntmps16
  go_wp2_with fail
  go_region_held3 (fun w' => w'.cell? ⟨w.heap.size, 0, none⟩ = some (.int .i64 a) ∧ w'.cell? ⟨w.heap.size, 1, none⟩ = some (.int .i64 b) ∧ w'.cell? ⟨w.heap.size + 1, 0, none⟩ = some (.int .i64 c) ∧ w'.cell? ⟨w.heap.size + 1, 1, none⟩ = some (.int .i64 d))
    (first
      | go_keep)
    (first
      | (go_at_call 27; refine (HCL.out _ _ _).mono ?_; rintro e w' ⟨rfl, rfl⟩; rw [hx1])
      | (go_at_call 28; refine (HCI.out _ _ _).mono ?_; rintro e w' ⟨rfl, rfl⟩; rw [hx2])
      | (go_at_call 26; refine (HO.out _ _ (by rw [cl_drew, cell_at (h3_2 _ _ _ _)]; rfl) (by rw [cl_drew, cell_at (h3_2 _ _ _ _)]; rfl)).mono ?_; rintro e w' ⟨rfl, rfl⟩))
  all_goals
    go_wp2
    go_ret
    exact ⟨rfl, below3d _ _ _ _⟩
theorem cmpN_lt (x y : Int) : cmpN x y < 0 ↔ x < y := by
  unfold cmpN
  split
  · omega
  · split <;> omega
theorem cmpN_zero (x y : Int) : cmpN x y = 0 ↔ x = y := by
  unfold cmpN
  split
  · omega
  · split <;> omega
def cmpT (a b : Tr) : Int := cmpP (plA a) (plB a) (plA b) (plB b)
theorem cmpT_lt (a b : Tr) : decide (cmpT a b < 0) = aheadD a b := by
  unfold cmpT cmpP or2 aheadD
  have h1 := cmpN_lt (plA a) (plA b)
  have h2 := cmpN_lt (plB a) (plB b)
  have z1 := cmpN_zero (plA a) (plA b)
  rw [Bool.eq_iff_iff]
  simp only [Bool.or_eq_true, Bool.and_eq_true, decide_eq_true_eq]
  split <;> omega

theorem bl_drew1 (w : World) : Below w.heap.size w w.drew := below_drawn (Below.refl _ _) 1
theorem own_at2 {w : World} {B n i : Nat} {v : Value} {b : Nat → Nat} (h : w.ownsRow B 55 1 v n (ptrs b n)) (hi : i < n) : ∃ g cap, v = .slice (some ⟨g, 0, none⟩) n cap ∧ g < w.heap.size ∧ n ≤ cap ∧ ∀ j, j < n → w.cell? ⟨g, j, none⟩ = some (ptr (b j)) := by
  rcases h.2 with ⟨e, h0⟩ | ⟨g, cap, cur, rfl, h1, h2, h3⟩
  · omega
  · exact ⟨g, cap, rfl, (own_block h g rfl).2, by first | omega | exact h3.1 | (obtain ⟨q, _⟩ := h3; omega), fun j hj => own_cells h j _ (ptrs_get b hj)⟩
set_option maxRecDepth 100000 in
set_option maxHeartbeats 6400000 in
theorem clo_any {w : World} {B P k pv : Nat} {p : Pa} {b : Nat → Nat} {V : Nat → Value} {vt vp : Value} (h : PAt w B P k p b V vt vp) (hpl : pv < w.heap.size) (hpv : w.cell? ⟨pv, 0, none⟩ = some (ptr P)) {i j : Nat} (hi : i < p.txs.length) (hj : j < p.txs.length) :
    Calls Tryd.prog 14 #[.int .i64 (i : Int), .int .i64 (j : Int), .pointer (some ⟨pv, 0, none⟩)] w fun e w' => e = .returned (.int .i64 (cmpT (nt p.txs i) (nt p.txs j))) ∧ Below w.heap.size w w' := by
  obtain ⟨g, cap, hvt, hgl, hcap, hg⟩ := own_at2 h.ts hi
  have hP : P < w.heap.size := (Array.getElem?_eq_some_iff.1 h.pa).1
  have hbi : b i < w.heap.size := (Array.getElem?_eq_some_iff.1 (h.tx i hi)).1
  have hbj : b j < w.heap.size := (Array.getElem?_eq_some_iff.1 (h.tx j hj)).1
  have hn := h.bd.1
  have HS : Hid (∀ w', Below w.heap.size w w' → w'.cell? ⟨pv, 0, none⟩ = some (.pointer (some ⟨P, 0, none⟩)) ∧ w'.cell? ⟨P, 1, none⟩ = some (.slice (some ⟨g, 0, none⟩) p.txs.length cap) ∧ w'.cell? ⟨g, i, none⟩ = some (.pointer (some ⟨b i, 0, none⟩)) ∧ w'.cell? ⟨g, j, none⟩ = some (.pointer (some ⟨b j, 0, none⟩))) := fun w' hb => by
    rw [cell_below hb hpl, cell_below hb hP, cell_below hb hgl, cell_below hb hgl, cell_at h.pa, hvt]
    exact ⟨hpv, rfl, hg i hi, hg j hj⟩
  have HSi : Hid (∀ w', Below w.heap.size w w' → Calls Tryd.prog 15 #[.pointer (some ⟨b i, 0, none⟩)] w' fun e w'' => e = .returned (plVal (nt p.txs i)) ∧ Below w'.heap.size w' w'') := fun w' hb =>
    stands_q (by have := hb.size; omega) (by rw [cell_below hb hbi, cell_at (h.tx i hi)]; rfl) (by rw [cell_below hb hbi, cell_at (h.tx i hi)]; rfl)
  have HSj : Hid (∀ w', Below w.heap.size w w' → Calls Tryd.prog 15 #[.pointer (some ⟨b j, 0, none⟩)] w' fun e w'' => e = .returned (plVal (nt p.txs j)) ∧ Below w'.heap.size w' w'') := fun w' hb =>
    stands_q (by have := hb.size; omega) (by rw [cell_below hb hbj, cell_at (h.tx j hj)]; rfl) (by rw [cell_below hb hbj, cell_at (h.tx j hj)]; rfl)
  have HCP : Hid (∀ w', Calls Tryd.prog 16 #[plVal (nt p.txs i), plVal (nt p.txs j)] w' fun e w'' => e = .returned (.int .i64 (cmpT (nt p.txs i) (nt p.txs j))) ∧ Below w'.heap.size w' w'') := fun w' => place_compare _ _ _ _ w'
  have hii : (i : Int) < (p.txs.length : Int) := by omega
  have hji : (j : Int) < (p.txs.length : Int) := by omega
  obtain ⟨s1, s2, s3, s4⟩ := HS.out w (Below.refl _ _)
  generalize cmpT (nt p.txs i) (nt p.txs j) = r at *
  generalize plVal (nt p.txs i) = x1 at *
  generalize plVal (nt p.txs j) = x2 at *
  generalize b i = bi at *
  generalize b j = bj at *
  generalize p.txs.length = n at *
  clear h hvt hg hpv
  go_enter Tryd.func14, Tryd.ntmps14
  go_wp2_with fail
  go_region_held3 (fun w' => w'.cell? ⟨pv, 0, none⟩ = some (.pointer (some ⟨P, 0, none⟩)) ∧ w'.cell? ⟨P, 1, none⟩ = some (.slice (some ⟨g, 0, none⟩) n cap) ∧ w'.cell? ⟨g, i, none⟩ = some (.pointer (some ⟨bi, 0, none⟩)) ∧ w'.cell? ⟨g, j, none⟩ = some (.pointer (some ⟨bj, 0, none⟩)))
    (first
      | go_keep
      | exact hS)
    (first
      | (go_at_call 16; refine (HCP.out _).mono ?_; rintro e w5 ⟨rfl, hb5⟩; have hp5 := below_then hp4 hb5; have hS := HS.out _ hp5)
      | (go_at_call 15; refine (HSj.out _ hp3).mono ?_; rintro e w4 ⟨rfl, hb4⟩; have hp4 := below_then hp3 hb4; have hS := HS.out _ hp4)
      | (go_at_call 15; refine (HSi.out _ (bl_drew1 _)).mono ?_; rintro e w3 ⟨rfl, hb3⟩; have hp3 := below_then (bl_drew1 _) hb3; have hS := HS.out _ hp3))
  all_goals
    go_wp2
    go_ret
    exact ⟨rfl, hp5⟩
end Go.Proofs.YtadollckekddgaaDoor.Hi
