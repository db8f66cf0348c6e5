/- The program's dict (layer 17): capacities, arguments, the look for a key. -/
import Derived.Test.YtbajgbknjmbimabDiN
import Derived.RegionTactic
import Derived.BigRegion
import Derived.Deep.RegionHeld3
import Derived.Deep.LoopGhost
import Derived.WalkMore
namespace Go.Proofs.Ytbajgbknjmbimab.Di
open Go.ChangeShapes Go.WideShapes Go.ChangeAt Go.RowKit
attribute [local go_sem ↓] Go.wp_at_zero Go.wp_at_succ

theorem cap_any (w : World) (m : Int) : Calls Try.prog 16 #[.int .i64 m] w fun e w' => e = .returned (.bool (decide (0 ≤ m) && decide (m ≤ 16))) ∧ w' = w := by
  by_cases h1 : 0 ≤ m
  · by_cases h2 : m ≤ 16
    · have d1 : decide (0 ≤ m) = true := by simpa using h1
      have d2 : decide (m ≤ 16) = true := by simpa using h2
      clear h1 h2
      go_enter Try.func16, Try.ntmps16
      go_wp2
      go_ret
      exact ⟨by simp [d1, d2], rfl⟩
    · have d1 : decide (0 ≤ m) = true := by simpa using h1
      have d2 : decide (m ≤ 16) = false := by simpa using h2
      clear h1 h2
      go_enter Try.func16, Try.ntmps16
      go_wp2
      go_ret
      exact ⟨by simp [d1, d2], rfl⟩
  · have d1 : decide (0 ≤ m) = false := by simpa using h1
    clear h1
    go_enter Try.func16, Try.ntmps16
    go_wp2
    go_ret
    exact ⟨by simp [d1], rfl⟩
theorem ar_3 {c : Int} (n : Nat) (h : c = 3) : ((n : Int) == 2) = decide (arV c = n) := by
  subst h
  rw [Bool.eq_iff_iff]
  simp [arV]
  omega
theorem ar_1 {c : Int} (n : Nat) (h : c = 2 ∨ c = 4) : ((n : Int) == 1) = decide (arV c = n) := by
  rcases h with rfl | rfl
  · rw [Bool.eq_iff_iff]
    simp [arV]
    omega
  · rw [Bool.eq_iff_iff]
    simp [arV]
    omega
theorem ar_0 {c : Int} (n : Nat) (h : c = 5) : ((n : Int) == 0) = decide (arV c = n) := by
  subst h
  rw [Bool.eq_iff_iff]
  simp [arV]
  omega
theorem ar_no {c : Int} (n : Nat) (h1 : c ≠ 3) (h2 : c ≠ 2) (h4 : c ≠ 4) (h3 : c ≠ 5) : false = decide (arV c = n) := by
  have : ¬ arV c = n := by
    unfold arV
    rw [if_neg h1, if_neg h2, if_neg h4, if_neg h3]
    omega
  simp [this]
theorem takes_any (w : World) (c : Int) (a : Option Addr) (n cap : Nat) : Calls Try.prog 17 #[.int .i64 c, .slice a n cap] w fun e w' => e = .returned (.bool (decide (arV c = n))) ∧ w' = w := by
  by_cases h1 : c = 3
  · have HE : Hid (((n : Int) == 2) = decide (arV c = n)) := ar_3 n h1
    generalize decide (arV c = n) = d at *
    subst h1
    go_enter Try.func17, Try.ntmps17
    go_wp2
    go_ret
    exact ⟨by rw [← HE.out]; rfl, rfl⟩
  · by_cases h2 : c = 2
    · have HE : Hid (((n : Int) == 1) = decide (arV c = n)) := ar_1 n (Or.inl h2)
      generalize decide (arV c = n) = d at *
      subst h2
      go_enter Try.func17, Try.ntmps17
      go_wp2
      go_ret
      exact ⟨by rw [← HE.out]; rfl, rfl⟩
    · by_cases h4 : c = 4
      · have HE : Hid (((n : Int) == 1) = decide (arV c = n)) := ar_1 n (Or.inr h4)
        generalize decide (arV c = n) = d at *
        subst h4
        go_enter Try.func17, Try.ntmps17
        go_wp2
        go_ret
        exact ⟨by rw [← HE.out]; rfl, rfl⟩
      · by_cases h3 : c = 5
        · have HE : Hid (((n : Int) == 0) = decide (arV c = n)) := ar_0 n h3
          generalize decide (arV c = n) = d at *
          subst h3
          go_enter Try.func17, Try.ntmps17
          go_wp2
          go_ret
          exact ⟨by rw [← HE.out]; rfl, rfl⟩
        · have HE : Hid (false = decide (arV c = n)) := ar_no n h1 h2 h4 h3
          generalize decide (arV c = n) = d at *
          have e1 : (c == 3) = false := by simpa using h1
          have e2 : (c == 2) = false := by simpa using h2
          have e4 : (c == 4) = false := by simpa using h4
          have e3 : (c == 5) = false := by simpa using h3
          clear h1 h2 h3 h4
          go_enter Try.func17, Try.ntmps17
          go_wp2
          go_ret
          exact ⟨by rw [← HE.out]; rfl, rfl⟩
theorem cellof_any (w : World) (s p : Int) (hs : -1 ≤ s ∧ s ≤ 16) (hp : 0 ≤ p ∧ p ≤ 2) : Calls Try.prog 20 #[.int .i64 s, .int .i64 p] w fun e w' => e = .returned (.int .i64 (clV s p)) ∧ w' = w := by
  have h1 : wrap64 (3 * s) = 3 * s := by unfold wrap64; omega
  have h2 : wrap64 (1 + 3 * s) = 1 + 3 * s := by unfold wrap64; omega
  have h3 : wrap64 (1 + 3 * s + p) = 1 + 3 * s + p := by unfold wrap64; omega
  unfold clV
  clear hs hp
  go_enter Try.func20, Try.ntmps20
  go_wp2
  go_ret
  exact ⟨by show Ending.returned (.int .i64 (wrap64 (1 + 3 * s + p))) = _; rw [h3], rfl⟩
theorem done_any (w : World) (v : Int) : Calls Try.prog 42 #[.int .i64 v] w fun e w' => e = .returned (.agg (wnC (endW v 0))) ∧ Below w.heap.size w w' := by
  go_enter Try.func42, Try.ntmps42
  go_wp2
  exact ret_wn rfl rfl (heap_alloc_new _ _) rfl rfl ⟨rfl, below_a1 _ _⟩
theorem ref_any (w : World) (c : Int) (hc : c ≠ 0) : Calls Try.prog 41 #[.int .i64 c] w fun e w' => e = .returned (.agg (wnC (endW 0 c))) ∧ Below w.heap.size w w' := by
  have HE : Hid (endW 0 c = ⟨6, 0, 0, c⟩) := by unfold endW; rw [if_neg hc]; exact rfl
  clear hc
  go_enter Try.func41, Try.ntmps41
  go_wp2
  exact ret_wn rfl rfl (heap_alloc_new _ _) rfl rfl ⟨by rw [HE.out]; rfl, below_a1 _ _⟩
theorem uw_wrap (f : Int) : IntKind.u64.wrap f = uW f := by
  simp [IntKind.wrap, IntKind.signed, IntKind.bits, uW]
theorem fir_math (k n : Int) (hn : 0 ≤ n ∧ n ≤ 16) : wrap64 (IntKind.u64.wrap (IntKind.u64.wrap (IntKind.u64.wrap k * 11400714819323198485) / 4294967296 * n) / 4294967296) = firV k n := by
  have e : IntKind.u64.wrap (IntKind.u64.wrap (IntKind.u64.wrap k * 11400714819323198485) / 4294967296 * n) / 4294967296 = firV k n := by
    rw [uw_wrap, uw_wrap, uw_wrap]
    rfl
  rw [e]
  have h : 0 ≤ firV k n ∧ firV k n ≤ 16 := by
    by_cases h0 : n = 0
    · subst h0
      rw [fir_zero]
      omega
    · have := fir_lt (k := k) (n := n) (by omega)
      omega
  unfold wrap64
  omega
theorem first_any (w : World) (k n : Int) (hn : 0 ≤ n ∧ n ≤ 16) : Calls Try.prog 34 #[.int .i64 k, .int .i64 n] w fun e w' => e = .returned (.int .i64 (firV k n)) ∧ w' = w := by
  have HF : Hid (wrap64 (IntKind.u64.wrap (IntKind.u64.wrap (IntKind.u64.wrap k * 11400714819323198485) / 4294967296 * n) / 4294967296) = firV k n) := fir_math k n hn
  go_enter Try.func34, Try.ntmps34
  go_wp2
  go_ret
  exact ⟨by rw [← HF.out]; rfl, rfl⟩
def seC (s : Se) : Array Value := #[.int .i64 s.key, .int .i64 s.most, .int .i64 s.left, .int .i64 s.slot, .int .i64 s.asked, .int .i64 s.free, .int .i64 s.found]
/-- A look that a function hands back, out of its variable. -/
theorem ret_se {fn : Func} {p : Tmp} {R : Ending → World → Prop} {a : Act} {w : World} {g : Nat} {cs : Array Value} (h : fn.results = #[.cell p 51]) (hp : a.tmps.getD p undef = .pointer (some ⟨g, 0, none⟩))
    (hg : w.heap[g]? = some (.cells cs 51 (0, 0))) (hz : cs.size = 7) (hd : a.defers = []) (hR : R (.returned (.agg cs)) w) : bodyPost Try.prog fn R .ret a w := by
  refine bodyPost_ret (v := .agg cs) ?_ hd hR
  have hp' : a.tmps[p]?.getD undef = .pointer (some ⟨g, 0, none⟩) := by simpa using hp
  have hl := run_loadVar_row (P := Try.prog) w g 51 51 cs (0, 0) _ hg Try.underlying51 rfl (by rw [hz]; kernel_rfl)
  simp [results, h, hp', asAddr, hl]
theorem for_any (w : World) (k n : Int) (hn : 0 ≤ n ∧ n ≤ 16) : Calls Try.prog 18 #[.int .i64 k, .int .i64 n] w fun e w' => e = .returned (.agg (seC (mkS k n))) ∧ Below w.heap.size w w' := by
  have HF : Hid (∀ w : World, Calls Try.prog 34 #[.int .i64 k, .int .i64 n] w fun e w' => e = .returned (.int .i64 (firV k n)) ∧ w' = w) := fun w => first_any w k n hn
  unfold mkS
  generalize firV k n = f at *
  clear hn
  go_enter Try.func18, Try.ntmps18
  go_wp2_with fail
  refine (HF.out _).mono ?_
  rintro e w1 ⟨rfl, rfl⟩
  go_wp2_with fail
  exact ret_se rfl rfl (heap_alloc_new _ _) rfl rfl ⟨rfl, below_a1 _ _⟩
/-- A look as it lies within a block. -/
structure SeAt (w : World) (X o : Nat) (t : TypeId) (pre suf : Array Value) (s : Se) : Prop where
  hp : pre.size = o
  row : w.heap[X]? = some (.cells (pre ++ seC s ++ suf) t (0, 0))
theorem se_get {pre suf : Array Value} (s : Se) (j : Nat) (hj : j < 7) : (pre ++ seC s ++ suf)[pre.size + j]? = (seC s)[j]? := by
  have h7 : (seC s).size = 7 := rfl
  rw [Array.getElem?_append_left (by simp [h7]; omega), Array.getElem?_append_right (by omega)]
  simp
theorem se_set {pre suf : Array Value} (s : Se) (j : Nat) (v : Value) (hj : j < 7) : (pre ++ seC s ++ suf).setIfInBounds (pre.size + j) v = pre ++ (seC s).setIfInBounds j v ++ suf := by
  have h7 : (seC s).size = 7 := rfl
  apply Array.ext_getElem?
  intro i
  rw [Array.getElem?_setIfInBounds]
  by_cases h1 : i < pre.size
  · rw [if_neg (by omega), Array.getElem?_append_left (by simp [h7]; omega), Array.getElem?_append_left h1, Array.getElem?_append_left (by simp [h7]; omega), Array.getElem?_append_left h1]
  · by_cases h2 : i < pre.size + 7
    · rw [Array.getElem?_append_left (xs := pre ++ (seC s).setIfInBounds j v) (by simp [h7]; omega), Array.getElem?_append_right (xs := pre) (by omega), Array.getElem?_setIfInBounds, Array.getElem?_append_left (xs := pre ++ seC s) (by simp [h7]; omega), Array.getElem?_append_right (xs := pre) (by omega)]
      by_cases h3 : pre.size + j = i
      · subst h3
        have h4 : pre.size + j < (pre ++ seC s ++ suf).size := by simp [h7]; omega
        rw [if_pos rfl, if_pos h4, if_pos (by omega), if_pos (by omega)]
      · rw [if_neg h3, if_neg (by omega)]
    · rw [if_neg (by omega), Array.getElem?_append_right (xs := pre ++ seC s) (by simp [h7]; omega), Array.getElem?_append_right (xs := pre ++ (seC s).setIfInBounds j v) (by simp [h7]; omega)]
      simp
theorem SeAt.cell {w : World} {X o : Nat} {t : TypeId} {pre suf : Array Value} {s : Se} (h : SeAt w X o t pre suf s) : w.cell? ⟨X, o, none⟩ = some (.int .i64 s.key) ∧ w.cell? ⟨X, o + 1, none⟩ = some (.int .i64 s.most) ∧ w.cell? ⟨X, o + 2, none⟩ = some (.int .i64 s.left) ∧ w.cell? ⟨X, o + 3, none⟩ = some (.int .i64 s.slot) ∧ w.cell? ⟨X, o + 4, none⟩ = some (.int .i64 s.asked) ∧ w.cell? ⟨X, o + 5, none⟩ = some (.int .i64 s.free) ∧ w.cell? ⟨X, o + 6, none⟩ = some (.int .i64 s.found) := by
  have e : ∀ j, j < 7 → w.cell? ⟨X, o + j, none⟩ = (seC s)[j]? := fun j hj => by rw [cell_at h.row, ← h.hp]; exact se_get s j hj
  exact ⟨e 0 (by decide), e 1 (by decide), e 2 (by decide), e 3 (by decide), e 4 (by decide), e 5 (by decide), e 6 (by decide)⟩
theorem SeAt.frz {w : World} {X o : Nat} {t : TypeId} {pre suf : Array Value} {s : Se} (h : SeAt w X o t pre suf s) (j : Nat) : w.frozen? ⟨X, o + j, none⟩ = false := frozen_at h.row (o + j)
theorem SeAt.set {w : World} {X o : Nat} {t : TypeId} {pre suf : Array Value} {s s' : Se} (h : SeAt w X o t pre suf s) (j : Nat) (hj : j < 7) (v : Int) (hs : (seC s).setIfInBounds j (.int .i64 v) = seC s') : SeAt (w.setCell ⟨X, o + j, none⟩ (.int .i64 v)) X o t pre suf s' :=
  ⟨h.hp, by rw [heap_set h.row, ← h.hp, se_set s j _ hj, hs]⟩
theorem kp_set {w w' : World} {X j : Nat} {v : Value} (h : Keep [X] w w') : Keep [X] w (w'.setCell ⟨X, j, none⟩ v) := h.setCell _ _ (Or.inl (by simp))
theorem takefree_any {w : World} {X o : Nat} {t : TypeId} {pre suf : Array Value} {s : Se} (h : SeAt w X o t pre suf s) : Calls Try.prog 39 #[.pointer (some ⟨X, o, none⟩)] w fun e w' => e = .returned (.tuple #[]) ∧ SeAt w' X o t pre suf (freeS s) ∧ Keep [X] w w' := by
  have hx : X < w.heap.size := heap_lt h.row
  obtain ⟨c0, c1, c2, c3, c4, c5, c6⟩ := h.cell
  have f5 := h.frz 5
  by_cases hf : s.free = -1
  · have HS : Hid (SeAt (w.setCell ⟨X, o + 5, none⟩ (.int .i64 s.slot)) X o t pre suf (freeS s)) := by unfold freeS; rw [if_pos hf]; exact h.set 5 (by decide) _ rfl
    rw [hf] at c5
    clear h hf
    go_enter Try.func39, Try.ntmps39
    go_wp2_with fail
    first | refine bodyPost_end (results_none rfl _ _ _) rfl ?_ | refine bodyPost_ret (results_none rfl _ _ _) rfl ?_
    exact ⟨rfl, HS.out, kp_set (Keep.refl _ _)⟩
  · have HS : Hid (SeAt w X o t pre suf (freeS s)) := by unfold freeS; rw [if_neg hf]; exact h
    have d : (s.free == -1) = false := by simpa using hf
    clear h hf
    go_enter Try.func39, Try.ntmps39
    go_wp2_with fail
    first | refine bodyPost_end (results_none rfl _ _ _) rfl ?_ | refine bodyPost_ret (results_none rfl _ _ _) rfl ?_
    exact ⟨rfl, HS.out, Keep.refl _ _⟩
theorem SeAt.drawn {w : World} {X o : Nat} {t : TypeId} {pre suf : Array Value} {s : Se} (h : SeAt w X o t pre suf s) (n : Nat) : SeAt (w.drewN n) X o t pre suf s := ⟨h.hp, h.row⟩
theorem kp_drawn {w w' : World} {X : Nat} (h : Keep [X] w w') (n : Nat) : Keep [X] w (w'.drewN n) := h.trans (Keep.of_below (below_drawn (Below.refl _ _) _) []) (by simp)
theorem walk_any {w : World} {X o : Nat} {t : TypeId} {pre suf : Array Value} {s : Se} (h : SeAt w X o t pre suf s) (hs : 0 ≤ s.slot ∧ s.slot ≤ 16) (hl : 0 < s.left ∧ s.left ≤ 16) : Calls Try.prog 40 #[.pointer (some ⟨X, o, none⟩)] w fun e w' => e = .returned (.tuple #[]) ∧ SeAt w' X o t pre suf (walkS s) ∧ Keep [X] w w' := by
  have hx : X < w.heap.size := heap_lt h.row
  obtain ⟨c0, c1, c2, c3, c4, c5, c6⟩ := h.cell
  have f3 := h.frz 3
  have w1 : wrap64 (s.slot + 1) = s.slot + 1 := by unfold wrap64; omega
  have w2 : wrap64 (s.left - 1) = s.left - 1 := by unfold wrap64; omega
  have HW : Hid (walkS s = ⟨s.key, s.most, s.left - 1, if s.slot + 1 = s.most then 0 else s.slot + 1, 0, s.free, s.found⟩) := rfl
  have HS : Hid (∀ n, SeAt ((w.setCell ⟨X, o + 3, none⟩ (.int .i64 (s.slot + 1))).drewN n) X o t pre suf { s with slot := s.slot + 1 } ∧ Keep [X] w ((w.setCell ⟨X, o + 3, none⟩ (.int .i64 (s.slot + 1))).drewN n)) := fun n => ⟨(h.set 3 (by decide) (s.slot + 1) (s' := { s with slot := s.slot + 1 }) rfl).drawn n, kp_drawn (kp_set (Keep.refl _ _)) n⟩
  clear h hs hl
  go_enter Try.func40, Try.ntmps40
  go_wp2_with fail
  go_quiet (fail)
  obtain ⟨wx, hwx⟩ : ∃ wx, wx = (w.setCell ⟨X, o + 3, none⟩ (.int .i64 (s.slot + 1))).drewN nq := ⟨_, rfl⟩
  have HX : Hid (SeAt wx X o t pre suf { s with slot := s.slot + 1 } ∧ Keep [X] w wx) := by rw [hwx]; exact HS.out nq
  rw [w1, ← hwx]
  obtain ⟨e0, e1, e2, e3, e4, e5, e6⟩ := HX.out.1.cell
  have hx2 : X < wx.heap.size := heap_lt HX.out.1.row
  have f2 := HX.out.1.frz 2
  have f3 := HX.out.1.frz 3
  have f4 := HX.out.1.frz 4
  simp only at e0 e1 e2 e3 e4 e5 e6
  clear hwx c0 c1 c2 c3 c4 c5 c6 hx HS
  by_cases hf : s.slot + 1 = s.most
  · have d : (s.slot + 1 == s.most) = true := by simpa using hf
    have HE : Hid (SeAt (((wx.setCell ⟨X, o + 3, none⟩ (.int .i64 0)).setCell ⟨X, o + 4, none⟩ (.int .i64 0)).setCell ⟨X, o + 2, none⟩ (.int .i64 (s.left - 1))) X o t pre suf (walkS s) ∧ Keep [X] w (((wx.setCell ⟨X, o + 3, none⟩ (.int .i64 0)).setCell ⟨X, o + 4, none⟩ (.int .i64 0)).setCell ⟨X, o + 2, none⟩ (.int .i64 (s.left - 1)))) := by
      rw [HW.out, if_pos hf]
      exact ⟨((HX.out.1.set 3 (by decide) _ (s' := { s with slot := 0 }) rfl).set 4 (by decide) _ (s' := { s with slot := 0, asked := 0 }) rfl).set 2 (by decide) _ rfl, kp_set (kp_set (kp_set HX.out.2))⟩
    clear hf w1
    go_wp2_with fail
    first | refine bodyPost_end (results_none rfl _ _ _) rfl ?_ | refine bodyPost_ret (results_none rfl _ _ _) rfl ?_
    exact ⟨rfl, HE.out⟩
  · have d : (s.slot + 1 == s.most) = false := by simpa using hf
    have HE : Hid (SeAt ((wx.setCell ⟨X, o + 4, none⟩ (.int .i64 0)).setCell ⟨X, o + 2, none⟩ (.int .i64 (s.left - 1))) X o t pre suf (walkS s) ∧ Keep [X] w ((wx.setCell ⟨X, o + 4, none⟩ (.int .i64 0)).setCell ⟨X, o + 2, none⟩ (.int .i64 (s.left - 1)))) := by
      rw [HW.out, if_neg hf]
      exact ⟨(HX.out.1.set 4 (by decide) _ (s' := { s with slot := s.slot + 1, asked := 0 }) rfl).set 2 (by decide) _ rfl, kp_set (kp_set HX.out.2)⟩
    clear hf w1
    go_wp2_with fail
    first | refine bodyPost_end (results_none rfl _ _ _) rfl ?_ | refine bodyPost_ret (results_none rfl _ _ _) rfl ?_
    exact ⟨rfl, HE.out⟩
theorem go_zero {s : Se} (h : ¬ 0 < s.left) (v : Int) : goS s v = ({ s with left := 0 }, 0, false) := by unfold goS; rw [if_neg h]
theorem go_ask {s : Se} (h : 0 < s.left) (ha : s.asked = 0) (v : Int) : goS s v = ({ s with asked := 1 }, clV s.slot 0, true) := by unfold goS clV; rw [if_pos h, if_pos ha]; simp
theorem go_there {s : Se} (h : 0 < s.left) (ha : s.asked = 1) : goS s 1 = ({ s with asked := 2 }, clV s.slot 1, true) := by
  unfold goS clV
  rw [if_pos h, if_neg (by omega), if_pos ha, if_pos rfl]
  have : 2 + 3 * s.slot = 1 + 3 * s.slot + 1 := by omega
  rw [this]
theorem go_empty {s : Se} (h : 0 < s.left) (ha : s.asked = 1) : goS s 0 = ({ freeS s with left := 0 }, 0, false) := by
  unfold goS
  rw [if_pos h, if_neg (by omega), if_pos ha, if_neg (by decide), if_pos rfl]
theorem ask_go {s : Se} (h : s.asked = 0) (v : Int) : goS s v = askS s := by
  unfold goS askS
  rw [if_pos h]
theorem go_gone {s : Se} (h : 0 < s.left) (ha : s.asked = 1) {v : Int} (h1 : v ≠ 1) (h0 : v ≠ 0) : goS s v = goS (walkS (freeS s)) v := by
  rw [ask_go (s := walkS (freeS s)) rfl]
  unfold goS
  rw [if_pos h, if_neg (by omega), if_pos ha, if_neg h1, if_neg h0]
theorem go_found {s : Se} (h : 0 < s.left) (ha : s.asked = 2) : goS s s.key = ({ s with found := s.slot, left := 0 }, 0, false) := by
  unfold goS
  rw [if_pos h, if_neg (by omega), if_neg (by omega), if_pos rfl]
theorem go_other {s : Se} (h : 0 < s.left) (ha : s.asked = 2) {v : Int} (hv : v ≠ s.key) : goS s v = goS (walkS s) v := by
  rw [ask_go (s := walkS s) rfl]
  unfold goS
  rw [if_pos h, if_neg (by omega), if_neg (by omega), if_neg hv]
theorem walk_less {s : Se} (h : 0 < s.left) : (walkS s).left.toNat < s.left.toNat := by
  simp only [walkS]
  omega
set_option maxRecDepth 10000 in
theorem snext_any {w : World} {X o : Nat} {t : TypeId} {pre suf : Array Value} {s : Se} (h : SeAt w X o t pre suf s) (ok : OkS s) (v : Int) : Calls Try.prog 28 #[.pointer (some ⟨X, o, none⟩), .int .i64 v] w fun e w' => e = .returned (.tuple #[.int .i64 (goS s v).2.1, .bool (goS s v).2.2]) ∧ SeAt w' X o t pre suf (goS s v).1 ∧ Keep [X] w w' := by
  have HT : Hid (∀ (w : World) (s : Se), SeAt w X o t pre suf s → Calls Try.prog 39 #[.pointer (some ⟨X, o, none⟩)] w fun e w' => e = .returned (.tuple #[]) ∧ SeAt w' X o t pre suf (freeS s) ∧ Keep [X] w w') := fun w s h => takefree_any h
  have HK : Hid (∀ (w : World) (s : Se), SeAt w X o t pre suf s → OkS s → 0 < s.left → Calls Try.prog 40 #[.pointer (some ⟨X, o, none⟩)] w fun e w' => e = .returned (.tuple #[]) ∧ SeAt w' X o t pre suf (walkS s) ∧ Keep [X] w w') := fun w s h ok hl => walk_any h ok.st ⟨hl, ok.l.2⟩
  have HC : Hid (∀ (w : World) (s : Se) (p : Int), OkS s → 0 ≤ p ∧ p ≤ 2 → Calls Try.prog 20 #[.int .i64 s.slot, .int .i64 p] w fun e w' => e = .returned (.int .i64 (clV s.slot p)) ∧ w' = w) := fun w s p ok hp => cellof_any w _ _ ⟨by have := ok.st; omega, ok.st.2⟩ hp
  obtain ⟨r, hr⟩ : ∃ r, goS s v = r := ⟨_, rfl⟩
  rw [hr]
  have HR : Hid (goS s v = r) := hr
  have HS : Hid (SeAt w X o t pre suf s ∧ OkS s) := ⟨h, ok⟩
  clear h ok hr
  go_enter Try.func28, Try.ntmps28
  go_wp2_with fail
  go_step3
  go_wp2_with fail
  go_step3
  go_wp2_with fail
  go_loopg [] s.left.toNat (fun gh wr => ∃ s1 : Se, s1.left.toNat = gh ∧ SeAt wr X o t pre suf s1 ∧ OkS s1 ∧ goS s1 v = r ∧ Keep [X] w wr)
  case atStart => exact ⟨s, rfl, HS.out.1, HS.out.2, HR.out, Keep.refl _ _⟩
  case round =>
    obtain ⟨s1, rfl, hs1, hok, hgo, hk⟩ := hrel
    have HS1 : Hid (SeAt wr X o t pre suf s1 ∧ OkS s1 ∧ Keep [X] w wr) := ⟨hs1, hok, hk⟩
    obtain ⟨c0, c1, c2, c3, c4, c5, c6⟩ := hs1.cell
    have hx : X < wr.heap.size := heap_lt hs1.row
    have f2 := hs1.frz 2
    have f4 := hs1.frz 4
    have f6 := hs1.frz 6
    have ha := hok.a
    clear hs1 hok hk HS HR
    by_cases hl : 0 < s1.left
    · have d1 : decide (0 < s1.left) = true := by simpa using hl
      rcases ha with ha | ha | ha
      · obtain rfl : ({ s1 with asked := 1 }, clV s1.slot 0, true) = r := by rw [← hgo, go_ask hl ha]
        rw [ha] at c4
        have HE : Hid (SeAt (wr.setCell ⟨X, o + 4, none⟩ (.int .i64 1)) X o t pre suf { s1 with asked := 1 } ∧ Keep [X] w (wr.setCell ⟨X, o + 4, none⟩ (.int .i64 1))) := ⟨HS1.out.1.set 4 (by decide) _ rfl, kp_set HS1.out.2.2⟩
        clear hgo ha hl
        go_wp2_with fail
        refine (HC.out _ s1 _ HS1.out.2.1 (by decide)).mono ?_
        rintro e w2 ⟨rfl, rfl⟩
        go_wp2_with fail
        try rw [Exit.noGoto_ret]
        go_ret2
        exact ⟨rfl, HE.out⟩
      · by_cases h1 : v = 1
        · subst h1
          obtain rfl : ({ s1 with asked := 2 }, clV s1.slot 1, true) = r := by rw [← hgo, go_there hl ha]
          rw [ha] at c4
          have HE : Hid (SeAt (wr.setCell ⟨X, o + 4, none⟩ (.int .i64 2)) X o t pre suf { s1 with asked := 2 } ∧ Keep [X] w (wr.setCell ⟨X, o + 4, none⟩ (.int .i64 2))) := ⟨HS1.out.1.set 4 (by decide) _ rfl, kp_set HS1.out.2.2⟩
          clear hgo ha hl
          go_wp2_with fail
          refine (HC.out _ s1 _ HS1.out.2.1 (by decide)).mono ?_
          rintro e w2 ⟨rfl, rfl⟩
          go_wp2_with fail
          try rw [Exit.noGoto_ret]
          go_ret2
          exact ⟨rfl, HE.out⟩
        · by_cases h0 : v = 0
          · subst h0
            obtain rfl : ({ freeS s1 with left := 0 }, 0, false) = r := by rw [← hgo, go_empty hl ha]
            rw [ha] at c4
            clear hgo ha hl h1
            go_wp2_with fail
            refine (HT.out _ _ HS1.out.1).mono ?_
            rintro e w2 ⟨rfl, hs2, hk2⟩
            have HE : Hid (SeAt (w2.setCell ⟨X, o + 2, none⟩ (.int .i64 0)) X o t pre suf { freeS s1 with left := 0 } ∧ Keep [X] w (w2.setCell ⟨X, o + 2, none⟩ (.int .i64 0))) := ⟨hs2.set 2 (by decide) _ rfl, kp_set (HS1.out.2.2.trans hk2 (by simp))⟩
            have g2 := hs2.frz 2
            have hx2 : X < w2.heap.size := heap_lt hs2.row
            have e2 := hs2.cell.2.2.1
            clear hs2 hk2 c0 c1 c2 c3 c4 c5 c6 f2 f4 f6
            go_wp2_with fail
            try rw [Exit.noGoto_ret]
            go_ret2
            exact ⟨rfl, HE.out⟩
          · have HG : Hid (goS (walkS (freeS s1)) v = r) := by rw [← hgo, go_gone hl ha h1 h0]; exact rfl
            rw [ha] at c4
            have HL : Hid (0 < s1.left) := hl
            have b1 : (v == 1) = false := by simpa using h1
            have b0 : (v == 0) = false := by simpa using h0
            clear hgo ha hl h1 h0
            go_wp2_with fail
            refine (HT.out _ _ HS1.out.1).mono ?_
            rintro e w2 ⟨rfl, hs2, hk2⟩
            have HS2 : Hid (SeAt w2 X o t pre suf (freeS s1) ∧ Keep [X] w w2) := ⟨hs2, HS1.out.2.2.trans hk2 (by simp)⟩
            have HO2 : Hid (OkS (freeS s1) ∧ 0 < (freeS s1).left) := ⟨ok_free HS1.out.2.1 HL.out, by rw [(free_keeps s1).2.2.1]; exact HL.out⟩
            clear hs2 hk2 c0 c1 c2 c3 c4 c5 c6 f2 f4 f6
            go_wp2_with fail
            refine (HK.out _ _ HS2.out.1 HO2.out.1 HO2.out.2).mono ?_
            rintro e w3 ⟨rfl, hs3, hk3⟩
            have HS3 : Hid (SeAt w3 X o t pre suf (walkS (freeS s1)) ∧ Keep [X] w w3) := ⟨hs3, HS2.out.2.trans hk3 (by simp)⟩
            clear hs3 hk3
            go_wp2_with fail
            go_roundg ((walkS (freeS s1)).left.toNat)
            case rel => exact ⟨_, rfl, HS3.out.1, ok_walk HO2.out.1 HO2.out.2, HG.out, HS3.out.2⟩
            case measure => have := walk_less HO2.out.2; rw [(free_keeps s1).2.2.1] at this; exact this
      · by_cases hk : v = s1.key
        · subst hk
          obtain rfl : ({ s1 with found := s1.slot, left := 0 }, 0, false) = r := by rw [← hgo, go_found hl ha]
          rw [ha] at c4
          have HE : Hid (SeAt ((wr.setCell ⟨X, o + 6, none⟩ (.int .i64 s1.slot)).setCell ⟨X, o + 2, none⟩ (.int .i64 0)) X o t pre suf { s1 with found := s1.slot, left := 0 } ∧ Keep [X] w ((wr.setCell ⟨X, o + 6, none⟩ (.int .i64 s1.slot)).setCell ⟨X, o + 2, none⟩ (.int .i64 0))) := ⟨(HS1.out.1.set 6 (by decide) _ (s' := { s1 with found := s1.slot }) rfl).set 2 (by decide) _ rfl, kp_set (kp_set HS1.out.2.2)⟩
          clear hgo ha hl
          go_wp2_with fail
          try rw [Exit.noGoto_ret]
          go_ret2
          exact ⟨rfl, HE.out⟩
        · have HG : Hid (goS (walkS s1) v = r) := by rw [← hgo, go_other hl ha hk]; exact rfl
          rw [ha] at c4
          have HL : Hid (0 < s1.left) := hl
          have b1 : (v == s1.key) = false := by simpa using hk
          clear hgo ha hl hk
          go_wp2_with fail
          refine (HK.out _ _ HS1.out.1 HS1.out.2.1 HL.out).mono ?_
          rintro e w3 ⟨rfl, hs3, hk3⟩
          have HS3 : Hid (SeAt w3 X o t pre suf (walkS s1) ∧ Keep [X] w w3) := ⟨hs3, HS1.out.2.2.trans hk3 (by simp)⟩
          clear hs3 hk3
          go_wp2_with fail
          go_roundg ((walkS s1).left.toNat)
          case rel => exact ⟨_, rfl, HS3.out.1, ok_walk HS1.out.2.1 HL.out, HG.out, HS3.out.2⟩
          case measure => exact walk_less HL.out
    · have d1 : decide (0 < s1.left) = false := by simpa using hl
      obtain rfl : ({ s1 with left := 0 }, 0, false) = r := by rw [← hgo, go_zero hl]
      have HE : Hid (SeAt (wr.setCell ⟨X, o + 2, none⟩ (.int .i64 0)) X o t pre suf { s1 with left := 0 } ∧ Keep [X] w (wr.setCell ⟨X, o + 2, none⟩ (.int .i64 0))) := ⟨HS1.out.1.set 2 (by decide) _ rfl, kp_set HS1.out.2.2⟩
      clear hgo ha hl
      go_wp2_with fail
      try rw [Exit.noGoto_ret]
      go_ret2
      exact ⟨rfl, HE.out⟩
end Go.Proofs.Ytbajgbknjmbimab.Di
