/- Does an order keep to time? -/
import Derived.Test.YtadollckekddgaaDoorHiU
import Derived.Sort.QuietIn
import Derived.BigRegionIn
namespace Go.Proofs.YtadollckekddgaaDoor.Hi
open Go.ChangeShapes Go.WideShapes Go.ChangeAt Go.RowKit Go.Shelf
attribute [local go_sem] Oper.semAt_some
set_option linter.unusedVariables false

theorem cells_kept {X Y : World} {B b : Nat} {row : Option Nat} {cs : Array Value} {t : TypeId} {fz : Nat × Nat} (h : X.heap[b]? = some (.cells cs t fz)) (hg : X.grownBy Y row) (hr : ∀ r, row = some r → B ≤ r ∧ ∃ o : Obj, X.heap[r]? = some o ∧ o.isCells = false) : Y.heap[b]? = some (.cells cs t fz) := by
  rw [hg.block b (heap_lt h) (fun e => by
    obtain ⟨_, o, ho, hc⟩ := hr b e.symm
    rw [h] at ho
    cases ho
    cases hc)]
  exact h
theorem below_kept {w X Y : World} {B : Nat} {row : Option Nat} (h : Below w.heap.size w X) (hB : w.heap.size ≤ B) (hg : X.grownBy Y row) (hr : ∀ r, row = some r → B ≤ r ∧ ∃ o : Obj, X.heap[r]? = some o ∧ o.isCells = false) : Below w.heap.size w Y :=
  h.grown hg h.size (fun k e => Nat.le_trans hB (hr k e).1)
theorem below_drew {B : Nat} {w w' : World} (h : Below B w w') : Below B w w'.drew := ⟨h.os, h.tape, h.output, h.size, h.block⟩
theorem keeps_drew {B : Nat} {w w' : World} (h : KeepsFrom B w w') : KeepsFrom B w w'.drew := ⟨h.size, h.same⟩
theorem results_cell_bool {W : World} {R : Nat} {x : Bool} {tmps : Array Value} (hp : tmps.getD 2 undef = .pointer (some ⟨R, 0, none⟩)) (hc : W.cell? ⟨R, 0, none⟩ = some (.bool x)) : (results Tryd.f18 tmps).run Tryd.prog W = .ok (.bool x) W := by
  have hp' : tmps[2]?.getD undef = .pointer (some ⟨R, 0, none⟩) := by simpa using hp
  simp [results, Tryd.results18, hp', asAddr, go_sem, hc]
theorem Save.drew {n₀ X : Nat} {W W' : World} (h : Save n₀ X W W') : Save n₀ X W W'.drew := ⟨h.os, h.tape, h.output, h.size, h.block⟩
theorem tim_step {l : List Tr} {j : Nat} (h : j < l.length) : timBack (l.drop j) = if (timBack (l.drop (j + 1))).2 = false ∨ (timBack (l.drop (j + 1))).1 < (nt l j).bg then ((timBack (l.drop (j + 1))).1, false) else (if 0 ≤ (nt l j).en then min (timBack (l.drop (j + 1))).1 (nt l j).en else (timBack (l.drop (j + 1))).1, true) := by
  have e : l.drop j = nt l j :: l.drop (j + 1) := by rw [List.drop_eq_getElem_cons h]; simp [nt, h]
  rw [e]
  rfl
theorem tim_false {l : List Tr} {j : Nat} (hj : j ≤ l.length) (h : (timBack (l.drop j)).2 = false) : timelyD l = false := by
  induction j with
  | zero => exact h
  | succ j ih =>
    refine ih (by omega) ?_
    rw [tim_step (by omega), if_pos (Or.inl h)]
set_option maxRecDepth 100000 in
set_option maxHeartbeats 2000000 in
theorem timely_any {w : World} {B : Nat} {v : Value} {l : List Tr} {b : Nat → Nat} {V : Nat → Value} (h : LAt w B v l b V) : Calls Tryd.prog 18 #[v] w fun e w' => e = .returned (.bool (timelyD l)) ∧ Below w.heap.size w w' := by
  refine (callsIn_wide (n := 4)).1 ?_
  have HH : Hid (LAt w B v l b V) := h
  have hn := h.n
  obtain ⟨sa, cap, rfl⟩ := own_slice h.row
  clear h
  refine callsIn_of_wp_marks Tryd.func18 rfl trivial ?_ rfl
  simp only [Tryd.ntmps18, List.size_toArray, List.length_cons, List.length_nil, Nat.reduceAdd, Nat.reduceSub, Array.replicate_succ, Array.replicate_zero, List.push_toArray, List.append_toArray, List.nil_append, List.cons_append]
  gi_wp2_with (first | (refine ⟨trivial, ?_⟩; gi_at_call 29; refine (callsIn_wide.2 (back_any _ _ _ _)).mono ?_; rintro e wx ⟨rfl, hx⟩; rw [hx]; clear hx wx))
  have hL0 := HH.out.later (below_alloc (below_alloc (below_a1 w (.cells #[.bool false] 4)) (.cells #[.int .i64 9223372036854775807] 3)) (.cells #[.slice sa l.length cap] 52))
  have bR : (((w.alloc (.cells #[.bool false] 4)).alloc (.cells #[.int .i64 9223372036854775807] 3)).alloc (.cells #[.slice sa l.length cap] 52)).heap[w.heap.size]? = some (.cells #[.bool false] 4 (0, 0)) := alloc_at _ (alloc_at _ (heap_alloc_new w _))
  have bX : (((w.alloc (.cells #[.bool false] 4)).alloc (.cells #[.int .i64 9223372036854775807] 3)).alloc (.cells #[.slice sa l.length cap] 52)).heap[w.heap.size + 1]? = some (.cells #[.int .i64 9223372036854775807] 3 (0, 0)) := alloc_at _ (heap_alloc2_new w _ _)
  have bN : (((w.alloc (.cells #[.bool false] 4)).alloc (.cells #[.int .i64 9223372036854775807] 3)).alloc (.cells #[.slice sa l.length cap] 52)).heap[w.heap.size + 2]? = some (.cells #[.slice sa l.length cap] 52 (0, 0)) := by
    have := heap_alloc_new ((w.alloc (.cells #[.bool false] 4)).alloc (.cells #[.int .i64 9223372036854775807] 3)) (.cells #[.slice sa l.length cap] 52)
    simpa using this
  have hB0 : Below w.heap.size w (((w.alloc (.cells #[.bool false] 4)).alloc (.cells #[.int .i64 9223372036854775807] 3)).alloc (.cells #[.slice sa l.length cap] 52)) := below_alloc (below_alloc (below_a1 _ _) _) _
  have hsz : (((w.alloc (.cells #[.bool false] 4)).alloc (.cells #[.int .i64 9223372036854775807] 3)).alloc (.cells #[.slice sa l.length cap] 52)).heap.size = w.heap.size + 3 := by simp
  obtain ⟨W0, hW0⟩ : ∃ W0, ((w.alloc (.cells #[.bool false] 4)).alloc (.cells #[.int .i64 9223372036854775807] 3)).alloc (.cells #[.slice sa l.length cap] 52) = W0 := ⟨_, rfl⟩
  rw [hW0] at hL0 bR bX bN hB0 hsz ⊢
  clear hW0
  obtain ⟨g, hsg, hgi, hgl⟩ : ∃ g, (0 < l.length → sa = some ⟨g, 0, none⟩) ∧ (∀ i, i < l.length → W0.cell? ⟨g, i, none⟩ = some (.pointer (some ⟨b i, 0, none⟩))) ∧ (0 < l.length → g < w.heap.size) := by
    rcases HH.out.row.2 with ⟨e, h0⟩ | ⟨g, cap', cur, e, _, hg, _⟩
    · exact ⟨0, fun h => by omega, fun i hi => by omega, fun h => by omega⟩
    · refine ⟨g, fun _ => by simp at e; exact e.1, fun i hi => ?_, fun _ => heap_lt hg⟩
      have := hL0.row
      rw [e] at this
      exact own_cells this i _ (ptrs_get b hi)
  have hcapl : l.length ≤ cap := by
    rcases HH.out.row.2 with ⟨e, h0⟩ | ⟨g, cap', cur, e, _, hg, h1, _⟩
    · omega
    · simp at e; rw [e.2]; exact h1
  refine wpIn_rangeFunc_ownH rfl (by omega) (gf := 47) (lb := #[.pointer (some ⟨w.heap.size + 2, 0, none⟩)]) rfl trivial (enters_of Tryd.func47 (by kernel_rfl) rfl)
    (back_stops (4 - 1) (by omega) (w.heap.size + 2) (w.heap.size + 3) (w.heap.size + 1) (g := g) (bs := b) hn hcapl hsg (by omega) (by omega) (fun h => by have := hgl h; omega) W0 (by omega) (by rw [cell_at bN]; simp) hgi)
    Save.trans (fun W l o o' hl _ _ _ => Save.putObj W l o' (by omega)) (Below.refl _ _) (fun _ => rfl)
    (fun pre W => w.heap.size + 3 ≤ W.heap.size ∧ W.heap[w.heap.size]? = some (.cells #[.bool false] 4 (0, 0)) ∧ (∃ z : Int, W.heap[w.heap.size + 1]? = some (.cells #[.int .i64 z] 3 (0, 0)) ∧ (pre.map (·.val) = (downs l.length).take pre.length → timBack (l.drop (l.length - pre.length)) = (z, true))) ∧ Below w.heap.size w W)
    (fun cd pre W => cd = Code.ret ∧ W.heap[w.heap.size]? = some (.cells #[.bool false] 4 (0, 0)) ∧ (pre.map (·.val) <+: downs l.length → timelyD l = false) ∧ Below w.heap.size w W)
    ?hI ?hIx ⟨by omega, bR, ⟨_, bX, fun _ => by simp [timBack]⟩, hB0⟩
    (fun x a' W => a' = { tmps := #[.slice sa l.length cap, undef, .pointer (some ⟨w.heap.size, 0, none⟩), .pointer (some ⟨w.heap.size + 1, 0, none⟩), undef, .pointer (some ⟨b x.val, 0, none⟩), .slice sa l.length cap, .func (.func 47) #[] #[.pointer (some ⟨w.heap.size + 2, 0, none⟩)], .int .i64 (x.val : Int), .pointer (some ⟨b x.val, 0, none⟩), undef, undef, undef, undef, undef, undef, undef, undef, undef, undef, undef, undef, undef, undef, undef, undef, undef, undef, undef, undef], defers := [] })
    ?hAx ?assign ?body ?done ?stop
  case hI =>
    rintro pre A B row ⟨h1, h2, ⟨z, h3, h4⟩, h5⟩ hg hr
    exact ⟨Nat.le_trans h1 hg.size, cells_kept h2 hg hr, ⟨z, cells_kept h3 hg hr, h4⟩, below_kept h5 (by omega) hg hr⟩
  case hIx =>
    rintro cd pre A B row ⟨h1, h2, h3, h4⟩ hg hr
    exact ⟨h1, cells_kept h2 hg hr, h3, below_kept h4 (by omega) hg hr⟩
  case hAx =>
    rintro x a' u A B row h hg hr
    exact h
  case assign =>
    rintro l' pre x W K ⟨h1, h2, h3, h4⟩ hK
    gi_wp2
    exact hK _ _ (KeepsFrom.refl _ _) (Save.refl _ _ _) ⟨h1, h2, h3, h4⟩ rfl
  case body =>
    rintro l' pre x a' W hl ⟨rr, hrr⟩ ⟨h1, h2, ⟨z, h3, h4⟩, h5⟩ rfl hlt
    have hLW := (HH.out.later h5).x x.val x.isLt
    have c0 : W.cell? ⟨w.heap.size, 0, none⟩ = some (.bool false) := by rw [cell_at h2]; rfl
    have f0 := frozen_at h2 0
    have c1 : W.cell? ⟨w.heap.size + 1, 0, none⟩ = some (.int .i64 z) := by rw [cell_at h3]; rfl
    have f1 := frozen_at h3 0
    have cb : W.cell? ⟨b x.val, 1, none⟩ = some (.int .i64 (nt l x.val).bg) := by rw [cell_at hLW.1.x]; rfl
    have ce : W.cell? ⟨b x.val, 2, none⟩ = some (.int .i64 (nt l x.val).en) := by rw [cell_at hLW.1.x]; rfl
    have HT : Hid ((pre ++ [x]).map (·.val) = (downs l.length).take (pre ++ [x]).length → timBack (l.drop (l.length - (pre ++ [x]).length)) = if z < (nt l x.val).bg then (z, false) else (if 0 ≤ (nt l x.val).en then min z (nt l x.val).en else z, true)) := fun hv => by
      rw [List.map_append, List.length_append] at hv
      simp only [List.map_cons, List.map_nil, List.length_cons, List.length_nil, Nat.zero_add] at hv
      rw [downs_take _ _ hlt] at hv
      obtain ⟨e1, e2⟩ := List.append_inj' hv rfl
      simp only [List.cons.injEq, and_true] at e2
      have ht := h4 e1
      rw [List.length_append, List.length_singleton, show l.length - (pre.length + 1) = x.val by omega, tim_step x.isLt, show x.val + 1 = l.length - pre.length by omega, ht]
      simp
    have HF : Hid (timBack (l.drop (l.length - (pre ++ [x]).length)) = (z, false) → timelyD l = false) := fun e => tim_false (j := l.length - (pre ++ [x]).length) (Nat.sub_le _ _) (by rw [e])
    have HPX : Hid ((pre ++ [x]).map (·.val) <+: downs l.length → (pre ++ [x]).map (·.val) = (downs l.length).take (pre ++ [x]).length) := fun hp => by
      have := List.prefix_iff_eq_take.mp hp
      rwa [List.length_map] at this
    clear hLW h4
    generalize (nt l x.val).bg = bg at *
    generalize (nt l x.val).en = en at *
    generalize b x.val = bx at *
    by_cases hz : z < bg
    · have hd : decide (z < bg) = true := by simpa using hz
      have HT2 : Hid ((pre ++ [x]).map (·.val) <+: downs l.length → timelyD l = false) := fun hp => HF.out (by rw [HT.out (HPX.out hp), if_pos hz])
      clear HT HF HPX hz
      gi_wp2
      gi_region
      all_goals gi_wp2
      all_goals exact ⟨keeps_drew ((KeepsOthers.setCell W _ _).from _), rfl, (by show (W.setCell _ _).heap[_]? = _; rw [heap_set h2]; rfl), HT2.out, below_drew (h5.setCell (by simp) _ : Below w.heap.size w (W.setCell ⟨w.heap.size, 0, none⟩ (.bool false)))⟩
    · have hd : decide (z < bg) = false := by simpa using hz
      by_cases he : 0 ≤ en
      · have hde : decide ((0 : Int) ≤ en) = true := by simpa using he
        have HT2 : Hid ((pre ++ [x]).map (·.val) = (downs l.length).take (pre ++ [x]).length → timBack (l.drop (l.length - (pre ++ [x]).length)) = (min z en, true)) := fun hv => by rw [HT.out hv, if_neg hz, if_pos he]
        clear HT HF HPX hz he
        obtain ⟨mm, hmm⟩ : ∃ mm, min z en = mm := ⟨_, rfl⟩
        rw [hmm] at HT2
        have hsp : (en < z ∧ mm = en) ∨ (¬ en < z ∧ mm = z) := by omega
        clear hmm
        rcases hsp with ⟨hle, rfl⟩ | ⟨hle, rfl⟩
        all_goals
          gi_wp2
          gi_region
        all_goals gi_wp2
        all_goals gi_region
        all_goals gi_wp2
        all_goals exact ⟨keeps_drew (keeps_drew ((KeepsOthers.setCell W _ _).from _)), (Save.setCell W _ _).drew.drew, by simpa [World.setCell] using h1, by show (W.setCell _ _).heap[_]? = _; rw [heap_set_other _ _ (by omega)]; exact h2, ⟨_, by show (W.setCell _ _).heap[_]? = _; rw [heap_set h3]; rfl, HT2.out⟩, below_drew (below_drew (h5.setCell (by simp) _))⟩
      · have hde : decide ((0 : Int) ≤ en) = false := by simpa using he
        have HT2 : Hid ((pre ++ [x]).map (·.val) = (downs l.length).take (pre ++ [x]).length → timBack (l.drop (l.length - (pre ++ [x]).length)) = (z, true)) := fun hv => by rw [HT.out hv, if_neg hz, if_neg he]
        clear HT HF HPX hz he
        gi_wp2
        gi_region
        all_goals gi_wp2
        all_goals exact ⟨keeps_drew (KeepsFrom.refl _ _), (Save.refl _ _ W).drew, h1, h2, ⟨z, h3, HT2.out⟩, below_drew h5⟩
  case done =>
    rintro D ys W hD hys ⟨h1, h2, ⟨z, h3, h4⟩, h5⟩ hK
    have c0 : W.cell? ⟨w.heap.size, 0, none⟩ = some (.bool false) := by rw [cell_at h2]; rfl
    have f0 := frozen_at h2 0
    have hT : timelyD l = true := by
      have e := h4 (by rw [hys, downsF_val, downsF_len, List.take_of_length_le (by rw [downs_len]; exact Nat.le_refl _)])
      rw [hys, downsF_len, Nat.sub_self, List.drop_zero] at e
      unfold timelyD
      rw [e]
    have hDW : w.heap.size ≠ D := by omega
    have hKs : (W.setCell ⟨w.heap.size, 0, none⟩ (.bool true)).heap[D]? = some (Obj.deferred (some [])) := by rw [heap_set_other _ _ hDW]; exact hK
    have hRs : (W.setCell ⟨w.heap.size, 0, none⟩ (.bool true)).heap[w.heap.size]? = some (.cells #[.bool true] 4 (0, 0)) := by rw [heap_set h2]; rfl
    have hBs : Below w.heap.size w (W.setCell ⟨w.heap.size, 0, none⟩ (.bool true)) := h5.setCell (by simp) _
    gi_wp2
    generalize W.setCell ⟨w.heap.size, 0, none⟩ (.bool true) = W2 at *
    refine ⟨by simp, .inl ⟨_, _, rfl, run_takeDeferred hKs, ?_⟩⟩
    have hR2 : (W2.putObj D (.deferred none)).heap[w.heap.size]? = some (.cells #[.bool true] 4 (0, 0)) := by rw [World.putObj_heap_other hDW]; exact hRs
    refine ⟨_, results_cell_bool (x := true) rfl (by rw [cell_at hR2]; rfl), by rw [hT], hBs.trans (belowK_b (w := w) (Nat.le_refl _) W2 D _ _ (by omega) hKs rfl rfl)⟩
  case stop =>
    rintro D cd pre W hD hpre ⟨rfl, h2, h3, h4⟩ hK
    have hT := h3 (by rw [← downsF_val]; exact hpre.map _)
    have c0 : W.cell? ⟨w.heap.size, 0, none⟩ = some (.bool false) := by rw [cell_at h2]; rfl
    have hDW : w.heap.size ≠ D := by omega
    gi_wp2
    refine ⟨by simp, .inl ⟨_, _, rfl, run_takeDeferred hK, ?_⟩⟩
    have hR2 : (W.putObj D (.deferred none)).heap[w.heap.size]? = some (.cells #[.bool false] 4 (0, 0)) := by rw [World.putObj_heap_other hDW]; exact h2
    refine ⟨_, results_cell_bool (x := false) rfl (by rw [cell_at hR2]; rfl), by rw [hT], h4.trans (belowK_b (w := w) (Nat.le_refl _) W D _ _ (by omega) hK rfl rfl)⟩
end Go.Proofs.YtadollckekddgaaDoor.Hi
