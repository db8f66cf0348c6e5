/- The document's machine of layer 8: the loads that it keeps, as numbers; the words of a signature that aren't 0. -/
import Derived.Test.YtfbbcjlbelnfaaaJCqSCqE
import Derived.Test.YtfbbcjlbelnfaaaJSigVSigL
namespace Go.Proofs.Ytfbbcjlbelnfaaa
open Go.ChangeShapes Go.WideShapes Go.ChangeAt Go.RowKit
attribute [local go_sem ↓] Go.wp_at_zero Go.wp_at_succ

/-! ### the loads -/
def runK (P : Cp) (l : List Int) : Ck := l.foldl (stepK P) (ckNew P)
theorem runK_nil (P : Cp) : runK P [] = ckNew P := rfl
theorem runK_snoc (P : Cp) (l : List Int) (v : Int) : runK P (l ++ [v]) = stepK P (runK P l) v := by unfold runK; rw [List.foldl_append]; rfl
theorem runK_take (P : Cp) (l : List Int) (k : Nat) (h : k < l.length) : runK P (l.take (k + 1)) = stepK P (runK P (l.take k)) (l.getD k 0) := by
  rw [List.take_add_one, ← runK_snoc]
  congr 2
  simp [h]
/-- These loads were made, one behind the other, none of which waits. -/
structure LKk (P : Cp) (l : List Int) : Prop where
  w : ∀ x ∈ l, W64 x
  ok : ∀ k, k ≤ l.length → KOk P (runK P (l.take k)) k
  go : ∀ k, k < l.length → ¬ thr (runK P (l.take k)) ∧ waitK (runK P (l.take k)) (l.getD k 0) = false
theorem lkk_nil {P : Cp} (h : POk P) : LKk P [] := by
  refine ⟨fun x hx => by simp at hx, fun k hk => ?_, fun k hk => by simp at hk⟩
  obtain rfl : k = 0 := by simpa using hk
  exact kok_new h
theorem LKk.all {P : Cp} {l : List Int} (h : LKk P l) : KOk P (runK P l) l.length := by
  have := h.ok l.length (Nat.le_refl _)
  rwa [List.take_length] at this
theorem lkk_snoc {P : Cp} {l : List Int} {v : Int} (h : LKk P l) (hv : W64 v) (ht : ¬ thr (runK P l)) (hw : waitK (runK P l) v = false) : LKk P (l ++ [v]) := by
  refine ⟨fun x hx => ?_, fun k hk => ?_, fun k hk => ?_⟩
  · rcases List.mem_append.1 hx with h1 | h1
    · exact h.w x h1
    · simp at h1; subst h1; exact hv
  · by_cases e : k ≤ l.length
    · rw [List.take_append_of_le_length e]; exact h.ok k e
    · obtain rfl : k = l.length + 1 := by simp at hk; omega
      rw [List.take_of_length_le (by simp), runK_snoc]
      have := kok_step h.all hv ht
      rw [hw] at this
      exact this
  · by_cases e : k < l.length
    · have e2 : (l ++ [v]).getD k 0 = l.getD k 0 := by simp only [List.getD_eq_getElem?_getD, List.getElem?_append_left e]
      rw [List.take_append_of_le_length (by omega), e2]; exact h.go k e
    · obtain rfl : k = l.length := by simp at hk; omega
      rw [List.take_append_of_le_length (Nat.le_refl _), List.take_length]
      have : (l ++ [v]).getD l.length 0 = v := by simp
      rw [this]
      exact ⟨ht, hw⟩
/-- Where it is through, no load is left. -/
theorem LKk.last {P : Cp} {l : List Int} (h : LKk P l) {k : Nat} (hk : k ≤ l.length) (ht : thr (runK P (l.take k))) : k = l.length := by
  by_cases e : k < l.length
  · exact absurd ht (h.go k e).1
  · omega
/-- The numbers of the words. -/
theorem wds_get (rd : List Nat) (k j : Nat) (hk : k ≤ 8) (hj : j < (wdsF rd k).length) : (wdsF rd k).getD j 8 < 8 ∧ k ≤ (wdsF rd k).getD j 8 ∧ nxW rd ((wdsF rd k).getD j 8 + 1) = (wdsF rd k).getD (j + 1) 8 := by
  by_cases e : k = 8
  · subst e; rw [wdsF_end] at hj; simp at hj
  · by_cases hr : rd.getD k 0 = 0
    · rw [wdsF_no (by omega) hr] at hj ⊢
      have := wds_get rd (k + 1) j (by omega) hj
      exact ⟨this.1, by omega, this.2.2⟩
    · rw [wdsF_yes (by omega) hr] at hj ⊢
      cases j with
      | zero =>
        simp only [List.getD_cons_zero, List.getD_cons_succ]
        refine ⟨by omega, by omega, ?_⟩
        unfold nxW
        cases wdsF rd (k + 1) <;> rfl
      | succ j =>
        simp only [List.getD_cons_succ]
        have := wds_get rd (k + 1) j (by omega) (by simpa using hj)
        exact ⟨this.1, by omega, this.2.2⟩
termination_by 8 - k
theorem wds_first (rd : List Nat) : nxW rd 0 = (wdsF rd 0).getD 0 8 := by
  unfold nxW
  cases wdsF rd 0 <;> rfl
theorem wds_nil {rd : List Nat} (h : Sg.Ok rd) : wdsF rd 0 = [] ↔ rd = Sg.nought := by
  constructor
  · intro e
    have hz : ∀ j, j < 8 → rd.getD j 0 = 0 := fun j hj => by
      have hm : j ∉ wdsF rd 0 := by rw [e]; simp
      unfold wdsF at hm
      simp only [List.mem_filter, not_and] at hm
      have := hm (by simp [List.mem_range'_1]; omega)
      simpa using this
    obtain ⟨hl, _⟩ := h
    rcases rd with _ | ⟨a0, _ | ⟨a1, _ | ⟨a2, _ | ⟨a3, _ | ⟨a4, _ | ⟨a5, _ | ⟨a6, _ | ⟨a7, _ | ⟨a8, r⟩⟩⟩⟩⟩⟩⟩⟩⟩ <;> simp at hl
    have h0 := hz 0 (by omega)
    have h1 := hz 1 (by omega)
    have h2 := hz 2 (by omega)
    have h3 := hz 3 (by omega)
    have h4 := hz 4 (by omega)
    have h5 := hz 5 (by omega)
    have h6 := hz 6 (by omega)
    have h7 := hz 7 (by omega)
    simp at h0 h1 h2 h3 h4 h5 h6 h7
    subst h0 h1 h2 h3 h4 h5 h6 h7
    rfl
  · rintro rfl
    decide
/-- The first j words. -/
def wdsT (rd : List Nat) (j : Nat) : List Nat := (List.range j).filter fun i => rd.getD i 0 != 0
theorem wdsT_all (rd : List Nat) : wdsT rd 8 = wdsF rd 0 := by unfold wdsT wdsF; rw [List.range_eq_range']
theorem wdsT_yes {rd : List Nat} {j : Nat} (h : rd.getD j 0 ≠ 0) : wdsT rd (j + 1) = wdsT rd j ++ [j] := by
  unfold wdsT
  rw [List.range_succ, List.filter_append, List.filter_cons_of_pos (by simpa using h)]
  rfl
theorem wdsT_no {rd : List Nat} {j : Nat} (h : rd.getD j 0 = 0) : wdsT rd (j + 1) = wdsT rd j := by
  unfold wdsT
  rw [List.range_succ, List.filter_append, List.filter_cons_of_neg (by rw [h]; simp)]
  simp
theorem wdsT_len (rd : List Nat) (j : Nat) : (wdsT rd j).length ≤ j := by
  unfold wdsT
  have := List.length_filter_le (fun i => rd.getD i 0 != 0) (List.range j)
  simpa using this
theorem info_int8 : (Try.prog.info? 3).map (fun i => (i.zero, i.size, i.bytes)) = some (some (.int .i64 0), 1, 8) := by kernel_rfl
set_option maxRecDepth 10000 in
set_option maxHeartbeats 1600000 in
theorem words_any (w : World) (rd : List Nat) (hr : Sg.Ok rd) :
    Calls Try.prog 93 #[.agg #[rdV rd 0, rdV rd 1, rdV rd 2, rdV rd 3, rdV rd 4, rdV rd 5, rdV rd 6, rdV rd 7]] w fun e w' => ∃ u, e = .returned u ∧ w'.ownsRow w.heap.size 3 1 u (wdsF rd 0).length (Sg.iv (wdsF rd 0)) ∧ Below w.heap.size w w' := by
  obtain ⟨i0, hi, hz0, hz1, hz2⟩ := info_parts info_int8
  have hcs := rd_cells hr.1
  have HG : Hid (∀ j, j < 8 → (Sg.sc rd)[j]? = some (.int .u64 ((rd.getD j 0 : Nat) : Int))) := fun j hj => Sg.sc_get rd j (by rw [hr.1]; exact hj)
  rw [hcs]
  have HE : Hid (wdsT rd 8 = wdsF rd 0) := wdsT_all rd
  clear hr hcs
  generalize Sg.sc rd = cs at *
  go_enter Try.func93, Try.ntmps93
  go_wp2
  go_loopw [3, 4] (fun v i wr => ∃ k : Nat, k ≤ 8 ∧ i = .int .i64 k ∧ wr.heap[w.heap.size]? = some (.cells cs 27 (0, 0)) ∧ wr.ownsRow (w.heap.size + 1) 3 1 v (wdsT rd k).length (Sg.iv (wdsT rd k)) ∧ Below w.heap.size w wr) (fun _ i _ => 8 - (intOf i).toNat)
  case atStart => exact ⟨0, by omega, rfl, heap_alloc_new _ _, World.ownsRow_nil _ _ _ _, below_a1 _ _⟩
  case round =>
    obtain ⟨k, hk, rfl, hr, hown, hbel⟩ := hrel
    have HR : Hid (wr.heap[w.heap.size]? = some (.cells cs 27 (0, 0))) := hr
    have HW : Hid (wr.ownsRow (w.heap.size + 1) 3 1 u3 (wdsT rd k).length (Sg.iv (wdsT rd k))) := hown
    have HL : Hid (Below w.heap.size w wr) := hbel
    have hsz1 : w.heap.size + 1 ≤ wr.heap.size := heap_lt hr
    clear hr hown hbel
    by_cases hlt : k < 8
    · have d1 : decide ((k : Int) < 8) = true := by simp; omega
      have hlt' : (k : Int) < 8 := by omega
      have hck : wr.cell? ⟨w.heap.size, k, none⟩ = some (.int .u64 ((rd.getD k 0 : Nat) : Int)) := by rw [cell_at HR.out]; exact HG.out k hlt
      have hlen := wdsT_len rd k
      by_cases hz : rd.getD k 0 = 0
      · have HN : Hid (wdsT rd (k + 1) = wdsT rd k) := wdsT_no hz
        rw [hz] at hck
        clear hz
        go_wp2
        go_roundw
        case rel => exact ⟨k + 1, by omega, by go_num, HR.out, by rw [HN.out]; exact HW.out, HL.out⟩
        case measure => simp [intOf]; omega
      · have HN : Hid (wdsT rd (k + 1) = wdsT rd k ++ [k]) := wdsT_yes hz
        generalize rd.getD k 0 = z at hck hz
        have d2 : decide ((z : Int) = 0) = false := decide_eq_false (by omega)
        go_wp2_with (at_builtin; refine wpList_append_own _ rfl _ _ 63 rfl (w.heap.size + 1) 3 i0 (.int .i64 0) 1 8 Try.underlying63 hi hz0 hz1 hz2 rfl (by decide) _ _ _ rfl (HW.out.alloc _) ⟨wr.heap.size, 0, none⟩ 1 1 [.int .i64 (k : Int)] rfl rfl ?c1 ?c2 ?c3 ?c4 ?c5 ?_)
        case c1 => exact cell_one_new _ _ _
        case c2 => intro u hu; simp at hu; subst hu; rfl
        case c3 => unfold maxLen; omega
        case c4 => omega
        case c5 => simp; omega
        intro v' w2 hown' hgrow _
        have HW2 : Hid (w2.ownsRow (w.heap.size + 1) 3 1 v' (wdsT rd (k + 1)).length (Sg.iv (wdsT rd (k + 1)))) := by
          rw [HN.out, List.length_append, Sg.iv_app]; exact hown'
        have HR2 : Hid (w2.heap[w.heap.size]? = some (.cells cs 27 (0, 0))) := Sg.row_grown (row_on HR.out (below_a1 _ _)) (HW.out.alloc _) (by omega) hgrow
        have HL2 : Hid (Below w.heap.size w w2) := (below_alloc HL.out _).grown hgrow (by simp; omega) (fun b hb => by have := own_block HW.out b hb; omega)
        clear hown' hgrow
        go_wp2
        go_roundw
        case rel => exact ⟨k + 1, by omega, by go_num, HR2.out, HW2.out, HL2.out⟩
        case measure => simp [intOf]; omega
    · obtain rfl : k = 8 := by omega
      have d1 : decide (((8 : Nat) : Int) < 8) = false := by simp
      go_wp2
      go_ret
      rw [← HE.out]
      exact ⟨_, rfl, Sg.own_mono HW.out (by omega), HL.out⟩
end Go.Proofs.Ytfbbcjlbelnfaaa
