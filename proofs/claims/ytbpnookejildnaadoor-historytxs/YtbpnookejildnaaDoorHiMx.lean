/- Data: whose an event is, where a number stands in an order. -/
import Derived.Test.YtbpnookejildnaaDoorHiTm
namespace Go.Proofs.YtbpnookejildnaaDoor.Hi
open Go.ChangeShapes Go.WideShapes Go.ChangeAt Go.RowKit
set_option linter.unusedVariables false

theorem cnt_mono (H : List Ev) (kind tx : Int) {i j : Nat} (h : i ≤ j) : cntD H i kind tx ≤ cntD H j kind tx := by
  unfold cntD
  rw [show H.take i = (H.take j).take i by rw [List.take_take, Nat.min_eq_left h]]
  exact (List.take_sublist _ _).countP_le
theorem may_tx {H : List Ev} {i : Nat} (h : mayD H i = true) (hk : (ne H i).kd ≠ 7) : ∃ n : Nat, (ne H i).tx = (n : Int) ∧ n < cntD H i 7 (-1) := by
  unfold mayD mayF mayG at h
  dsimp only at h
  split at h
  · cases h
  · try rw [if_neg hk] at h
    split at h
    · cases h
    · exact ⟨(ne H i).tx.toNat, by omega, by omega⟩
theorem ok_pos {m : Nat} {o : List Int} (h : okOrd m o = true) {n : Nat} (hn : n < m) : ∃ p, p < o.length ∧ ni o p = (n : Int) := by
  have h1 := ((okOrd_takes m o).1 h).2 n hn
  rw [cntI_count] at h1
  have hm : (n : Int) ∈ o := by
    rw [← List.count_pos_iff]
    omega
  obtain ⟨p, hp, he⟩ := List.getElem_of_mem hm
  exact ⟨p, hp, by rw [← he]; simp [ni, hp]⟩
/-- timBack from the end tells whether any is late. -/
theorem tim_min (l : List Tr) : (timBack l).2 = true → ∀ i, i < l.length → 0 ≤ (nt l i).en → (timBack l).1 ≤ (nt l i).en := by
  induction l with
  | nil => intro _ i hi; simp at hi
  | cons x l ih =>
    intro h i hi h0
    unfold timBack at h ⊢
    dsimp only at h ⊢
    split at h
    · cases h
    · rename_i hc
      rw [if_neg hc]
      have hr : (timBack l).2 = true := by
        cases hb : (timBack l).2 with
        | true => rfl
        | false => exact absurd (Or.inl hb) hc
      cases i with
      | zero =>
        have : nt (x :: l) 0 = x := rfl
        rw [this] at h0 ⊢
        rw [if_pos h0]
        dsimp only
        omega
      | succ i =>
        have e : nt (x :: l) (i + 1) = nt l i := by simp [nt]
        rw [e] at h0 ⊢
        have := ih hr i (by simpa using hi) h0
        split <;> dsimp only <;> omega
theorem tim_att (l : List Tr) : (timBack l).1 = 9223372036854775807 ∨ ∃ i, i < l.length ∧ 0 ≤ (nt l i).en ∧ (timBack l).1 = (nt l i).en := by
  induction l with
  | nil => exact Or.inl rfl
  | cons x l ih =>
    have hs : ∀ i, nt (x :: l) (i + 1) = nt l i := fun i => by simp [nt]
    have hr : (timBack l).1 = 9223372036854775807 ∨ ∃ i, i < (x :: l).length ∧ 0 ≤ (nt (x :: l) i).en ∧ (timBack l).1 = (nt (x :: l) i).en := by
      rcases ih with h | ⟨i, h1, h2, h3⟩
      · exact Or.inl h
      · exact Or.inr ⟨i + 1, by simp; omega, by rw [hs]; exact h2, by rw [hs]; exact h3⟩
    unfold timBack
    dsimp only
    split
    · exact hr
    · dsimp only
      split
      · rename_i h0
        by_cases hm : (timBack l).1 ≤ x.en
        · rw [Int.min_eq_left hm]; exact hr
        · refine Or.inr ⟨0, by simp, h0, ?_⟩
          rw [Int.min_eq_right (by omega)]
          rfl
      · exact hr
theorem tim_iff (l : List Tr) (hb : ∀ t ∈ l, t.bg ≤ 9223372036854775807) : (timBack l).2 = true ↔ rtimD l l.length := by
  induction l with
  | nil => exact ⟨fun _ i hi => by simp at hi, fun _ => rfl⟩
  | cons x l ih =>
    have hs : ∀ i, nt (x :: l) (i + 1) = nt l i := fun i => by simp [nt]
    have h0 : nt (x :: l) 0 = x := rfl
    have ih' := ih fun t ht => hb t (List.mem_cons_of_mem _ ht)
    have hx := hb x (by simp)
    constructor
    · intro h i hi k hk
      have hc : ¬ ((timBack l).2 = false ∨ (timBack l).1 < x.bg) := fun hc => by
        unfold timBack at h
        dsimp only at h
        rw [if_pos hc] at h
        cases h
      have hr : (timBack l).2 = true := by
        cases hbb : (timBack l).2 with
        | true => rfl
        | false => exact absurd (Or.inl hbb) hc
      cases i with
      | zero => omega
      | succ i =>
        unfold lateAt
        rw [hs]
        cases k with
        | zero =>
          rw [h0]
          rintro ⟨h1, h2⟩
          have := tim_min l hr i (by simpa using hi) h1
          exact hc (Or.inr (by omega))
        | succ k =>
          rw [hs]
          exact ih'.1 hr i (by simpa using hi) k (by omega)
    · intro h
      have hr : (timBack l).2 = true := ih'.2 fun i hi k hk hl => h (i + 1) (by simp; omega) (k + 1) (by omega) (by unfold lateAt at hl ⊢; rw [hs, hs]; exact hl)
      have hn : ¬ (timBack l).1 < x.bg := fun hlt => by
        rcases tim_att l with e | ⟨i, h1, h2, h3⟩
        · omega
        · exact h (i + 1) (by simp; omega) 0 (by omega) (by unfold lateAt; rw [hs, h0]; exact ⟨h2, by omega⟩)
      unfold timBack
      dsimp only
      rw [if_neg (by rw [hr]; simp; omega)]
theorem rtim_iff (l : List Tr) (hb : ∀ t ∈ l, t.bg ≤ 9223372036854775807) : timelyD l = true ↔ rtimD l l.length := tim_iff l hb
end Go.Proofs.YtbpnookejildnaaDoor.Hi
