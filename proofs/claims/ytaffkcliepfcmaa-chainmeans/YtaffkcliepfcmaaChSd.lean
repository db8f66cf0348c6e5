/- What Shape answers over a chain's cells, as plain data. -/
import Derived.Test.YtaffkcliepfcmaaChSq
import Derived.Test.YtaffkcliepfcmaaCoH
namespace Go.Proofs.Ytaffkcliepfcmaa.Ch
open Go.ChangeShapes Go.WideShapes Go.ChangeAt Go.RowKit

abbrev its (L : List Nat) : List Int := L.map (fun i : Nat => (i : Int))
def okS (m : Int) (l : List Int) : Bool := (decide (0 ≤ m) && decide (m ≤ 16)) && decide ((l.length : Int) = sizeV m)
/-- The held nodes, as the program finds them. -/
def hpV (C : List Int) (u : Nat) : Option (List Nat) :=
  match nf C u u (nth C 0) with
  | none => none
  | some L => match nf C u u (nth C 1) with
    | none => none
    | some Fr => if srt (its L ++ its Fr) = upto u then (if (kys C L).Pairwise (· < ·) then some L else none) else none
/-- The same, as the document does. -/
def hdV (C : List Int) (u : Nat) : Option (List Nat) :=
  match rv C u (u + 1) (nth C 0) (List.replicate (u + 1) false) with
  | none => none
  | some L => match rv C u (u + 1) (nth C 1) (mkS (List.replicate (u + 1) false) L) with
    | none => none
    | some Fr => if L.length + Fr.length = u then (if (kys C L).Pairwise (· < ·) then some L else none) else none
theorem hp_iff {C : List Int} {u : Nat} {L : List Nat} : hpV C u = some L ↔ ∃ Fr, okP C u L Fr := by
  unfold hpV okP
  constructor
  · intro h
    split at h
    · cases h
    · rename_i L' h1
      split at h
      · cases h
      · rename_i Fr h2
        split at h
        · rename_i h3
          split at h
          · rename_i h4
            injection h with h
            subst h
            exact ⟨Fr, h1, h2, srt_up.1 (by rw [List.map_append]; exact h3), h4⟩
          · cases h
        · cases h
  · rintro ⟨Fr, h1, h2, h3, h4⟩
    have h5 := srt_up.2 h3
    rw [List.map_append] at h5
    simp only [h1, h2]
    rw [if_pos h5, if_pos h4]
theorem hd_iff {C : List Int} {u : Nat} {L : List Nat} : hdV C u = some L ↔ ∃ Fr, okD C u L Fr := by
  unfold hdV okD
  constructor
  · intro h
    split at h
    · cases h
    · rename_i L' h1
      split at h
      · cases h
      · rename_i Fr h2
        split at h
        · rename_i h3
          split at h
          · rename_i h4
            injection h with h
            subst h
            exact ⟨Fr, h1, h2, h3, h4⟩
          · cases h
        · cases h
  · rintro ⟨Fr, h1, h2, h3, h4⟩
    simp only [h1, h2]
    rw [if_pos h3, if_pos h4]
theorem hp_hd (C : List Int) (u : Nat) : hpV C u = hdV C u := by
  cases h : hpV C u with
  | some L =>
    obtain ⟨Fr, h1⟩ := hp_iff.1 h
    exact (hd_iff.2 ⟨Fr, ok_pd h1⟩).symm
  | none =>
    cases h2 : hdV C u with
    | none => rfl
    | some L =>
      obtain ⟨Fr, h1⟩ := hd_iff.1 h2
      rw [hp_iff.2 ⟨Fr, ok_dp h1⟩] at h
      cases h
/-- Kind, values, error, once the count of nodes is in order. -/
def outU (C : List Int) (t : Option (List Nat)) : Int × List Int × Int := match t with
  | some L => (4, kys C L, 0)
  | none => (0, [], 12)
def outS (m : Int) (C : List Int) : Int × List Int × Int :=
  if okS m C then (if nth C 2 < 0 ∨ m < nth C 2 then (0, [], 12) else outU C (hpV C (nth C 2).toNat)) else (0, [], 1)
def ShE (w : World) (o : Int × List Int × Int) (e : Ending) (w' : World) : Prop :=
  ∃ u, e = .returned (.tuple #[.agg (shC o.1 u (.slice none 0 0)), .int .i64 o.2.2]) ∧ w'.ownsRow w.heap.size 2 1 u o.2.1.length (numC o.2.1) ∧ Below w.heap.size w w'
theorem kys_len (C : List Int) (L : List Nat) : (kys C L).length = L.length := by simp [kys]
theorem okS_of {m : Int} {l : List Int} (h : okS m l = true) : ∃ n : Nat, m = n ∧ n ≤ 16 ∧ l.length = 2 * n + 3 := by
  simp only [okS, Bool.and_eq_true, decide_eq_true_eq] at h
  obtain ⟨⟨h1, h2⟩, h3⟩ := h
  unfold sizeV at h3
  rw [if_pos ⟨h1, h2⟩] at h3
  exact ⟨m.toNat, by omega, by omega, by omega⟩
theorem nl_keys {w : World} {base : Nat} {v : Value} {n : Nat} {C : List Int} {L : List Nat} (h : w.ownsRow base 2 1 v L.length (numC (kys C L))) (hC : C.length = 2 * n + 3) (hs : ∀ x ∈ C, Sx x) (hr : ∀ i ∈ L, 1 ≤ i ∧ i ≤ n) (hl : L.length ≤ 100) : Nl w v (kys C L) := by
  refine Nl.of_own (by rw [kys_len]; exact h) (by rw [kys_len]; omega) (fun x hx => ?_)
  simp only [kys, List.mem_map] at hx
  obtain ⟨i, hi, rfl⟩ := hx
  have := hr i hi
  have h9 : ky i < C.length := by unfold ky; omega
  rw [nth_at h9]
  exact hs _ (List.getElem_mem h9)
end Go.Proofs.Ytaffkcliepfcmaa.Ch
