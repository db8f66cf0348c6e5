/- A call of a row of counters (layer 15) as plain data: how it goes on, what the document says of it, and that both are the same. -/
import Derived.Test.YtcdkjcpfllpeoabCoM
namespace Go.Proofs.Ytcdkjcpfllpeoab.Ct
open Go.ChangeShapes Go.WideShapes Go.ChangeAt Go.RowKit

/-- How many arguments a call has; -1: it is none. -/
def arV (call : Int) : Int := if call = 1 then 2 else if call = 2 then 1 else -1
def rightV (base most call : Int) (n : Nat) : Bool := takesV base most (arV call) n
structure Mc where
  first : Wn
  told : Wn
  writes : Bool
  by_ : Int
def firstW (base most i : Int) : Wn := if i < 0 ∨ most ≤ i then endW 0 1 else readW (base + i)
def mkM (base most call : Int) (A : List Int) : Mc := ⟨firstW base most (nth A 0), wn0, decide (call = 1), if call = 1 then nth A 1 else 0⟩
def behindV (m : Mc) (v : Int) : Wn := if m.writes then putW m.told.cell (wrap64 (v + m.by_)) else endW v 0
def tellM (m : Mc) (v : Int) : Wn := if m.told.kind = 2 then behindV m v else if m.told.kind = 3 then endW m.told.val 0 else if m.told.kind = 6 then m.told else m.first
def goM (m : Mc) (v : Int) : Mc := { m with told := tellM m v }
/-- The document's next want. -/
def docV (base most call : Int) (A R : List Int) (k : Int) : Wn :=
  if nth A 0 < 0 ∨ most ≤ nth A 0 then endW 0 1 else if R.length = 0 then readW (base + nth A 0) else if call = 2 then endW (nth R 0) 0
  else if k = 0 then putW (base + nth A 0) (wrap64 (nth R 0 + nth A 1)) else endW (wrap64 (nth R 0 + nth A 1)) 0
def wantV (base most call : Int) (A R : List Int) (k : Int) (last : Wn) : Wn := if last.kind = 6 then last else docV base most call A R k
/-- What was read, how much was written, behind a word that is handed in. -/
def readV (R : List Int) (last : Wn) (v : Int) : List Int := if last.kind = 2 then R ++ [v] else R
def cntV (k : Int) (last : Wn) : Int := if last.kind = 3 then k + 1 else k
/-- The program's call, and what the document knows of it. -/
structure Rel (base most call : Int) (A : List Int) (m : Mc) (R : List Int) (k : Int) (last : Wn) : Prop where
  ok : rightV base most call A.length = true
  hf : m.first = firstW base most (nth A 0)
  hw : m.writes = decide (call = 1)
  hb : m.by_ = if call = 1 then nth A 1 else 0
  lt : m.told = last
  w64 : ∀ x ∈ R, Sx x
  st : (last = wn0 ∧ R = [] ∧ k = 0) ∨ (last.kind = 6 ∧ last.cell = 0 ∧ (last.code = 0 ∨ last.val = 0) ∧ R.length ≤ 1 ∧ 0 ≤ k ∧ k ≤ 1) ∨ (¬ (nth A 0 < 0 ∨ most ≤ nth A 0) ∧ last = readW (base + nth A 0) ∧ R = [] ∧ k = 0) ∨
    (¬ (nth A 0 < 0 ∨ most ≤ nth A 0) ∧ call = 1 ∧ ∃ x, R = [x] ∧ last = putW (base + nth A 0) (wrap64 (x + nth A 1)) ∧ k = 0)
theorem rel_first {base most call : Int} {A : List Int} (h : rightV base most call A.length = true) : Rel base most call A (mkM base most call A) [] 0 wn0 :=
  ⟨h, rfl, rfl, rfl, rfl, by simp, Or.inl ⟨rfl, rfl, rfl⟩⟩
theorem call_of {base most call : Int} {n : Nat} (h : rightV base most call n = true) : 0 ≤ most ∧ most ≤ 16 ∧ 0 ≤ base ∧ base ≤ 1024 ∧ ((call = 1 ∧ n = 2) ∨ (call = 2 ∧ n = 1)) := by
  simp only [rightV, takesV, Bool.and_eq_true, decide_eq_true_eq] at h
  obtain ⟨⟨⟨⟨h1, h2⟩, h3⟩, h4⟩, h5⟩ := h
  unfold arV at h5
  refine ⟨h1, h2, h3, h4, ?_⟩
  by_cases e1 : call = 1
  · rw [if_pos e1] at h5; omega
  · rw [if_neg e1] at h5
    by_cases e2 : call = 2
    · rw [if_pos e2] at h5; omega
    · rw [if_neg e2] at h5; omega
theorem sx_of_read {R : List Int} {last : Wn} {v : Int} (h : ∀ x ∈ R, Sx x) (hv : Sx v) : ∀ x ∈ readV R last v, Sx x := by
  unfold readV
  split
  · intro x hx
    rcases List.mem_append.1 hx with hx | hx
    · exact h x hx
    · simp at hx
      rw [hx]
      exact hv
  · exact h
theorem rel_step {base most call : Int} {A : List Int} {m : Mc} {R : List Int} {k : Int} {last : Wn} (h : Rel base most call A m R k last) (v : Int) (hv : Sx v) :
    tellM m v = wantV base most call A (readV R last v) (cntV k last) last ∧ Rel base most call A (goM m v) (readV R last v) (cntV k last) (wantV base most call A (readV R last v) (cntV k last) last) := by
  obtain ⟨ok, hf, hw, hb, lt, w64, st⟩ := h
  obtain ⟨_, _, _, _, hc⟩ := call_of ok
  rcases st with ⟨e, rfl, rfl⟩ | ⟨e, e2, e3, hR, hk1, hk2⟩ | ⟨hin, e, rfl, rfl⟩ | ⟨hin, hc1, x, rfl, e, rfl⟩
  · have ht : tellM m v = wantV base most call A (readV [] last v) (cntV 0 last) last := by
      simp [tellM, lt, e, wantV, readV, docV, wn0, hf, firstW]
    refine ⟨ht, ok, hf, hw, hb, ht, sx_of_read w64 hv, ?_⟩
    subst e
    simp only [wantV, readV, cntV, wn0, docV]
    by_cases hi : nth A 0 < 0 ∨ most ≤ nth A 0
    · simp [hi, endW]
    · simp [hi, readW]
  · have ht : tellM m v = wantV base most call A (readV R last v) (cntV k last) last := by
      simp [tellM, lt, e, wantV]
    refine ⟨ht, ok, hf, hw, hb, ht, sx_of_read w64 hv, ?_⟩
    simp [wantV, readV, cntV, e, e2, e3, hR, hk1, hk2]
  · have ht : tellM m v = wantV base most call A (readV [] last v) (cntV 0 last) last := by
      rcases hc with ⟨rfl, _⟩ | ⟨rfl, _⟩ <;> simp [tellM, lt, e, wantV, readV, cntV, docV, readW, behindV, hw, hb, hin, nth_one]
    refine ⟨ht, ok, hf, hw, hb, ht, sx_of_read w64 hv, ?_⟩
    subst e
    rcases hc with ⟨rfl, _⟩ | ⟨rfl, _⟩ <;> simp [wantV, readV, cntV, docV, readW, hin, putW, endW, nth_one]
  · have ht : tellM m v = wantV base most call A (readV [x] last v) (cntV 0 last) last := by
      subst hc1
      simp [tellM, lt, e, wantV, readV, cntV, docV, putW, hin, nth_one]
    refine ⟨ht, ok, hf, hw, hb, ht, sx_of_read w64 hv, ?_⟩
    subst e hc1
    simp [wantV, readV, cntV, docV, putW, hin, endW, nth_one]
/-- How many wants that aren't the end it may still tell. -/
def leftM (m : Mc) : Nat := if m.told.kind = 6 then 0 else if m.told.kind = 3 then 0 else if m.told.kind = 2 then 1 else 2
def mostW (_ : Int) : Nat := 2
theorem most_le {base most call : Int} {n : Nat} (_ : rightV base most call n = true) : mostW most ≤ 100 := by simp [mostW]
theorem left_first (base most call : Int) (A : List Int) : leftM (mkM base most call A) ≤ mostW most := by simp [leftM, mkM, wn0, mostW]
theorem left_step {base most call : Int} {A : List Int} {m : Mc} {R : List Int} {k : Int} {last : Wn} (h : Rel base most call A m R k last) (v : Int) (_ : Sx v) :
    leftM (goM m v) ≤ leftM m ∧ ((tellM m v).kind ≠ 6 → leftM (goM m v) < leftM m) := by
  obtain ⟨ok, hf, hw, hb, lt, w64, st⟩ := h
  rcases st with ⟨e, rfl, rfl⟩ | ⟨e, e2, e3, hR, hk1, hk2⟩ | ⟨hin, e, rfl, rfl⟩ | ⟨hin, hc1, x, rfl, e, rfl⟩
  · by_cases hi : nth A 0 < 0 ∨ most ≤ nth A 0 <;> simp [leftM, goM, tellM, lt, e, wn0, hf, firstW, hi, endW, readW]
  · simp [leftM, goM, tellM, lt, e]
  · cases hm : m.writes <;> simp [leftM, goM, tellM, lt, e, behindV, readW, hm, endW, putW]
  · simp [leftM, goM, tellM, lt, e, putW, endW]
/-- How many cells there are. -/
def sizeV (most : Int) : Int := if 0 ≤ most ∧ most ≤ 16 then most else 0
theorem size_wrap {base most call : Int} {n : Nat} (h : rightV base most call n = true) : wrap64 (base + sizeV most) = base + sizeV most := by
  obtain ⟨h1, h2, h3, h4, _⟩ := call_of h
  have hz : sizeV most = most := by unfold sizeV; rw [if_pos ⟨h1, h2⟩]
  rw [hz]
  unfold wrap64
  omega
/-- Its end, and the cells that it wants. -/
theorem rel_end {base most call : Int} {A : List Int} {m : Mc} {R : List Int} {k : Int} {last : Wn} (h : Rel base most call A m R k last) (hk : last.kind = 6) : last.cell = 0 ∧ (last.code = 0 ∨ last.val = 0) := by
  obtain ⟨ok, hf, hw, hb, lt, w64, st⟩ := h
  rcases st with ⟨e, rfl, rfl⟩ | ⟨e, e2, e3, hR, hk1, hk2⟩ | ⟨hin, e, rfl, rfl⟩ | ⟨hin, hc1, x, rfl, e, rfl⟩
  · rw [e] at hk; simp [wn0] at hk
  · exact ⟨e2, e3⟩
  · rw [e] at hk; simp [readW] at hk
  · rw [e] at hk; simp [putW] at hk
theorem rel_own {base most call : Int} {A : List Int} {m : Mc} {R : List Int} {k : Int} {last : Wn} (h : Rel base most call A m R k last) (hk : last.kind ≠ 6) (h0 : last ≠ wn0) : (last.kind = 2 ∨ last.kind = 3) ∧ base ≤ last.cell ∧ last.cell < base + sizeV most := by
  obtain ⟨ok, hf, hw, hb, lt, w64, st⟩ := h
  obtain ⟨h1, h2, _, _, hc⟩ := call_of ok
  have hz : sizeV most = most := by unfold sizeV; rw [if_pos ⟨h1, h2⟩]
  rcases st with ⟨e, rfl, rfl⟩ | ⟨e, e2, e3, hR, hk1, hk2⟩ | ⟨hin, e, rfl, rfl⟩ | ⟨hin, hc1, x, rfl, e, rfl⟩
  · exact absurd e h0
  · exact absurd e hk
  · rw [e, hz]; exact ⟨Or.inl rfl, by simp only [readW]; omega, by simp only [readW]; omega⟩
  · rw [e, hz]; exact ⟨Or.inr rfl, by simp only [putW]; omega, by simp only [putW]; omega⟩
/-- How much was read and written, at most. -/
theorem rel_len {base most call : Int} {A : List Int} {m : Mc} {R : List Int} {k : Int} {last : Wn} (h : Rel base most call A m R k last) : R.length ≤ 100 ∧ 0 ≤ k ∧ k ≤ 100 := by
  obtain ⟨ok, hf, hw, hb, lt, w64, st⟩ := h
  rcases st with ⟨e, rfl, rfl⟩ | ⟨e, e2, e3, hR, hk1, hk2⟩ | ⟨hin, e, rfl, rfl⟩ | ⟨hin, hc1, x, rfl, e, rfl⟩
  · simp
  · exact ⟨by omega, hk1, by omega⟩
  · simp
  · simp
/-- It tells something at each step. -/
theorem tell_some {base most call : Int} {A : List Int} {m : Mc} {R : List Int} {k : Int} {last : Wn} (h : Rel base most call A m R k last) (v : Int) : tellM m v ≠ wn0 := by
  intro e
  have hk : (tellM m v).kind = 0 := by rw [e]; rfl
  obtain ⟨ok, hf, hw, hb, lt, w64, st⟩ := h
  rcases st with ⟨e, rfl, rfl⟩ | ⟨e, e2, e3, hR, hk1, hk2⟩ | ⟨hin, e, rfl, rfl⟩ | ⟨hin, hc1, x, rfl, e, rfl⟩
  · by_cases hi : nth A 0 < 0 ∨ most ≤ nth A 0 <;> simp [tellM, lt, e, wn0, hf, firstW, hi, endW, readW] at hk
  · simp [tellM, lt, e] at hk
  · cases hm : m.writes <;> simp [tellM, lt, e, behindV, readW, hm, endW, putW] at hk
  · simp [tellM, lt, e, putW, endW] at hk
/-- Behind its end it tells the same. -/
theorem rel_still {base most call : Int} {A : List Int} {m : Mc} {R : List Int} {k : Int} {last y : Wn} (h : Rel base most call A m R k last) (hk : last.kind = 6) (v : Int) (ht : tellM m v = y) : y.kind = 6 := by
  rw [← ht]
  unfold tellM
  rw [h.lt, hk]
  simpa using hk
theorem rel_w64 {base most call : Int} {A : List Int} {m : Mc} {R : List Int} {k : Int} {last : Wn} (h : Rel base most call A m R k last) : ∀ x ∈ R, Sx x := h.w64
end Go.Proofs.Ytcdkjcpfllpeoab.Ct
