/- A call of a queue (layer 16) as plain data: how it goes on, what the document says of it, and that both are the same. -/
import Derived.Test.YtkikogalaejnlabCoM
namespace Go.Proofs.Ytkikogalaejnlab.Qu
open Go.ChangeShapes Go.WideShapes Go.ChangeAt Go.RowKit

/-- How many arguments a call has; -1: it is none. -/
def arV (call : Int) : Int := if call = 3 then 1 else if call = 2 then 0 else if call = 5 then 0 else -1
def rightV (base most call : Int) (n : Nat) : Bool := takesV base most (arV call) n
/-- A word without its sign. -/
def uW (z : Int) : Int := z % 18446744073709551616
/-- The slot behind FIRST by k. -/
def behV (f k n : Int) : Int := (uW f % n + uW k % n) % n
structure Mc where
  base : Int
  most : Int
  call : Int
  told : Int
  last : Wn
  first : Int
  len : Int
  val : Int
def mkM (base most call : Int) (A : List Int) : Mc := ⟨base, most, call, 0, wn0, 0, 0, if call = 3 then nth A 0 else 0⟩
/-- What is noted of a word that comes in. -/
def noteM (m : Mc) (v : Int) : Mc :=
  if m.told = 0 then m else if m.told = 1 then { m with first := v } else
    let m1 := if m.told = 2 then { m with len := v } else m
    if m1.call = 3 then m1 else if m1.call = 2 then (if m1.len = 0 ∨ m1.most = 0 then m1 else if m1.told = 2 then m1 else if m1.told = 3 then { m1 with val := v } else m1) else m1
def putT (m : Mc) : Wn := if uW m.len < uW m.most then (if m.told = 2 then putW (m.base + (2 + behV m.first m.len m.most)) m.val else if m.told = 3 then putW (m.base + 1) (wrap64 (m.len + 1)) else endW 0 0) else endW 0 2
def getT (m : Mc) : Wn := if m.len = 0 ∨ m.most = 0 then endW 0 1 else if m.told = 2 then readW (m.base + (2 + behV m.first 0 m.most)) else if m.told = 3 then putW m.base (behV m.first 1 m.most) else if m.told = 4 then putW (m.base + 1) (wrap64 (m.len - 1)) else endW m.val 0
/-- What is wanted, once it is noted. -/
def wantT (m : Mc) : Wn := if m.told = 0 then readW m.base else if m.told = 1 then readW (m.base + 1) else if m.call = 3 then putT m else if m.call = 2 then getT m else endW m.len 0
def tellM (m : Mc) (v : Int) : Wn := if m.last.kind = 6 then m.last else wantT (noteM m v)
def goM (m : Mc) (v : Int) : Mc := if m.last.kind = 6 then m else { noteM m v with last := wantT (noteM m v), told := m.told + 1 }
/-- The document's next want. -/
def docV (base most call : Int) (A R : List Int) (k : Int) : Wn :=
  if R.length < 2 then readW (base + R.length)
  else if call = 5 then endW (nth R 1) 0
  else if call = 3 then
    (if ¬ uW (nth R 1) < uW most then endW 0 2 else if k = 0 then putW (base + 2 + behV (nth R 0) (nth R 1) most) (nth A 0) else if k = 1 then putW (base + 1) (wrap64 (nth R 1 + 1)) else endW 0 0)
  else if nth R 1 = 0 ∨ most = 0 then endW 0 1
  else if R.length = 2 then readW (base + 2 + behV (nth R 0) 0 most)
  else if k = 0 then putW base (behV (nth R 0) 1 most) else if k = 1 then putW (base + 1) (wrap64 (nth R 1 - 1)) else endW (nth R 2) 0
def wantV (base most call : Int) (A R : List Int) (k : Int) (last : Wn) : Wn := if last.kind = 6 then last else docV base most call A R k
/-- What was read, how much was written, behind a word that is handed in. -/
def readV (R : List Int) (last : Wn) (v : Int) : List Int := if last.kind = 2 then R ++ [v] else R
def cntV (k : Int) (last : Wn) : Int := if last.kind = 3 then k + 1 else k
/-- How far a call has come. -/
def At (base most call : Int) (A : List Int) (m : Mc) (R : List Int) (k : Int) (last : Wn) : Prop :=
  (last = wn0 ∧ m.told = 0 ∧ R = [] ∧ k = 0) ∨
  (last = readW base ∧ m.told = 1 ∧ R = [] ∧ k = 0) ∨
  (last = readW (base + 1) ∧ m.told = 2 ∧ R = [m.first] ∧ k = 0) ∨
  (call = 3 ∧ uW m.len < uW most ∧ last = putW (base + (2 + behV m.first m.len most)) (nth A 0) ∧ m.told = 3 ∧ R = [m.first, m.len] ∧ k = 0) ∨
  (call = 3 ∧ uW m.len < uW most ∧ last = putW (base + 1) (wrap64 (m.len + 1)) ∧ m.told = 4 ∧ R = [m.first, m.len] ∧ k = 1) ∨
  (call = 2 ∧ ¬ (m.len = 0 ∨ most = 0) ∧ last = readW (base + (2 + behV m.first 0 most)) ∧ m.told = 3 ∧ R = [m.first, m.len] ∧ k = 0) ∨
  (call = 2 ∧ ¬ (m.len = 0 ∨ most = 0) ∧ last = putW base (behV m.first 1 most) ∧ m.told = 4 ∧ R = [m.first, m.len, m.val] ∧ k = 0) ∨
  (call = 2 ∧ ¬ (m.len = 0 ∨ most = 0) ∧ last = putW (base + 1) (wrap64 (m.len - 1)) ∧ m.told = 5 ∧ R = [m.first, m.len, m.val] ∧ k = 1) ∨
  (last.kind = 6 ∧ last.cell = 0 ∧ (last.code = 0 ∨ last.val = 0) ∧ R.length ≤ 3 ∧ 0 ≤ k ∧ k ≤ 2 ∧ 0 ≤ m.told ∧ m.told ≤ 6)
/-- The program's call, and what the document knows of it. -/
structure Rel (base most call : Int) (A : List Int) (m : Mc) (R : List Int) (k : Int) (last : Wn) : Prop where
  ok : rightV base most call A.length = true
  hb : m.base = base
  hm : m.most = most
  hc : m.call = call
  hv : call = 3 → m.val = nth A 0
  lt : m.last = last
  w64 : ∀ x ∈ R, Sx x
  sf : Sx m.first
  sl : Sx m.len
  sv : call = 2 → Sx m.val
  st : At base most call A m R k last
theorem call_of {base most call : Int} {n : Nat} (h : rightV base most call n = true) : 0 ≤ most ∧ most ≤ 16 ∧ 0 ≤ base ∧ base ≤ 1024 ∧ ((call = 3 ∧ n = 1) ∨ (call = 2 ∧ n = 0) ∨ (call = 5 ∧ n = 0)) := by
  simp only [rightV, takesV, Bool.and_eq_true, decide_eq_true_eq] at h
  obtain ⟨⟨⟨⟨h1, h2⟩, h3⟩, h4⟩, h5⟩ := h
  unfold arV at h5
  refine ⟨h1, h2, h3, h4, ?_⟩
  by_cases e1 : call = 3
  · rw [if_pos e1] at h5; omega
  · rw [if_neg e1] at h5
    by_cases e2 : call = 2
    · rw [if_pos e2] at h5; omega
    · rw [if_neg e2] at h5
      by_cases e3 : call = 5
      · rw [if_pos e3] at h5; omega
      · rw [if_neg e3] at h5; omega
theorem sx_zero : Sx 0 := ⟨by decide, by decide⟩
theorem rel_first {base most call : Int} {A : List Int} (h : rightV base most call A.length = true) : Rel base most call A (mkM base most call A) [] 0 wn0 :=
  ⟨h, rfl, rfl, rfl, fun e => by simp [mkM, e], rfl, by simp, sx_zero, sx_zero, fun e => by subst e; exact sx_zero, Or.inl ⟨rfl, rfl, rfl, rfl⟩⟩
theorem sx_of_read {R : List Int} {last : Wn} {v : Int} (h : ∀ x ∈ R, Sx x) (hv : Sx v) : ∀ x ∈ readV R last v, Sx x := by
  unfold readV
  split
  · intro x hx
    rcases List.mem_append.1 hx with hx | hx
    · exact h x hx
    · simp at hx
      rw [hx]
      exact hv
  · exact h
theorem note_keeps (m : Mc) (v : Int) : (noteM m v).base = m.base ∧ (noteM m v).most = m.most ∧ (noteM m v).call = m.call ∧ (noteM m v).told = m.told ∧ (noteM m v).last = m.last ∧ (m.call = 3 → (noteM m v).val = m.val) := by
  obtain ⟨base, most, call, told, last, first, len, val⟩ := m
  unfold noteM
  by_cases h0 : told = 0
  · simp [h0]
  · by_cases h1 : told = 1
    · simp [h1]
    · by_cases h2 : told = 2
      · by_cases h3 : call = 3
        · simp [h2, h3]
        · by_cases h4 : call = 2
          · simp [h2, h4]
          · simp [h2, h3, h4]
      · by_cases h3 : call = 3
        · simp [h0, h1, h2, h3]
        · by_cases h4 : call = 2
          · by_cases h5 : len = 0 ∨ most = 0
            · simp [h0, h1, h2, h4, h5]
            · by_cases h6 : told = 3
              · simp [h4, h5, h6]
              · simp [h0, h1, h2, h4, h5, h6]
          · simp [h0, h1, h2, h3, h4]
theorem note_sx {m : Mc} {v : Int} (hv : Sx v) (h1 : Sx m.first) (h2 : Sx m.len) : Sx (noteM m v).first ∧ Sx (noteM m v).len ∧ (Sx m.val → Sx (noteM m v).val) := by
  unfold noteM
  split
  · exact ⟨h1, h2, id⟩
  · split
    · exact ⟨hv, h2, id⟩
    · by_cases h3 : m.told = 2
      · simp only [h3, if_true]
        split
        · exact ⟨h1, hv, id⟩
        · split
          · split <;> exact ⟨h1, hv, id⟩
          · exact ⟨h1, hv, id⟩
      · simp only [h3, if_false]
        split
        · exact ⟨h1, h2, id⟩
        · split
          · split
            · exact ⟨h1, h2, id⟩
            · split
              · exact ⟨h1, h2, fun _ => hv⟩
              · exact ⟨h1, h2, id⟩
          · exact ⟨h1, h2, id⟩
theorem add_two (b z : Int) : b + 2 + z = b + (2 + z) := by omega
/-- The state behind a step, where it isn't through. -/
theorem at_step {base most call : Int} {A : List Int} {m : Mc} {R : List Int} {k : Int} {last : Wn} (h : Rel base most call A m R k last) (h6 : last.kind ≠ 6) (v : Int) :
    wantT (noteM m v) = docV base most call A (readV R last v) (cntV k last) ∧ At base most call A { noteM m v with last := wantT (noteM m v), told := m.told + 1 } (readV R last v) (cntV k last) (wantT (noteM m v)) := by
  obtain ⟨ok, rfl, rfl, rfl, hv, lt, w64, sf, sl, sv, st⟩ := h
  obtain ⟨_, _, _, _, hc⟩ := call_of ok
  obtain ⟨base, most, call, told, last', first, len, val⟩ := m
  simp only [At] at ok hv lt st hc ⊢
  subst lt
  clear sf sl sv w64 ok
  rcases st with ⟨rfl, rfl, rfl, rfl⟩ | ⟨rfl, rfl, rfl, rfl⟩ | ⟨rfl, rfl, rfl, rfl⟩ | ⟨rfl, hl, rfl, rfl, rfl, rfl⟩ | ⟨rfl, hl, rfl, rfl, rfl, rfl⟩ | ⟨rfl, hl, rfl, rfl, rfl, rfl⟩ | ⟨rfl, hl, rfl, rfl, rfl, rfl⟩ | ⟨rfl, hl, rfl, rfl, rfl, rfl⟩ | ⟨h, _⟩
  · simp [noteM, wantT, docV, readV, cntV, wn0]
  · simp [noteM, wantT, docV, readV, cntV, readW]
  · rcases hc with ⟨rfl, _⟩ | ⟨rfl, _⟩ | ⟨rfl, _⟩
    · by_cases hf : uW v < uW most
      · simp [noteM, wantT, putT, docV, readV, cntV, readW, hf, hv, nth, add_two, putW]
      · simp [noteM, wantT, putT, docV, readV, cntV, readW, hf, nth, endW]
    · by_cases hf : v = 0 ∨ most = 0
      · simp [noteM, wantT, getT, docV, readV, cntV, readW, hf, nth, endW]
      · simp [noteM, wantT, getT, docV, readV, cntV, readW, hf, nth, add_two]
    · simp [noteM, wantT, docV, readV, cntV, readW, nth, endW]
  · simp [noteM, wantT, putT, docV, readV, cntV, putW, hl, nth]
  · simp [noteM, wantT, putT, docV, readV, cntV, putW, hl, nth, endW]
  · simp [noteM, wantT, getT, docV, readV, cntV, readW, hl, nth, putW]
  · simp [noteM, wantT, getT, docV, readV, cntV, putW, hl, nth]
  · simp [noteM, wantT, getT, docV, readV, cntV, putW, hl, nth, endW]
  · exact absurd h h6
theorem rel_step {base most call : Int} {A : List Int} {m : Mc} {R : List Int} {k : Int} {last : Wn} (h : Rel base most call A m R k last) (v : Int) (hv : Sx v) :
    tellM m v = wantV base most call A (readV R last v) (cntV k last) last ∧ Rel base most call A (goM m v) (readV R last v) (cntV k last) (wantV base most call A (readV R last v) (cntV k last) last) := by
  by_cases h6 : last.kind = 6
  · have e1 : tellM m v = last := by unfold tellM; rw [h.lt, if_pos h6]
    have e2 : goM m v = m := by unfold goM; rw [h.lt, if_pos h6]
    have e3 : readV R last v = R := by unfold readV; rw [if_neg (by rw [h6]; decide)]
    have e4 : cntV k last = k := by unfold cntV; rw [if_neg (by rw [h6]; decide)]
    have e5 : ∀ R k, wantV base most call A R k last = last := fun R k => by unfold wantV; rw [if_pos h6]
    rw [e1, e2, e3, e4, e5]
    exact ⟨rfl, h⟩
  · obtain ⟨h1, h2⟩ := at_step h h6 v
    have e1 : tellM m v = wantT (noteM m v) := by unfold tellM; rw [h.lt, if_neg h6]
    have e2 : goM m v = { noteM m v with last := wantT (noteM m v), told := m.told + 1 } := by unfold goM; rw [h.lt, if_neg h6]
    have e5 : wantV base most call A (readV R last v) (cntV k last) last = wantT (noteM m v) := by unfold wantV; rw [if_neg h6, h1]
    rw [e1, e2, e5]
    obtain ⟨n1, n2, n3, n4, n5, n6⟩ := note_keeps m v
    obtain ⟨s1, s2, s3⟩ := note_sx hv h.sf h.sl
    exact ⟨rfl, h.ok, by rw [← h.hb]; exact n1, by rw [← h.hm]; exact n2, by rw [← h.hc]; exact n3, fun e => by rw [← h.hv e]; exact n6 (by rw [h.hc]; exact e), rfl, sx_of_read h.w64 hv, s1, s2, fun e => s3 (h.sv e), h2⟩
/-- How many wants that aren't the end it may still tell. -/
def leftM (m : Mc) : Nat := if m.last.kind = 6 then 0 else (5 - m.told).toNat
def mostW (_ : Int) : Nat := 5
theorem most_le {base most call : Int} {n : Nat} (_ : rightV base most call n = true) : mostW most ≤ 100 := by simp [mostW]
theorem left_first (base most call : Int) (A : List Int) : leftM (mkM base most call A) ≤ mostW most := by simp [leftM, mkM, wn0, mostW]
theorem left_step {base most call : Int} {A : List Int} {m : Mc} {R : List Int} {k : Int} {last : Wn} (h : Rel base most call A m R k last) (v : Int) (_ : Sx v) :
    leftM (goM m v) ≤ leftM m ∧ ((tellM m v).kind ≠ 6 → leftM (goM m v) < leftM m) := by
  by_cases h6 : last.kind = 6
  · have e1 : tellM m v = last := by unfold tellM; rw [h.lt, if_pos h6]
    have e2 : goM m v = m := by unfold goM; rw [h.lt, if_pos h6]
    rw [e1, e2]
    exact ⟨Nat.le_refl _, fun h => absurd h6 h⟩
  · obtain ⟨h1, h2⟩ := at_step h h6 v
    have e1 : tellM m v = wantT (noteM m v) := by unfold tellM; rw [h.lt, if_neg h6]
    have e2 : goM m v = { noteM m v with last := wantT (noteM m v), told := m.told + 1 } := by unfold goM; rw [h.lt, if_neg h6]
    have e3 : leftM m = (5 - m.told).toNat := by unfold leftM; rw [h.lt, if_neg h6]
    rw [e1, e2, e3]
    unfold leftM
    simp only
    by_cases h7 : (wantT (noteM m v)).kind = 6
    · rw [if_pos h7]
      exact ⟨by omega, fun h => absurd h7 h⟩
    · rw [if_neg h7]
      have ht : m.told + 1 ≤ 5 := by
        rcases h2 with ⟨_, h, _⟩ | ⟨_, h, _⟩ | ⟨_, h, _⟩ | ⟨_, _, _, h, _⟩ | ⟨_, _, _, h, _⟩ | ⟨_, _, _, h, _⟩ | ⟨_, _, _, h, _⟩ | ⟨_, _, _, h, _⟩ | ⟨h, _⟩
        all_goals first | (simp only at h; omega) | exact absurd h h7
      exact ⟨by omega, fun _ => by omega⟩
/-- How many cells there are. -/
def sizeV (most : Int) : Int := if 0 ≤ most ∧ most ≤ 16 then most + 2 else 0
theorem size_wrap {base most call : Int} {n : Nat} (h : rightV base most call n = true) : wrap64 (base + sizeV most) = base + sizeV most := by
  obtain ⟨h1, h2, h3, h4, _⟩ := call_of h
  have hz : sizeV most = most + 2 := by unfold sizeV; rw [if_pos ⟨h1, h2⟩]
  rw [hz]
  unfold wrap64
  omega
/-- Its end, and the cells that it wants. -/
theorem rel_end {base most call : Int} {A : List Int} {m : Mc} {R : List Int} {k : Int} {last : Wn} (h : Rel base most call A m R k last) (hk : last.kind = 6) : last.cell = 0 ∧ (last.code = 0 ∨ last.val = 0) := by
  rcases h.st with ⟨rfl, _⟩ | ⟨rfl, _⟩ | ⟨rfl, _⟩ | ⟨_, _, rfl, _⟩ | ⟨_, _, rfl, _⟩ | ⟨_, _, rfl, _⟩ | ⟨_, _, rfl, _⟩ | ⟨_, _, rfl, _⟩ | ⟨_, h1, h2, _⟩
  all_goals first | exact ⟨h1, h2⟩ | exact absurd hk (by simp [wn0, readW, putW])
theorem uw_pos {f n : Int} (hn : 0 < n) : 0 ≤ uW f % n ∧ uW f % n < n := ⟨Int.emod_nonneg _ (by omega), Int.emod_lt_of_pos _ hn⟩
theorem beh_lt {f k n : Int} (hn : 0 < n) : 0 ≤ behV f k n ∧ behV f k n < n := ⟨Int.emod_nonneg _ (by omega), Int.emod_lt_of_pos _ hn⟩
theorem uw_small {n : Int} (h : 0 ≤ n ∧ n ≤ 16) : uW n = n := by unfold uW; omega
theorem full_pos {l n : Int} (h : 0 ≤ n ∧ n ≤ 16) (hl : uW l < uW n) : 0 < n := by
  rw [uw_small h] at hl
  have : 0 ≤ uW l := Int.emod_nonneg _ (by decide)
  omega
theorem rel_own {base most call : Int} {A : List Int} {m : Mc} {R : List Int} {k : Int} {last : Wn} (h : Rel base most call A m R k last) (hk : last.kind ≠ 6) (h0 : last ≠ wn0) : (last.kind = 2 ∨ last.kind = 3) ∧ base ≤ last.cell ∧ last.cell < base + sizeV most := by
  obtain ⟨h1, h2, _, _, _⟩ := call_of h.ok
  have hz : sizeV most = most + 2 := by unfold sizeV; rw [if_pos ⟨h1, h2⟩]
  rw [hz]
  rcases h.st with ⟨rfl, _⟩ | ⟨rfl, _⟩ | ⟨rfl, _⟩ | ⟨_, hl, rfl, _⟩ | ⟨_, hl, rfl, _⟩ | ⟨_, hl, rfl, _⟩ | ⟨_, hl, rfl, _⟩ | ⟨_, hl, rfl, _⟩ | ⟨hx, _⟩
  · exact absurd rfl h0
  · exact ⟨Or.inl rfl, by simp only [readW]; omega, by simp only [readW]; omega⟩
  · exact ⟨Or.inl rfl, by simp only [readW]; omega, by simp only [readW]; omega⟩
  · have := beh_lt (f := m.first) (k := m.len) (full_pos ⟨h1, h2⟩ hl)
    exact ⟨Or.inr rfl, by simp only [putW]; omega, by simp only [putW]; omega⟩
  · exact ⟨Or.inr rfl, by simp only [putW]; omega, by simp only [putW]; omega⟩
  · have := beh_lt (f := m.first) (k := 0) (n := most) (by omega)
    exact ⟨Or.inl rfl, by simp only [readW]; omega, by simp only [readW]; omega⟩
  · exact ⟨Or.inr rfl, by simp only [putW]; omega, by simp only [putW]; omega⟩
  · exact ⟨Or.inr rfl, by simp only [putW]; omega, by simp only [putW]; omega⟩
  · exact absurd hx hk
/-- How much was read and written, at most. -/
theorem rel_len {base most call : Int} {A : List Int} {m : Mc} {R : List Int} {k : Int} {last : Wn} (h : Rel base most call A m R k last) : R.length ≤ 100 ∧ 0 ≤ k ∧ k ≤ 100 := by
  rcases h.st with ⟨_, _, rfl, rfl⟩ | ⟨_, _, rfl, rfl⟩ | ⟨_, _, rfl, rfl⟩ | ⟨_, _, _, _, rfl, rfl⟩ | ⟨_, _, _, _, rfl, rfl⟩ | ⟨_, _, _, _, rfl, rfl⟩ | ⟨_, _, _, _, rfl, rfl⟩ | ⟨_, _, _, _, rfl, rfl⟩ | ⟨_, _, _, h1, h2, h3, _⟩
  all_goals first | simp | exact ⟨by omega, by omega, by omega⟩
/-- How many wants it told, at most. -/
theorem rel_told {base most call : Int} {A : List Int} {m : Mc} {R : List Int} {k : Int} {last : Wn} (h : Rel base most call A m R k last) : 0 ≤ m.told ∧ m.told ≤ 6 := by
  rcases h.st with ⟨_, h, _⟩ | ⟨_, h, _⟩ | ⟨_, h, _⟩ | ⟨_, _, _, h, _⟩ | ⟨_, _, _, h, _⟩ | ⟨_, _, _, h, _⟩ | ⟨_, _, _, h, _⟩ | ⟨_, _, _, h, _⟩ | ⟨_, _, _, _, _, _, h, h'⟩
  all_goals omega
/-- It tells something at each step. -/
theorem tell_some {base most call : Int} {A : List Int} {m : Mc} {R : List Int} {k : Int} {last : Wn} (h : Rel base most call A m R k last) (v : Int) : tellM m v ≠ wn0 := by
  intro e
  by_cases h6 : last.kind = 6
  · have e1 : tellM m v = last := by unfold tellM; rw [h.lt, if_pos h6]
    rw [e1] at e
    rw [e] at h6
    exact absurd h6 (by decide)
  · have e1 : tellM m v = wantT (noteM m v) := by unfold tellM; rw [h.lt, if_neg h6]
    obtain ⟨h1, h2⟩ := at_step h h6 v
    rw [← e1, e] at h2
    rcases h2 with ⟨_, hx, _⟩ | ⟨h, _⟩ | ⟨h, _⟩ | ⟨_, _, h, _⟩ | ⟨_, _, h, _⟩ | ⟨_, _, h, _⟩ | ⟨_, _, h, _⟩ | ⟨_, _, h, _⟩ | ⟨h, _⟩
    · have := (rel_told h).1
      simp only at hx
      omega
    all_goals exact absurd h (by simp [wn0, readW, putW])
/-- Behind its end it tells the same. -/
theorem rel_still {base most call : Int} {A : List Int} {m : Mc} {R : List Int} {k : Int} {last y : Wn} (h : Rel base most call A m R k last) (hk : last.kind = 6) (v : Int) (ht : tellM m v = y) : y.kind = 6 := by
  rw [← ht]
  unfold tellM
  rw [h.lt, if_pos hk]
  exact hk
theorem rel_w64 {base most call : Int} {A : List Int} {m : Mc} {R : List Int} {k : Int} {last : Wn} (h : Rel base most call A m R k last) : ∀ x ∈ R, Sx x := h.w64
end Go.Proofs.Ytkikogalaejnlab.Qu
