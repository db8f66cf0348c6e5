/- A call of a dict (layer 17), as plain data: step by step it wants what the document says. -/
import Derived.Test.YtbajgbknjmbimabDiM
namespace Go.Proofs.Ytbajgbknjmbimab.Di
open Go.ChangeShapes Go.WideShapes Go.ChangeAt Go.RowKit

/-- How far a call has come. -/
inductive At (base most call : Int) (A : List Int) (m : Mc) (R : List Int) (k : Int) (last : Wn) : Prop
  | start (h : last = wn0) (t : m.told = 0) (r : R = []) (k0 : k = 0) (s : m.se = if call = 5 then se0 else mkS (nth A 0) most)
  | look (c : call ≠ 5) (h : last = readW (base + cellS m.se)) (t : m.told = 0) (k0 : k = 0) (s : Srch (nth A 0) most m.se R)
  | len (c : call = 5) (h : last = readW base) (t : m.told = 1) (r : R = []) (k0 : k = 0) (s : m.se = se0)
  | get (c : call = 2) (f : 0 ≤ m.se.found) (h : last = readW (base + clV m.se.found 2)) (t : m.told = 1) (k0 : k = 0) (s : Over (nth A 0) most m.se R)
  | chg (c : call = 3) (f : 0 ≤ m.se.found) (h : last = putW (base + clV m.se.found 2) m.val) (t : m.told = 1) (k0 : k = 0) (s : Over (nth A 0) most m.se R)
  | put1 (c : call = 3) (f : m.se.found = -1) (h : last = readW base) (t : m.told = 1) (k0 : k = 0) (s : Over (nth A 0) most m.se R)
  | put2 (R0 : List Int) (c : call = 3) (f : m.se.found = -1) (g : ¬ (most ≤ m.cnt ∨ m.se.free = -1)) (r : R = R0 ++ [m.cnt]) (s : Over (nth A 0) most m.se R0)
      (o : (last = putW (base + clV m.se.free 0) 1 ∧ m.told = 2 ∧ k = 0) ∨ (last = putW (base + clV m.se.free 1) (nth A 0) ∧ m.told = 3 ∧ k = 1) ∨ (last = putW (base + clV m.se.free 2) (nth A 1) ∧ m.told = 4 ∧ k = 2) ∨ (last = putW base (wrap64 (m.cnt + 1)) ∧ m.told = 5 ∧ k = 3))
  | del1 (c : call = 4) (f : 0 ≤ m.se.found) (s : Over (nth A 0) most m.se R) (o : (last = putW (base + clV m.se.found 0) 2 ∧ m.told = 1 ∧ k = 0) ∨ (last = readW base ∧ m.told = 2 ∧ k = 1))
  | del2 (R0 : List Int) (x : Int) (c : call = 4) (f : 0 ≤ m.se.found) (r : R = R0 ++ [x]) (s : Over (nth A 0) most m.se R0) (h : last = putW base (wrap64 (x - 1))) (t : m.told = 3) (k0 : k = 1)
  | fin (h : last.kind = 6) (h0 : last.cell = 0) (h1 : last.code = 0 ∨ last.val = 0) (r : R.length ≤ 40) (k0 : 0 ≤ k ∧ k ≤ 5) (t : 0 ≤ m.told ∧ m.told ≤ 6)
/-- The program's call, and what the document knows of it. -/
structure Rel (base most call : Int) (A : List Int) (m : Mc) (R : List Int) (k : Int) (last : Wn) : Prop where
  ok : rightV base most call A.length = true
  hb : m.base = base
  hm : m.most = most
  hc : m.call = call
  hv : call = 3 → m.val = nth A 1
  lt : m.last = last
  w64 : ∀ x ∈ R, Sx x
  st : At base most call A m R k last
theorem call_of {base most call : Int} {n : Nat} (h : rightV base most call n = true) : 0 ≤ most ∧ most ≤ 16 ∧ 0 ≤ base ∧ base ≤ 1024 ∧ ((call = 3 ∧ n = 2) ∨ (call = 2 ∧ n = 1) ∨ (call = 4 ∧ n = 1) ∨ (call = 5 ∧ n = 0)) := by
  simp only [rightV, takesV, Bool.and_eq_true, decide_eq_true_eq] at h
  obtain ⟨⟨⟨⟨h1, h2⟩, h3⟩, h4⟩, h5⟩ := h
  unfold arV at h5
  refine ⟨h1, h2, h3, h4, ?_⟩
  by_cases e1 : call = 3
  · rw [if_pos e1] at h5; omega
  · rw [if_neg e1] at h5
    by_cases e2 : call = 2
    · rw [if_pos e2] at h5; omega
    · rw [if_neg e2] at h5
      by_cases e4 : call = 4
      · rw [if_pos e4] at h5; omega
      · rw [if_neg e4] at h5
        by_cases e3 : call = 5
        · rw [if_pos e3] at h5; omega
        · rw [if_neg e3] at h5; omega
theorem rel_first {base most call : Int} {A : List Int} (h : rightV base most call A.length = true) : Rel base most call A (mkM base most call A) [] 0 wn0 :=
  ⟨h, rfl, rfl, rfl, fun e => by simp [mkM, e], rfl, by simp, .start rfl rfl rfl rfl rfl⟩
theorem sx_of_read {R : List Int} {last : Wn} {v : Int} (h : ∀ x ∈ R, Sx x) (hv : Sx v) : ∀ x ∈ readV R last v, Sx x := by
  unfold readV
  split
  · intro x hx
    rcases List.mem_append.1 hx with hx | hx
    · exact h x hx
    · simp at hx
      rw [hx]
      exact hv
  · exact h
theorem put_keeps (m : Mc) (v : Int) : (putS m v).1.base = m.base ∧ (putS m v).1.most = m.most ∧ (putS m v).1.call = m.call ∧ (putS m v).1.told = m.told ∧ (putS m v).1.se = m.se ∧ (putS m v).1.val = m.val := by
  unfold putS
  split
  · split
    · simp
    · split
      · split <;> simp
      · split
        · simp
        · split
          · simp
          · split <;> simp
  · simp
theorem after_keeps (m : Mc) (v : Int) : (afterM m v).1.base = m.base ∧ (afterM m v).1.most = m.most ∧ (afterM m v).1.call = m.call ∧ (afterM m v).1.told = m.told ∧ (afterM m v).1.se = m.se ∧ (afterM m v).1.val = m.val := by
  unfold afterM
  split
  · simp
  · split
    · exact put_keeps m v
    · split <;> simp
theorem step_keeps (m : Mc) (v : Int) : (stepM m v).1.base = m.base ∧ (stepM m v).1.most = m.most ∧ (stepM m v).1.call = m.call ∧ (stepM m v).1.se = (goS m.se v).1 ∧ (stepM m v).1.val = m.val ∧ ((goS m.se v).2.2 = true → (stepM m v).1.told = m.told) ∧ ((goS m.se v).2.2 = false → (stepM m v).1.told = m.told + 1) := by
  unfold stepM
  split
  · rename_i h
    simp [h]
  · rename_i h
    obtain ⟨h1, h2, h3, h4, h5, h6⟩ := after_keeps { m with se := (goS m.se v).1, told := m.told + 1 } v
    exact ⟨h1, h2, h3, h5, h6, fun e => absurd e h, fun _ => h4⟩
/-- Once the look is over, its cells say what the document asks for. -/
theorem doc_over {base most call : Int} {A R0 T : List Int} {s : Se} {k : Int} (hc : call ≠ 5) (h : Over (nth A 0) most s R0) : docV base most call A (R0 ++ T) k = restV base most call A ⟨s.found, s.free, R0.length, true, 0⟩ T k := by
  unfold docV
  rw [if_neg hc, h.res T]
  simp
theorem doc_over0 {base most call : Int} {A R0 : List Int} {s : Se} {k : Int} (hc : call ≠ 5) (h : Over (nth A 0) most s R0) : docV base most call A R0 k = restV base most call A ⟨s.found, s.free, R0.length, true, 0⟩ [] k := by
  have := doc_over (base := base) (T := []) (k := k) hc h
  rwa [List.append_nil] at this
theorem cl_2 (b s : Int) : b + clV s 2 = b + 3 + 3 * s := by unfold clV; omega
theorem cl_1 (b s : Int) : b + clV s 1 = b + 1 + 3 * s + 1 := by unfold clV; omega
theorem cl_0 (b s : Int) : b + clV s 0 = b + 1 + 3 * s := by unfold clV; omega
theorem cl_22 (b s : Int) : b + clV s 2 = b + 1 + 3 * s + 2 := by unfold clV; omega
/-- What is wanted first behind the look. -/
theorem at_over {base most call : Int} {A : List Int} {m : Mc} {R0 : List Int} {v : Int} (hb : m.base = base) (hc : m.call = call) (hcc : call = 3 ∨ call = 2 ∨ call = 4) (hv : call = 3 → m.val = nth A 1) (ht : m.told = 1) (h : Over (nth A 0) most m.se R0) (hm : most ≤ 16) :
    (afterM m v).2 = docV base most call A R0 0 ∧ At base most call A { (afterM m v).1 with last := (afterM m v).2 } R0 0 (afterM m v).2 := by
  have hd := h.ok.d
  have hlen := h.len
  have h40 : R0.length ≤ 40 := by omega
  rw [doc_over0 (by omega) h]
  unfold afterM
  rw [hc]
  rcases hcc with rfl | rfl | rfl
  · rw [if_neg (by decide), if_pos rfl]
    by_cases hf : m.se.found = -1
    · have e : putS m v = (m, readW (m.base + 0)) := by unfold putS; rw [if_pos hf, if_pos ht]
      rw [e, hb, Int.add_zero]
      exact ⟨by simp [restV, putsV, hf], .put1 rfl hf rfl ht rfl h⟩
    · have e : putS m v = (m, putW (m.base + clV m.se.found 2) m.val) := by unfold putS chgT; rw [if_neg hf, if_pos ht]
      have h0 : 0 ≤ m.se.found := by omega
      rw [e, hb]
      exact ⟨by simp [restV, putsV, h0, hv, cl_2], .chg rfl h0 rfl ht rfl h⟩
  · rw [if_pos rfl]
    by_cases hf : m.se.found = -1
    · have e : getT m v = endW 0 1 := by unfold getT; rw [if_pos hf]
      rw [e]
      exact ⟨by simp [restV, hf], .fin rfl rfl (Or.inr rfl) h40 (by omega) (by simp only [ht]; omega)⟩
    · have h0 : 0 ≤ m.se.found := by omega
      have e : getT m v = readW (base + clV m.se.found 2) := by unfold getT; rw [if_neg hf, if_pos ht, hb]
      have hn : ¬ m.se.found < 0 := by omega
      rw [e]
      exact ⟨by simp [restV, hn, cl_2], .get rfl h0 rfl ht rfl h⟩
  · rw [if_neg (by decide), if_neg (by decide), if_pos rfl]
    by_cases hf : m.se.found = -1
    · have e : delT m v = endW 0 1 := by unfold delT; rw [if_pos hf]
      rw [e]
      exact ⟨by simp [restV, hf], .fin rfl rfl (Or.inr rfl) h40 (by omega) (by simp only [ht]; omega)⟩
    · have h0 : 0 ≤ m.se.found := by omega
      have hn : ¬ m.se.found < 0 := by omega
      have e : delT m v = putW (base + clV m.se.found 0) 2 := by unfold delT; rw [if_neg hf, if_pos ht, hb]
      rw [e]
      exact ⟨by simp [restV, hn, cl_0], .del1 rfl h0 h (Or.inl ⟨rfl, ht, rfl⟩)⟩
/-- A look that is over stays over. -/
theorem go_over {s : Se} (h : s.left = 0) (v : Int) : goS s v = (s, 0, false) := by
  unfold goS
  rw [if_neg (by omega)]
  obtain ⟨a, b, c, d, e, f, g⟩ := s
  simp only at h
  rw [h]
theorem step_over {m : Mc} (h : m.se.left = 0) (v : Int) : stepM m v = afterM { m with told := m.told + 1 } v := by
  unfold stepM
  rw [go_over h]
  rfl
/-- The state behind a step, where it isn't through. -/
theorem at_step {base most call : Int} {A : List Int} {m : Mc} {R : List Int} {k : Int} {last : Wn} (h : Rel base most call A m R k last) (h6 : last.kind ≠ 6) (v : Int) :
    (stepM m v).2 = docV base most call A (readV R last v) (cntV k last) ∧ At base most call A { (stepM m v).1 with last := (stepM m v).2 } (readV R last v) (cntV k last) (stepM m v).2 := by
  obtain ⟨ok, hb, hm, hc, hv, lt, w64, st⟩ := h
  obtain ⟨m1, m2, _, _, hcc⟩ := call_of ok
  have rv : ∀ c, readV R (readW c) v = R ++ [v] := fun c => by unfold readV; rw [if_pos (show (readW c).kind = 2 from rfl)]
  have rp : ∀ c z, readV R (putW c z) v = R := fun c z => by unfold readV; rw [if_neg (by simp [putW])]
  have cv : ∀ c, cntV k (readW c) = k := fun c => by unfold cntV; rw [if_neg (by simp [readW])]
  have cp : ∀ c z, cntV k (putW c z) = k + 1 := fun c z => by unfold cntV; rw [if_pos (show (putW c z).kind = 3 from rfl)]
  cases st with
  | start h t r k0 s =>
    subst h r k0
    have e1 : readV [] wn0 v = [] := by simp [readV, wn0]
    have e2 : cntV 0 wn0 = 0 := by simp [cntV, wn0]
    rw [e1, e2]
    by_cases h5 : call = 5
    · rw [if_pos h5] at s
      have e3 : stepM m v = ({ m with told := 1 }, readW base) := by
        rw [step_over (by rw [s]; rfl)]
        unfold afterM lenT
        simp [hc, h5, t, hb]
      rw [e3]
      exact ⟨by simp [docV, h5], .len h5 rfl rfl rfl rfl s⟩
    · rw [if_neg h5] at s
      obtain ⟨f1, f2⟩ := srch_first (key := nth A 0) (most := most) ⟨m1, m2⟩ v
      rw [← s] at f1 f2
      cases hg : (goS m.se v).2.2 with
      | true =>
        obtain ⟨f3, f4⟩ := f1 hg
        have e3 : stepM m v = ({ m with se := (goS m.se v).1 }, readW (base + cellS (goS m.se v).1)) := by unfold stepM; rw [if_pos hg, f3, hb]
        rw [e3]
        refine ⟨?_, .look h5 rfl t rfl f4⟩
        have := f4.res []
        rw [List.append_nil] at this
        unfold docV
        rw [if_neg h5, this, res_nil f4.l f4.a]
        simp
      | false =>
        have f4 := f2 hg
        have e3 : stepM m v = afterM { m with se := (goS m.se v).1, told := m.told + 1 } v := by unfold stepM; rw [if_neg (by rw [hg]; decide)]
        rw [e3]
        exact at_over hb hc (by omega) hv (by simp only [t]; omega) f4 m2
  | look h5 h t k0 s =>
    subst h k0
    rw [rv, cv]
    obtain ⟨f1, f2⟩ := srch_step s v
    cases hg : (goS m.se v).2.2 with
    | true =>
      obtain ⟨f3, f4⟩ := f1 hg
      have e3 : stepM m v = ({ m with se := (goS m.se v).1 }, readW (base + cellS (goS m.se v).1)) := by unfold stepM; rw [if_pos hg, f3, hb]
      rw [e3]
      refine ⟨?_, .look h5 rfl t rfl f4⟩
      have := f4.res []
      rw [List.append_nil] at this
      unfold docV
      rw [if_neg h5, this, res_nil f4.l f4.a]
      simp
    | false =>
      have f4 := f2 hg
      have e3 : stepM m v = afterM { m with se := (goS m.se v).1, told := m.told + 1 } v := by unfold stepM; rw [if_neg (by rw [hg]; decide)]
      rw [e3]
      exact at_over hb hc (by omega) hv (by simp only [t]; omega) f4 m2
  | len c h t r k0 s =>
    subst h r k0
    rw [rv, cv]
    have e3 : stepM m v = ({ m with told := 2 }, endW v 0) := by
      rw [step_over (by rw [s]; rfl)]
      unfold afterM lenT
      simp [hc, c, t]
    rw [e3]
    exact ⟨by simp [docV, c, nth], .fin rfl rfl (Or.inl rfl) (by simp) (by omega) (by simp)⟩
  | get c f h t k0 s =>
    subst h k0
    rw [rv, cv]
    have hlen := s.len
    have e3 : stepM m v = ({ m with told := 2 }, endW v 0) := by
      rw [step_over s.l]
      unfold afterM getT
      simp [hc, c, t]
      omega
    have hn : ¬ m.se.found < 0 := by omega
    rw [e3, doc_over (by omega) s]
    exact ⟨by simp [restV, c, hn, nth], .fin rfl rfl (Or.inl rfl) (by simp; omega) (by omega) (by simp)⟩
  | chg c f h t k0 s =>
    subst h k0
    rw [rp, cp]
    have hlen := s.len
    have e3 : stepM m v = ({ m with told := 2 }, endW 0 0) := by
      rw [step_over s.l]
      unfold afterM putS chgT
      simp [hc, c, t]
      omega
    rw [e3, doc_over0 (by omega) s]
    exact ⟨by simp [restV, putsV, c, f], .fin rfl rfl (Or.inl rfl) (by omega) (by omega) (by simp)⟩
  | put1 c f h t k0 s =>
    subst h k0
    rw [rv, cv]
    have hlen := s.len
    have hfr := s.ok.f
    rw [doc_over (by omega) s]
    by_cases hg : most ≤ v ∨ m.se.free = -1
    · have e3 : stepM m v = ({ m with told := 2 }, endW 0 2) := by
        rw [step_over s.l]
        unfold afterM putS
        simp [hc, c, t, f, hm, hg]
      rw [e3]
      have hg' : most ≤ v ∨ m.se.free < 0 := by omega
      exact ⟨by simp [restV, putsV, c, f, nth, hg'], .fin rfl rfl (Or.inr rfl) (by simp; omega) (by omega) (by simp)⟩
    · have e3 : stepM m v = ({ m with told := 2, cnt := v }, putW (base + clV m.se.free 0) 1) := by
        rw [step_over s.l]
        unfold afterM putS
        simp [hc, c, t, f, hm, hg, hb]
      rw [e3]
      have hg' : ¬ (most ≤ v ∨ m.se.free < 0) := by omega
      exact ⟨by simp [restV, putsV, c, f, nth, hg', cl_0], .put2 R c f hg rfl s (Or.inl ⟨rfl, rfl, rfl⟩)⟩
  | put2 R0 c f g r s o =>
    have hlen := s.len
    have hfr := s.ok.f
    have hg' : ¬ (most ≤ m.cnt ∨ m.se.free < 0) := by omega
    have hr40 : R.length ≤ 40 := by rw [r]; simp; omega
    rcases o with ⟨rfl, t, rfl⟩ | ⟨rfl, t, rfl⟩ | ⟨rfl, t, rfl⟩ | ⟨rfl, t, rfl⟩
    · rw [rp, cp]
      have e3 : stepM m v = ({ m with told := 3 }, putW (base + clV m.se.free 1) (nth A 0)) := by
        rw [step_over s.l]
        unfold afterM putS
        simp [hc, c, t, f, hb, s.k]
      rw [e3, r, doc_over (by omega) s]
      exact ⟨by simp [restV, putsV, c, f, nth, hg', cl_1], .put2 R0 c f g rfl s (Or.inr (Or.inl ⟨rfl, rfl, rfl⟩))⟩
    · rw [rp, cp]
      have e3 : stepM m v = ({ m with told := 4 }, putW (base + clV m.se.free 2) (nth A 1)) := by
        rw [step_over s.l]
        unfold afterM putS
        simp [hc, c, t, f, hb, hv c]
      rw [e3, r, doc_over (by omega) s]
      exact ⟨by simp [restV, putsV, c, f, nth, hg', cl_22], .put2 R0 c f g rfl s (Or.inr (Or.inr (Or.inl ⟨rfl, rfl, rfl⟩)))⟩
    · rw [rp, cp]
      have e3 : stepM m v = ({ m with told := 5 }, putW base (wrap64 (m.cnt + 1))) := by
        rw [step_over s.l]
        unfold afterM putS
        simp [hc, c, t, f, hb]
      rw [e3, r, doc_over (by omega) s]
      exact ⟨by simp [restV, putsV, c, f, nth, hg'], .put2 R0 c f g rfl s (Or.inr (Or.inr (Or.inr ⟨rfl, rfl, rfl⟩)))⟩
    · rw [rp, cp]
      have e3 : stepM m v = ({ m with told := 6 }, endW 0 0) := by
        rw [step_over s.l]
        unfold afterM putS
        simp [hc, c, t, f]
      rw [e3, r, doc_over (by omega) s]
      exact ⟨by simp [restV, putsV, c, f, nth, hg'], .fin rfl rfl (Or.inl rfl) (by rw [← r]; exact hr40) (by omega) (by simp)⟩
  | del1 c f s o =>
    have hlen := s.len
    have hn : ¬ m.se.found < 0 := by omega
    have hn1 : m.se.found ≠ -1 := by omega
    rcases o with ⟨rfl, t, rfl⟩ | ⟨rfl, t, rfl⟩
    · rw [rp, cp]
      have e3 : stepM m v = ({ m with told := 2 }, readW base) := by
        rw [step_over s.l]
        unfold afterM delT
        simp [hc, c, t, hn1, hb]
      rw [e3, doc_over0 (by omega) s]
      exact ⟨by simp [restV, c, hn], .del1 c f s (Or.inr ⟨rfl, rfl, rfl⟩)⟩
    · rw [rv, cv]
      have e3 : stepM m v = ({ m with told := 3 }, putW base (wrap64 (v - 1))) := by
        rw [step_over s.l]
        unfold afterM delT
        simp [hc, c, t, hn1, hb]
      rw [e3, doc_over (by omega) s]
      exact ⟨by simp [restV, c, hn, nth], .del2 R v c f rfl s rfl rfl rfl⟩
  | del2 R0 x c f r s h t k0 =>
    have hlen := s.len
    have hn : ¬ m.se.found < 0 := by omega
    have hn1 : m.se.found ≠ -1 := by omega
    have hr40 : R.length ≤ 40 := by rw [r]; simp; omega
    subst h k0
    rw [rp, cp]
    have e3 : stepM m v = ({ m with told := 4 }, endW 0 0) := by
      rw [step_over s.l]
      unfold afterM delT
      simp [hc, c, t, hn1]
    rw [e3, r, doc_over (by omega) s]
    exact ⟨by simp [restV, c, hn], .fin rfl rfl (Or.inl rfl) (by rw [← r]; exact hr40) (by omega) (by simp)⟩
  | fin h => exact absurd h h6
theorem rel_step {base most call : Int} {A : List Int} {m : Mc} {R : List Int} {k : Int} {last : Wn} (h : Rel base most call A m R k last) (v : Int) (hv : Sx v) :
    tellM m v = wantV base most call A (readV R last v) (cntV k last) last ∧ Rel base most call A (goM m v) (readV R last v) (cntV k last) (wantV base most call A (readV R last v) (cntV k last) last) := by
  by_cases h6 : last.kind = 6
  · have e1 : tellM m v = last := by unfold tellM; rw [h.lt, if_pos h6]
    have e2 : goM m v = m := by unfold goM; rw [h.lt, if_pos h6]
    have e3 : readV R last v = R := by unfold readV; rw [if_neg (by rw [h6]; decide)]
    have e4 : cntV k last = k := by unfold cntV; rw [if_neg (by rw [h6]; decide)]
    have e5 : ∀ R k, wantV base most call A R k last = last := fun R k => by unfold wantV; rw [if_pos h6]
    rw [e1, e2, e3, e4, e5]
    exact ⟨rfl, h⟩
  · obtain ⟨h1, h2⟩ := at_step h h6 v
    have e1 : tellM m v = (stepM m v).2 := by unfold tellM; rw [h.lt, if_neg h6]
    have e2 : goM m v = { (stepM m v).1 with last := (stepM m v).2 } := by unfold goM; rw [h.lt, if_neg h6]
    have e5 : wantV base most call A (readV R last v) (cntV k last) last = (stepM m v).2 := by unfold wantV; rw [if_neg h6, h1]
    rw [e1, e2, e5]
    obtain ⟨n1, n2, n3, n4, n5, _⟩ := step_keeps m v
    exact ⟨rfl, h.ok, by rw [← h.hb]; exact n1, by rw [← h.hm]; exact n2, by rw [← h.hc]; exact n3, fun e => by rw [← h.hv e]; exact n5, rfl, sx_of_read h.w64 hv, h2⟩
/-- How many wants that aren't the end it may still tell. -/
def leftM (m : Mc) : Nat := if m.last.kind = 6 then 0 else ((if 0 < m.se.left then 2 * m.se.left - m.se.asked else 0) + 5 - m.told).toNat
def mostW (most : Int) : Nat := (2 * most).toNat + 5
theorem most_le {base most call : Int} {n : Nat} (h : rightV base most call n = true) : mostW most ≤ 100 := by
  obtain ⟨h1, h2, _⟩ := call_of h
  unfold mostW
  omega
theorem left_first (base most call : Int) (A : List Int) : leftM (mkM base most call A) ≤ mostW most := by
  unfold leftM mkM mostW
  simp only [wn0]
  rw [if_neg (by decide)]
  by_cases h5 : call = 5
  · simp only [h5, if_true, se0]
    simp
  · simp only [h5, if_false, mkS]
    split <;> omega
theorem go_left {key most : Int} {s : Se} {R : List Int} (h : Srch key most s R) (v : Int) (hg : (goS s v).2.2 = true) : 0 < (goS s v).1.left ∧ 2 * (goS s v).1.left - (goS s v).1.asked < 2 * s.left - s.asked := by
  have h1 := ((srch_step h v).1 hg).2
  refine ⟨h1.l, ?_⟩
  have hl := h.l
  have ha := h.a
  unfold goS at hg ⊢
  rw [if_pos hl] at hg ⊢
  have ha0 : s.asked ≠ 0 := by omega
  rw [if_neg ha0] at hg ⊢
  obtain ⟨f1, f2, f3, f4, f5, f6, f7⟩ := free_keeps s
  by_cases ha1 : s.asked = 1
  · rw [if_pos ha1] at hg ⊢
    by_cases v1 : v = 1
    · rw [if_pos v1]; simp only; omega
    · rw [if_neg v1] at hg ⊢
      by_cases v0 : v = 0
      · rw [if_pos v0] at hg; simp at hg
      · rw [if_neg v0] at hg ⊢
        rcases ask_cases (walkS (freeS s)) with ⟨h1, h2⟩ | ⟨h1, h2⟩
        · rw [h2]; simp only [walkS, f3]; omega
        · rw [h2] at hg; simp at hg
  · rw [if_neg ha1] at hg ⊢
    by_cases hk : v = s.key
    · rw [if_pos hk] at hg; simp at hg
    · rw [if_neg hk] at hg ⊢
      rcases ask_cases (walkS s) with ⟨h1, h2⟩ | ⟨h1, h2⟩
      · rw [h2]; simp only [walkS]; omega
      · rw [h2] at hg; simp at hg
theorem left_step {base most call : Int} {A : List Int} {m : Mc} {R : List Int} {k : Int} {last : Wn} (h : Rel base most call A m R k last) (v : Int) (_ : Sx v) :
    leftM (goM m v) ≤ leftM m ∧ ((tellM m v).kind ≠ 6 → leftM (goM m v) < leftM m) := by
  by_cases h6 : last.kind = 6
  · have e1 : tellM m v = last := by unfold tellM; rw [h.lt, if_pos h6]
    have e2 : goM m v = m := by unfold goM; rw [h.lt, if_pos h6]
    rw [e1, e2]
    exact ⟨Nat.le_refl _, fun h => absurd h6 h⟩
  · obtain ⟨h1, h2⟩ := at_step h h6 v
    have e1 : tellM m v = (stepM m v).2 := by unfold tellM; rw [h.lt, if_neg h6]
    have e2 : goM m v = { (stepM m v).1 with last := (stepM m v).2 } := by unfold goM; rw [h.lt, if_neg h6]
    rw [e1, e2]
    obtain ⟨_, _, _, n4, _, n6, n7⟩ := step_keeps m v
    by_cases h7 : (stepM m v).2.kind = 6
    · unfold leftM
      simp only
      rw [if_pos h7]
      exact ⟨Nat.zero_le _, fun h => absurd h7 h⟩
    · suffices hs : leftM { (stepM m v).1 with last := (stepM m v).2 } < leftM m from ⟨Nat.le_of_lt hs, fun _ => hs⟩
      have ht5 : (stepM m v).1.told ≤ 5 := by
        cases h2 with
        | start _ t => simp only at t; omega
        | look _ _ t => simp only at t; omega
        | len _ _ t => simp only at t; omega
        | get _ _ _ t => simp only at t; omega
        | chg _ _ _ t => simp only at t; omega
        | put1 _ _ _ t => simp only at t; omega
        | put2 R0 _ _ _ _ _ o => rcases o with ⟨_, t, _⟩ | ⟨_, t, _⟩ | ⟨_, t, _⟩ | ⟨_, t, _⟩ <;> (simp only at t; omega)
        | del1 _ _ _ o => rcases o with ⟨_, t, _⟩ | ⟨_, t, _⟩ <;> (simp only at t; omega)
        | del2 R0 x _ _ _ _ _ t => simp only at t; omega
        | fin h => exact absurd h h7
      unfold leftM
      simp only
      rw [if_neg h7, h.lt, if_neg h6, n4]
      have hover : m.se.left = 0 → ((if 0 < (goS m.se v).1.left then 2 * (goS m.se v).1.left - (goS m.se v).1.asked else 0) + 5 - (stepM m v).1.told).toNat < ((if 0 < m.se.left then 2 * m.se.left - m.se.asked else 0) + 5 - m.told).toNat := fun hl => by
        rw [go_over hl] at n7 ⊢
        have := n7 rfl
        simp only
        rw [if_neg (by omega)]
        omega
      cases h.st with
      | start _ t _ _ s =>
        by_cases h5 : call = 5
        · rw [if_pos h5] at s
          exact hover (by rw [s]; rfl)
        · rw [if_neg h5] at s
          by_cases hl : 0 < m.se.left
          · have e : goS m.se v = ({ m.se with asked := 1 }, 1 + 3 * m.se.slot, true) := by
              unfold goS
              rw [if_pos hl, if_pos (by rw [s]; rfl)]
            have ha : m.se.asked = 0 := by rw [s]; rfl
            rw [e] at n6 ⊢
            have := n6 rfl
            simp only
            rw [if_pos hl, if_pos hl]
            omega
          · have hm : m.se.left = most := by rw [s]; rfl
            have := (call_of h.ok).1
            exact hover (by omega)
      | look _ _ t _ s =>
        cases hg : (goS m.se v).2.2 with
        | true =>
          obtain ⟨g1, g2⟩ := go_left s v hg
          have := n6 hg
          have := s.l
          have := s.a
          have := ((srch_step s v).1 hg).2.a
          rw [if_pos g1, if_pos s.l]
          omega
        | false =>
          have h3 := ((srch_step s v).2 hg).l
          have := n7 hg
          have := s.l
          have := s.a
          rw [h3, if_neg (by decide), if_pos s.l]
          omega
      | len _ _ t _ _ s => exact hover (by rw [s]; rfl)
      | get _ _ _ t _ s => exact hover s.l
      | chg _ _ _ t _ s => exact hover s.l
      | put1 _ _ _ t _ s => exact hover s.l
      | put2 R0 _ _ _ _ s _ => exact hover s.l
      | del1 _ _ s _ => exact hover s.l
      | del2 R0 x _ _ _ s _ _ => exact hover s.l
      | fin h => exact absurd h h6
/-- How many cells there are. -/
def sizeV (most : Int) : Int := if 0 ≤ most ∧ most ≤ 16 then 3 * most + 1 else 0
theorem size_wrap {base most call : Int} {n : Nat} (h : rightV base most call n = true) : wrap64 (base + sizeV most) = base + sizeV most := by
  obtain ⟨h1, h2, h3, h4, _⟩ := call_of h
  have hz : sizeV most = 3 * most + 1 := by unfold sizeV; rw [if_pos ⟨h1, h2⟩]
  rw [hz]
  unfold wrap64
  omega
theorem rel_told {base most call : Int} {A : List Int} {m : Mc} {R : List Int} {k : Int} {last : Wn} (h : Rel base most call A m R k last) : 0 ≤ m.told ∧ m.told ≤ 6 := by
  cases h.st with
  | start _ t => omega
  | look _ _ t => omega
  | len _ _ t => omega
  | get _ _ _ t => omega
  | chg _ _ _ t => omega
  | put1 _ _ _ t => omega
  | put2 R0 _ _ _ _ _ o => rcases o with ⟨_, t, _⟩ | ⟨_, t, _⟩ | ⟨_, t, _⟩ | ⟨_, t, _⟩ <;> omega
  | del1 _ _ _ o => rcases o with ⟨_, t, _⟩ | ⟨_, t, _⟩ <;> omega
  | del2 R0 x _ _ _ _ _ t => omega
  | fin _ _ _ _ _ t => exact t
/-- Its end, and the cells that it wants. -/
theorem rel_end {base most call : Int} {A : List Int} {m : Mc} {R : List Int} {k : Int} {last : Wn} (h : Rel base most call A m R k last) (hk : last.kind = 6) : last.cell = 0 ∧ (last.code = 0 ∨ last.val = 0) := by
  have hr : ∀ c, last ≠ readW c := fun c e => by rw [e] at hk; exact absurd hk (by simp [readW])
  have hp : ∀ c z, last ≠ putW c z := fun c z e => by rw [e] at hk; exact absurd hk (by simp [putW])
  cases h.st with
  | start h => rw [h] at hk; exact absurd hk (by decide)
  | look _ h => exact absurd h (hr _)
  | len _ h => exact absurd h (hr _)
  | get _ _ h => exact absurd h (hr _)
  | chg _ _ h => exact absurd h (hp _ _)
  | put1 _ _ h => exact absurd h (hr _)
  | put2 R0 _ _ _ _ _ o => rcases o with ⟨h, _⟩ | ⟨h, _⟩ | ⟨h, _⟩ | ⟨h, _⟩ <;> exact absurd h (hp _ _)
  | del1 _ _ _ o =>
    rcases o with ⟨h, _⟩ | ⟨h, _⟩
    · exact absurd h (hp _ _)
    · exact absurd h (hr _)
  | del2 R0 x _ _ _ _ h => exact absurd h (hp _ _)
  | fin _ h0 h1 => exact ⟨h0, h1⟩
theorem own_read {base c n : Int} (h : 0 ≤ c ∧ c < n) : ((readW (base + c)).kind = 2 ∨ (readW (base + c)).kind = 3) ∧ base ≤ (readW (base + c)).cell ∧ (readW (base + c)).cell < base + n := ⟨Or.inl rfl, by simp only [readW]; omega, by simp only [readW]; omega⟩
theorem own_put {base c z n : Int} (h : 0 ≤ c ∧ c < n) : ((putW (base + c) z).kind = 2 ∨ (putW (base + c) z).kind = 3) ∧ base ≤ (putW (base + c) z).cell ∧ (putW (base + c) z).cell < base + n := ⟨Or.inr rfl, by simp only [putW]; omega, by simp only [putW]; omega⟩
theorem own_read0 {base n : Int} (h : 0 < n) : ((readW base).kind = 2 ∨ (readW base).kind = 3) ∧ base ≤ (readW base).cell ∧ (readW base).cell < base + n := ⟨Or.inl rfl, by simp only [readW]; omega, by simp only [readW]; omega⟩
theorem own_put0 {base z n : Int} (h : 0 < n) : ((putW base z).kind = 2 ∨ (putW base z).kind = 3) ∧ base ≤ (putW base z).cell ∧ (putW base z).cell < base + n := ⟨Or.inr rfl, by simp only [putW]; omega, by simp only [putW]; omega⟩
theorem cell_own {key most : Int} {s : Se} {R : List Int} (h : Srch key most s R) : 0 ≤ cellS s ∧ cellS s < 3 * most + 1 := by
  have h1 := h.ok.ls h.l
  have h2 := h.ok.st
  have h3 := h.m
  unfold cellS
  split <;> omega
theorem cl_own {n s p : Int} (h : 0 ≤ s ∧ s < n) (hp : 0 ≤ p ∧ p ≤ 2) : 0 ≤ clV s p ∧ clV s p < 3 * n + 1 := by
  unfold clV
  omega
theorem rel_own {base most call : Int} {A : List Int} {m : Mc} {R : List Int} {k : Int} {last : Wn} (h : Rel base most call A m R k last) (hk : last.kind ≠ 6) (h0 : last ≠ wn0) : (last.kind = 2 ∨ last.kind = 3) ∧ base ≤ last.cell ∧ last.cell < base + sizeV most := by
  obtain ⟨h1, h2, _, _, _⟩ := call_of h.ok
  have hz : sizeV most = 3 * most + 1 := by unfold sizeV; rw [if_pos ⟨h1, h2⟩]
  rw [hz]
  cases h.st with
  | start h => exact absurd h h0
  | look _ h _ _ s => rw [h]; exact own_read (cell_own s)
  | len _ h => rw [h]; exact own_read0 (by omega)
  | get _ f h _ _ s => rw [h]; exact own_read (cl_own ⟨f, s.dm⟩ (by decide))
  | chg _ f h _ _ s => rw [h]; exact own_put (cl_own ⟨f, s.dm⟩ (by decide))
  | put1 _ _ h => rw [h]; exact own_read0 (by omega)
  | put2 R0 _ _ g _ s o =>
    have hf := s.ok.f
    have hfm := s.fm
    have hf0 : 0 ≤ m.se.free := by omega
    rcases o with ⟨h, _⟩ | ⟨h, _⟩ | ⟨h, _⟩ | ⟨h, _⟩
    · rw [h]; exact own_put (cl_own ⟨hf0, hfm⟩ (by decide))
    · rw [h]; exact own_put (cl_own ⟨hf0, hfm⟩ (by decide))
    · rw [h]; exact own_put (cl_own ⟨hf0, hfm⟩ (by decide))
    · rw [h]; exact own_put0 (by omega)
  | del1 _ f s o =>
    rcases o with ⟨h, _⟩ | ⟨h, _⟩
    · rw [h]; exact own_put (cl_own ⟨f, s.dm⟩ (by decide))
    · rw [h]; exact own_read0 (by omega)
  | del2 R0 x _ _ _ _ h => rw [h]; exact own_put0 (by omega)
  | fin h => exact absurd h hk
/-- How much was read and written, at most. -/
theorem rel_len {base most call : Int} {A : List Int} {m : Mc} {R : List Int} {k : Int} {last : Wn} (h : Rel base most call A m R k last) : R.length ≤ 100 ∧ 0 ≤ k ∧ k ≤ 100 := by
  obtain ⟨h1, h2, _, _, _⟩ := call_of h.ok
  cases h.st with
  | start _ _ r k0 => subst r k0; simp
  | look _ _ _ k0 s => have := s.len; have := s.l; have := s.a; omega
  | len _ _ _ r k0 => subst r k0; simp
  | get _ _ _ _ k0 s => have := s.len; omega
  | chg _ _ _ _ k0 s => have := s.len; omega
  | put1 _ _ _ _ k0 s => have := s.len; omega
  | put2 R0 _ _ _ r s o =>
    have h3 := s.len
    have h4 : R.length = R0.length + 1 := by rw [r]; simp
    rcases o with ⟨_, _, k0⟩ | ⟨_, _, k0⟩ | ⟨_, _, k0⟩ | ⟨_, _, k0⟩ <;> omega
  | del1 _ _ s o =>
    have h3 := s.len
    rcases o with ⟨_, _, k0⟩ | ⟨_, _, k0⟩ <;> omega
  | del2 R0 x _ _ r s _ _ k0 =>
    have h3 := s.len
    have h4 : R.length = R0.length + 1 := by rw [r]; simp
    omega
  | fin _ _ _ r k0 => omega
theorem end_some (v c : Int) : endW v c ≠ wn0 := fun e => by have := congrArg Wn.kind e; simp [wn0, endW] at this
theorem read_some (c : Int) : readW c ≠ wn0 := fun e => by have := congrArg Wn.kind e; simp [wn0, readW] at this
theorem put_some (c z : Int) : putW c z ≠ wn0 := fun e => by have := congrArg Wn.kind e; simp [wn0, putW] at this
theorem step_some (m : Mc) (v : Int) : (stepM m v).2 ≠ wn0 := by
  unfold stepM
  split
  · exact read_some _
  · unfold afterM
    split
    · simp only [getT]
      split
      · exact end_some _ _
      · split
        · exact read_some _
        · exact end_some _ _
    · split
      · unfold putS
        split
        · split
          · exact read_some _
          · split
            · split
              · exact end_some _ _
              · exact put_some _ _
            · split
              · exact put_some _ _
              · split
                · exact put_some _ _
                · split
                  · exact put_some _ _
                  · exact end_some _ _
        · simp only [chgT]
          split
          · exact put_some _ _
          · exact end_some _ _
      · split
        · simp only [delT]
          split
          · exact end_some _ _
          · split
            · exact put_some _ _
            · split
              · exact read_some _
              · split
                · exact put_some _ _
                · exact end_some _ _
        · simp only [lenT]
          split
          · exact read_some _
          · exact end_some _ _
theorem tell_some {base most call : Int} {A : List Int} {m : Mc} {R : List Int} {k : Int} {last : Wn} (_ : Rel base most call A m R k last) (v : Int) : tellM m v ≠ wn0 := by
  unfold tellM
  split
  · rename_i h
    intro e
    rw [e] at h
    exact absurd h (by decide)
  · exact step_some m v
/-- Behind its end it tells the same. -/
theorem rel_still {base most call : Int} {A : List Int} {m : Mc} {R : List Int} {k : Int} {last y : Wn} (h : Rel base most call A m R k last) (hk : last.kind = 6) (v : Int) (ht : tellM m v = y) : y.kind = 6 := by
  rw [← ht]
  unfold tellM
  rw [h.lt, if_pos hk]
  exact hk
theorem rel_w64 {base most call : Int} {A : List Int} {m : Mc} {R : List Int} {k : Int} {last : Wn} (h : Rel base most call A m R k last) : ∀ x ∈ R, Sx x := h.w64
end Go.Proofs.Ytbajgbknjmbimab.Di
