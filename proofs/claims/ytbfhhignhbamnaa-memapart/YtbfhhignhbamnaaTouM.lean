/- What a log says of touches, as plain data: how often each word was accessed, in order. -/
import Derived.Test.YtbfhhignhbamnaaMemM
namespace Go.Proofs.Ytbfhhignhbamnaa

structure To where
  a : Ad
  l : Int
  s : Int
  w : Int
  deriving DecidableEq
def noTo : To := ⟨⟨0, 0, 0⟩, 0, 0, 0⟩
instance : Inhabited To := ⟨noTo⟩
def to0 (a : Ad) : To := ⟨a, 0, 0, 0⟩
def bump (t : To) (k : Int) : To := if k = 1 then { t with l := t.l + 1 } else if k = 2 then { t with s := t.s + 1 } else { t with w := t.w + 1 }
theorem bump_a (t : To) (k : Int) : (bump t k).a = t.a := by
  unfold bump
  split
  · rfl
  · split <;> rfl
/-- What a log says of a word's accesses. -/
def touchOf (L : List Ac) (a : Ad) : To := L.foldl (fun t x => if x.a = a then bump t x.k else t) (to0 a)
theorem touchOf_snoc (L : List Ac) (x : Ac) (a : Ad) : touchOf (L ++ [x]) a = if x.a = a then bump (touchOf L a) x.k else touchOf L a := by
  unfold touchOf; rw [List.foldl_append]; rfl
theorem foldl_a (a : Ad) (L : List Ac) : ∀ t : To, (L.foldl (fun t x => if x.a = a then bump t x.k else t) t).a = t.a := by
  induction L with
  | nil => intro t; rfl
  | cons x L ih =>
    intro t
    rw [List.foldl_cons, ih]
    split
    · rw [bump_a]
    · rfl
theorem touchOf_a (L : List Ac) (a : Ad) : (touchOf L a).a = a := by unfold touchOf; rw [foldl_a]; rfl
theorem snoc_ind {α : Type} {P : List α → Prop} (h0 : P []) (hs : ∀ L x, P L → P (L ++ [x])) : ∀ L, P L := fun L => by
  rw [← List.reverse_reverse L]
  induction L.reverse with
  | nil => exact h0
  | cons x r ih => rw [List.reverse_cons]; exact hs _ _ ih
theorem touchOf_none {a : Ad} : ∀ {L : List Ac}, (∀ x ∈ L, x.a ≠ a) → touchOf L a = to0 a := fun {L} => by
  refine snoc_ind (P := fun L => (∀ x ∈ L, x.a ≠ a) → touchOf L a = to0 a) (fun _ => rfl) (fun L x ih h => ?_) L
  rw [touchOf_snoc, if_neg (h x (by simp)), ih (fun y hy => h y (by simp [hy]))]
def Small (t : To) (n : Nat) : Prop := 0 ≤ t.l ∧ t.l ≤ (n : Int) ∧ 0 ≤ t.s ∧ t.s ≤ (n : Int) ∧ 0 ≤ t.w ∧ t.w ≤ (n : Int)
theorem touchOf_small (L : List Ac) (a : Ad) : Small (touchOf L a) L.length := by
  refine snoc_ind (P := fun L => Small (touchOf L a) L.length) (by unfold touchOf Small to0; simp) (fun L x ih => ?_) L
  rw [touchOf_snoc]
  unfold Small at *
  rw [List.length_append]
  simp only [List.length_cons, List.length_nil]
  split
  · unfold bump
    split
    · simp; omega
    · split <;> simp <;> omega
  · omega

structure Tells (L : List Ac) (T : List To) : Prop where
  each : ∀ t ∈ T, t = touchOf L t.a
  mem : ∀ a, (∃ t ∈ T, t.a = a) ↔ (∃ x ∈ L, x.a = a)
  nodup : (T.map (·.a)).Nodup
theorem tells_nil : Tells [] [] := ⟨fun t h => by simp at h, fun a => by simp, by simp⟩
theorem tells_perm {L : List Ac} {T T' : List To} (h : Tells L T) (hp : T'.Perm T) : Tells L T' :=
  ⟨fun t ht => h.each t (hp.mem_iff.1 ht), fun a => by rw [← h.mem a]; exact ⟨fun ⟨t, ht, e⟩ => ⟨t, hp.mem_iff.1 ht, e⟩, fun ⟨t, ht, e⟩ => ⟨t, hp.mem_iff.2 ht, e⟩⟩, (hp.map _).nodup_iff.2 h.nodup⟩
theorem map_set_same (T : List To) (k : Nat) (u : To) (h : k < T.length) (hu : u.a = (T[k]).a) : (T.set k u).map (·.a) = T.map (·.a) := by
  apply List.ext_getElem (by simp)
  intro i h1 h2
  simp only [List.getElem_map, List.getElem_set]
  split
  · next e => subst e; exact hu
  · rfl
theorem inj_of_nodup {T : List To} (h : (T.map (·.a)).Nodup) {i j : Nat} (hi : i < T.length) (hj : j < T.length) (e : T[i].a = T[j].a) : i = j := by
  have hp := List.pairwise_iff_getElem.1 h
  rcases Nat.lt_trichotomy i j with hlt | heq | hlt
  · exact absurd (by rw [List.getElem_map, List.getElem_map]; exact e) (hp i j (by simpa using hi) (by simpa using hj) hlt)
  · exact heq
  · exact absurd (by rw [List.getElem_map, List.getElem_map]; exact e.symm) (hp j i (by simpa using hj) (by simpa using hi) hlt)
/-- A word that was known is accessed again. -/
theorem tells_bump {L : List Ac} {T : List To} {x : Ac} {k : Nat} (h : Tells L T) (hk : k < T.length) (hx : T[k].a = x.a) : Tells (L ++ [x]) (T.set k (bump T[k] x.k)) := by
  have hm := map_set_same T k (bump T[k] x.k) hk (bump_a _ _)
  refine ⟨fun t ht => ?_, fun a => ?_, by rw [hm]; exact h.nodup⟩
  · obtain ⟨i, hi, rfl⟩ := List.getElem_of_mem ht
    have hi' : i < T.length := by simpa using hi
    rw [List.getElem_set]
    split
    · next e =>
      subst e
      rw [bump_a, touchOf_snoc, if_pos hx.symm, ← h.each _ (List.getElem_mem hk)]
    · next e =>
      rw [touchOf_snoc, if_neg (fun e' => e (inj_of_nodup h.nodup hk hi' (hx.trans e'))), ← h.each _ (List.getElem_mem hi')]
  · have e1 : (∃ t ∈ T.set k (bump T[k] x.k), t.a = a) ↔ ∃ t ∈ T, t.a = a := by
      have a1 : a ∈ (T.set k (bump T[k] x.k)).map (·.a) ↔ _ := List.mem_map
      have a2 : a ∈ T.map (·.a) ↔ _ := List.mem_map
      rw [hm] at a1
      exact a1.symm.trans a2
    rw [e1, h.mem a]
    constructor
    · rintro ⟨y, hy, e⟩; exact ⟨y, by simp [hy], e⟩
    · rintro ⟨y, hy, e⟩
      rcases List.mem_append.1 hy with hy | hy
      · exact ⟨y, hy, e⟩
      · simp at hy
        subst hy
        exact (h.mem a).1 ⟨T[k], List.getElem_mem hk, hx.trans e⟩
/-- A word that was not. -/
theorem tells_new {L : List Ac} {T : List To} {x : Ac} (h : Tells L T) (hx : ∀ t ∈ T, t.a ≠ x.a) : Tells (L ++ [x]) (T ++ [bump (to0 x.a) x.k]) := by
  have hL : ∀ y ∈ L, y.a ≠ x.a := fun y hy e => by
    obtain ⟨t, ht, e'⟩ := (h.mem x.a).2 ⟨y, hy, e⟩
    exact hx t ht e'
  refine ⟨fun t ht => ?_, fun a => ?_, ?_⟩
  · rcases List.mem_append.1 ht with ht | ht
    · rw [touchOf_snoc, if_neg (fun e => hx t ht e.symm)]; exact h.each t ht
    · simp at ht
      subst ht
      rw [bump_a]
      show _ = touchOf (L ++ [x]) x.a
      rw [touchOf_snoc, if_pos rfl, touchOf_none hL]
  · constructor
    · rintro ⟨t, ht, e⟩
      rcases List.mem_append.1 ht with ht | ht
      · obtain ⟨y, hy, e'⟩ := (h.mem a).1 ⟨t, ht, e⟩
        exact ⟨y, by simp [hy], e'⟩
      · simp at ht
        subst ht
        rw [bump_a] at e
        exact ⟨x, by simp, e⟩
    · rintro ⟨y, hy, e⟩
      rcases List.mem_append.1 hy with hy | hy
      · obtain ⟨t, ht, e'⟩ := (h.mem a).2 ⟨y, hy, e⟩
        exact ⟨t, by simp [ht], e'⟩
      · simp at hy
        subst hy
        exact ⟨bump (to0 y.a) y.k, by simp, by rw [bump_a]; exact e⟩
  · rw [List.map_append, List.nodup_append]
    refine ⟨h.nodup, by simp, fun a ha b hb e => ?_⟩
    obtain ⟨t, ht, rfl⟩ := List.mem_map.1 ha
    simp [bump_a, to0] at hb
    exact hx t ht (e.trans hb)

/-! ### in order -/
def ahead (a b : Ad) : Bool := if a.k ≠ b.k then decide (a.k < b.k) else if a.i ≠ b.i then decide (a.i < b.i) else decide (a.j < b.j)
theorem ahead_irrefl (a : Ad) : ahead a a = false := by simp [ahead]
theorem ahead_iff (a b : Ad) : ahead a b = true ↔ (a.k < b.k ∨ a.k = b.k ∧ (a.i < b.i ∨ a.i = b.i ∧ a.j < b.j)) := by
  unfold ahead
  by_cases h1 : a.k = b.k
  · by_cases h2 : a.i = b.i
    · simp [h1, h2]
    · simp [h1, h2]
  · simp [h1]
theorem ahead_trans {a b c : Ad} (h1 : ahead a b = true) (h2 : ahead b c = true) : ahead a c = true := by
  rw [ahead_iff] at *; omega
theorem ahead_total {a b : Ad} (h : ahead a b = false) (hne : a ≠ b) : ahead b a = true := by
  have h' : ¬ (ahead a b = true) := by simp [h]
  rw [ahead_iff] at h' ⊢
  obtain ⟨k, i, j⟩ := a
  obtain ⟨k', i', j'⟩ := b
  simp at h' hne ⊢
  omega
theorem ahead_ne {a b : Ad} (h : ahead a b = true) : a ≠ b := fun e => by subst e; rw [ahead_irrefl] at h; cases h
def Rising (T : List To) : Prop := T.Pairwise fun s t => ahead s.a t.a = true
/-- Lists that rise and have the same are the same. -/
theorem rising_eq : ∀ {T S : List To}, Rising T → Rising S → (∀ t, t ∈ T ↔ t ∈ S) → T = S
  | [], [], _, _, _ => rfl
  | [], s :: S, _, _, h => by have := (h s).2 (by simp); simp at this
  | t :: T, [], _, _, h => by have := (h t).1 (by simp); simp at this
  | t :: T, s :: S, hT, hS, h => by
    have hT' := List.pairwise_cons.1 hT
    have hS' := List.pairwise_cons.1 hS
    have e : t = s := by
      rcases List.mem_cons.1 ((h t).1 (by simp)) with e | h1
      · exact e
      · rcases List.mem_cons.1 ((h s).2 (by simp)) with e | h2
        · exact e.symm
        · have a1 := hS'.1 t h1
          have a2 := hT'.1 s h2
          exact absurd rfl (ahead_ne (ahead_trans a1 a2))
    subst e
    congr 1
    refine rising_eq hT'.2 hS'.2 fun u => ?_
    have hu := h u
    constructor
    · intro hu1
      rcases List.mem_cons.1 (hu.1 (by simp [hu1])) with e | h2
      · subst e; exact absurd rfl (ahead_ne (hT'.1 _ hu1))
      · exact h2
    · intro hu1
      rcases List.mem_cons.1 (hu.2 (by simp [hu1])) with e | h2
      · subst e; exact absurd rfl (ahead_ne (hS'.1 _ hu1))
      · exact h2
theorem tells_mem {L : List Ac} {T S : List To} (hT : Tells L T) (hS : Tells L S) (t : To) (h : t ∈ T) : t ∈ S := by
  obtain ⟨x, hx, e⟩ := (hT.mem t.a).1 ⟨t, h, rfl⟩
  obtain ⟨s, hs, e'⟩ := (hS.mem t.a).2 ⟨x, hx, e⟩
  have : s = t := by rw [hS.each s hs, e', ← hT.each t h]
  rw [← this]; exact hs
theorem tells_eq {L : List Ac} {T S : List To} (hT : Tells L T) (hS : Tells L S) (rT : Rising T) (rS : Rising S) : T = S :=
  rising_eq rT rS fun t => ⟨tells_mem hT hS t, tells_mem hS hT t⟩
end Go.Proofs.Ytbfhhignhbamnaa
