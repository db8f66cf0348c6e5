/- The document's Touched: the place of a word, and what is put there. -/
import Derived.Test.YtbfhhignhbamnaaTouE
namespace Go.Proofs.Ytbfhhignhbamnaa
open Go.ChangeShapes Go.WideShapes Go.ChangeAt Go.RowKit
attribute [local go_sem ↓] Go.wp_at_zero Go.wp_at_succ

theorem ahead_any (a b : Ad) (w : World) : Calls Try.prog 37 #[.agg #[.int .i64 a.k, .int .i64 a.i, .int .i64 a.j], .agg #[.int .i64 b.k, .int .i64 b.i, .int .i64 b.j]] w fun e w' => e = .returned (.bool (ahead a b)) ∧ Below w.heap.size w w' := by
  obtain ⟨k, i, j⟩ := a
  obtain ⟨k', i', j'⟩ := b
  by_cases h1 : k = k'
  · by_cases h2 : i = i'
    · subst h1 h2
      go_enter Try.func37, Try.ntmps37
      go_wp2
      go_ret
      exact ⟨by simp [ahead], below_alloc (below_a1 _ _) _⟩
    · subst h1
      have e3 : (i != i') = true := by simpa using h2
      go_enter Try.func37, Try.ntmps37
      go_wp2
      go_ret
      exact ⟨by simp [ahead, h2], below_alloc (below_a1 _ _) _⟩
  · have e3 : (k != k') = true := by simpa using h1
    go_enter Try.func37, Try.ntmps37
    go_wp2
    go_ret
    exact ⟨by simp [ahead, h1], below_alloc (below_a1 _ _) _⟩

/-! ### the place of a word -/
/-- All that stand ahead of a place stand ahead of the word. -/
def Upto (T : List To) (a : Ad) (t : Nat) : Prop := t ≤ T.length ∧ ∀ i, (h : i < T.length) → i < t → ahead T[i].a a = true
theorem rising_set {T : List To} {k : Nat} {u : To} (h : Rising T) (hk : k < T.length) (hu : u.a = (T[k]).a) : Rising (T.set k u) := by
  have e := map_set_same T k u hk hu
  have h1 : (T.map (·.a)).Pairwise fun a b => ahead a b = true := List.pairwise_map.2 h
  rw [← e] at h1
  exact List.pairwise_map.1 h1
/-- A word that belongs at a place and is not there is nowhere. -/
theorem nowhere {T : List To} {a : Ad} {t : Nat} (h : Rising T) (hu : Upto T a t) (hb : ∀ ht : t < T.length, ahead T[t].a a = false ∧ T[t].a ≠ a) : ∀ s ∈ T, s.a ≠ a := fun s hs e => by
  obtain ⟨i, hi, rfl⟩ := List.getElem_of_mem hs
  have hp := List.pairwise_iff_getElem.1 h
  rcases Nat.lt_trichotomy i t with h1 | h1 | h1
  · exact ahead_ne (hu.2 i hi h1) e
  · subst h1; exact (hb hi).2 e
  · have ht : t < T.length := by omega
    have h2 := hp t i ht hi h1
    have h3 := ahead_total (hb ht).1 (hb ht).2
    rw [e] at h2
    exact ahead_ne (ahead_trans h3 h2) rfl
theorem rising_insert {T : List To} {u : To} {t : Nat} (h : Rising T) (hu : Upto T u.a t) (hb : ∀ ht : t < T.length, ahead T[t].a u.a = false ∧ T[t].a ≠ u.a) : Rising (T.take t ++ u :: T.drop t) := by
  unfold Rising at *
  have hp := List.pairwise_iff_getElem.1 h
  rw [List.pairwise_append]
  refine ⟨h.sublist (List.take_sublist _ _), ?_, fun s hs r hr => ?_⟩
  · rw [List.pairwise_cons]
    refine ⟨fun r hr => ?_, h.sublist (List.drop_sublist _ _)⟩
    obtain ⟨i, hi, rfl⟩ := List.getElem_of_mem hr
    have hi' : t + i < T.length := by rw [List.length_drop] at hi; omega
    rw [List.getElem_drop]
    have ht : t < T.length := by omega
    have h3 := ahead_total (hb ht).1 (hb ht).2
    by_cases e : i = 0
    · subst e; exact h3
    · exact ahead_trans h3 (hp t (t + i) ht hi' (by omega))
  · obtain ⟨i, hi, rfl⟩ := List.getElem_of_mem hs
    have hit : i < t ∧ i < T.length := by rw [List.length_take] at hi; omega
    rw [List.getElem_take]
    have h1 := hu.2 i hit.2 hit.1
    rcases List.mem_cons.1 hr with rfl | hr
    · exact h1
    · obtain ⟨k, hk, rfl⟩ := List.getElem_of_mem hr
      have hk' : t + k < T.length := by rw [List.length_drop] at hk; omega
      rw [List.getElem_drop]
      exact hp i (t + k) hit.2 hk' (by omega)
theorem tells_insert {L : List Ac} {T : List To} {x : Ac} (t : Nat) (h : Tells L T) (hx : ∀ s ∈ T, s.a ≠ x.a) : Tells (L ++ [x]) (T.take t ++ bump (to0 x.a) x.k :: T.drop t) := by
  refine tells_perm (tells_new h hx) ?_
  have e : T = T.take t ++ T.drop t := (List.take_append_drop t T).symm
  have h1 : (T.take t ++ bump (to0 x.a) x.k :: T.drop t).Perm (bump (to0 x.a) x.k :: (T.take t ++ T.drop t)) := List.perm_middle
  rw [← e] at h1
  exact h1.trans (List.perm_append_singleton _ _).symm
theorem set_insert (T : List To) (t : Nat) (h : t ≤ T.length) (u u' : To) : (T.take t ++ u :: T.drop t).set t u' = T.take t ++ u' :: T.drop t := by
  rw [List.set_append_right _ _ (by rw [List.length_take]; omega), List.length_take, Nat.min_eq_left h, Nat.sub_self]
  rfl
theorem get_insert (T : List To) (t : Nat) (h : t ≤ T.length) (u : To) (hk : t < (T.take t ++ u :: T.drop t).length) : (T.take t ++ u :: T.drop t)[t] = u := by
  rw [List.getElem_append_right (by rw [List.length_take]; omega)]
  simp [List.length_take, Nat.min_eq_left h]
theorem len_insert (T : List To) (t : Nat) (h : t ≤ T.length) (u : To) : (T.take t ++ u :: T.drop t).length = T.length + 1 := by
  simp; omega
theorem touC_cut (T : List To) (t : Nat) (h : t ≤ T.length) : touC T = touC (T.take t) ++ touC (T.drop t) ∧ (touC (T.take t)).length = t * 6 :=
  ⟨by rw [← touC_app, List.take_append_drop], by rw [touC_len, List.length_take, Nat.min_eq_left h]⟩
theorem touC_take (T : List To) (t : Nat) (h : t ≤ T.length) : touC (T.take t) = (touC T).take (t * 6) := by
  obtain ⟨e, hl⟩ := touC_cut T t h
  rw [e, ← hl, List.take_left]
theorem touC_drop (T : List To) (t : Nat) (h : t ≤ T.length) : touC (T.drop t) = (touC T).drop (t * 6) := by
  obtain ⟨e, hl⟩ := touC_cut T t h
  rw [e, ← hl, List.drop_left]
/-- Six cells from a place on. -/
theorem own_row6 {w : World} {base g cap n : Nat} {T : List To} (h : w.ownsRow base 73 6 (.slice (some ⟨g, 0, none⟩) n cap) n (touC T)) (i : Nat) (hi : i < T.length) :
    w.cell? ⟨g, i * 6, none⟩ = some (.int .i64 T[i].a.k) ∧ w.cell? ⟨g, i * 6 + 1, none⟩ = some (.int .i64 T[i].a.i) ∧ w.cell? ⟨g, i * 6 + 2, none⟩ = some (.int .i64 T[i].a.j) ∧ w.cell? ⟨g, i * 6 + 3, none⟩ = some (.int .i64 T[i].l) ∧ w.cell? ⟨g, i * 6 + 4, none⟩ = some (.int .i64 T[i].s) ∧ w.cell? ⟨g, i * 6 + 5, none⟩ = some (.int .i64 T[i].w) := by
  have hc : ∀ j (hj : j < 6), w.cell? ⟨g, i * 6 + j, none⟩ = (toC T[i])[j]? := fun j hj => by
    have := touC_get T i j hi hj
    have hl : j < (toC T[i]).length := hj
    rw [List.getElem?_eq_getElem hl] at this ⊢
    exact own_cells h _ _ this
  exact ⟨(hc 0 (by decide)).trans rfl, (hc 1 (by decide)).trans rfl, (hc 2 (by decide)).trans rfl, (hc 3 (by decide)).trans rfl, (hc 4 (by decide)).trans rfl, (hc 5 (by decide)).trans rfl⟩
end Go.Proofs.Ytbfhhignhbamnaa
