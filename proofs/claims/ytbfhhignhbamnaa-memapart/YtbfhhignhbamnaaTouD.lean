/- Addresses as the keys of a map; an access reckoned in a row of touches. -/
import Derived.Test.YtbfhhignhbamnaaTouC
import Derived.Maps.Own
import Derived.Maps.OwnOps
import Derived.Maps.OwnSet
import Derived.DeepKeys5
namespace Go.Proofs.Ytbfhhignhbamnaa
open Go.ChangeShapes Go.WideShapes Go.ChangeAt Go.RowKit
open Go.Maps (Keyed)

theorem own_put {w : World} {base g n cap s : Nat} {e : TypeId} {xs : List Value} (h : w.ownsRow base e s (.slice (some ⟨g, 0, none⟩) n cap) n xs) (o : Nat) (v : Value) (_ : o < n * s) : (w.setCell ⟨g, o, none⟩ v).ownsRow base e s (.slice (some ⟨g, 0, none⟩) n cap) n (xs.set o v) := by
  refine ⟨by rw [List.length_set]; exact h.1, ?_⟩
  rcases h.2 with ⟨e, _⟩ | ⟨g', cap', cur, e, hb, hg, h1, h2, h3, h4⟩
  · cases e
  · simp at e
    obtain ⟨rfl, rfl⟩ := e
    refine Or.inr ⟨g, cap, cur.setIfInBounds o v, rfl, hb, heap_set hg o v, h1, h2, by simpa using h3, ?_⟩
    rw [← h4, Array.toList_setIfInBounds, List.take_set]
theorem touC_set {T : List To} {k j : Nat} {t' : To} {u : Value} (hk : k < T.length) (hj : j < 6) (h : toC t' = (toC T[k]).set j u) : (touC T).set (k * 6 + j) u = touC (T.set k t') := by
  apply List.ext_getElem?
  intro t
  by_cases ht : t < T.length * 6
  · have h2 : t % 6 < 6 := Nat.mod_lt _ (by decide)
    have h1 : t / 6 < T.length := by omega
    have e : t = t / 6 * 6 + t % 6 := by omega
    have e1 : (touC (T.set k t'))[t]? = (toC ((T.set k t')[t / 6]'(by simpa using h1)))[t % 6]? := by
      conv => lhs; rw [e]
      exact touC_get _ _ _ _ h2
    have e2 : (touC T)[t]? = (toC T[t / 6])[t % 6]? := by
      conv => lhs; rw [e]
      exact touC_get _ _ _ h1 h2
    rw [e1, List.getElem?_set, List.getElem_set]
    by_cases hkt : k = t / 6
    · subst hkt
      rw [if_pos rfl, h, List.getElem?_set]
      by_cases hjt : j = t % 6
      · rw [if_pos (by omega), if_pos hjt]
        have a1 : t / 6 * 6 + j < (touC T).length := by rw [touC_len]; omega
        have a2 : j < (toC T[t / 6]).length := hj
        rw [if_pos a1, if_pos a2]
      · rw [if_neg (by omega), if_neg hjt, e2]
    · rw [if_neg (by omega), if_neg hkt, e2]
  · rw [List.getElem?_eq_none (by rw [List.length_set, touC_len]; omega), List.getElem?_eq_none (by rw [touC_len, List.length_set]; omega)]

theorem reckon_own {X : World} {base g cap n : Nat} {T : List To} (h : X.ownsRow base 73 6 (.slice (some ⟨g, 0, none⟩) n cap) n (touC T)) (hn : T.length = n) (k : Nat) (hk : k < T.length) (kd : Int) (hkd : kd = 1 ∨ kd = 2 ∨ kd = 3) (hs : Small T[k] 2199023255552) :
    Calls Try.prog 33 #[.pointer (some ⟨g, k * 6, none⟩), .int .i64 kd] X fun e w' => e = .returned (.tuple #[]) ∧ w'.ownsRow base 73 6 (.slice (some ⟨g, 0, none⟩) n cap) n (touC (T.set k (bump T[k] kd))) ∧ Keep [g] X w' := by
  have hc : ∀ j (hj : j < 6), X.cell? ⟨g, k * 6 + j, none⟩ = (toC T[k])[j]? := fun j hj => by
    have := touC_get T k j hk hj
    have hl : j < (toC T[k]).length := hj
    rw [List.getElem?_eq_getElem hl] at this ⊢
    exact own_cells h _ _ this
  have hf : ∀ j, j < 6 → X.frozen? ⟨g, k * 6 + j, none⟩ = false := fun j hj => (own_some h (k * 6 + j) (by omega)).2
  have kp : ∀ o v, Keep [g] X (X.setCell ⟨g, o, none⟩ v) := fun o v => (Keep.refl _ _).setCell _ _ (Or.inl (by simp))
  obtain ⟨b1, b2, b3, b4, b5, b6⟩ := hs
  refine (reckon_any X g (k * 6) kd T[k].l T[k].s T[k].w hkd ((hc 3 (by decide)).trans rfl) ((hc 4 (by decide)).trans rfl) ((hc 5 (by decide)).trans rfl) (hf 3 (by decide)) (hf 4 (by decide)) (hf 5 (by decide)) ⟨b1, by omega⟩ ⟨b3, by omega⟩ ⟨b5, by omega⟩).mono ?_
  rintro e w' ⟨rfl, rfl⟩
  refine ⟨rfl, ?_⟩
  rcases hkd with rfl | rfl | rfl
  · rw [if_pos rfl]
    have := own_put h (k * 6 + 3) (.int .i64 (T[k].l + 1)) (by omega)
    rw [touC_set (t' := bump T[k] 1) hk (by decide) (by simp [bump, toC])] at this
    exact ⟨this, kp _ _⟩
  · rw [if_neg (by decide), if_pos rfl]
    have := own_put h (k * 6 + 4) (.int .i64 (T[k].s + 1)) (by omega)
    rw [touC_set (t' := bump T[k] 2) hk (by decide) (by simp [bump, toC])] at this
    exact ⟨this, kp _ _⟩
  · rw [if_neg (by decide), if_neg (by decide)]
    have := own_put h (k * 6 + 5) (.int .i64 (T[k].w + 1)) (by omega)
    rw [touC_set (t' := bump T[k] 3) hk (by decide) (by simp [bump, toC])] at this
    exact ⟨this, kp _ _⟩

/-! ### keys -/
theorem laid_out : laidOutB Try.prog = true := by kernel_rfl
theorem addr_keyed : Keyed Try.prog 35 := Keyed.of_law (deep_law_laid laid_out (m := 3) (by decide) (of_decide_eq_true (by kernel_rfl)) (by kernel_rfl) (by rw [Try.underlying35]))
theorem addr_keyType : Try.prog.keyType 35 = true := by kernel_rfl
/-- The numbers fit. -/
def Fit (a : Ad) : Prop := (-9223372036854775808 ≤ a.k ∧ a.k ≤ 9223372036854775807) ∧ (-9223372036854775808 ≤ a.i ∧ a.i ≤ 9223372036854775807) ∧ (-9223372036854775808 ≤ a.j ∧ a.j ≤ 9223372036854775807)
def kA (a : Ad) : Lit := .string (keyBytes [.int .i64 a.k, .int .i64 a.i, .int .i64 a.j])
theorem key_int (D : Nat) (n : Int) (h : -9223372036854775808 ≤ n ∧ n ≤ 9223372036854775807) : Try.prog.keyLits (D + 1) 3 [.int .i64 n] = some [.int .i64 n] := by
  have hw : (Lit.int .i64 n).wf = true := by simp [Lit.wf, IntKind.min, IntKind.max, IntKind.signed, IntKind.bits]; omega
  simp [Program.keyLits, Try.underlying3, hw]
theorem kA_eq (a : Ad) (h : Fit a) : keyOf Try.prog 35 (.agg #[.int .i64 a.k, .int .i64 a.i, .int .i64 a.j]) = some (kA a) := by
  have hf : (Value.agg #[.int .i64 a.k, .int .i64 a.i, .int .i64 a.j]).formed Try.prog 35 = true := by
    unfold Value.formed
    simp [Try.underlying35, cells_addr]
  have hkl : ∀ D, Try.prog.keyLits (D + 2) 35 [.int .i64 a.k, .int .i64 a.i, .int .i64 a.j] = some [.int .i64 a.k, .int .i64 a.i, .int .i64 a.j] := by
    intro D
    unfold Program.keyLits
    rw [Try.underlying35]
    simp [cells_addr, cells_int, key_int D a.k h.1, key_int D a.i h.2.1, key_int D a.j h.2.2]
  have hls := hkl (Try.prog.types.size - 1)
  have e : Try.prog.types.size - 1 + 2 = Try.prog.types.size + 1 := by
    have : 0 < Try.prog.types.size := of_decide_eq_true (by kernel_rfl)
    omega
  rw [e] at hls
  unfold keyOf kA
  rw [Try.underlying35]
  show (if (Try.prog.keyType 35 && (Value.agg #[.int .i64 a.k, .int .i64 a.i, .int .i64 a.j]).formed Try.prog 35) then (Try.prog.keyLits (Try.prog.types.size + 1) 35 [.int .i64 a.k, .int .i64 a.i, .int .i64 a.j]).map (fun ls => Lit.string (keyBytes ls)) else none) = _
  rw [addr_keyType, hf, Bool.and_self, if_pos rfl, hls]
  rfl
theorem kA_inj {a b : Ad} (ha : Fit a) (hb : Fit b) (h : kA a = kA b) : a = b := by
  have h1 := kA_eq a ha
  rw [h] at h1
  have := addr_keyed.inj h1 (kA_eq b hb)
  obtain ⟨k, i, j⟩ := a
  obtain ⟨k', i', j'⟩ := b
  simpa using this
theorem kA_key (a : Ad) (h : Fit a) : WideAt.IsKeyLit (kA a) := addr_keyed.key (kA_eq a h)

def whichT (T : List To) (a : Ad) : Option Nat := T.findIdx? (fun t => decide (t.a = a))
theorem which_some {T : List To} {a : Ad} {k : Nat} (h : whichT T a = some k) : ∃ hk : k < T.length, T[k].a = a := by
  obtain ⟨hk, h1, _⟩ := List.findIdx?_eq_some_iff_getElem.1 h
  exact ⟨hk, by simpa using h1⟩
theorem which_none {T : List To} {a : Ad} (h : whichT T a = none) : ∀ t ∈ T, t.a ≠ a := fun t ht => by
  have := List.findIdx?_eq_none_iff.1 h t ht
  simpa using this
theorem which_map (T : List To) (a : Ad) : whichT T a = (T.map (·.a)).findIdx? (fun b => decide (b = a)) := by
  unfold whichT
  induction T with
  | nil => rfl
  | cons t T ih => rw [List.map_cons, List.findIdx?_cons, List.findIdx?_cons, ih]
theorem which_set (T : List To) (a : Ad) (k : Nat) (u : To) (h : k < T.length) (hu : u.a = (T[k]).a) : whichT (T.set k u) a = whichT T a := by
  rw [which_map, which_map, map_set_same T k u h hu]
theorem which_app (T : List To) (a : Ad) (t : To) : whichT (T ++ [t]) a = (whichT T a).or (if t.a = a then some T.length else none) := by
  unfold whichT
  rw [List.findIdx?_append]
  congr 1
  simp [List.findIdx?_cons]
def MapT (T : List To) (D : DataW Unit) : Prop := Maps.IsMap D ∧ ∀ a, Fit a → Maps.has D (kA a) = (whichT T a).isSome ∧ ∀ k, whichT T a = some k → D.atKey (kA a) (.lit (.int .i64 0)) = .lit (.int .i64 (k : Int))
theorem mapT_start : MapT [] (.map []) := ⟨Maps.isMap_empty, fun t _ => ⟨rfl, fun k h => by cases h⟩⟩
theorem mapT_set {T : List To} {D : DataW Unit} (h : MapT T D) (k : Nat) (u : To) (hk : k < T.length) (hu : u.a = (T[k]).a) : MapT (T.set k u) D :=
  ⟨h.1, fun a ha => by rw [which_set T a k u hk hu]; exact h.2 a ha⟩
theorem mapT_put {T : List To} {D : DataW Unit} (h : MapT T D) (t : To) (ht : Fit t.a) (hw : whichT T t.a = none) : MapT (T ++ [t]) (D.put (kA t.a) (.lit (.int .i64 (T.length : Int)))) := by
  refine ⟨h.1.put _ _, fun a ha => ?_⟩
  rw [which_app]
  by_cases e : t.a = a
  · subst e
    rw [hw, Maps.has_put_same h.1 (kA_key _ ha), Maps.atKey_put_same h.1 (kA_key _ ha)]
    simp
  · have hne : kA a ≠ kA t.a := fun e' => e (kA_inj ht ha e'.symm)
    rw [Maps.has_put_other hne, Maps.atKey_put_other hne, if_neg e, Option.or_none]
    exact h.2 a ha
end Go.Proofs.Ytbfhhignhbamnaa
