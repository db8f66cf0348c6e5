/- Rows that are written over: PlainOwns' own words. -/
import Derived.Test.YtgbmnngmfcneaaaPlW
namespace Go.Proofs.Ytgbmnngmfcneaaa.Pl
open Go.ChangeShapes Go.WideShapes Go.ChangeAt Go.RowKit

theorem Du.keep {w w' : World} {B X : Nat} {F : List Nat} {Y : Nat} {G Z K : List Nat} {raw : List Int} {cs : List Co} (h : Du w B X F Y G Z raw cs) (hk : Keep K w w') (h1 : ∀ b ∈ F, b ∉ K) (h2 : ∀ b ∈ G, b ∉ K) (h3 : ∀ b ∈ Z, b ∉ K) : Du w' B X F Y G Z raw cs :=
  ⟨h.s.keep hk h1, h.d.keep hk h2 h3, h.fg, h.fz, Nat.le_trans h.wB hk.size⟩
/-- All blocks of both states are below. -/
theorem Du.lt {w : World} {B X : Nat} {F : List Nat} {Y : Nat} {G Z : List Nat} {raw : List Int} {cs : List Co} (h : Du w B X F Y G Z raw cs) : (∀ b ∈ F, b < w.heap.size) ∧ (∀ b ∈ G, b < w.heap.size) ∧ ∀ b ∈ Z, b < w.heap.size :=
  ⟨fun b hb => (h.s.lo b hb).2, fun b hb => (h.d.lo.1 b hb).2, fun b hb => (h.d.lo.2.1 b hb).2⟩
/-- Some row is written into: it is still one. -/
theorem some_set {w : World} {B e k n : Nat} {v : Value} (h : ∃ xs, w.ownsRow B e k v n xs) (b j : Nat) (x : Value) : ∃ xs, (w.setCell ⟨b, j, none⟩ x).ownsRow B e k v n xs := by
  obtain ⟨xs, h⟩ := h
  by_cases hb : v.ownBlock = some b
  · obtain ⟨a, cap, rfl⟩ := own_slice h
    cases a with
    | none => simp [Value.ownBlock] at hb
    | some y =>
      obtain ⟨g, rfl⟩ := own_at0 h
      simp [Value.ownBlock] at hb
      subst hb
      exact own_setCell h j x
  · exact ⟨xs, own_keep h (Keep.setCell (Keep.refl [b] w) ⟨b, j, none⟩ x (Or.inl (by simp))) (fun c hc hm => hb (by simp at hm; rw [← hm]; exact hc))⟩
/-- Shapes whose rows are written over. -/
structure SoS (w : World) (B : Nat) (v : Value) (n : Nat) (V P : Nat → Value) (lv lp : Nat → Nat) : Prop where
  row : ∃ kd : Nat → Int, w.ownsRow B 50 3 v n (rowC (fun i => [.int .i64 (kd i), V i, P i]) n)
  vs : ∀ i, i < n → ∃ xs, w.ownsRow B 2 1 (V i) (lv i) xs
  ps : ∀ i, i < n → ∃ xs, w.ownsRow B 52 2 (P i) (lp i) xs
theorem SoS.of {w : World} {B : Nat} {G : List Nat} {v : Value} {cs : List Co} {V P : Nat → Value} (h : ShO w B G v cs V P) : SoS w B v cs.length V P (fun i => (nthC cs i).vs.length) (fun i => (nthC cs i).ps.length) :=
  ⟨⟨fun i => (nthC cs i).kd, h.row⟩, fun i hi => ⟨_, h.rows.vs i hi⟩, fun i hi => ⟨_, h.rows.ps i hi⟩⟩
theorem SoS.later {w w' : World} {B : Nat} {v : Value} {n : Nat} {V P : Nat → Value} {lv lp : Nat → Nat} (h : SoS w B v n V P lv lp) (hb : Below w.heap.size w w') : SoS w' B v n V P lv lp := by
  obtain ⟨kd, hr⟩ := h.row
  exact ⟨⟨kd, own_keep hr (Keep.of_below hb []) (by simp)⟩, fun i hi => by
    obtain ⟨xs, hx⟩ := h.vs i hi
    exact ⟨xs, own_keep hx (Keep.of_below hb []) (by simp)⟩, fun i hi => by
    obtain ⟨xs, hx⟩ := h.ps i hi
    exact ⟨xs, own_keep hx (Keep.of_below hb []) (by simp)⟩⟩
/-- A cell of another row is written. -/
theorem SoS.put {w : World} {B : Nat} {v : Value} {n : Nat} {V P : Nat → Value} {lv lp : Nat → Nat} (h : SoS w B v n V P lv lp) (b j : Nat) (x : Value) (hv : v.ownBlock ≠ some b) : SoS (w.setCell ⟨b, j, none⟩ x) B v n V P lv lp := by
  obtain ⟨kd, hr⟩ := h.row
  exact ⟨⟨kd, own_keep hr (Keep.setCell (Keep.refl [b] w) ⟨b, j, none⟩ x (Or.inl (by simp))) (fun c hc hm => hv (by simp at hm; rw [← hm]; exact hc))⟩, fun i hi => some_set (h.vs i hi) b j x, fun i hi => some_set (h.ps i hi) b j x⟩
/-- A kind is written over. -/
theorem SoS.kind {w : World} {B g cap : Nat} {n : Nat} {V P : Nat → Value} {lv lp : Nat → Nat} (h : SoS w B (.slice (some ⟨g, 0, none⟩) n cap) n V P lv lp) {i : Nat} (hi : i < n) (z : Int) : SoS (w.setCell ⟨g, i * 3, none⟩ (.int .i64 z)) B (.slice (some ⟨g, 0, none⟩) n cap) n V P lv lp := by
  obtain ⟨kd, hr⟩ := h.row
  refine ⟨⟨fun x => if x = i then z else kd x, ?_⟩, fun j hj => some_set (h.vs j hj) g _ _, fun j hj => some_set (h.ps j hj) g _ _⟩
  have e := rowC_set (f := fun i => [.int .i64 (kd i), V i, P i]) (k := 3) (fun _ => rfl) hi (j := 0) (by omega) (.int .i64 z)
  rw [Nat.add_zero] at e
  have e2 : rowC (fun x => if x = i then ([.int .i64 (kd i), V i, P i] : List Value).set 0 (.int .i64 z) else [.int .i64 (kd x), V x, P x]) n = rowC (fun x => [.int .i64 (if x = i then z else kd x), V x, P x]) n := rowC_congr (fun x _ => by
    by_cases hx : x = i
    · subst hx; simp
    · simp [hx])
  rw [← e2, ← e]
  exact own_set2 hr _ _
theorem SoS.at {w : World} {B g cap : Nat} {n : Nat} {V P : Nat → Value} {lv lp : Nat → Nat} (h : SoS w B (.slice (some ⟨g, 0, none⟩) n cap) n V P lv lp) {i : Nat} (hi : i < n) : (∃ z, w.cell? ⟨g, i * 3, none⟩ = some z) ∧ w.cell? ⟨g, i * 3 + 1, none⟩ = some (V i) ∧ w.cell? ⟨g, i * 3 + 2, none⟩ = some (P i) ∧ w.frozen? ⟨g, i * 3, none⟩ = false := by
  obtain ⟨kd, hr⟩ := h.row
  have hf : ∀ x, ([.int .i64 (kd x), V x, P x] : List Value).length = 3 := fun _ => rfl
  have r0 := own_cells hr (i * 3 + 0) (.int .i64 (kd i)) ((rowC_get (f := fun x => [.int .i64 (kd x), V x, P x]) hf hi (j := 0) (by omega)).trans rfl)
  have r1 := own_cells hr (i * 3 + 1) (V i) ((rowC_get (f := fun x => [.int .i64 (kd x), V x, P x]) hf hi (j := 1) (by omega)).trans rfl)
  have r2 := own_cells hr (i * 3 + 2) (P i) ((rowC_get (f := fun x => [.int .i64 (kd x), V x, P x]) hf hi (j := 2) (by omega)).trans rfl)
  exact ⟨⟨_, r0⟩, r1, r2, (own_some hr (i * 3) (by omega)).2⟩
theorem shape_ne : (2 : TypeId) ≠ 50 ∧ (52 : TypeId) ≠ 50 := by decide
end Go.Proofs.Ytgbmnngmfcneaaa.Pl
