/- Rows of numbers that a call owns, as lists. -/
import Derived.Test.YtadollckekddgaaDoorHiQ
import Derived.Test.YtadollckekddgaaDoorAppW
namespace Go.Proofs.YtadollckekddgaaDoor.Hi
open Go.ChangeShapes Go.WideShapes Go.ChangeAt Go.RowKit
set_option linter.unusedVariables false

theorem ni_get {o : List Int} {i : Nat} (h : i < o.length) : ni o i = o[i] := by unfold ni; rw [List.getD_eq_getElem?_getD, List.getElem?_eq_getElem h]; rfl
def iC (l : List Int) : List Value := l.map fun x => Value.int .i64 x
theorem iC_len (l : List Int) : (iC l).length = l.length := by simp [iC]
theorem iC_snoc (l : List Int) (x : Int) : iC (l ++ [x]) = iC l ++ [.int .i64 x] := by simp [iC]
theorem iC_get {l : List Int} {i : Nat} (h : i < l.length) : (iC l)[i]? = some (.int .i64 (ni l i)) := by
  unfold iC
  rw [List.getElem?_map, List.getElem?_eq_getElem h, ← ni_get h]
  rfl
theorem own_il {w : World} {base n : Nat} {v : Value} {l : List Int} (h : w.ownsRow base 3 1 v n (iC l)) (hn : l.length = n) (hl : l.length ≤ 17592186044416) : IL w v l := by
  subst hn
  rcases h.2 with ⟨e, h0⟩ | ⟨g, cap, cur, e, hb, hg, h1, h2, h3, h4⟩
  · exact ⟨none, 0, by rw [e, h0], hl, by omega, by omega, fun _ => rfl, Or.inl h0⟩
  · refine ⟨some ⟨g, 0, none⟩, cap, e, hl, h1, by unfold maxLen at h2; omega, (fun h => by cases h), Or.inr ⟨_, rfl, heap_lt hg, fun i hi => ?_⟩⟩
    subst e
    have ha : (⟨g, 0, none⟩ : Addr).add i = ⟨g, i, none⟩ := by
      unfold Addr.add
      split <;> simp_all
    rw [ha]
    exact own_cells h i _ (iC_get hi)
theorem own_nil (w : World) (B e s : Nat) : w.ownsRow B e s (.slice none 0 0) 0 [] := ⟨by simp, Or.inl ⟨rfl, rfl⟩⟩
theorem own_some1 {w : World} {base e s n : Nat} {v : Value} {xs : List Value} (h : w.ownsRow base e s v n xs) (hn : 0 < n) : ∃ g cap, v = .slice (some ⟨g, 0, none⟩) n cap ∧ n ≤ cap ∧ ∀ j u, xs[j]? = some u → w.cell? ⟨g, j, none⟩ = some u := by
  rcases h.2 with ⟨e, h0⟩ | ⟨g, cp, cur, rfl, _, _, hc, _⟩
  · omega
  · exact ⟨g, cp, rfl, hc, own_cells h⟩
theorem info_int23 : (Tryd.prog.info? 3).map (fun i => (i.zero, i.size, i.bytes)) = some (some (.int .i64 0), 1, 8) := by kernel_rfl
end Go.Proofs.YtadollckekddgaaDoor.Hi
