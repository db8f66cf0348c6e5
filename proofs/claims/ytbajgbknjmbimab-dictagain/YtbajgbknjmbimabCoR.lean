/- What the document's answers of layers 15 to 18 share: Right, Takes, End, Read, Put, SameNumbers. -/
import Derived.Test.YtbajgbknjmbimabCoM
import Derived.RegionTactic
import Derived.BigRegion
namespace Go.Proofs.Ytbajgbknjmbimab
open Go.ChangeShapes Go.WideShapes Go.ChangeAt Go.RowKit
attribute [local go_sem ↓] Go.wp_at_zero Go.wp_at_succ

theorem rright_any (w : World) (m : Int) : Calls Try.prog 25 #[.int .i64 m] w fun e w' => e = .returned (.bool (decide (0 ≤ m) && decide (m ≤ 16))) ∧ w' = w := by
  by_cases h1 : 0 ≤ m
  · by_cases h2 : m ≤ 16
    · have d1 : decide (0 ≤ m) = true := by simpa using h1
      have d2 : decide (m ≤ 16) = true := by simpa using h2
      clear h1 h2
      go_enter Try.func25, Try.ntmps25
      go_wp2
      go_ret
      exact ⟨by simp [d1, d2], rfl⟩
    · have d1 : decide (0 ≤ m) = true := by simpa using h1
      have d2 : decide (m ≤ 16) = false := by simpa using h2
      clear h1 h2
      go_enter Try.func25, Try.ntmps25
      go_wp2
      go_ret
      exact ⟨by simp [d1, d2], rfl⟩
  · have d1 : decide (0 ≤ m) = false := by simpa using h1
    clear h1
    go_enter Try.func25, Try.ntmps25
    go_wp2
    go_ret
    exact ⟨by simp [d1], rfl⟩
theorem nl_cells {w : World} {a : Option Addr} {n cap : Nat} {l : List Int} (h : Nl w (.slice a n cap) l) : n = l.length ∧ l.length ≤ 17592186044416 ∧ ∀ i, i < l.length → ∃ x, a = some x ∧ x.block < w.heap.size ∧ w.cell? (x.add i) = some (.int .i64 (nth l i)) := by
  obtain ⟨a', cap', hv, hm, hc1, hc2, hr, hl⟩ := h
  injection hv with h1 h2 h3
  subst h1 h2 h3
  refine ⟨rfl, hm, fun i hi => ?_⟩
  obtain ⟨x, hx, hxb, hc⟩ := hl.resolve_left (by omega)
  exact ⟨x, hx, hxb, hc i hi⟩
theorem nl_slice {w : World} {v : Value} {l : List Int} (h : Nl w v l) : ∃ a cap, v = .slice a l.length cap := by
  obtain ⟨a, cap, hv, _⟩ := h
  exact ⟨a, cap, hv⟩
/-- From a place on both lists are the same. -/
def sameF (a b : List Int) (i : Nat) : Prop := ∀ j, i ≤ j → j < a.length → nth a j = nth b j
theorem same_eq {a b : List Int} (h : a.length = b.length) (hs : ∀ j, j < a.length → nth a j = nth b j) : a = b := by
  apply List.ext_getElem h
  intro i h1 h2
  have := hs i h1
  rwa [nth_at h1, nth_at h2] at this