/- The program's find. -/
import Derived.Test.YtceogkgnapdeiaaTabA
import Derived.WalkMore
namespace Go.Proofs.Ytceogkgnapdeiaa
open Go.ChangeShapes Go.WideShapes Go.ChangeAt Go.RowKit

/-- Where a way is left. -/
structure Left (s : Tb) (c : Int) (d : Nat) (y : Bool) : Prop where
  lt : d < 2 ^ s.k
  before : ∀ e, e < d → s.P ((fst s.k c + e) % 2 ^ s.k) ≠ 0 ∧ (s.R.getD (s.P ((fst s.k c + e) % 2 ^ s.k) - 1) noWr).c ≠ c
  here : (y = false ∧ s.P ((fst s.k c + d) % 2 ^ s.k) = 0) ∨ (y = true ∧ s.P ((fst s.k c + d) % 2 ^ s.k) ≠ 0 ∧ (s.R.getD (s.P ((fst s.k c + d) % 2 ^ s.k) - 1) noWr).c = c)

theorem mod_step' (q i N : Nat) : ((q + i) % N + 1) % N = (q + (i + 1)) % N := by
  rw [Nat.mod_add_mod, Nat.add_assoc]
theorem TabAt.drewN {w : World} {B : Nat} {s : Tb} (h : TabAt w B s) (n : Nat) : TabAt (w.drewN n) B s := h

theorem Left.found {s : Tb} {c : Int} {d : Nat} (hi : Inv s) (h : Left s c d true) : ∃ i, at? s.R c = some i ∧ i < s.R.length ∧ s.P ((fst s.k c + d) % 2 ^ s.k) = i + 1 := by
  rcases h.here with ⟨h1, _⟩ | ⟨_, h1, h2⟩
  · cases h1
  · have hlo := hi.lo _ (Nat.mod_lt (fst s.k c + d) (pw_pos s.k))
    generalize s.P ((fst s.k c + d) % 2 ^ s.k) = z at *
    refine ⟨z - 1, hi.at_eq (by omega) ?_, by omega, by omega⟩
    have h3 : z - 1 < s.R.length := by omega
    simpa [h3] using h2
theorem Left.lost {s : Tb} {c : Int} {d : Nat} (hi : Inv s) (h : Left s c d false) : at? s.R c = none ∧ gap s.P (2 ^ s.k) (2 ^ s.k) (fst s.k c) = (fst s.k c + d) % 2 ^ s.k := by
  rcases h.here with ⟨_, h1⟩ | ⟨h1, _⟩
  · exact ⟨hi.none h1 h.before, gap_eq _ _ (pw_pos _) _ _ _ (hi.fst c) (Nat.le_of_lt h.lt) h1 (fun e he => (h.before e he).1)⟩
  · cases h1
end Go.Proofs.Ytceogkgnapdeiaa
