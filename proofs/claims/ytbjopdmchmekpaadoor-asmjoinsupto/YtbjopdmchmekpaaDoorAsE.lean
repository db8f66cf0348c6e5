/- The document's target. -/
import Derived.Test.YtbjopdmchmekpaaDoorAsC
namespace Go.Proofs.YtbjopdmchmekpaaDoor
open Go.ChangeShapes Go.WideShapes Go.ChangeAt Go.RowKit

def plcC (l : List (Int × Int)) (n : Nat) : List Value := (List.range n).map fun i => .int .i64 (pos l i : Int)
theorem plcC_len (l : List (Int × Int)) (n : Nat) : (plcC l n).length = n := by simp [plcC]
theorem plcC_get (l : List (Int × Int)) (n i : Nat) (h : i < n) : (plcC l n)[i]? = some (.int .i64 (pos l i : Int)) := by simp [plcC, h]
theorem plcC_succ (l : List (Int × Int)) (n : Nat) : plcC l (n + 1) = plcC l n ++ [.int .i64 (pos l n : Int)] := by simp [plcC, List.range_succ]
def ledZ (l : List (Int × Int)) (i : Nat) : Int := match led l i with | some k => (k : Int) | none => -1
theorem leads_any (c : Nat) (w : World) : Calls Tryd.prog 53 #[.int .i64 (c : Int)] w fun e w' => e = .returned (.bool (decide (c = 24 ∨ c = 25 ∨ c = 26))) ∧ w' = w := by
  by_cases h1 : c = 24
  · subst h1
    go_enter Tryd.func53, Tryd.ntmps53
    go_wp2
    go_ret
    exact ⟨rfl, rfl⟩
  · by_cases h2 : c = 25
    · subst h2
      go_enter Tryd.func53, Tryd.ntmps53
      go_wp2
      go_ret
      exact ⟨rfl, rfl⟩
    · by_cases h3 : c = 26
      · subst h3
        go_enter Tryd.func53, Tryd.ntmps53
        go_wp2
        go_ret
        exact ⟨rfl, rfl⟩
      · have e : decide (c = 24 ∨ c = 25 ∨ c = 26) = false := by simp; omega
        rw [e]
        have d1 : ((c : Int) == 24) = false := by simp; omega
        have d2 : ((c : Int) == 25) = false := by simp; omega
        have d3 : ((c : Int) == 26) = false := by simp; omega
        have f1 : ¬ (c : Int) = 24 := by omega
        have f2 : ¬ (c : Int) = 25 := by omega
        have f3 : ¬ (c : Int) = 26 := by omega
        generalize (c : Int) = ci at *
        go_enter Tryd.func53, Tryd.ntmps53
        go_wp2
        go_ret
        exact ⟨rfl, rfl⟩
/-- What the places say of a target. -/
theorem ledZ_end {s : ByteArray} {l : List (Int × Int)} (h : Prg s l) {i : Nat} {z : Int} (ht : tg l i = some z) (hz : z = (s.size : Int)) : ledZ l i = (s.size : Int) := by
  have hp : isPos l z = true := (isPos_iff l z).2 ⟨l.length, Nat.le_refl _, by rw [h.size]; exact hz.symm⟩
  unfold ledZ
  rw [led_of ht hp, hz, Int.toNat_natCast]
theorem ledZ_at {s : ByteArray} {l : List (Int × Int)} (_h : Prg s l) {i j : Nat} {z : Int} (ht : tg l i = some z) (hj : j ≤ l.length) (hz : (pos l j : Int) = z) : ledZ l i = (pos l j : Int) := by
  have hp : isPos l z = true := (isPos_iff l z).2 ⟨j, hj, hz⟩
  unfold ledZ
  rw [led_of ht hp, ← hz, Int.toNat_natCast]
theorem ledZ_no {s : ByteArray} {l : List (Int × Int)} (h : Prg s l) {i : Nat} {z : Int} (ht : tg l i = some z) (h1 : z ≠ (s.size : Int)) (h2 : ∀ k, k < l.length → (pos l k : Int) ≠ z) : ledZ l i = -1 := by
  have hp : isPos l z = false := by
    cases e : isPos l z with
    | false => rfl
    | true =>
      obtain ⟨k, hk, hkz⟩ := (isPos_iff l z).1 e
      rcases Nat.lt_or_eq_of_le hk with h3 | h3
      · exact absurd hkz (h2 k h3)
      · rw [h3, h.size] at hkz; exact absurd hkz.symm h1
  unfold ledZ
  rw [led_no ht hp]
theorem own_at {w : World} {base : Nat} {e : TypeId} {sz n : Nat} {v : Value} {xs : List Value} (h : w.ownsRow base e sz v n xs) (hn : 0 < n) : ∃ g cap, v = .slice (some ⟨g, 0, none⟩) n cap := by
  obtain ⟨_, h⟩ := h
  rcases h with ⟨_, rfl⟩ | ⟨g, cap, cur, rfl, _⟩
  · omega
  · exact ⟨g, cap, rfl⟩
theorem meas_i {n j : Nat} (h : j < n) : n - (intOf (Value.int IntKind.i64 ((j : Int) + 1))).toNat < n - (intOf (Value.int IntKind.i64 (j : Int))).toNat := by
  show n - ((j : Int) + 1).toNat < n - (j : Int).toNat
  omega