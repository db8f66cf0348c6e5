/- A row of numbers: spans exchanged, turned. -/
import Derived.Test.YtadollckekddgaaDoorHiIn
import Derived.Test.YtadollckekddgaaDoorHiSn
namespace Go.Proofs.YtadollckekddgaaDoor.Hi
open Go.ChangeShapes Go.WideShapes Go.ChangeAt Go.RowKit
set_option linter.unusedVariables false

theorem add_wrap2 {a b : Nat} (h : a + b ≤ 1851851852000) : wrap64 ((a : Int) + (b : Int)) = ((a + b : Nat) : Int) := by unfold wrap64; omega
theorem add_wrap3 {a b : Nat} (h : a + b ≤ 1851851852000) : IntKind.i64.wrap ((a : Int) + (b : Int)) = ((a + b : Nat) : Int) := by rw [IntKind.wrap_i64]; omega
theorem sub_wrap2 {a b : Nat} (h : a ≤ 1851851852000) (hb : b ≤ a) : wrap64 ((a : Int) - (b : Int)) = ((a - b : Nat) : Int) := by unfold wrap64; omega
theorem sub_wrapL {a b c : Nat} (h : b + c = a) (ha : a ≤ 1851851852000) : wrap64 ((a : Int) - (b : Int)) = (c : Int) := by
  have hb : b ≤ a := by omega
  have e : a - b = c := by omega
  rw [sub_wrap2 ha hb, e]
set_option maxRecDepth 100000 in
set_option maxHeartbeats 3200000 in
theorem swapr_any {w0 w : World} {g n cap : Nat} {cv : Value} {f : Nat → Nat} (hS : SAt w0 w g n f) {a b m : Nat} (hab : a + m ≤ b) (hb : b + m ≤ n) (hn : n ≤ 925925926000) (hcap : n ≤ cap) :
    Calls Tryd.prog 51 #[.slice (some ⟨g, 0, none⟩) n cap, .int .i64 (a : Int), .int .i64 (b : Int), .int .i64 (m : Int), cv] w fun e w' => e = .returned (.tuple #[]) ∧ SAt w0 w' g n (sr f a b m) := by
  have HS0 : Hid (SAt w0 w g n (sr f a b 0)) := by rw [sr_zero]; exact hS
  have HAB : Hid (a + m ≤ b ∧ b + m ≤ n ∧ n ≤ 925925926000) := ⟨hab, hb, hn⟩
  clear hS hab hb hn
  go_enter Tryd.func51, Tryd.ntmps51
  go_wp2_with fail
  go_loopw [10] (fun iv wr => ∃ i : Nat, iv = .int .i64 (i : Int) ∧ Hid (i ≤ m) ∧ Hid (SAt w0 wr g n (sr f a b i))) (fun iv _ => (m - (intOf iv).toNat))
  case atStart => exact ⟨0, rfl, Nat.zero_le _, HS0⟩
  case round =>
    obtain ⟨i, rfl, HI, HS⟩ := hrel
    by_cases hlt : i < m
    · have hd : decide ((i : Int) < (m : Int)) = true := by simp; omega
      have hz : (i : Int) < (m : Int) := by omega
      have HB := HAB.out
      obtain ⟨i1, hi1⟩ : ∃ i1, i + 1 = i1 := ⟨_, rfl⟩
      obtain ⟨p, hp⟩ : ∃ p, a + i = p := ⟨_, rfl⟩
      obtain ⟨q, hq⟩ : ∃ q, b + i = q := ⟨_, rfl⟩
      have HMS : Hid (m - i1 < m - i) := by rw [Hid]; omega
      have HI1 : Hid (i1 ≤ m) := by rw [Hid]; omega
      have hpn : p < n := by omega
      have hqn : q < n := by omega
      have hpz : (p : Int) < (n : Int) := by omega
      have hqz : (q : Int) < (n : Int) := by omega
      have hpq : p ≠ q := by omega
      have hqp : q ≠ p := by omega
      have o1 : i ≤ 925925926001 := by omega
      have o2 : a + i ≤ 1851851852000 := by omega
      have o3 : b + i ≤ 1851851852000 := by omega
      have w1 := add_wrap2 o2
      have w2 := add_wrap2 o3
      have w3 := add_wrap3 o2
      have w4 := add_wrap3 o3
      have hw := inc_wrap1 o1
      rw [hp] at w1 w3
      rw [hq] at w2 w4
      rw [hi1] at hw
      clear o1 o2 o3
      have c1 := HS.out.cell hpn
      have c2 := HS.out.cell hqn
      have d1 := HS.out.frz p
      have d2 := HS.out.frz q
      have HW := HS.out.swp hpn hqn
      have HE : Hid (swp (sr f a b i) p q = sr f a b i1) := by rw [Hid, ← hp, ← hq, ← hi1]; exact sr_step f HB.1 hlt
      have HW2 : Hid (SAt w0 ((wr.setCell ⟨g, p, none⟩ (.int .i64 (sr f a b i q : Int))).setCell ⟨g, q, none⟩ (.int .i64 (sr f a b i p : Int))) g n (sr f a b i1)) := by rw [← HE.out]; exact HW
      generalize sr f a b i q = x at *
      generalize sr f a b i p = y at *
      clear HB hpn hqn hp hq HW HE hlt hi1 HS
      go_wp2_with fail
      go_region
      go_wp2_with fail
      go_roundw
      case rel => exact ⟨i1, by first | rfl | rw [hw], HI1, HW2.out.later (below_drawn (Below.refl _ _) 1)⟩
      case measure => first | (rw [hw]; simpa [intOf] using HMS.out) | (simpa [intOf] using HMS.out)
    · obtain rfl : i = m := by have := HI.out; omega
      have hd : decide ((i : Int) < (i : Int)) = false := by simp
      clear hlt
      go_wp2_with fail
      go_end0
      exact ⟨rfl, HS.out⟩
set_option maxRecDepth 100000 in
set_option maxHeartbeats 3200000 in
theorem rotate_any {w0 w : World} {g n cap : Nat} {cv : Value} {f : Nat → Nat} (hS : SAt w0 w g n f) {a m b : Nat} (ham : a < m) (hmb : m < b) (hb : b ≤ n) (hn : n ≤ 925925926000) (hcap : n ≤ cap) :
    Calls Tryd.prog 50 #[.slice (some ⟨g, 0, none⟩) n cap, .int .i64 (a : Int), .int .i64 (m : Int), .int .i64 (b : Int), cv] w fun e w' => e = .returned (.tuple #[]) ∧ SAt w0 w' g n (rot f a m b) := by
  have HS0 : Hid (SAt w0 w g n f) := hS
  have HAB : Hid (a < m ∧ m < b ∧ b ≤ n ∧ n ≤ 925925926000) := ⟨ham, hmb, hb, hn⟩
  have HSR : Hid (∀ (w' : World) (f' : Nat → Nat) (a' b' k : Nat), SAt w0 w' g n f' → a' + k ≤ b' → b' + k ≤ n → Calls Tryd.prog 51 #[.slice (some ⟨g, 0, none⟩) n cap, .int .i64 (a' : Int), .int .i64 (b' : Int), .int .i64 (k : Int), cv] w' fun e w'' => e = .returned (.tuple #[]) ∧ SAt w0 w'' g n (sr f' a' b' k)) := fun w' f' a' b' k h1 h2 h3 => swapr_any h1 h2 h3 hn hcap
  obtain ⟨i0, hi0⟩ : ∃ i, a + i = m := ⟨m - a, by omega⟩
  obtain ⟨j0, hj0⟩ : ∃ j, m + j = b := ⟨b - m, by omega⟩
  have o1 : m ≤ 1851851852000 := by omega
  have o2 : b ≤ 1851851852000 := by omega
  have HST : Hid ((1 ≤ i0 ∧ 1 ≤ j0 ∧ a + i0 = m ∧ a ≤ a ∧ m + j0 ≤ b) ∧ rot f a m (m + j0) = rot f a m b) := ⟨⟨by omega, by omega, hi0, Nat.le_refl _, by omega⟩, by rw [hj0]⟩
  have w1 := sub_wrapL hi0 o1
  have w2 := sub_wrapL hj0 o2
  clear hS ham hmb hb hn hi0 hj0 o1 o2
  go_enter Tryd.func50, Tryd.ntmps50
  go_wp2_with fail
  go_loopw [10, 11] (fun iv jv wr => ∃ (i j mi : Nat) (f' : Nat → Nat), iv = .int .i64 (i : Int) ∧ jv = .int .i64 (j : Int) ∧ Hid (1 ≤ i ∧ 1 ≤ j ∧ mi + i = m ∧ a ≤ mi ∧ m + j ≤ b) ∧ Hid (SAt w0 wr g n f') ∧ Hid (rot f' mi m (m + j) = rot f a m b)) (fun iv jv _ => ((intOf iv).toNat + (intOf jv).toNat))
  case atStart => exact ⟨i0, j0, a, f, by first | rw [w1] | rfl, by first | rw [w2] | rfl, HST.out.1, HS0, HST.out.2⟩
  case round =>
    obtain ⟨i, j, mi, f', rfl, rfl, HI, HS, HR⟩ := hrel
    clear w1 w2
    have hN := HAB.out
    have hI := HI.out
    have o3 : i + mi = m := by omega
    have o4 : m ≤ 1851851852000 := by omega
    have HW3 : Hid (wrap64 ((m : Int) - (i : Int)) = (mi : Int)) := sub_wrapL o3 o4
    clear o3
    by_cases hij : i = j
    · subst hij
      have hne : ((i : Int) != (i : Int)) = false := by simp
      have HSW := HSR.out wr f' mi m i HS.out (by omega) (by omega)
      have HE : Hid (sr f' mi m i = rot f a m b) := by
        rw [Hid, ← HR.out]
        have := rot_eq f' (a := mi) (m := m) (b := m + i) (by omega) (by omega) (by omega)
        rwa [show m - mi = i by omega] at this
      rw [HE.out] at HSW
      have w3 := HW3.out
      clear hN hI o4
      go_wp2_with fail
      refine HSW.mono ?_
      rintro e w5 ⟨rfl, hs⟩
      have HS5 : Hid (SAt w0 w5 g n (rot f a m b)) := hs
      clear hs HSW
      go_wp2_with fail
      go_end0
      exact ⟨rfl, HS5.out⟩
    · have hne : ((i : Int) != (j : Int)) = true := by simp; omega
      have hij' : ¬ (i : Int) = (j : Int) := by omega
      by_cases hgt : j < i
      · have hd : decide ((j : Int) < (i : Int)) = true := by simp; omega
        have hdz : (j : Int) < (i : Int) := by omega
        obtain ⟨i2, hi2⟩ : ∃ i2, j + i2 = i := ⟨i - j, by omega⟩
        have HSW := HSR.out wr f' mi m j HS.out (by omega) (by omega)
        have HE : Hid (rot (sr f' mi m j) (mi + j) m (m + j) = rot f a m b) := by
          rw [Hid, ← HR.out]
          have := rot_gt f' (a := mi) (m := m) (b := m + j) (by omega) (by omega) (by omega)
          rwa [show m + j - m = j by omega] at this
        have HI2 : Hid (1 ≤ i2 ∧ 1 ≤ j ∧ (mi + j) + i2 = m ∧ a ≤ mi + j ∧ m + j ≤ b) := by rw [Hid]; omega
        have HMS : Hid (i2 + j < i + j) := by rw [Hid]; omega
        generalize sr f' mi m j = f2 at *
        generalize mi + j = mi2 at *
        have o5 : i ≤ 1851851852000 := by omega
        have w3 := HW3.out
        have w4 := sub_wrapL hi2 o5
        clear hN hI hgt hij hi2 o4 o5
        go_wp2_with fail
        refine HSW.mono ?_
        rintro e w5 ⟨rfl, hs⟩
        have HS5 : Hid (SAt w0 w5 g n f2) := hs
        clear hs HSW
        go_wp2_with fail
        go_roundw
        case rel => exact ⟨i2, j, mi2, f2, by first | rfl | rw [w4], rfl, HI2, HS5, HE⟩
        case measure => first | (rw [w4]; simpa [intOf] using HMS.out) | (simpa [intOf] using HMS.out)
      · have hd : decide ((j : Int) < (i : Int)) = false := by simp; omega
        have hdz : ¬ (j : Int) < (i : Int) := by omega
        obtain ⟨j2, hj2⟩ : ∃ j2, i + j2 = j := ⟨j - i, by omega⟩
        obtain ⟨q, hq⟩ : ∃ q, m + j2 = q := ⟨_, rfl⟩
        obtain ⟨mj, hmj⟩ : ∃ mj, m + j = mj := ⟨_, rfl⟩
        have HSW := HSR.out wr f' mi q i HS.out (by omega) (by omega)
        have HE : Hid (rot (sr f' mi q i) mi m (m + j2) = rot f a m b) := by
          rw [Hid, ← HR.out]
          have := rot_lt f' (a := mi) (m := m) (b := m + j) (by omega) (by omega) (by omega)
          rw [show m - mi = i by omega, show m + j - i = q by omega] at this
          rw [hq]
          exact this
        have HI2 : Hid (1 ≤ i ∧ 1 ≤ j2 ∧ mi + i = m ∧ a ≤ mi ∧ m + j2 ≤ b) := by rw [Hid]; omega
        have HMS : Hid (i + j2 < i + j) := by rw [Hid]; omega
        generalize sr f' mi q i = f2 at *
        have o5 : j ≤ 1851851852000 := by omega
        have o6 : m + j ≤ 1851851852000 := by omega
        have o7 : i + q = mj := by omega
        have o8 : mj ≤ 1851851852000 := by omega
        have w3 := HW3.out
        have w4 := sub_wrapL hj2 o5
        have w5 := add_wrap2 o6
        rw [hmj] at w5
        have w6 := sub_wrapL o7 o8
        clear hN hI hgt hij hj2 hq hmj o4 o5 o6 o7 o8
        go_wp2_with fail
        refine HSW.mono ?_
        rintro e w7 ⟨rfl, hs⟩
        have HS5 : Hid (SAt w0 w7 g n f2) := hs
        clear hs HSW
        go_wp2_with fail
        go_roundw
        case rel => exact ⟨i, j2, mi, f2, rfl, by first | rfl | rw [w4], HI2, HS5, HE⟩
        case measure => first | (rw [w4]; simpa [intOf] using HMS.out) | (simpa [intOf] using HMS.out)
end Go.Proofs.YtadollckekddgaaDoor.Hi
