/- The laws' comparisons of numbers. -/
import Derived.Test.YtbpnookejildnaaDoorHiFd
namespace Go.Proofs.YtbpnookejildnaaDoor.Hi
open Go.ChangeShapes Go.WideShapes Go.ChangeAt Go.RowKit
set_option linter.unusedVariables false
theorem same_ni {a b : List Int} (hl : a.length = b.length) (h : ∀ j, j < a.length → ni a j = ni b j) : a = b := by
  apply List.ext_getElem hl
  intro i h1 h2
  rw [← ni_get h1, ← ni_get h2]
  exact h i h1
theorem il_cells {w : World} {v : Value} {l : List Int} (h : IL w v l) : ∃ a cap, v = .slice a l.length cap ∧ l.length ≤ 17592186044416 ∧ ∀ i, i < l.length → ∃ x, a = some x ∧ x.block < w.heap.size ∧ w.cell? (x.add i) = some (.int .i64 (ni l i)) := by
  obtain ⟨a, cap, rfl, hm, _, _, _, hl⟩ := h
  refine ⟨a, cap, rfl, hm, fun i hi => ?_⟩
  obtain ⟨x, h1, h2, h3⟩ := hl.resolve_left (by omega)
  exact ⟨x, h1, h2, h3 i hi⟩
set_option maxHeartbeats 1600000 in
theorem cells_any {w : World} {va vb : Value} {a b : List Int} (ha : IL w va a) (hb : IL w vb b) : Calls Tryd.prog 20 #[va, vb] w fun e w' => e = .returned (.bool (decide (a = b))) ∧ Below w.heap.size w w' := by
  obtain ⟨aa, ca, rfl, hla, hca⟩ := il_cells ha
  obtain ⟨ab, cb, rfl, hlb, hcb⟩ := il_cells hb
  by_cases hl : a.length = b.length
  · have HE : Hid ((∀ j, j < a.length → ni a j = ni b j) → decide (a = b) = true) := fun h => by simpa using same_ni hl h
    have HN : Hid (∀ j, ni a j ≠ ni b j → decide (a = b) = false) := fun j hj => by simp; intro e; exact hj (by rw [e])
    have HA : Hid (∀ i, i < a.length → ∃ x, aa = some x ∧ x.block < w.heap.size ∧ w.cell? (x.add i) = some (.int .i64 (ni a i))) := hca
    have HB : Hid (∀ i, i < a.length → ∃ x, ab = some x ∧ x.block < w.heap.size ∧ w.cell? (x.add i) = some (.int .i64 (ni b i))) := fun i hi => hcb i (by omega)
    rw [← hl]
    generalize decide (a = b) = q at *
    generalize a.length = n at *
    clear hca hcb ha hb hlb
    go_enter Tryd.func20, Tryd.ntmps20
    go_wp2_with fail
    go_loopw [5] (fun iv wr => ∃ i : Nat, i ≤ n ∧ iv = .int .i64 (i : Int) ∧ Hid (∀ j, j < i → ni a j = ni b j) ∧ Hid (Below w.heap.size w wr)) (fun iv _ => n - (intOf iv).toNat)
    case atStart => exact ⟨0, Nat.zero_le _, rfl, fun j hj => by omega, Below.refl _ _⟩
    case round =>
      obtain ⟨i, hi, rfl, HS, HW⟩ := hrel
      by_cases hlt : i < n
      · obtain ⟨x, rfl, hxb, hx⟩ := HA.out i hlt
        obtain ⟨y, rfl, hyb, hy⟩ := HB.out i hlt
        have x1 : wr.cell? (x.add i) = some (.int .i64 (ni a i)) := by rw [HW.out.cell (by rw [add_block]; exact hxb)]; exact hx
        have y1 : wr.cell? (y.add i) = some (.int .i64 (ni b i)) := by rw [HW.out.cell (by rw [add_block]; exact hyb)]; exact hy
        have hd : decide ((i : Int) < (n : Int)) = true := by simp; omega
        have hdl : (i : Int) < (n : Int) := by omega
        have hw : wrap64 ((i : Int) + 1) = (i : Int) + 1 := by unfold wrap64; omega
        have HMS : Hid (n - (i + 1) < n - i) := by rw [Hid]; omega
        clear hx hy hxb hyb
        by_cases e : ni a i = ni b i
        · have HS2 : Hid (∀ j, j < i + 1 → ni a j = ni b j) := fun j hj => by
            by_cases e2 : j < i
            · exact HS.out j e2
            · obtain rfl : j = i := by omega
              exact e
          rw [e] at x1
          generalize ni b i = z at *
          clear e HS
          go_wp2_with fail
          go_quiet (fail)
          go_wp2_with fail
          go_roundw
          case rel => exact ⟨i + 1, by omega, by first | go_num | (rw [hw]; go_num), HS2, below_drawn HW.out _⟩
          case measure => first | (simpa [intOf] using HMS.out) | (rw [hw]; simpa [intOf] using HMS.out)
        · have HQ : Hid (q = false) := HN.out i e
          have e' : (ni a i != ni b i) = true := by simpa using e
          generalize ni a i = z1 at *
          generalize ni b i = z2 at *
          clear e
          go_wp2_with fail
          go_quiet (fail)
          go_wp2_with fail
          go_ret
          exact ⟨by rw [HQ.out]; rfl, below_drawn HW.out _⟩
      · have hd : decide ((i : Int) < (n : Int)) = false := by simp; omega
        have HQ : Hid (q = true) := HE.out (fun j hj => HS.out j (by omega))
        go_wp2_with fail
        go_ret
        exact ⟨by rw [HQ.out]; rfl, HW.out⟩
  · have HN : Hid (decide (a = b) = false) := by simp [Hid]; intro e; exact hl (by rw [e])
    have hd : ((a.length : Int) != (b.length : Int)) = true := by simp; omega
    generalize decide (a = b) = q at *
    clear ha hb hca hcb
    go_enter Tryd.func20, Tryd.ntmps20
    go_wp2_with fail
    go_ret
    exact ⟨by rw [HN.out]; rfl, Below.refl _ _⟩
set_option maxHeartbeats 1600000 in
theorem ints_any {w : World} {va vb : Value} {a b : List Int} (ha : IL w va a) (hb : IL w vb b) : Calls Tryd.prog 13 #[va, vb] w fun e w' => e = .returned (.bool (decide (a = b))) ∧ Below w.heap.size w w' := by
  obtain ⟨aa, ca, rfl, hla, hca⟩ := il_cells ha
  obtain ⟨ab, cb, rfl, hlb, hcb⟩ := il_cells hb
  by_cases hl : a.length = b.length
  · have HE : Hid ((∀ j, j < a.length → ni a j = ni b j) → decide (a = b) = true) := fun h => by simpa using same_ni hl h
    have HN : Hid (∀ j, ni a j ≠ ni b j → decide (a = b) = false) := fun j hj => by simp; intro e; exact hj (by rw [e])
    have HA : Hid (∀ i, i < a.length → ∃ x, aa = some x ∧ x.block < w.heap.size ∧ w.cell? (x.add i) = some (.int .i64 (ni a i))) := hca
    have HB : Hid (∀ i, i < a.length → ∃ x, ab = some x ∧ x.block < w.heap.size ∧ w.cell? (x.add i) = some (.int .i64 (ni b i))) := fun i hi => hcb i (by omega)
    rw [← hl]
    generalize decide (a = b) = q at *
    generalize a.length = n at *
    clear hca hcb ha hb hlb
    go_enter Tryd.func13, Tryd.ntmps13
    go_wp2_with fail
    go_loopw [5] (fun iv wr => ∃ i : Nat, i ≤ n ∧ iv = .int .i64 (i : Int) ∧ Hid (∀ j, j < i → ni a j = ni b j) ∧ Hid (Below w.heap.size w wr)) (fun iv _ => n - (intOf iv).toNat)
    case atStart => exact ⟨0, Nat.zero_le _, rfl, fun j hj => by omega, Below.refl _ _⟩
    case round =>
      obtain ⟨i, hi, rfl, HS, HW⟩ := hrel
      by_cases hlt : i < n
      · obtain ⟨x, rfl, hxb, hx⟩ := HA.out i hlt
        obtain ⟨y, rfl, hyb, hy⟩ := HB.out i hlt
        have x1 : wr.cell? (x.add i) = some (.int .i64 (ni a i)) := by rw [HW.out.cell (by rw [add_block]; exact hxb)]; exact hx
        have y1 : wr.cell? (y.add i) = some (.int .i64 (ni b i)) := by rw [HW.out.cell (by rw [add_block]; exact hyb)]; exact hy
        have hd : decide ((i : Int) < (n : Int)) = true := by simp; omega
        have hdl : (i : Int) < (n : Int) := by omega
        have hw : wrap64 ((i : Int) + 1) = (i : Int) + 1 := by unfold wrap64; omega
        have HMS : Hid (n - (i + 1) < n - i) := by rw [Hid]; omega
        clear hx hy hxb hyb
        by_cases e : ni a i = ni b i
        · have HS2 : Hid (∀ j, j < i + 1 → ni a j = ni b j) := fun j hj => by
            by_cases e2 : j < i
            · exact HS.out j e2
            · obtain rfl : j = i := by omega
              exact e
          rw [e] at x1
          generalize ni b i = z at *
          clear e HS
          go_wp2_with fail
          go_quiet (fail)
          go_wp2_with fail
          go_roundw
          case rel => exact ⟨i + 1, by omega, by first | go_num | (rw [hw]; go_num), HS2, below_drawn HW.out _⟩
          case measure => first | (simpa [intOf] using HMS.out) | (rw [hw]; simpa [intOf] using HMS.out)
        · have HQ : Hid (q = false) := HN.out i e
          have e' : (ni a i != ni b i) = true := by simpa using e
          generalize ni a i = z1 at *
          generalize ni b i = z2 at *
          clear e
          go_wp2_with fail
          go_quiet (fail)
          go_wp2_with fail
          go_ret
          exact ⟨by rw [HQ.out]; rfl, below_drawn HW.out _⟩
      · have hd : decide ((i : Int) < (n : Int)) = false := by simp; omega
        have HQ : Hid (q = true) := HE.out (fun j hj => HS.out j (by omega))
        go_wp2_with fail
        go_ret
        exact ⟨by rw [HQ.out]; rfl, HW.out⟩
  · have HN : Hid (decide (a = b) = false) := by simp [Hid]; intro e; exact hl (by rw [e])
    have hd : ((a.length : Int) != (b.length : Int)) = true := by simp; omega
    generalize decide (a = b) = q at *
    clear ha hb hca hcb
    go_enter Tryd.func13, Tryd.ntmps13
    go_wp2_with fail
    go_ret
    exact ⟨by rw [HN.out]; rfl, Below.refl _ _⟩
end Go.Proofs.YtbpnookejildnaaDoor.Hi
