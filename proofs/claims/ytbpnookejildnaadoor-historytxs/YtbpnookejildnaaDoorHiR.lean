/- The document's: how many events of a kind, the first one. -/
import Derived.Test.YtbpnookejildnaaDoorHiA
namespace Go.Proofs.YtbpnookejildnaaDoor.Hi
open Go.ChangeShapes Go.WideShapes Go.ChangeAt Go.RowKit
set_option linter.unusedVariables false

def hitB (kind tx : Int) (e : Ev) : Bool := decide (e.kd = kind) && (decide (tx < 0) || decide (e.tx = tx))
def cntD (H : List Ev) (to : Nat) (kind tx : Int) : Nat := (H.take to).countP (hitB kind tx)
theorem cnt_zero (H : List Ev) (kind tx : Int) : cntD H 0 kind tx = 0 := by simp [cntD]
theorem cnt_step {H : List Ev} {j : Nat} (hj : j < H.length) (kind tx : Int) : cntD H (j + 1) kind tx = cntD H j kind tx + if hitB kind tx (ne H j) = true then 1 else 0 := by
  unfold cntD
  rw [take_ne hj, List.countP_append]
  simp [List.countP_cons]
theorem cnt_le (H : List Ev) (to : Nat) (kind tx : Int) : cntD H to kind tx ≤ to := by
  unfold cntD
  exact Nat.le_trans List.countP_le_length (List.length_take_le _ _)
theorem hit_no {kind tx : Int} {e : Ev} (h : e.kd ≠ kind ∨ (0 ≤ tx ∧ e.tx ≠ tx)) : hitB kind tx e = false := by
  unfold hitB
  rcases h with h | ⟨h1, h2⟩
  · simp [h]
  · simp [h2, show ¬ tx < 0 by omega]
theorem hit_yes {kind tx : Int} {e : Ev} (h : e.kd = kind) (h2 : tx < 0 ∨ e.tx = tx) : hitB kind tx e = true := by
  unfold hitB
  rcases h2 with h2 | h2 <;> simp [h, h2]
theorem inc_cast {a b : Nat} (h : b ≤ 925925926000) (hab : a ≤ b) : wrap64 ((a : Int) + 1) = (a : Int) + 1 := by
  have h1 : (a : Int) ≤ 925925926000 := by omega
  unfold wrap64
  omega
/-- The cells of an event's kind and transaction. -/
theorem evl_kt {w : World} {x : Addr} {H : List Ev} {i : Nat} (hc : ∀ j, j < 19 → w.cell? ((x.add (i * 19)).add j) = (evC (ne H i))[j]?) : w.cell? ⟨(x.add (i * 19)).block, (x.add (i * 19)).off + 3, none⟩ = some (.int .i64 (ne H i).kd) ∧ w.cell? ⟨(x.add (i * 19)).block, (x.add (i * 19)).off + 2, none⟩ = some (.int .i64 (ne H i).tx) :=
  ⟨by rw [(evl_cells hc).2 3 (by decide) (by decide)]; rfl, by rw [(evl_cells hc).2 2 (by decide) (by decide)]; rfl⟩
set_option maxHeartbeats 1600000 in
theorem count_any {w : World} {v : Value} {H : List Ev} (h : EvL w v H) {to : Nat} (ht : to ≤ H.length) (kind tx : Int) : Calls Tryd.prog 25 #[v, .int .i64 (to : Int), .int .i64 kind, .int .i64 tx] w fun e w' => e = .returned (.int .i64 (cntD H to kind tx : Int)) ∧ w' = w := by
  obtain ⟨a, cap, rfl, hm, hcap, hcs, hca, hok, hl⟩ := h
  have HL : Hid (H.length = 0 ∨ ∃ x, a = some x ∧ x.block < w.heap.size ∧ ∀ i, i < H.length → ∀ j, j < 19 → w.cell? ((x.add (i * 19)).add j) = (evC (ne H i))[j]?) := hl
  have HM : Hid (H.length ≤ 925925926000 ∧ to ≤ H.length) := ⟨hm, ht⟩
  clear hl hm ht hcs hca hok hcap
  go_enter Tryd.func25, Tryd.ntmps25
  go_wp2_with fail
  go_loop [9, 10] (fun nv iv => ∃ j : Nat, j ≤ to ∧ iv = .int .i64 (j : Int) ∧ nv = .int .i64 (cntD H j kind tx : Int)) (fun _ iv => to - (intOf iv).toNat)
  case atStart => exact ⟨0, Nat.zero_le _, rfl, by rw [cnt_zero]; rfl⟩
  case round =>
    obtain ⟨j, hj, rfl, rfl⟩ := hrel
    by_cases hlt : j < to
    · have hjH : j < H.length := by have := HM.out; omega
      have hd : decide ((j : Int) < (to : Int)) = true := by simp; omega
      obtain ⟨x, rfl, hxb, hc⟩ := HL.out.resolve_left (by omega)
      obtain ⟨h3, h2⟩ := evl_kt (hc j hjH)
      have HS := cnt_step hjH kind tx
      have hw1 : Hid (wrap64 ((j : Int) + 1) = (j : Int) + 1) := inc_cast HM.out.1 (by omega)
      have hw2 : Hid (wrap64 ((cntD H j kind tx : Int) + 1) = (cntD H j kind tx : Int) + 1) := inc_cast HM.out.1 (by have := cnt_le H j kind tx; omega)
      have HMS : Hid (to - (j + 1) < to - j) := by rw [Hid]; omega
      have HN : Hid (((ne H j).kd ≠ kind ∨ (0 ≤ tx ∧ (ne H j).tx ≠ tx)) → cntD H (j + 1) kind tx = cntD H j kind tx) := fun hh => by rw [HS, hit_no hh]; simp
      have HY : Hid ((ne H j).kd = kind → (tx < 0 ∨ (ne H j).tx = tx) → cntD H (j + 1) kind tx = cntD H j kind tx + 1) := fun h1 h2 => by rw [HS, hit_yes h1 h2]; simp
      have hjl : (j : Int) < (H.length : Int) := by omega
      clear HS hc HL hjH
      generalize hC1 : cntD H (j + 1) kind tx = c1 at *
      have HC1 : Hid (cntD H (j + 1) kind tx = c1) := hC1
      clear hC1
      generalize cntD H j kind tx = c0 at *
      generalize (ne H j).kd = kj at *
      generalize (ne H j).tx = tj at *
      by_cases h1 : kj = kind
      · subst h1
        by_cases h4 : tx < 0
        · have hc1 := HY.out rfl (Or.inl h4)
          have hdt : decide (tx < 0) = true := by simpa using h4
          clear h4 HN HY
          go_wp2_with fail
          go_round
          case rel => exact ⟨j + 1, hlt, by rw [hw1.out]; go_num, by rw [HC1.out, hc1, hw2.out]; go_num⟩
          case measure => rw [hw1.out]; simpa [intOf] using HMS.out
        · have hdt : decide (tx < 0) = false := by simpa using h4
          by_cases h5 : tj = tx
          · subst h5
            have hc1 := HY.out rfl (Or.inr rfl)
            clear h4 HN HY
            go_wp2_with fail
            go_round
            case rel => exact ⟨j + 1, hlt, by rw [hw1.out]; go_num, by rw [HC1.out, hc1, hw2.out]; go_num⟩
            case measure => rw [hw1.out]; simpa [intOf] using HMS.out
          · have hc1 := HN.out (Or.inr ⟨by omega, h5⟩)
            have hdj : (tj == tx) = false := by simpa using h5
            clear h4 h5 HN HY
            go_wp2_with fail
            go_round
            case rel => exact ⟨j + 1, hlt, by rw [hw1.out]; go_num, by rw [HC1.out, hc1]⟩
            case measure => rw [hw1.out]; simpa [intOf] using HMS.out
      · have hc1 := HN.out (Or.inl h1)
        have hdj : (kj == kind) = false := by simpa using h1
        clear h1 HN HY
        go_wp2_with fail
        go_round
        case rel => exact ⟨j + 1, hlt, by rw [hw1.out]; go_num, by rw [HC1.out, hc1]⟩
        case measure => rw [hw1.out]; simpa [intOf] using HMS.out
    · obtain rfl : j = to := by omega
      go_wp2_with fail
      go_ret
      exact ⟨rfl, rfl⟩
end Go.Proofs.YtbpnookejildnaaDoor.Hi
