/- The document's: the place of a transaction's first event of a kind. -/
import Derived.Test.YtbpnookejildnaaDoorHiR
namespace Go.Proofs.YtbpnookejildnaaDoor.Hi
open Go.ChangeShapes Go.WideShapes Go.ChangeAt Go.RowKit
set_option linter.unusedVariables false

def hitF (kind tx : Int) (e : Ev) : Bool := decide (e.kd = kind) && decide (e.tx = tx)
def fstD (H : List Ev) (kind tx : Int) : Int := match H.findIdx? (hitF kind tx) with
  | some i => (i : Int)
  | none => -1
theorem fst_at {H : List Ev} {kind tx : Int} {j : Nat} (hj : j < H.length) (h : hitF kind tx (ne H j) = true) (hn : ∀ k, k < j → hitF kind tx (ne H k) = false) : fstD H kind tx = (j : Int) := by
  have : H.findIdx? (hitF kind tx) = some j := by
    rw [List.findIdx?_eq_some_iff_getElem]
    refine ⟨hj, by rw [ne_get hj]; exact h, fun k hk => ?_⟩
    rw [ne_get (by omega)]
    simpa using hn k hk
  unfold fstD
  rw [this]
theorem fst_none {H : List Ev} {kind tx : Int} (hn : ∀ k, k < H.length → hitF kind tx (ne H k) = false) : fstD H kind tx = -1 := by
  have : H.findIdx? (hitF kind tx) = none := by
    rw [List.findIdx?_eq_none_iff]
    intro e he
    obtain ⟨i, hi, rfl⟩ := List.getElem_of_mem he
    rw [ne_get hi]
    exact hn i hi
  unfold fstD
  rw [this]
set_option maxHeartbeats 1600000 in
theorem first_any {w : World} {v : Value} {H : List Ev} (h : EvL w v H) (kind tx : Int) : Calls Tryd.prog 26 #[v, .int .i64 kind, .int .i64 tx] w fun e w' => e = .returned (.int .i64 (fstD H kind tx)) ∧ w' = w := by
  obtain ⟨a, cap, rfl, hm, hcap, hcs, hca, hok, hl⟩ := h
  have HL : Hid (H.length = 0 ∨ ∃ x, a = some x ∧ x.block < w.heap.size ∧ ∀ i, i < H.length → ∀ j, j < 19 → w.cell? ((x.add (i * 19)).add j) = (evC (ne H i))[j]?) := hl
  have HM : Hid (H.length ≤ 925925926000) := hm
  clear hl hm hcs hca hok hcap
  go_enter Tryd.func26, Tryd.ntmps26
  go_wp2_with fail
  go_loop [7] (fun iv => ∃ j : Nat, j ≤ H.length ∧ iv = .int .i64 (j : Int) ∧ Hid (∀ k, k < j → hitF kind tx (ne H k) = false)) (fun iv => H.length - (intOf iv).toNat)
  case atStart => exact ⟨0, Nat.zero_le _, rfl, fun k hk => by omega⟩
  case round =>
    obtain ⟨j, hj, rfl, HN⟩ := hrel
    by_cases hlt : j < H.length
    · have hd : decide ((j : Int) < (H.length : Int)) = true := by simp; omega
      obtain ⟨x, rfl, hxb, hc⟩ := HL.out.resolve_left (by omega)
      obtain ⟨h3, h2⟩ := evl_kt (hc j hlt)
      have hw1 : Hid (wrap64 ((j : Int) + 1) = (j : Int) + 1) := inc_cast HM.out (by omega)
      have HMS : Hid (H.length - (j + 1) < H.length - j) := by rw [Hid]; omega
      have HY : Hid (hitF kind tx (ne H j) = true → fstD H kind tx = (j : Int)) := fun hh => fst_at hlt hh HN.out
      have HNX : Hid (hitF kind tx (ne H j) = false → ∀ k, k < j + 1 → hitF kind tx (ne H k) = false) := fun hh k hk => by
        by_cases e : k = j
        · subst e; exact hh
        · exact HN.out k (by omega)
      have hjl : (j : Int) < (H.length : Int) := by omega
      have HH : Hid (hitF kind tx (ne H j) = (decide ((ne H j).kd = kind) && decide ((ne H j).tx = tx))) := rfl
      clear hc HL HN
      generalize hitF kind tx (ne H j) = hb at *
      generalize (ne H j).kd = kj at *
      generalize (ne H j).tx = tj at *
      by_cases h1 : kj = kind
      · by_cases h5 : tj = tx
        · have HE := HY.out (by rw [HH.out]; simp [h1, h5])
          have HE2 : Hid (fstD H kind tx = (j : Int)) := HE
          have d1 : (kj == kind) = true := by simpa using h1
          have d2 : (tj == tx) = true := by simpa using h5
          clear HE HY HNX HH h1 h5
          go_wp2_with fail
          go_ret
          exact ⟨by rw [HE2.out]; rfl, rfl⟩
        · have HE : Hid (∀ k, k < j + 1 → hitF kind tx (ne H k) = false) := HNX.out (by rw [HH.out]; simp [h5])
          have d1 : (kj == kind) = true := by simpa using h1
          have d2 : (tj == tx) = false := by simpa using h5
          clear HY HNX HH h1 h5
          go_wp2_with fail
          go_round
          case rel => exact ⟨j + 1, hlt, by first | (rw [hw1.out]; go_num) | go_num, HE⟩
          case measure => first | (rw [hw1.out]; simpa [intOf] using HMS.out) | (simpa [intOf] using HMS.out)
      · have HE : Hid (∀ k, k < j + 1 → hitF kind tx (ne H k) = false) := HNX.out (by rw [HH.out]; simp [h1])
        have d1 : (kj == kind) = false := by simpa using h1
        clear HY HNX HH h1
        go_wp2_with fail
        go_round
        case rel => exact ⟨j + 1, hlt, by first | (rw [hw1.out]; go_num) | go_num, HE⟩
        case measure => first | (rw [hw1.out]; simpa [intOf] using HMS.out) | (simpa [intOf] using HMS.out)
    · obtain rfl : j = H.length := by omega
      have HE : Hid (fstD H kind tx = -1) := fst_none HN.out
      go_wp2_with fail
      go_ret
      exact ⟨by rw [HE.out]; rfl, rfl⟩
end Go.Proofs.YtbpnookejildnaaDoor.Hi
