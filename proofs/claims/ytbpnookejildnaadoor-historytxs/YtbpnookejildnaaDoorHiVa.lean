/- The document's: a transaction's last write of a cell ahead of a place. -/
import Derived.Test.YtbpnookejildnaaDoorHiR
namespace Go.Proofs.YtbpnookejildnaaDoor.Hi
open Go.ChangeShapes Go.WideShapes Go.ChangeAt Go.RowKit
set_option linter.unusedVariables false

def valD (H : List Ev) (tx cell : Int) : Nat → Option Int
  | 0 => none
  | j + 1 => if (ne H j).kd = 3 ∧ (ne H j).tx = tx ∧ (ne H j).cl = cell then some (ne H j).vl else valD H tx cell j
theorem dec_wrap {k : Nat} (h : k ≤ 925925926000) : wrap64 ((k : Int) - 1) = (k : Int) - 1 := by
  unfold wrap64
  omega
/-- Where the walk from the back stands. -/
def backAt (j : Nat) : Int := (j : Int) - 1
set_option maxHeartbeats 1600000 in
theorem value_any {w : World} {v : Value} {H : List Ev} (h : EvL w v H) {m : Nat} (ht : m ≤ H.length) (tx cell : Int) : Calls Tryd.prog 36 #[v, .int .i64 (m : Int), .int .i64 tx, .int .i64 cell] w fun e w' => e = .returned (.tuple #[.int .i64 ((valD H tx cell m).getD 0), .bool (valD H tx cell m).isSome]) ∧ w' = w := by
  obtain ⟨a, cap, rfl, hm, hcap, hcs, hca, hok, hl⟩ := h
  have HL : Hid (H.length = 0 ∨ ∃ x, a = some x ∧ x.block < w.heap.size ∧ ∀ i, i < H.length → ∀ j, j < 19 → w.cell? ((x.add (i * 19)).add j) = (evC (ne H i))[j]?) := hl
  have HM : Hid (H.length ≤ 925925926000) := hm
  have HMT : Hid (m ≤ H.length) := ht
  have HW0 : Hid (wrap64 ((m : Int) - 1) = backAt m) := dec_wrap (Nat.le_trans ht hm)
  obtain ⟨y, hy⟩ : ∃ y, y = valD H tx cell m := ⟨_, rfl⟩
  rw [← hy]
  have HY : Hid (y = valD H tx cell m) := hy
  clear hl hm hcs hca hok hcap hy ht
  go_enter Tryd.func36, Tryd.ntmps36
  go_wp2_with fail
  go_loop [10] (fun iv => ∃ j : Nat, j ≤ m ∧ iv = .int .i64 (backAt j) ∧ Hid (y = valD H tx cell j)) (fun iv => (intOf iv + 1).toNat)
  case atStart => exact ⟨m, Nat.le_refl _, by rw [HW0.out], HY.out⟩
  case round =>
    obtain ⟨j, hj, rfl, HV⟩ := hrel
    cases j with
    | zero =>
      have hb : backAt 0 = -1 := rfl
      have hyn : y = none := HV.out
      subst hyn
      rw [hb]
      clear HY HV HL
      go_wp2_with fail
      go_ret2
      exact ⟨rfl, rfl⟩
    | succ k =>
      have hb : backAt (k + 1) = (k : Int) := by unfold backAt; omega
      rw [hb]
      have hkH : k < H.length := by have := HMT.out; omega
      obtain ⟨x, rfl, hxb, hc⟩ := HL.out.resolve_left (by omega)
      have hcx := hc k hkH
      obtain ⟨h3, h2⟩ := evl_kt hcx
      have h4 : w.cell? ⟨(x.add (k * 19)).block, (x.add (k * 19)).off + 4, none⟩ = some (.int .i64 (ne H k).cl) := by rw [(evl_cells hcx).2 4 (by decide) (by decide)]; rfl
      have h5 : w.cell? ⟨(x.add (k * 19)).block, (x.add (k * 19)).off + 5, none⟩ = some (.int .i64 (ne H k).vl) := by rw [(evl_cells hcx).2 5 (by decide) (by decide)]; rfl
      have hwk : Hid (wrap64 ((k : Int) - 1) = backAt k) := dec_wrap (by have := HM.out; omega)
      have hkl : (k : Int) < (H.length : Int) := by omega
      have hk0 : decide (0 ≤ (k : Int)) = true := by simp
      have HKM : Hid (k ≤ m) := by rw [Hid]; omega
      have HMS : Hid ((backAt k + 1).toNat < ((k : Int) + 1).toNat) := by rw [Hid]; unfold backAt; omega
      have HVS : Hid (y = if (ne H k).kd = 3 ∧ (ne H k).tx = tx ∧ (ne H k).cl = cell then some (ne H k).vl else valD H tx cell k) := HV.out
      clear hc hcx HL HV HY hj hkH
      generalize (ne H k).kd = kj at *
      generalize (ne H k).tx = tj at *
      generalize (ne H k).cl = cj at *
      generalize (ne H k).vl = vj at *
      by_cases e1 : kj = 3
      · by_cases e2 : tj = tx
        · by_cases e3 : cj = cell
          · have d1 : (kj == 3) = true := by simpa using e1
            have d2 : (tj == tx) = true := by simpa using e2
            have d3 : (cj == cell) = true := by simpa using e3
            have HE : Hid (y = some vj) := by rw [Hid, HVS.out, if_pos ⟨e1, e2, e3⟩]
            clear e1 e2 e3 HVS
            go_wp2_with fail
            go_ret2
            exact ⟨by rw [HE.out]; rfl, rfl⟩
          · have d1 : (kj == 3) = true := by simpa using e1
            have d2 : (tj == tx) = true := by simpa using e2
            have d3 : (cj == cell) = false := by simpa using e3
            have HE : Hid (y = valD H tx cell k) := by rw [Hid, HVS.out, if_neg (fun h => e3 h.2.2)]
            clear e1 e2 e3 HVS
            go_wp2_with fail
            go_round
            case rel => exact ⟨k, HKM.out, by rw [hwk.out], HE⟩
            case measure => rw [hwk.out]; simpa [intOf] using HMS.out
        · have d1 : (kj == 3) = true := by simpa using e1
          have d2 : (tj == tx) = false := by simpa using e2
          have HE : Hid (y = valD H tx cell k) := by rw [Hid, HVS.out, if_neg (fun h => e2 h.2.1)]
          clear e1 e2 HVS
          go_wp2_with fail
          go_round
          case rel => exact ⟨k, HKM.out, by rw [hwk.out], HE⟩
          case measure => rw [hwk.out]; simpa [intOf] using HMS.out
      · have d1 : (kj == 3) = false := by simpa using e1
        have HE : Hid (y = valD H tx cell k) := by rw [Hid, HVS.out, if_neg (fun h => e1 h.1)]
        clear e1 HVS
        go_wp2_with fail
        go_round
        case rel => exact ⟨k, HKM.out, by rw [hwk.out], HE⟩
        case measure => rw [hwk.out]; simpa [intOf] using HMS.out
end Go.Proofs.YtbpnookejildnaaDoor.Hi
