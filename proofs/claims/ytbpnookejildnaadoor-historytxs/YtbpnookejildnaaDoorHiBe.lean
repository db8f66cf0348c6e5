/- The document's: a cell behind those that published among the first ones of an order. -/
import Derived.Test.YtbpnookejildnaaDoorHiVa
import Derived.Test.YtbpnookejildnaaDoorHiTm
namespace Go.Proofs.YtbpnookejildnaaDoor.Hi
open Go.ChangeShapes Go.WideShapes Go.ChangeAt Go.RowKit
set_option linter.unusedVariables false
set_option maxRecDepth 100000

def befD (H : List Ev) (L : List Tr) (o : List Int) (cell : Int) : Nat → Int
  | 0 => 0
  | j + 1 => if (valD H (ni o j) cell H.length).isSome = true ∧ 0 < (nt L (ni o j).toNat).st then (valD H (ni o j) cell H.length).getD 0 else befD H L o cell j
set_option maxHeartbeats 1600000 in
theorem before_any {w : World} {B n : Nat} {v vl vo : Value} {H : List Ev} {L : List Tr} {o : List Int} (h : EvL w v H) (hL : w.ownsRow B 57 6 vl n (t6s L)) (hn : L.length = n) (ho : IL w vo o) {m : Nat} (hmo : m ≤ o.length) (hmb : m ≤ 925925926000) (hq : ∀ i, i < m → ∃ q : Nat, ni o i = (q : Int) ∧ q < n) (cell : Int) :
    Calls Tryd.prog 37 #[v, vl, vo, .int .i64 (m : Int), .int .i64 cell] w fun e w' => e = .returned (.int .i64 (befD H L o cell m)) ∧ w' = w := by
  have HVL : Hid (∀ tx, Calls Tryd.prog 36 #[v, .int .i64 (H.length : Int), .int .i64 tx, .int .i64 cell] w fun e w' => e = .returned (.tuple #[.int .i64 ((valD H tx cell H.length).getD 0), .bool (valD H tx cell H.length).isSome]) ∧ w' = w) := fun tx => value_any h (Nat.le_refl _) tx cell
  obtain ⟨a, cap, rfl, hl0, hcap, hcs, hca, hl⟩ := ho
  have HLO : Hid (o.length = 0 ∨ ∃ x, a = some x ∧ x.block < w.heap.size ∧ ∀ i, i < o.length → w.cell? (x.add i) = some (.int .i64 (ni o i))) := hl
  obtain ⟨ea, ecap, rfl, _⟩ := h
  obtain ⟨la, lc, rfl⟩ := own_slice hL
  have HOWN : Hid (w.ownsRow B 57 6 (.slice la n lc) n (t6s L)) := hL
  have HLN : Hid (L.length = n) := hn
  have HPN : Hid (∀ i, i < m → ∃ q : Nat, ni o i = (q : Int) ∧ q < n) := hq
  have HMO : Hid (m ≤ o.length ∧ m ≤ 925925926000) := ⟨hmo, hmb⟩
  have HW0 : Hid (wrap64 ((m : Int) - 1) = backAt m) := dec_wrap hmb
  obtain ⟨y, hy⟩ : ∃ y, y = befD H L o cell m := ⟨_, rfl⟩
  rw [← hy]
  have HY : Hid (y = befD H L o cell m) := hy
  clear hl hl0 hcap hcs hca hL hn hq hmo hmb hy
  go_enter Tryd.func37, Tryd.ntmps37
  go_wp2_with fail
  go_loop [11] (fun iv => ∃ j : Nat, j ≤ m ∧ iv = .int .i64 (backAt j) ∧ Hid (y = befD H L o cell j)) (fun iv => (intOf iv + 1).toNat)
  case atStart => exact ⟨m, Nat.le_refl _, by rw [HW0.out], HY.out⟩
  case round =>
    obtain ⟨j, hj, rfl, HV⟩ := hrel
    cases j with
    | zero =>
      have hb : backAt 0 = -1 := rfl
      have hyn : y = 0 := HV.out
      subst hyn
      rw [hb]
      clear HY HV HLO HPN
      go_wp2_with fail
      go_ret
      exact ⟨rfl, rfl⟩
    | succ k =>
      have hb : backAt (k + 1) = (k : Int) := by unfold backAt; omega
      rw [hb]
      have hkH : k < o.length := by have := HMO.out.1; omega
      obtain ⟨x, rfl, hxb, hc⟩ := HLO.out.resolve_left (by omega)
      obtain ⟨q, hq1, hq2⟩ := HPN.out k (by omega)
      have ck : w.cell? (x.add k) = some (.int .i64 (q : Int)) := by rw [hc k hkH, hq1]
      obtain ⟨g, rfl, _, hgl, hg⟩ := row6 HOWN.out HLN.out hq2
      have g3 : w.cell? ⟨g, q * 6 + 3, none⟩ = some (.int .i64 (nt L q).st) := hg 3 (by decide)
      have hql : (q : Int) < (n : Int) := by omega
      have hwk : Hid (wrap64 ((k : Int) - 1) = backAt k) := dec_wrap (by have := HMO.out.2; omega)
      have hkl : (k : Int) < (o.length : Int) := by omega
      have hk0 : decide (0 ≤ (k : Int)) = true := by simp
      have HKM : Hid (k ≤ m) := by rw [Hid]; omega
      have HMS : Hid ((backAt k + 1).toNat < ((k : Int) + 1).toNat) := by rw [Hid]; unfold backAt; omega
      have HVS : Hid (y = if (valD H (q : Int) cell H.length).isSome = true ∧ 0 < (nt L q).st then (valD H (q : Int) cell H.length).getD 0 else befD H L o cell k) := by
        have := HV.out
        unfold befD at this
        rw [hq1, Int.toNat_natCast] at this
        exact this
      clear hc hg HLO HV HY hj hkH hq1 hq2 HPN
      go_wp2_with fail
      refine (HVL.out (q : Int)).mono ?_
      rintro e w3 ⟨rfl, rfl⟩
      generalize valD H (q : Int) cell H.length = ov at *
      generalize (nt L q).st = st at *
      cases ov with
      | none =>
        have HE : Hid (y = befD H L o cell k) := by rw [Hid, HVS.out, if_neg (fun h => by simp at h)]
        clear HVS
        simp only [Option.isSome_none, Option.getD_none]
        go_wp2_with fail
        go_round
        case rel => exact ⟨k, HKM.out, by rw [hwk.out], HE⟩
        case measure => rw [hwk.out]; simpa [intOf] using HMS.out
      | some z =>
        simp only [Option.isSome_some, Option.getD_some] at HVS ⊢
        by_cases h1 : 0 < st
        · have hd : decide (0 < st) = true := by simpa using h1
          have HE : Hid (y = z) := by rw [Hid, HVS.out]; exact if_pos ⟨by first | rfl | trivial, h1⟩
          clear HVS h1
          go_wp2_with fail
          go_ret
          exact ⟨by rw [HE.out]; rfl, rfl⟩
        · have hd : decide (0 < st) = false := by simpa using h1
          have HE : Hid (y = befD H L o cell k) := by rw [Hid, HVS.out, if_neg (fun h => h1 h.2)]
          clear HVS h1
          go_wp2_with fail
          go_round
          case rel => exact ⟨k, HKM.out, by rw [hwk.out], HE⟩
          case measure => rw [hwk.out]; simpa [intOf] using HMS.out
end Go.Proofs.YtbpnookejildnaaDoor.Hi
