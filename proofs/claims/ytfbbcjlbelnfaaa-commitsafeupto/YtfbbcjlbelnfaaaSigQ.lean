/- What the document's answer tells of Of. -/
import Derived.Test.YtfbbcjlbelnfaaaJSigRSigF
import Derived.RegionTactic
import Derived.BigRegion
import Derived.Deep.RegionHeld3
namespace Go.Proofs.Ytfbbcjlbelnfaaa.Sg
open Go.ChangeShapes Go.WideShapes Go.ChangeAt Go.RowKit

theorem rof_any (w : World) (v : Value) (l : List Int) (hv : Lst w v l) :
    Calls Try.prog 22 #[v] w fun e w' => e = .returned (sv (ofAll l)) ∧ Below w.heap.size w w' := by
  obtain ⟨a, ca, rfl, hbig, hl⟩ := hv
  have HC : Hid (∀ i, i < l.length → ∃ x, a = some x ∧ w.cell? (x.add i) = some (.int .i64 (l.getD i 0))) := by
    intro i hi
    rcases hl with rfl | ⟨x, hx, hc⟩
    · exact absurd hi (by simp)
    · exact ⟨x, hx, hc i hi⟩
  clear hl
  have HE : Hid (ofTo l l.length = ofAll l) := ofTo_all l
  have HW : Hid (∀ (i : Nat) (w : World), i < l.length → Calls Try.prog 41 #[.agg (sc (ofTo l i)), .int .i64 (l.getD i 0)] w fun e w' => e = .returned (.agg (sc (ofTo l (i + 1)))) ∧ Below w.heap.size w w') := by
    intro i w hi
    rw [ofTo_succ l i hi]
    exact rwith_any _ (ok_ofTo l i) _ w
  generalize hn : l.length = n at *
  unfold sv
  go_enter Try.func22, Try.ntmps22
  go_wp2
  go_loopw [4] (fun i wr => ∃ j : Nat, j ≤ n ∧ i = .int .i64 j ∧ Two w.heap.size wr (sc nought) (sc (ofTo l j)) ∧ Below w.heap.size w wr) (fun i _ => n - (intOf i).toNat)
  case atStart => exact ⟨0, Nat.zero_le _, rfl, Two.new _ _ _, below_a2 _ _ _⟩
  case round =>
    obtain ⟨j, hj, rfl, ht, hbel⟩ := hrel
    have HT : Hid (Two w.heap.size wr (sc nought) (sc (ofTo l j))) := ht
    have HL : Hid (Below w.heap.size w wr) := hbel
    have hz : (sc (ofTo l j)).size = 8 := by rw [sc_size]; exact (ok_ofTo l j).1
    have hz' : (sc (ofTo l (j + 1))).size = 8 := by rw [sc_size]; exact (ok_ofTo l (j + 1)).1
    have h1 := sc_one (ofTo l j)
    have h1' := sc_one (ofTo l (j + 1))
    clear ht hbel
    by_cases hlt : j < n
    · obtain ⟨x, rfl, hx⟩ := HC.out j hlt
      have hcx : wr.cell? (x.add j) = some (.int .i64 (l.getD j 0)) := cell_later HL.out hx
      have HW' : Hid (∀ w : World, Calls Try.prog 41 #[.agg (sc (ofTo l j)), .int .i64 (l.getD j 0)] w fun e w' => e = .returned (.agg (sc (ofTo l (j + 1)))) ∧ Below w.heap.size w w') := fun w => HW.out j w hlt
      clear hx
      have hd : decide ((j : Int) < (n : Int)) = true := by simp; omega
      have hjn : (j : Int) < (n : Int) := by omega
      generalize hcj : sc (ofTo l (j + 1)) = cj at *
      have HCJ : Hid (sc (ofTo l (j + 1)) = cj) := hcj
      clear hcj
      generalize sc (ofTo l j) = cs at *
      generalize l.getD j 0 = c at *
      have hpk := pack8 cs hz
      have hl0 := row_cells HT.out.2 hz
      go_wp2
      go_region_with (go_at_call 41; refine (HW'.out _).mono ?_; rintro e w1 ⟨rfl, hb1⟩; have HT1 : Hid (Two w.heap.size w1 (sc nought) cs) := HT.out.later (below_undrew hb1); have HL1 : Hid (Below w.heap.size w w1) := below_then HL.out (below_undrew hb1); have hst := store_row (P := Try.prog) HT1.out.2 hz hz' h1')
      all_goals
        go_wp2
        go_roundw
        case rel => exact ⟨j + 1, by omega, by go_num, by rw [HCJ.out]; exact HT1.out.set1 _, below_setRow HL1.out _ (by omega) _⟩
        case measure => simp [intOf]; omega
    · have e : j = n := by omega
      subst e
      rw [HE.out] at hz h1 HT
      generalize hco : sc (ofAll l) = co at *
      have HCO : Hid (sc (ofAll l) = co) := hco
      clear hco
      have hpo := pack8 co hz
      have hl3 := row_cells HT.out.2 hz
      have hst := store_row (P := Try.prog) HT.out.1 rfl hz h1
      go_wp2
      exact ret_sig rfl rfl (setRow_heap _ _ _ _ _ _ HT.out.1) hz rfl ⟨by rw [HCO.out], below_setRow HL.out _ (by omega) _⟩
end Go.Proofs.Ytfbbcjlbelnfaaa.Sg