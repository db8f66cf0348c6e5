/- The face Timely. -/
import Derived.Test.YtadollckekddgaaDoorHiS
import Derived.Test.YtadollckekddgaaDoorHiV
namespace Go.Proofs.YtadollckekddgaaDoor.Hi
open Go.ChangeShapes Go.WideShapes Go.ChangeAt Go.RowKit
set_option linter.unusedVariables false
set_option maxRecDepth 100000

/-- Timely's answer. -/
def timelyA (H : List Ev) (o : List Int) : Bool × Int := match readD H with
  | none => (false, 14)
  | some p => if okOrd p.txs.length o = true then (timelyD (pick p.txs o), 0) else (false, 1)
set_option maxHeartbeats 1600000 in
theorem timelyf_any {w : World} {v u : Value} {H : List Ev} {o : List Int} {a c : Addr} (h : EvL w v H) (ho : IL w u o) (he : ErrAt w a c) (hpo : ∀ p, readD H = some p → PaOk p) : Calls Tryd.prog 7 #[v, u] w (BoolQ (timelyA H o) w) := by
  have HOD : Hid (Calls Tryd.prog 17 #[v, u] w (OrdQ w H o a c)) := ordered_any h ho he hpo
  have HE1 : Hid (∀ w', Below w.heap.size w w' → Calls Tryd.prog 11 #[flt (good H) a] w' fun e w'' => e = .returned (.int .i64 14) ∧ Below w'.heap.size w' w'') := fun w' hb => errno_fault (he.later hb (Nat.le_refl _)) _
  have HE2 : Hid (∀ w', Below w.heap.size w w' → Calls Tryd.prog 11 #[snt c] w' fun e w'' => e = .returned (.int .i64 1) ∧ Below w'.heap.size w' w'') := fun w' hb => errno_arg (he.later hb (Nat.le_refl _))
  clear h ho he hpo
  unfold OrdQ at HOD
  unfold BoolQ
  cases hr : readD H with
  | none =>
    have HA : Hid (timelyA H o = (false, 14)) := by rw [Hid]; unfold timelyA; rw [hr]
    rw [hr] at HOD
    rw [HA.out]
    unfold flt at *
    dsimp only at *
    generalize (Value.agg #[.int .i64 (good H : Int), .iface 127 (.pointer (some a))]) = z at *
    go_enter Tryd.func7, Tryd.ntmps7
    go_wp2_with fail
    refine HOD.out.mono ?_
    rintro e w1 ⟨rfl, hb1⟩
    have HB1 : Hid (Below w.heap.size w w1) := hb1
    clear hb1
    go_wp2_with fail
    refine (HE1.out _ HB1.out).mono ?_
    rintro e w2 ⟨rfl, hb2⟩
    go_wp2_with fail
    go_ret2
    exact ⟨rfl, HB1.out.trans (hb2.mono HB1.out.size)⟩
  | some p =>
    rw [hr] at HOD
    dsimp only at *
    cases hk : okOrd p.txs.length o with
    | false =>
      have HA : Hid (timelyA H o = (false, 1)) := by rw [Hid]; unfold timelyA; rw [hr]; simp only; rw [if_neg (by rw [hk]; simp)]
      simp only [hk, Bool.false_eq_true, ↓reduceIte] at HOD
      rw [HA.out]
      unfold snt at *
      dsimp only at *
      go_enter Tryd.func7, Tryd.ntmps7
      go_wp2_with fail
      refine HOD.out.mono ?_
      rintro e w1 ⟨rfl, hb1⟩
      have HB1 : Hid (Below w.heap.size w w1) := hb1
      clear hb1
      go_wp2_with fail
      refine (HE2.out _ HB1.out).mono ?_
      rintro e w2 ⟨rfl, hb2⟩
      go_wp2_with fail
      go_ret2
      exact ⟨rfl, HB1.out.trans (hb2.mono HB1.out.size)⟩
    | true =>
      have HA : Hid (timelyA H o = (timelyD (pick p.txs o), 0)) := by rw [Hid]; unfold timelyA; rw [hr]; simp only; rw [if_pos hk]
      simp only [hk, ↓reduceIte] at HOD
      rw [HA.out]
      dsimp only at *
      go_enter Tryd.func7, Tryd.ntmps7
      go_wp2_with fail
      refine HOD.out.mono ?_
      rintro e w1 ⟨⟨lv, b, V, rfl, hl⟩, hb1⟩
      have HB1 : Hid (Below w.heap.size w w1) := hb1
      have HL : Hid (LAt w1 w.heap.size lv (pick p.txs o) b V) := hl
      clear hb1 hl
      go_wp2_with fail
      refine (timely_any HL.out).mono ?_
      rintro e w2 ⟨rfl, hb2⟩
      go_wp2_with fail
      go_ret2
      exact ⟨rfl, HB1.out.trans (hb2.mono HB1.out.size)⟩
end Go.Proofs.YtadollckekddgaaDoor.Hi
