/- The faces: Final, Legal. -/
import Derived.Test.YtadollckekddgaaDoorHiQ
namespace Go.Proofs.YtadollckekddgaaDoor.Hi
open Go.ChangeShapes Go.WideShapes Go.ChangeAt Go.RowKit
set_option linter.unusedVariables false
set_option maxRecDepth 100000

/-- Legal's answer. -/
def legalA (H : List Ev) (o : List Int) : Bool × Int := match readD H with
  | none => (false, 14)
  | some p => if okOrd p.txs.length o = true then (legalD (pick p.txs o), 0) else (false, 1)
def BoolQ (x : Bool × Int) (w : World) (e : Ending) (w' : World) : Prop := e = .returned (.tuple #[.bool x.1, .int .i64 x.2]) ∧ Below w.heap.size w w'
set_option maxHeartbeats 1600000 in
theorem legalf_any {w : World} {v u : Value} {H : List Ev} {o : List Int} {a c : Addr} (h : EvL w v H) (ho : IL w u o) (he : ErrAt w a c) (hpo : ∀ p, readD H = some p → PaOk p) : Calls Tryd.prog 8 #[v, u] w (BoolQ (legalA H o) w) := by
  have HOD : Hid (Calls Tryd.prog 17 #[v, u] w (OrdQ w H o a c)) := ordered_any h ho he hpo
  have HE1 : Hid (∀ w', Below w.heap.size w w' → Calls Tryd.prog 11 #[flt (good H) a] w' fun e w'' => e = .returned (.int .i64 14) ∧ Below w'.heap.size w' w'') := fun w' hb => errno_fault (he.later hb (Nat.le_refl _)) _
  have HE2 : Hid (∀ w', Below w.heap.size w w' → Calls Tryd.prog 11 #[snt c] w' fun e w'' => e = .returned (.int .i64 1) ∧ Below w'.heap.size w' w'') := fun w' hb => errno_arg (he.later hb (Nat.le_refl _))
  clear h ho he hpo
  unfold OrdQ at HOD
  unfold BoolQ
  cases hr : readD H with
  | none =>
    have HA : Hid (legalA H o = (false, 14)) := by rw [Hid]; unfold legalA; rw [hr]
    rw [hr] at HOD
    rw [HA.out]
    unfold flt at *
    dsimp only at *
    generalize (Value.agg #[.int .i64 (good H : Int), .iface 127 (.pointer (some a))]) = z at *
    go_enter Tryd.func8, Tryd.ntmps8
    go_wp2_with fail
    refine HOD.out.mono ?_
    rintro e w1 ⟨rfl, hb1⟩
    have HB1 : Hid (Below w.heap.size w w1) := hb1
    clear hb1
    go_wp2_with fail
    refine (HE1.out _ HB1.out).mono ?_
    rintro e w2 ⟨rfl, hb2⟩
    go_wp2_with fail
    go_ret2
    exact ⟨rfl, HB1.out.trans (hb2.mono HB1.out.size)⟩
  | some p =>
    rw [hr] at HOD
    dsimp only at *
    cases hk : okOrd p.txs.length o with
    | false =>
      have HA : Hid (legalA H o = (false, 1)) := by rw [Hid]; unfold legalA; rw [hr]; simp only; rw [if_neg (by rw [hk]; simp)]
      simp only [hk, Bool.false_eq_true, ↓reduceIte] at HOD
      rw [HA.out]
      unfold snt at *
      dsimp only at *
      go_enter Tryd.func8, Tryd.ntmps8
      go_wp2_with fail
      refine HOD.out.mono ?_
      rintro e w1 ⟨rfl, hb1⟩
      have HB1 : Hid (Below w.heap.size w w1) := hb1
      clear hb1
      go_wp2_with fail
      refine (HE2.out _ HB1.out).mono ?_
      rintro e w2 ⟨rfl, hb2⟩
      go_wp2_with fail
      go_ret2
      exact ⟨rfl, HB1.out.trans (hb2.mono HB1.out.size)⟩
    | true =>
      have HA : Hid (legalA H o = (legalD (pick p.txs o), 0)) := by rw [Hid]; unfold legalA; rw [hr]; simp only; rw [if_pos hk]
      simp only [hk, ↓reduceIte] at HOD
      rw [HA.out]
      dsimp only at *
      go_enter Tryd.func8, Tryd.ntmps8
      go_wp2_with fail
      refine HOD.out.mono ?_
      rintro e w1 ⟨⟨lv, b, V, rfl, hl⟩, hb1⟩
      have HB1 : Hid (Below w.heap.size w w1) := hb1
      have HL : Hid (LAt w1 w.heap.size lv (pick p.txs o) b V) := hl
      clear hb1 hl
      go_wp2_with fail
      refine (legal_any HL.out).mono ?_
      rintro e w2 ⟨rfl, hb2⟩
      go_wp2_with fail
      go_ret2
      exact ⟨rfl, HB1.out.trans (hb2.mono HB1.out.size)⟩
/-- What is read for so many cells. -/
def ForQ (w : World) (H : List Ev) (n : Int) (a c : Addr) (e : Ending) (w' : World) : Prop :=
  (match readD H with
  | some p => if 0 ≤ n ∧ n ≤ 1024 then ∃ P b V vt vp, e = .returned (.tuple #[ptr P, .nilIface]) ∧ PAt w' w.heap.size P H.length p b V vt vp else e = .returned (.tuple #[.pointer none, snt c])
  | none => e = .returned (.tuple #[.pointer none, flt (good H) a])) ∧ Below w.heap.size w w'
theorem readFor_any {w : World} {v : Value} {H : List Ev} {a c : Addr} (h : EvL w v H) (he : ErrAt w a c) (n : Int) : Calls Tryd.prog 20 #[v, .int .i64 n] w (ForQ w H n a c) := by
  have HRD : Hid (Calls Tryd.prog 10 #[v] w (ReadQ w H a)) := read_any h he
  have HE : Hid (ErrAt w a c) := he
  clear h he
  unfold ReadQ at HRD
  unfold ForQ
  cases hr : readD H with
  | none =>
    rw [hr] at HRD
    dsimp only at *
    unfold flt at *
    generalize (Value.agg #[.int .i64 (good H : Int), .iface 127 (.pointer (some a))]) = z at *
    go_enter Tryd.func20, Tryd.ntmps20
    go_wp2_with fail
    refine HRD.out.mono ?_
    rintro e w1 ⟨rfl, hb1⟩
    go_wp2_with fail
    go_ret2
    exact ⟨rfl, hb1⟩
  | some p =>
    rw [hr] at HRD
    dsimp only at *
    by_cases hn : 0 ≤ n ∧ n ≤ 1024
    · simp only [hn, and_self, ↓reduceIte]
      have hd1 : decide (n < 0) = false := by simp; omega
      have hd2 : decide (1024 < n) = false := by simp; omega
      clear hn
      go_enter Tryd.func20, Tryd.ntmps20
      go_wp2_with fail
      refine HRD.out.mono ?_
      rintro e w1 ⟨⟨P, b, V, vt, vp, rfl, hp⟩, hb1⟩
      have HP1 : Hid (PAt w1 w.heap.size P H.length p b V vt vp) := hp
      clear hp HRD
      unfold ptr
      go_wp2_with fail
      go_ret2
      exact ⟨⟨P, b, V, vt, vp, rfl, HP1.out⟩, hb1⟩
    · simp only [hn, ↓reduceIte]
      have hd : decide (n < 0) = true ∨ (decide (n < 0) = false ∧ decide (1024 < n) = true) := by
        by_cases h0 : n < 0
        · exact Or.inl (by simpa using h0)
        · exact Or.inr ⟨by simpa using h0, by simp; omega⟩
      clear hn
      rcases hd with hd | ⟨hd, hd2⟩
      all_goals
        go_enter Tryd.func20, Tryd.ntmps20
        go_wp2_with fail
        refine HRD.out.mono ?_
        rintro e w1 ⟨⟨P, b, V, vt, vp, rfl, hp⟩, hb1⟩
        have HB1 : Hid (Below w.heap.size w w1) := hb1
        have har := (HE.out.later HB1.out (Nat.le_refl _)).ar
        unfold ptr
        unfold snt at *
        clear hp hb1 HRD
        go_wp2_with fail
        go_quiet (fail)
        go_wp2_with fail
        go_ret2
        exact ⟨rfl, below_drawn HB1.out _⟩
end Go.Proofs.YtadollckekddgaaDoor.Hi
