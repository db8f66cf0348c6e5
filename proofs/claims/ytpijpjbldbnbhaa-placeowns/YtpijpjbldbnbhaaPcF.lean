/- PlaceChecks, PlaceSizes, PlaceBases, PlaceCells, walked. -/
import Derived.Test.YtpijpjbldbnbhaaPcE
namespace Go.Proofs.Ytpijpjbldbnbhaa.Pc
open Go.ChangeShapes Go.WideShapes Go.ChangeAt Go.RowKit
attribute [local go_sem ↓] Go.wp_at_zero Go.wp_at_succ

theorem bt {w w1 w2 : World} (h : Below w.heap.size w w1) (k : Below w1.heap.size w1 w2) : Below w.heap.size w w2 := h.trans (k.mono h.size)
abbrev Yes (w : World) : Ending → World → Prop := fun e w' => e = .returned (.bool true) ∧ Below w.heap.size w w'
theorem checks_walk {w : World} {v : Value} {c : Cf} (h : CfV w v c) : Calls Try.prog 3 #[v] w (Yes w) := by
  have HC : Hid (∀ w' : World, Below w.heap.size w w' → Calls Try.prog 9 #[v] w' fun e w'' => e = .returned (.int .i64 (chkV c)) ∧ Below w'.heap.size w' w'') := fun w' hb => check_any (h.later hb (Nat.le_refl _))
  have HD : Hid (∀ w' : World, Below w.heap.size w w' → Calls Try.prog 10 #[v] w' fun e w'' => e = .returned (.int .i64 (chkV c)) ∧ Below w'.heap.size w' w'') := fun w' hb => rcheck_any (h.later hb (Nat.le_refl _))
  obtain ⟨vr, rfl, hR⟩ := h
  generalize chkV c = y at *
  clear hR
  obtain ⟨a, b, d, s, mu, t, R⟩ := c
  unfold cfA Yes at *
  dsimp only at *
  go_enter Try.func3, Try.ntmps3
  go_wp2_with fail
  refine (HC.out _ (below_a1 _ _)).mono ?_
  rintro e w1 ⟨rfl, hb⟩
  have hr := row_nx hb
  have hk : w1.cell? ⟨w.heap.size, 0, none⟩ = some (.int .i64 a) ∧ w1.cell? ⟨w.heap.size, 1, none⟩ = some (.int .i64 b) ∧ w1.cell? ⟨w.heap.size, 2, none⟩ = some (.int .i64 d) ∧ w1.cell? ⟨w.heap.size, 3, none⟩ = some (.int .i64 s) ∧ w1.cell? ⟨w.heap.size, 4, none⟩ = some (.bool mu) ∧ w1.cell? ⟨w.heap.size, 5, none⟩ = some (.int .i64 t) ∧ w1.cell? ⟨w.heap.size, 6, none⟩ = some vr := ⟨(cell_at hr 0).trans rfl, (cell_at hr 1).trans rfl, (cell_at hr 2).trans rfl, (cell_at hr 3).trans rfl, (cell_at hr 4).trans rfl, (cell_at hr 5).trans rfl, (cell_at hr 6).trans rfl⟩
  obtain ⟨k0, k1, k2, k3, k4, k5, k6⟩ := hk
  have HB : Hid (Below w.heap.size w w1) := below_then (below_a1 _ _) hb
  clear hr hb
  go_wp2_with fail
  refine (HD.out _ HB.out).mono ?_
  rintro e w2 ⟨rfl, hb2⟩
  go_wp2_with fail
  go_ret
  exact ⟨rfl, bt HB.out hb2⟩
theorem sizes_walk (w : World) (x : Rg) : Calls Try.prog 4 #[.agg #[.int .i64 x.1, .int .i64 x.2]] w (Yes w) := by
  have HC : Hid (∀ w : World, Calls Try.prog 11 #[regV x] w fun e w' => e = .returned (.tuple #[.int .i64 (szV x), .int .i64 (erV x)]) ∧ Below w.heap.size w w') := fun w => size_any w x
  have HD : Hid (∀ w : World, Calls Try.prog 12 #[regV x] w fun e w' => e = .returned (.tuple #[.int .i64 (szV x), .int .i64 (erV x)]) ∧ Below w.heap.size w w') := fun w => rsize_any w x
  generalize szV x = y at *
  generalize erV x = z at *
  obtain ⟨k, m⟩ := x
  unfold regV Yes at *
  dsimp only at *
  go_enter Try.func4, Try.ntmps4
  go_wp2_with fail
  refine (HC.out _).mono ?_
  rintro e w1 ⟨rfl, hb⟩
  have hr := row_nx hb
  have k0 : w1.cell? ⟨w.heap.size, 0, none⟩ = some (.int .i64 k) := (cell_at hr 0).trans rfl
  have k1 : w1.cell? ⟨w.heap.size, 1, none⟩ = some (.int .i64 m) := (cell_at hr 1).trans rfl
  have HB : Hid (Below w.heap.size w w1) := below_then (below_a1 _ _) hb
  clear hr hb
  go_wp2_with fail
  refine (HD.out _).mono ?_
  rintro e w2 ⟨rfl, hb2⟩
  go_wp2_with fail
  go_ret
  exact ⟨rfl, bt HB.out hb2⟩
theorem bases_walk {w : World} {v : Value} {c : Cf} (i : Int) (h : CfV w v c) : Calls Try.prog 5 #[v, .int .i64 i] w (Yes w) := by
  have HC : Hid (∀ w' : World, Below w.heap.size w w' → Calls Try.prog 13 #[v, .int .i64 i] w' fun e w'' => e = .returned (.tuple #[.int .i64 (baseV c i).1, .int .i64 (baseV c i).2]) ∧ Below w'.heap.size w' w'') := fun w' hb => base_any (h.later hb (Nat.le_refl _)) i
  have HD : Hid (∀ w' : World, Below w.heap.size w w' → Calls Try.prog 14 #[v, .int .i64 i] w' fun e w'' => e = .returned (.tuple #[.int .i64 (baseV c i).1, .int .i64 (baseV c i).2]) ∧ Below w'.heap.size w' w'') := fun w' hb => rbase_any (h.later hb (Nat.le_refl _)) i
  obtain ⟨vr, rfl, hR⟩ := h
  generalize (baseV c i).1 = y at *
  generalize (baseV c i).2 = z at *
  clear hR
  obtain ⟨a, b, d, s, mu, t, R⟩ := c
  unfold cfA Yes at *
  dsimp only at *
  go_enter Try.func5, Try.ntmps5
  go_wp2_with fail
  refine (HC.out _ (below_a1 _ _)).mono ?_
  rintro e w1 ⟨rfl, hb⟩
  have hr := row_nx hb
  have hk : w1.cell? ⟨w.heap.size, 0, none⟩ = some (.int .i64 a) ∧ w1.cell? ⟨w.heap.size, 1, none⟩ = some (.int .i64 b) ∧ w1.cell? ⟨w.heap.size, 2, none⟩ = some (.int .i64 d) ∧ w1.cell? ⟨w.heap.size, 3, none⟩ = some (.int .i64 s) ∧ w1.cell? ⟨w.heap.size, 4, none⟩ = some (.bool mu) ∧ w1.cell? ⟨w.heap.size, 5, none⟩ = some (.int .i64 t) ∧ w1.cell? ⟨w.heap.size, 6, none⟩ = some vr := ⟨(cell_at hr 0).trans rfl, (cell_at hr 1).trans rfl, (cell_at hr 2).trans rfl, (cell_at hr 3).trans rfl, (cell_at hr 4).trans rfl, (cell_at hr 5).trans rfl, (cell_at hr 6).trans rfl⟩
  obtain ⟨k0, k1, k2, k3, k4, k5, k6⟩ := hk
  have HB : Hid (Below w.heap.size w w1) := below_then (below_a1 _ _) hb
  clear hr hb
  go_wp2_with fail
  refine (HD.out _ HB.out).mono ?_
  rintro e w2 ⟨rfl, hb2⟩
  go_wp2_with fail
  go_ret
  exact ⟨rfl, bt HB.out hb2⟩
theorem cells_walk {w : World} {v : Value} {c : Cf} (h : CfV w v c) : Calls Try.prog 6 #[v] w (Yes w) := by
  have HC : Hid (∀ w' : World, Below w.heap.size w w' → Calls Try.prog 15 #[v] w' fun e w'' => e = .returned (.tuple #[.int .i64 (cellsV c).1, .int .i64 (cellsV c).2]) ∧ Below w'.heap.size w' w'') := fun w' hb => cells_any (h.later hb (Nat.le_refl _))
  have HD : Hid (∀ w' : World, Below w.heap.size w w' → Calls Try.prog 16 #[v] w' fun e w'' => e = .returned (.tuple #[.int .i64 (cellsV c).1, .int .i64 (cellsV c).2]) ∧ Below w'.heap.size w' w'') := fun w' hb => rcells_any (h.later hb (Nat.le_refl _))
  have hle : decide ((cellsV c).1 ≤ 1024) = true := by simpa using cells_le c
  obtain ⟨vr, rfl, hR⟩ := h
  generalize (cellsV c).1 = y at *
  generalize (cellsV c).2 = z at *
  clear hR
  obtain ⟨a, b, d, s, mu, t, R⟩ := c
  unfold cfA Yes at *
  dsimp only at *
  go_enter Try.func6, Try.ntmps6
  go_wp2_with fail
  refine (HC.out _ (below_a1 _ _)).mono ?_
  rintro e w1 ⟨rfl, hb⟩
  have hr := row_nx hb
  have hk : w1.cell? ⟨w.heap.size, 0, none⟩ = some (.int .i64 a) ∧ w1.cell? ⟨w.heap.size, 1, none⟩ = some (.int .i64 b) ∧ w1.cell? ⟨w.heap.size, 2, none⟩ = some (.int .i64 d) ∧ w1.cell? ⟨w.heap.size, 3, none⟩ = some (.int .i64 s) ∧ w1.cell? ⟨w.heap.size, 4, none⟩ = some (.bool mu) ∧ w1.cell? ⟨w.heap.size, 5, none⟩ = some (.int .i64 t) ∧ w1.cell? ⟨w.heap.size, 6, none⟩ = some vr := ⟨(cell_at hr 0).trans rfl, (cell_at hr 1).trans rfl, (cell_at hr 2).trans rfl, (cell_at hr 3).trans rfl, (cell_at hr 4).trans rfl, (cell_at hr 5).trans rfl, (cell_at hr 6).trans rfl⟩
  obtain ⟨k0, k1, k2, k3, k4, k5, k6⟩ := hk
  have HB : Hid (Below w.heap.size w w1) := below_then (below_a1 _ _) hb
  clear hr hb
  go_wp2_with fail
  refine (HD.out _ HB.out).mono ?_
  rintro e w2 ⟨rfl, hb2⟩
  go_wp2_with fail
  go_ret
  exact ⟨rfl, bt HB.out hb2⟩
end Go.Proofs.Ytpijpjbldbnbhaa.Pc
