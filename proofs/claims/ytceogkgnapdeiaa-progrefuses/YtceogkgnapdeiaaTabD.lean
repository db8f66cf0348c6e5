/- The program's New and Clear. -/
import Derived.Test.YtceogkgnapdeiaaTabC
namespace Go.Proofs.Ytceogkgnapdeiaa
open Go.ChangeShapes Go.WideShapes Go.ChangeAt Go.RowKit

set_option maxRecDepth 100000 in
theorem len64_any (m : Nat) (h1 : 1 ≤ m) (h : m ≤ 24) (w : World) : Calls Try.prog 42 #[.int .u64 (2 * (m : Int) - 1)] w fun e w' => e = .returned (.int .i64 (pw m : Int)) ∧ w' = w := by
  have hm : m = 1 ∨ m = 2 ∨ m = 3 ∨ m = 4 ∨ m = 5 ∨ m = 6 ∨ m = 7 ∨ m = 8 ∨ m = 9 ∨ m = 10 ∨ m = 11 ∨ m = 12 ∨ m = 13 ∨ m = 14 ∨ m = 15 ∨ m = 16 ∨ m = 17 ∨ m = 18 ∨ m = 19 ∨ m = 20 ∨ m = 21 ∨ m = 22 ∨ m = 23 ∨ m = 24 := by omega
  rcases hm with rfl | rfl | rfl | rfl | rfl | rfl | rfl | rfl | rfl | rfl | rfl | rfl | rfl | rfl | rfl | rfl | rfl | rfl | rfl | rfl | rfl | rfl | rfl | rfl
  all_goals
    go_enter Try.func42, Try.ntmps42
    go_wp2
    go_ret
    exact ⟨by kernel_rfl, rfl⟩
theorem power_any (m : Nat) (h1 : 1 ≤ m) (h : m ≤ 24) (w : World) : Calls Try.prog 33 #[.int .i64 (m : Int)] w fun e w' => e = .returned (.int .i64 (pw m : Int)) ∧ w' = w := by
  have HL : Hid (Calls Try.prog 42 #[.int .u64 (2 * (m : Int) - 1)] w fun e w' => e = .returned (.int .i64 (pw m : Int)) ∧ w' = w) := len64_any m h1 h w
  have HB : Hid (Calls Try.prog 39 #[.int .u64 (2 * (m : Int) - 1)] w fun e w' => e = .returned (.int .i64 (pw m : Int)) ∧ w' = w) := by
    rw [Hid]
    go_enter Try.func39, Try.ntmps39
    go_wp2_with fail
    refine HL.out.mono ?_
    rintro e w' ⟨rfl, rfl⟩
    go_wp2
    go_ret
    exact ⟨rfl, rfl⟩
  go_enter Try.func33, Try.ntmps33
  go_wp2_with fail
  refine HB.out.mono ?_
  rintro e w' ⟨rfl, rfl⟩
  go_wp2
  go_ret
  exact ⟨rfl, rfl⟩
theorem tnew_no (w : World) (m : Int) (h : ¬ (1 ≤ m ∧ m ≤ 24)) : Calls Try.prog 28 #[.int .i64 m] w fun e w' => e = .returned (.tuple #[.pointer none, .int .i64 1]) ∧ w' = w := by
  by_cases h1 : m < 1
  · go_enter Try.func28, Try.ntmps28
    go_wp2
    go_ret2
    exact ⟨rfl, rfl⟩
  · have h2 : 24 < m := by omega
    go_enter Try.func28, Try.ntmps28
    go_wp2
    go_ret2
    exact ⟨rfl, rfl⟩
def zC : Array Value := cellsOf (fun _ => 0)
theorem zC_empty (m : Nat) : (zC.setIfInBounds 0 (.int .i64 (m : Int))).setIfInBounds 1 (.int .i64 (pw m : Int)) = tabC (empty m) := by
  unfold zC tabC
  rw [cellsOf_set _ _ (by omega), cellsOf_set _ _ (by omega)]
  apply cellsOf_congr
  intro j hj
  unfold tf empty
  by_cases h1 : j = 1
  · subst h1; rfl
  · by_cases h0 : j = 0
    · subst h0; rfl
    · simp only [h0, h1, if_false, List.length_nil, List.getD_nil]
      simp [noWr]
theorem zC_size : zC.size = 115 := by simp [zC, cellsOf]
theorem info_tab : (Try.prog.info? 86).map (fun i => (i.zero, i.size, i.bytes)) = some (some (.agg zC), 115, 920) := by kernel_rfl
theorem zero_tab (w : World) : Sem.run Try.prog (zeroValue 86) w = .ok (.agg zC) w := by
  obtain ⟨i0, hi, hz0, hz1, hz2⟩ := info_parts info_tab
  simp [zeroValue, typeInfo, hi, hz0]
set_option maxRecDepth 100000 in
theorem tnew_yes (w : World) (m : Nat) (h1 : 1 ≤ m) (h : m ≤ 24) : Calls Try.prog 28 #[.int .i64 (m : Int)] w fun e w' => ∃ B, e = .returned (.tuple #[.pointer (some ⟨B, 0, none⟩), .int .i64 0]) ∧ w.heap.size ≤ B ∧ TabAt w' B (empty m) ∧ Below w.heap.size w w' := by
  have hz : ∀ w, Sem.run Try.prog (zeroValue 86) w = .ok (.agg zC) w := zero_tab
  have hzs := zC_size
  have hzn : (zC = #[]) = False := by simp [← Array.size_eq_zero_iff, zC_size]
  have HP : Hid (∀ w, Calls Try.prog 33 #[.int .i64 (m : Int)] w fun e w' => e = .returned (.int .i64 (pw m : Int)) ∧ w' = w) := power_any m h1 h
  go_enter Try.func28, Try.ntmps28
  go_wp2_with fail
  refine (HP.out _).mono ?_
  rintro e w' ⟨rfl, rfl⟩
  go_wp2
  go_ret2
  refine ⟨_, rfl, Nat.le_refl _, ?_, below_a1 _ _⟩
  rw [zC_empty]
  exact heap_alloc_new _ _
theorem store_whole {P : Program} {w : World} {b : Nat} {t : TypeId} {old cs : Array Value} (h : w.heap[b]? = some (.cells old t (0, 0))) (hc : cs.size = old.size) (h1 : cs.all (·.oneCell') = true) : (storeCells ⟨b, 0, none⟩ cs.toList 0).run P w = .ok () (w.setRow b cs) := by
  have := run_storeCells_from (P := P) b t cs.toList 0 old w h (by simp [hc]) (fun v hv => (Array.all_eq_true_iff_forall_mem.1 h1) v (by simpa using hv))
  simpa using this
theorem tabC_size (s : Tb) : (tabC s).size = 115 := by simp [tabC, cellsOf]
theorem tabC_one (s : Tb) : (tabC s).all (·.oneCell') = true := by
  rw [Array.all_eq_true_iff_forall_mem]
  intro v hv
  simp only [tabC, cellsOf, List.mem_toArray, List.mem_map] at hv
  obtain ⟨i, _, rfl⟩ := hv
  rfl
theorem Keep.setRow {F : List Nat} {w w' : World} (h : Keep F w w') (b : Nat) (cs : Array Value) (hb : b ∈ F ∨ w.heap.size ≤ b) : Keep F w (w'.setRow b cs) :=
  ⟨h.os, h.tape, h.output, by rw [setRow_size]; exact h.size, fun k hk hn => by rw [setRow_other _ _ _ _ (fun e => by rcases hb with h1 | h1; exact hn (e ▸ h1); omega)]; exact h.block k hk hn⟩