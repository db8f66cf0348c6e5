/- One instruction laid down, by the program. -/
import Derived.Test.YtbjopdmchmekpaaDoorOpL
import Derived.Laws.Concat
namespace Go.Proofs.YtbjopdmchmekpaaDoor
open Go.ChangeShapes Go.WideShapes Go.ChangeAt Go.RowKit

theorem str_app (a b : List Int) : strOfNums a ++ strOfNums b = strOfNums (a ++ b) := by
  have h : (strOfNums a ++ strOfNums b).data = (strOfNums (a ++ b)).data := by
    rw [ByteArray.data_append]
    apply Array.ext'
    rw [Array.toList_append, strOfNums_data, strOfNums_data, strOfNums_data, List.map_append]
  cases h1 : strOfNums a ++ strOfNums b
  cases h2 : strOfNums (a ++ b)
  rw [h1, h2] at h
  simp only at h
  rw [h]
theorem lay_bad (c x : Int) (hc : ¬ (0 ≤ c ∧ c ≤ 40)) (w : World) : Calls Tryd.prog 29 #[.agg #[.int .i64 c, .int .i64 x]] w fun e w' => e = .returned (.tuple #[.string ByteArray.empty, .int .i64 10]) ∧ Below w.heap.size w w' := by
  have HB : Hid (∀ w, Calls Tryd.prog 37 #[.int .i64 c] w fun e w' => e = .returned (.tuple #[.agg #[.int .i64 0, .int .i64 0, .int .i64 0], .bool false]) ∧ Below w.heap.size w w') := fun w => behind_no c hc
  clear hc
  go_enter Tryd.func29, Tryd.ntmps29
  go_wp2_with fail
  refine (HB.out _).mono ?_
  rintro e w1 ⟨rfl, hb1⟩
  go_wp2
  go_ret2
  exact ⟨rfl, below_then (below_then (below_a1 _ _) hb1) (below_a1 _ _)⟩
theorem lay_range {w : World} (c : Nat) (n : Nat) (lo hi x : Int) (hx : (decide (lo ≤ x) && decide (x ≤ hi)) = false)
    (HB : Hid (∀ o, Calls Tryd.prog 37 #[.int .i64 (c : Int)] (w.alloc o) fun e w' => e = .returned (.tuple #[.agg #[.int .i64 (n : Int), .int .i64 lo, .int .i64 hi], .bool true]) ∧ Below (w.alloc o).heap.size (w.alloc o) w')) :
    Calls Tryd.prog 29 #[.agg #[.int .i64 (c : Int), .int .i64 x]] w fun e w' => e = .returned (.tuple #[.string ByteArray.empty, .int .i64 12]) ∧ Below w.heap.size w w' := by
  have HH : Hid (∀ w, Calls Tryd.prog 48 #[.agg #[.int .i64 (n : Int), .int .i64 lo, .int .i64 hi], .int .i64 x] w fun e w' => e = .returned (.bool false) ∧ Below w.heap.size w w') := fun w => by
    have := has_any w n lo hi x
    rw [hx] at this
    exact this
  clear hx
  go_enter Tryd.func29, Tryd.ntmps29
  go_wp2_with fail
  refine (HB.out _).mono ?_
  rintro e w1 ⟨rfl, hb1⟩
  have hr := row_on (heap_alloc_new w _) hb1
  have c0 := cell_at hr 0
  have c1 := cell_at hr 1
  simp only [List.getElem?_toArray, List.getElem?_cons_zero, List.getElem?_cons_succ] at c0 c1
  have d0 : ∀ o, (w1.alloc o).cell? ⟨w.heap.size, 0, none⟩ = some (.int .i64 (c : Int)) := fun o => cell_later (below_a1 _ _) (heap_lt hr) c0
  have d1 : ∀ o, (w1.alloc o).cell? ⟨w.heap.size, 1, none⟩ = some (.int .i64 x) := fun o => cell_later (below_a1 _ _) (heap_lt hr) c1
  have hbb := below_then (below_then (below_a1 _ _) hb1) (below_a1 w1 (.cells #[.int .i64 (n : Int), .int .i64 lo, .int .i64 hi] 91))
  clear hb1 hr c0 c1 HB
  go_wp2_with fail
  refine (HH.out _).mono ?_
  rintro e w2 ⟨rfl, hb2⟩
  go_wp2
  go_ret2
  exact ⟨rfl, below_then hbb hb2⟩
/-- The bytes of an instruction that may be. -/
theorem lay_ok {w : World} (c : Nat) (hc : c ≤ 40) (n : Nat) (lo hi x : Int) (hx : (decide (lo ≤ x) && decide (x ≤ hi)) = true) (hn : n = 0 ∨ n = 1 ∨ n = 2 ∨ n = 8)
    (HB : Hid (∀ o, Calls Tryd.prog 37 #[.int .i64 (c : Int)] (w.alloc o) fun e w' => e = .returned (.tuple #[.agg #[.int .i64 (n : Int), .int .i64 lo, .int .i64 hi], .bool true]) ∧ Below (w.alloc o).heap.size (w.alloc o) w')) :
    Calls Tryd.prog 29 #[.agg #[.int .i64 (c : Int), .int .i64 x]] w fun e w' => e = .returned (.tuple #[.string (strOfNums ((c : Int) :: layN x n)), .int .i64 0]) ∧ Below w.heap.size w w' := by
  have HH : Hid (∀ w, Calls Tryd.prog 48 #[.agg #[.int .i64 (n : Int), .int .i64 lo, .int .i64 hi], .int .i64 x] w fun e w' => e = .returned (.bool true) ∧ Below w.heap.size w w') := fun w => by
    have := has_any w n lo hi x
    rw [hx] at this
    exact this
  have HL : Hid (n ≠ 0 → ∀ w, Calls Tryd.prog 49 #[.int .i64 x, .int .i64 (n : Int)] w fun e w' => e = .returned (.tuple #[.string (strOfNums (layN x n)), .int .i64 0]) ∧ Below w.heap.size w w') := fun h0 w => by
    rcases hn with rfl | rfl | rfl | rfl
    · exact absurd rfl h0
    · exact (lay1 x w).mono fun e w' ⟨he, q, hq⟩ => ⟨he, by rw [hq]; exact below_a1 _ _⟩
    · exact (lay2 x w).mono fun e w' ⟨he, q, hq⟩ => ⟨he, by rw [hq]; exact below_a1 _ _⟩
    · exact (lay8 x w).mono fun e w' ⟨he, q, hq⟩ => ⟨he, by rw [hq]; exact below_a1 _ _⟩
  clear hx
  have hcv := fun w : World => conv_new w [(c : Int)] 1 rfl #[.int .u8 (c : Int)] rfl
  have hu8 : IntKind.u8.wrap (c : Int) = (c : Int) := by rw [IntKind.wrap_u8]; omega
  go_enter Tryd.func29, Tryd.ntmps29
  go_wp2_with fail
  refine (HB.out _).mono ?_
  rintro e w1 ⟨rfl, hb1⟩
  have hr := row_on (heap_alloc_new w _) hb1
  have c0 := cell_at hr 0
  have c1 := cell_at hr 1
  simp only [List.getElem?_toArray, List.getElem?_cons_zero, List.getElem?_cons_succ] at c0 c1
  have d0 : ∀ o, (w1.alloc o).cell? ⟨w.heap.size, 0, none⟩ = some (.int .i64 (c : Int)) := fun o => cell_later (below_a1 _ _) (heap_lt hr) c0
  have d1 : ∀ o, (w1.alloc o).cell? ⟨w.heap.size, 1, none⟩ = some (.int .i64 x) := fun o => cell_later (below_a1 _ _) (heap_lt hr) c1
  have hr0 := row_on hr (below_a1 w1 (.cells #[.int .i64 (n : Int), .int .i64 lo, .int .i64 hi] 91))
  have hr1 := heap_alloc_new w1 (.cells #[.int .i64 (n : Int), .int .i64 lo, .int .i64 hi] 91)
  have hbb := below_then (below_then (below_a1 _ _) hb1) (below_a1 w1 (.cells #[.int .i64 (n : Int), .int .i64 lo, .int .i64 hi] 91))
  clear hb1 hr c0 c1 HB
  go_wp2_with fail
  refine (HH.out _).mono ?_
  rintro e w2 ⟨rfl, hb2⟩
  replace hr0 := row_on hr0 hb2
  replace hr1 := row_on hr1 hb2
  replace hbb := below_then hbb hb2
  clear hb2 d0 d1 HH
  have HB2 : Hid (Below w.heap.size w w2) := hbb
  have c0 : w2.cell? ⟨w.heap.size, 0, none⟩ = some (.int .i64 (c : Int)) := by rw [cell_at hr0]; rfl
  have c1 : w2.cell? ⟨w.heap.size, 1, none⟩ = some (.int .i64 x) := by rw [cell_at hr0]; rfl
  have c2 : w2.cell? ⟨w1.heap.size, 0, none⟩ = some (.int .i64 (n : Int)) := by rw [cell_at hr1]; rfl
  have d0 : ∀ o, (w2.alloc o).cell? ⟨w.heap.size, 0, none⟩ = some (.int .i64 (c : Int)) := fun o => cell_later (below_a1 _ _) (heap_lt hr0) c0
  have d1 : ∀ o, (w2.alloc o).cell? ⟨w.heap.size, 1, none⟩ = some (.int .i64 x) := fun o => cell_later (below_a1 _ _) (heap_lt hr0) c1
  have d2 : ∀ o, (w2.alloc o).cell? ⟨w1.heap.size, 0, none⟩ = some (.int .i64 (n : Int)) := fun o => cell_later (below_a1 _ _) (heap_lt hr1) c2
  have l0 := heap_lt hr0
  have l1 := heap_lt hr1
  clear hbb hr0 hr1
  by_cases h0 : n = 0
  · subst h0
    go_wp2
    go_ret2
    exact ⟨rfl, below_then HB2.out (below_a1 _ _)⟩
  · have h0' : ((n : Int) == 0) = false := by simp; exact h0
    have HLL : Hid (∀ w, Calls Tryd.prog 49 #[.int .i64 x, .int .i64 (n : Int)] w fun e w' => e = .returned (.tuple #[.string (strOfNums (layN x n)), .int .i64 0]) ∧ Below w.heap.size w w') := HL.out h0
    clear HL h0
    have hadd : ∀ w, (Op.stringOp .add (strOfNums [(c : Int)]) (strOfNums (layN x n))).run Tryd.prog w = .ok (.string (strOfNums ((c : Int) :: layN x n))) w := fun w => by
      have := run_string_add_sum (P := Tryd.prog) w (strOfNums [(c : Int)]) (strOfNums (layN x n)) (by rw [strOfNums_size, strOfNums_size, lay_len]; simp; omega)
      rw [str_app] at this
      exact this
    obtain ⟨R, hR⟩ : ∃ R, strOfNums ((c : Int) :: layN x n) = R := ⟨_, rfl⟩
    have HR : Hid (strOfNums ((c : Int) :: layN x n) = R) := hR
    rw [hR] at hadd
    clear hR
    generalize strOfNums (layN x n) = R2 at *
    generalize strOfNums [(c : Int)] = R1 at *
    go_wp2_with fail
    refine (HLL.out _).mono ?_
    rintro e w3 ⟨rfl, hb3⟩
    go_wp2
    go_ret2
    exact ⟨by rw [HR.out]; rfl, below_then (below_then HB2.out (below_a1 _ _)) hb3⟩
/-- What lay answers, whatever instruction. -/
theorem layop_any (c x : Int) {w : World} (hT : Tab w) : ∃ (b : ByteArray) (e : Int), Calls Tryd.prog 29 #[.agg #[.int .i64 c, .int .i64 x]] w (fun r w' => r = .returned (.tuple #[.string b, .int .i64 e]) ∧ Below w.heap.size w w') ∧
    (¬ (0 ≤ c ∧ c ≤ 40) ∧ e = 10 ∧ b = ByteArray.empty ∨ (0 ≤ c ∧ c ≤ 40) ∧ ¬ (loC c.toNat ≤ x ∧ x ≤ hiC c.toNat) ∧ e = 12 ∧ b = ByteArray.empty ∨ okI c x ∧ e = 0 ∧ b = strOfNums (bytesI c.toNat x)) := by
  by_cases hc : 0 ≤ c ∧ c ≤ 40
  · obtain ⟨k, rfl⟩ := Int.eq_ofNat_of_zero_le hc.1
    have hk : k ≤ 40 := by omega
    have HB : Hid (∀ o, Calls Tryd.prog 37 #[.int .i64 (k : Int)] (w.alloc o) fun e w' => e = .returned (.tuple #[.agg #[.int .i64 (wdC k : Int), .int .i64 (loC k), .int .i64 (hiC k)], .bool true]) ∧ Below (w.alloc o).heap.size (w.alloc o) w') := fun o => behind_yes (hT.later (below_a1 _ _)) k hk
    rw [Int.toNat_natCast]
    by_cases hx : loC k ≤ x ∧ x ≤ hiC k
    · refine ⟨_, _, lay_ok k hk (wdC k) (loC k) (hiC k) x (by simp; exact hx) (wd_cases k) HB, Or.inr (Or.inr ⟨⟨hc.1, hc.2, ?_, ?_⟩, rfl, rfl⟩)⟩
      · rw [Int.toNat_natCast]; exact hx.1
      · rw [Int.toNat_natCast]; exact hx.2
    · refine ⟨_, _, lay_range k (wdC k) (loC k) (hiC k) x ?_ HB, Or.inr (Or.inl ⟨hc, hx, rfl, rfl⟩)⟩
      rw [Bool.and_eq_false_iff]
      simp only [decide_eq_false_iff_not]
      omega
  · exact ⟨_, _, lay_bad c x hc w, Or.inl ⟨hc, rfl, rfl⟩⟩
end Go.Proofs.YtbjopdmchmekpaaDoor
