/- Lists are copied: the program's copied. -/
import Derived.Test.YtgbmnngmfcneaaaPlB
namespace Go.Proofs.Ytgbmnngmfcneaaa.Pl
open Go.ChangeShapes Go.WideShapes Go.ChangeAt Go.RowKit
attribute [local go_sem ↓] Go.wp_at_zero Go.wp_at_succ

/-- So many elements of so many cells lie behind a slice. -/
def Src (w : World) (k : Nat) (v : Value) (n : Nat) (xs : List Value) : Prop := xs.length = n * k ∧ (∀ u ∈ xs, u.oneCell' = true) ∧ ∃ a cap, v = .slice a n cap ∧ (n = 0 ∨ ∃ x, a = some x ∧ ∀ j u, xs[j]? = some u → w.cell? (x.add j) = some u)
theorem Src.of_own {w : World} {B e k n : Nat} {v : Value} {xs : List Value} (h : w.ownsRow B e k v n xs) (h1 : ∀ u ∈ xs, u.oneCell' = true) : Src w k v n xs := by
  refine ⟨h.1, h1, ?_⟩
  have hc := h
  rcases h.2 with ⟨rfl, h0⟩ | ⟨g, cap, cur, rfl, hb, hg, _⟩
  · exact ⟨none, 0, by rw [h0], Or.inl h0⟩
  · exact ⟨_, cap, rfl, Or.inr ⟨⟨g, 0, none⟩, rfl, fun j u hu => by rw [add_at, Nat.zero_add]; exact own_cells hc j u hu⟩⟩
theorem Src.of_nl {w : World} {v : Value} {l : List Int} (h : Nl w v l) : Src w 1 v l.length (numC l) := by
  obtain ⟨a, cap, rfl, hm, hc1, hc2, hr, hl⟩ := h
  refine ⟨by rw [numC_len, Nat.mul_one], numC_one, a, cap, rfl, ?_⟩
  rcases hl with h0 | ⟨x, hx, hxb, hc⟩
  · exact Or.inl h0
  · refine Or.inr ⟨x, hx, fun j u hu => ?_⟩
    have hj : j < l.length := by
      have := (List.getElem?_eq_some_iff.1 hu).1
      rwa [numC_len] at this
    rw [numC_get l j hj] at hu
    injection hu with hu
    rw [← hu]
    exact hc j hj
theorem make_row (w : World) {T e : TypeId} {i0 : TypeInfo} {z : Value} (n k b : Nat) (hu : Try.prog.underlying T = some (.slice e)) (hi : Try.prog.info? e = some i0) (hz0 : i0.zero = some z) (hz1 : i0.size = k) (hz2 : i0.bytes = b) (hb : b ≤ 64) (hn : n ≤ 1048576) :
    (Instr.makeSlice T (.int .i64 (n : Int)) (.int .i64 (n : Int))).run Try.prog w = .ok (.slice (some ⟨w.heap.size, 0, none⟩) n n) (w.alloc (.cells (madeCells z.cells (n * k)) e)) := by
  have hnb : n * b ≤ 1048576 * 64 := Nat.mul_le_mul hn hb
  have hq : (n : Int) * (b : Int) ≤ 281474976710656 := by
    have : ((n * b : Nat) : Int) ≤ 281474976710656 := by omega
    rwa [Int.natCast_mul] at this
  have := run_make (P := Try.prog) w T e i0 _ hu hi hz0 .i64 .i64 (n : Int) (n : Int) (by omega) (by omega) (by rw [hz2]; rw [Int.mul_comm]; exact hq) (by omega)
  rw [this]
  simp [hz1]
/-- What was made is copied into. -/
theorem fill_row (w : World) {T ty e : TypeId} {v : Value} {cur : Array Value} {n k : Nat} {xs : List Value} (hu : Try.prog.underlying T = some (.slice e)) (hs : (Try.prog.info? e).map (·.size) = some k) (hc : cur.size = n * k) (hn : n ≤ 1048576) (h : Src w k v n xs) :
    ∃ w', (Builtin.copy_ #[T, T] ty #[.slice (some ⟨w.heap.size, 0, none⟩) n n, v]).run Try.prog (w.alloc (.cells cur e)) = .ok (goInt n) w' ∧ w'.ownsRow w.heap.size e k (.slice (some ⟨w.heap.size, 0, none⟩) n n) n xs ∧ Below w.heap.size w w' ∧ w'.heap.size = w.heap.size + 1 := by
  obtain ⟨hl, h1, a, cap, rfl, hx⟩ := h
  have hg := heap_alloc_new w (.cells cur e)
  rcases hx with h0 | ⟨x, rfl, hx⟩
  · subst h0
    refine ⟨_, run_copy_zero _ _ _ _ _ _ _ _ _ _ _ hu (by rw [hs]; rfl) rfl, ?_, below_a1 _ _, by simp⟩
    refine ⟨hl, Or.inr ⟨_, _, cur, rfl, Nat.le_refl _, hg, Nat.le_refl _, Nat.zero_le _, hc, ?_⟩⟩
    have : xs = [] := List.eq_nil_of_length_eq_zero (by omega)
    subst this
    simp
  · have hr := run_copy_at (P := Try.prog) (w.alloc (.cells cur e)) T T ty e w.heap.size 0 n n x n cap cur e xs k hu hs hg (by rw [hl, show Nat.min n n = n from Nat.min_self n]) (fun j u hj => by
      have hcj := hx j u hj
      have hb : (x.add j).block < w.heap.size := World.block_lt_of_cell? _ _ hcj
      exact cell_later (below_a1 _ _) hb hcj) (by omega) h1
    have e1 : Nat.min n n = n := by show min n n = n; omega
    rw [e1] at hr
    refine ⟨_, hr, ?_, below_row (below_a1 _ _) _ (Nat.le_refl _) _, by rw [setRow_size]; simp⟩
    refine ⟨hl, Or.inr ⟨_, _, _, rfl, Nat.le_refl _, setRow_heap _ _ _ _ _ _ hg, Nat.le_refl _, by unfold maxLen; omega, ?_, ?_⟩⟩
    · simp; omega
    · simp only [List.take_zero, List.nil_append, Nat.zero_add]
      rw [List.take_append_of_le_length (by omega), List.take_of_length_le (by omega)]
set_option maxRecDepth 10000 in
theorem copi_any {w : World} {v : Value} {n : Nat} {xs : List Value} (h : Src w 1 v n xs) (hn : n ≤ 1048576) : Calls Try.prog 24 #[v] w fun e w' => ∃ u, e = .returned u ∧ w'.ownsRow w.heap.size 2 1 u n xs ∧ Below w.heap.size w w' := by
  obtain ⟨i0, hi, hz0, hz1, hz2⟩ := info_parts info_i64
  have hmk := make_row w n 1 8 Try.underlying36 hi hz0 hz1 hz2 (by omega) hn
  obtain ⟨w1, hcp, ho, hb, _⟩ := fill_row w (ty := 3) (cur := madeCells (Value.cells (.int .i64 0)) (n * 1)) Try.underlying36 size_i64 (by simp [size_madeCells]) hn h
  generalize madeCells (Value.cells (.int .i64 0)) (n * 1) = cur at *
  have hl := h.1
  obtain ⟨_, _, a, cap, rfl, _⟩ := h
  by_cases h0 : n = 0
  · subst h0
    have : xs = [] := List.eq_nil_of_length_eq_zero (by omega)
    subst this
    clear hmk hcp ho hb
    go_enter Try.func24, Try.ntmps24
    go_wp2_with fail
    go_ret
    exact ⟨_, rfl, World.ownsRow_nil _ _ _ _, Below.refl _ _⟩
  · have HO : Hid (w1.ownsRow w.heap.size 2 1 (.slice (some ⟨w.heap.size, 0, none⟩) n n) n xs) := ho
    have HB : Hid (Below w.heap.size w w1) := hb
    have hd : ((n : Int) == 0) = false := by simp; omega
    clear ho hb
    go_enter Try.func24, Try.ntmps24
    go_wp2_with fail
    go_ret
    exact ⟨_, rfl, HO.out, HB.out⟩
theorem info_coll : (Try.prog.info? 70).map (fun i => (i.zero, i.size, i.bytes)) = some (some (.agg #[.int .i64 0, .int .i64 0, .slice none 0 0, .slice none 0 0]), 4, 64) := by kernel_rfl
theorem size_coll : (Try.prog.info? 70).map (·.size) = some 4 := by kernel_rfl
set_option maxRecDepth 10000 in
theorem copp_any {w : World} {v : Value} {n : Nat} {xs : List Value} (h : Src w 2 v n xs) (hn : n ≤ 1048576) : Calls Try.prog 26 #[v] w fun e w' => ∃ u, e = .returned u ∧ w'.ownsRow w.heap.size 52 2 u n xs ∧ Below w.heap.size w w' := by
  obtain ⟨i0, hi, hz0, hz1, hz2⟩ := info_parts info_pair
  have hmk := make_row w n 2 16 Try.underlying48 hi hz0 hz1 hz2 (by omega) hn
  obtain ⟨w1, hcp, ho, hb, _⟩ := fill_row w (ty := 3) (cur := madeCells (Value.cells (.agg #[.int .i64 0, .int .i64 0])) (n * 2)) Try.underlying48 size_pair (by simp [size_madeCells]) hn h
  generalize madeCells (Value.cells (.agg #[.int .i64 0, .int .i64 0])) (n * 2) = cur at *
  have hl := h.1
  obtain ⟨_, _, a, cap, rfl, _⟩ := h
  by_cases h0 : n = 0
  · subst h0
    have : xs = [] := List.eq_nil_of_length_eq_zero (by omega)
    subst this
    clear hmk hcp ho hb
    go_enter Try.func26, Try.ntmps26
    go_wp2_with fail
    go_ret
    exact ⟨_, rfl, World.ownsRow_nil _ _ _ _, Below.refl _ _⟩
  · have HO : Hid (w1.ownsRow w.heap.size 52 2 (.slice (some ⟨w.heap.size, 0, none⟩) n n) n xs) := ho
    have HB : Hid (Below w.heap.size w w1) := hb
    have hd : ((n : Int) == 0) = false := by simp; omega
    clear ho hb
    go_enter Try.func26, Try.ntmps26
    go_wp2_with fail
    go_ret
    exact ⟨_, rfl, HO.out, HB.out⟩
set_option maxRecDepth 10000 in
theorem copc_any {w : World} {v : Value} {n : Nat} {xs : List Value} (h : Src w 4 v n xs) (hn : n ≤ 1048576) : Calls Try.prog 25 #[v] w fun e w' => ∃ u, e = .returned u ∧ w'.ownsRow w.heap.size 70 4 u n xs ∧ Below w.heap.size w w' := by
  obtain ⟨i0, hi, hz0, hz1, hz2⟩ := info_parts info_coll
  have hmk := make_row w n 4 64 Try.underlying65 hi hz0 hz1 hz2 (by omega) hn
  obtain ⟨w1, hcp, ho, hb, _⟩ := fill_row w (ty := 3) (cur := madeCells (Value.cells (.agg #[.int .i64 0, .int .i64 0, .slice none 0 0, .slice none 0 0])) (n * 4)) Try.underlying65 size_coll (by simp [size_madeCells]) hn h
  generalize madeCells (Value.cells (.agg #[.int .i64 0, .int .i64 0, .slice none 0 0, .slice none 0 0])) (n * 4) = cur at *
  have hl := h.1
  obtain ⟨_, _, a, cap, rfl, _⟩ := h
  by_cases h0 : n = 0
  · subst h0
    have : xs = [] := List.eq_nil_of_length_eq_zero (by omega)
    subst this
    clear hmk hcp ho hb
    go_enter Try.func25, Try.ntmps25
    go_wp2_with fail
    go_ret
    exact ⟨_, rfl, World.ownsRow_nil _ _ _ _, Below.refl _ _⟩
  · have HO : Hid (w1.ownsRow w.heap.size 70 4 (.slice (some ⟨w.heap.size, 0, none⟩) n n) n xs) := ho
    have HB : Hid (Below w.heap.size w w1) := hb
    have hd : ((n : Int) == 0) = false := by simp; omega
    clear ho hb
    go_enter Try.func25, Try.ntmps25
    go_wp2_with fail
    go_ret
    exact ⟨_, rfl, HO.out, HB.out⟩
end Go.Proofs.Ytgbmnngmfcneaaa.Pl
