/- The program's List and Slots. -/
import Derived.Test.YtfpnpkpjkcmoaaaTabD
namespace Go.Proofs.Ytfpnpkpjkcmoaaa
open Go.ChangeShapes Go.WideShapes Go.ChangeAt Go.RowKit

/-- The cells of rows; what Slots tells. -/
def wrC (x : Wr) : List Value := [.int .i64 x.c, .int .i64 x.v]
def rowsC (R : List Wr) : List Value := R.flatMap wrC
theorem rowsC_len (R : List Wr) : (rowsC R).length = R.length * 2 := by
  induction R with
  | nil => rfl
  | cons x R ih => simp only [rowsC, List.flatMap_cons, List.length_append, List.length_cons] at ih ⊢; rw [ih]; simp [wrC]; omega
theorem rowsC_snoc (R : List Wr) (x : Wr) : rowsC (R ++ [x]) = rowsC R ++ [.int .i64 x.c, .int .i64 x.v] := by simp [rowsC, wrC]
theorem rowsC_get (R : List Wr) (i : Nat) (hi : i < R.length) : (rowsC R)[i * 2]? = some (.int .i64 (R.getD i noWr).c) ∧ (rowsC R)[i * 2 + 1]? = some (.int .i64 (R.getD i noWr).v) := by
  induction R generalizing i with
  | nil => simp at hi
  | cons x R ih =>
    have e : rowsC (x :: R) = wrC x ++ rowsC R := rfl
    have h2 : (wrC x).length = 2 := rfl
    rw [e]
    cases i with
    | zero => exact ⟨rfl, rfl⟩
    | succ i =>
      obtain ⟨h1, h3⟩ := ih i (by simpa using hi)
      rw [List.getElem?_append_right (by omega), List.getElem?_append_right (by omega), h2, show (i + 1) * 2 - 2 = i * 2 by omega, show (i + 1) * 2 + 1 - 2 = i * 2 + 1 by omega, h1, h3]
      simp
theorem rowsC_one (R : List Wr) : ∀ v ∈ rowsC R, v.oneCell' = true := by
  intro v hv
  simp only [rowsC, List.mem_flatMap] at hv
  obtain ⟨x, _, hx⟩ := hv
  simp only [wrC, List.mem_cons, List.not_mem_nil, or_false] at hx
  rcases hx with rfl | rfl <;> rfl
theorem TabAt.row {w : World} {B : Nat} {s : Tb} (h : TabAt w B s) (h24 : s.R.length ≤ 24) (j : Nat) (v : Value) (hj : (rowsC s.R)[j]? = some v) : w.cell? ⟨B, 3 + j, none⟩ = some v := by
  have hlt : j < s.R.length * 2 := by rw [← rowsC_len]; exact (List.getElem?_eq_some_iff.1 hj).1
  obtain ⟨i, hi⟩ : ∃ i, j = i * 2 ∨ j = i * 2 + 1 := ⟨j / 2, by omega⟩
  obtain ⟨h1, h2⟩ := rowsC_get s.R i (by omega)
  rcases hi with rfl | rfl
  · rw [h1] at hj
    rw [h.c i (by omega)]
    exact hj
  · rw [h2] at hj
    rw [← Nat.add_assoc, h.v i (by omega)]
    exact hj

theorem info_wr : (Try.prog.info? 39).map (fun i => (i.zero, i.size, i.bytes)) = some (some (.agg #[.int .i64 0, .int .i64 0]), 2, 16) := by kernel_rfl
theorem info_int : (Try.prog.info? 3).map (fun i => (i.zero, i.size, i.bytes)) = some (some (.int .i64 0), 1, 8) := by kernel_rfl
def fresh2 (n : Nat) : Array Value := madeCells (Value.cells (.agg #[.int .i64 0, .int .i64 0])) (n * 2)
def fresh1 (n : Nat) : Array Value := madeCells (Value.cells (.int .i64 0)) n
theorem make_wrs (w : World) (n : Nat) (hn : n ≤ 1000000) :
    (Instr.makeSlice 35 (.int .i64 (n : Int)) (.int .i64 (n : Int))).run Try.prog w = .ok (.slice (some ⟨w.heap.size, 0, none⟩) n n) (w.alloc (.cells (fresh2 n) 39)) := by
  obtain ⟨i0, hi, hz0, hz1, hz2⟩ := info_parts info_wr
  have := run_make (P := Try.prog) w 35 39 i0 _ Try.underlying35 hi hz0 .i64 .i64 (n : Int) (n : Int) (by omega) (by omega) (by rw [hz2]; omega) (by omega)
  rw [this]
  simp [fresh2, hz1]
theorem make_ints (w : World) (n : Nat) (hn : n ≤ 1000000) :
    (Instr.makeSlice 36 (.int .i64 (n : Int)) (.int .i64 (n : Int))).run Try.prog w = .ok (.slice (some ⟨w.heap.size, 0, none⟩) n n) (w.alloc (.cells (fresh1 n) 3)) := by
  obtain ⟨i0, hi, hz0, hz1, hz2⟩ := info_parts info_int
  have := run_make (P := Try.prog) w 36 3 i0 _ Try.underlying36 hi hz0 .i64 .i64 (n : Int) (n : Int) (by omega) (by omega) (by rw [hz2]; omega) (by omega)
  rw [this]
  simp [fresh1, hz1]
/-- A copy of elements of several cells each. -/
theorem run_copy_wide {P : Program} (w : World) (dT sT ty elem : TypeId) (g dLen dCap : Nat) (a : Addr) (sLen sCap : Nat) (cur : Array Value) (t : TypeId) (cs : List Value) (k : Nat)
    (hu : P.underlying dT = some (.slice elem)) (hs : (P.info? elem).map (·.size) = some k)
    (hg : w.heap[g]? = some (.cells cur t (0, 0))) (hn : cs.length = Nat.min sLen dLen * k)
    (hsrc : ∀ j v, cs[j]? = some v → w.cell? (a.add j) = some v) (hfit : cs.length = cur.size) (h1 : ∀ v ∈ cs, v.oneCell' = true) :
    (Builtin.copy_ #[dT, sT] ty #[.slice (some ⟨g, 0, none⟩) dLen dCap, .slice (some a) sLen sCap]).run P w =
      .ok (goInt (Nat.min sLen dLen)) (w.setRow g cs.toArray) := by
  have hl := run_loadCells_list (P := P) w a cs hsrc
  have hst := run_storeCells_at P g 0 t cs 0 cur w hg (by omega) h1
  have hd : (cur.toList.drop (0 + 0 + cs.length)) = [] := by apply List.drop_eq_nil_of_le; simp; omega
  rw [hd] at hst
  cases hq : P.info? elem with
  | none => simp [hq] at hs
  | some i =>
    have hi : i.size = k := by simpa [hq] using hs
    simp only [List.append_nil, Nat.add_zero, List.take_zero, List.nil_append] at hst
    simp [Builtin.copy_, run_underlying hu, Builtin.lenOf, Builtin.firstCells, sizeOf, typeInfo, hq, hi, ← hn, hl, hst]

theorem fresh2_size (n : Nat) : (fresh2 n).size = n * 2 := by simp [fresh2, size_madeCells]
/-- Of a slot its cell; -1: none. -/
def slotV (s : Tb) (q : Nat) : Int := if s.P q = 0 then -1 else (s.R.getD (s.P q - 1) noWr).c
def slotsC (s : Tb) : List Value := (List.range (2 ^ s.k)).map fun q => .int .i64 (slotV s q)
theorem slotsC_len (s : Tb) : (slotsC s).length = 2 ^ s.k := by simp [slotsC]
def slC (s : Tb) (N j : Nat) : Array Value := ((List.range N).map fun q => Value.int .i64 (if q < j then slotV s q else 0)).toArray
theorem slC_zero (s : Tb) (N : Nat) : slC s N 0 = fresh1 N := by
  apply Array.ext_getElem?
  intro i
  unfold slC fresh1 madeCells
  by_cases h : i < N
  · have e : i % 1 = 0 := Nat.mod_one i
    simp [h, Value.cells, e]
  · simp [h]
theorem slC_set (s : Tb) (N j : Nat) (h : j < N) : (slC s N j).setIfInBounds j (.int .i64 (slotV s j)) = slC s N (j + 1) :=
  map_set_range h (by simp) (fun q hq => by
    have : (q < j + 1) = (q < j) := by apply propext; omega
    simp only [this])
theorem slC_all (s : Tb) : (slC s (2 ^ s.k) (2 ^ s.k)).toList = slotsC s := by
  simp only [slC, slotsC]
  apply List.map_congr_left
  intro q hq
  rw [if_pos (List.mem_range.1 hq)]
theorem slC_size (s : Tb) (N j : Nat) : (slC s N j).size = N := by simp [slC]

set_option maxRecDepth 10000 in
theorem list_any {w : World} {B : Nat} {s : Tb} (h : TabAt w B s) (hi : Inv s) : Calls Try.prog 33 #[.pointer (some ⟨B, 0, none⟩)] w fun e w' => ∃ v, e = .returned v ∧ w'.ownsRow w.heap.size 39 2 v s.R.length (rowsC s.R) ∧ Below w.heap.size w w' := by
  have hl := hi.len
  have hm := hi.m24
  have hB : B < w.heap.size := heap_lt h
  have h2 := h.n
  have hmk := make_wrs w s.R.length (by omega)
  have hcp : ∀ ty, (Builtin.copy_ #[35, 35] ty #[.slice (some ⟨w.heap.size, 0, none⟩) s.R.length s.R.length, .slice (some ⟨B, 3, none⟩) s.R.length 24]).run Try.prog (w.alloc (.cells (fresh2 s.R.length) 39)).drew = .ok (goInt s.R.length) ((w.alloc (.cells (fresh2 s.R.length) 39)).drew.setRow w.heap.size (rowsC s.R).toArray) := fun ty => by
    have := run_copy_wide (P := Try.prog) (w.alloc (.cells (fresh2 s.R.length) 39)).drew 35 35 ty 39 w.heap.size s.R.length s.R.length ⟨B, 3, none⟩ s.R.length 24 (fresh2 s.R.length) 39 (rowsC s.R) 2 Try.underlying35 (by kernel_rfl) (heap_alloc_new w _) (by rw [rowsC_len]; simp) (fun j v hj => by
        have e : (⟨B, 3, none⟩ : Addr).add j = ⟨B, 3 + j, none⟩ := by unfold Addr.add; split <;> simp_all
        rw [e]
        have := (h.below (below_a1 w (.cells (fresh2 s.R.length) 39))).row (by omega) j v hj
        exact this) (by rw [rowsC_len, fresh2_size]) (rowsC_one _)
    rw [this]
    simp
  have hsl : (Instr.sliceAt 68 (.pointer (some ⟨B, 3, none⟩)) none (some (.int .i64 (s.R.length : Int))) none).run Try.prog (w.alloc (.cells (fresh2 s.R.length) 39)).drew = .ok (.slice (some ⟨B, 3, none⟩) s.R.length 24) (w.alloc (.cells (fresh2 s.R.length) 39)).drew := by
    obtain ⟨i0, hi, hz0, hz1, hz2⟩ := info_parts info_wr
    have ha : Try.prog.arrayLen 68 = 24 := by kernel_rfl
    have he : Try.prog.elem 68 = 39 := by kernel_rfl
    rw [run_sliceAt_array_h _ _ _ (by rw [ha, he]; exact Try.underlying68) .i64 _ (by omega) (by rw [ha]; omega)]
    simp [ha, he, slicedAt, sizeOf, typeInfo, hi, Addr.add]
  have HE : Hid (World.ownsRow ((w.alloc (.cells (fresh2 s.R.length) 39)).drew.setRow w.heap.size (rowsC s.R).toArray) w.heap.size 39 2 (.slice (some ⟨w.heap.size, 0, none⟩) s.R.length s.R.length) s.R.length (rowsC s.R)) :=
    ⟨rowsC_len _, Or.inr ⟨_, _, (rowsC s.R).toArray, rfl, Nat.le_refl _, setRow_heap _ _ _ _ _ _ (heap_alloc_new w _), Nat.le_refl _, by unfold maxLen; omega, by simp [rowsC_len], by rw [List.toList_toArray, ← rowsC_len, List.take_length]⟩⟩
  clear h hi
  generalize rowsC s.R = cs at *
  generalize s.R.length = n at *
  go_enter Try.func33, Try.ntmps33
  go_wp2
  go_region
  all_goals
    go_wp2
    go_ret
    exact ⟨_, rfl, HE.out, below_row (below_drawn (below_a1 _ _) 1) _ (Nat.le_refl _) _⟩