/- When two signatures are the same, as the program compares them. -/
import Derived.Test.YtbmmicfdnfpcaaaSigB
import Derived.ChangeKeysEq
import Derived.Laws.StructEq
namespace Go.Proofs.Ytbmmicfdnfpcaaa.Sg
open Go.ChangeShapes Go.WideShapes Go.ChangeAt Go.RowKit

theorem info_u64 : (Try.prog.info? 55).map (fun i => (i.zero, i.size, i.bytes)) = some (some (.int .u64 0), 1, 8) := by kernel_rfl

theorem part_sig (s : List Nat) (i : Nat) (h : i < s.length) (w : World) : (part 55 (sc s) i).run Try.prog w = .ok (.int .u64 ((s.getD i 0 : Nat) : Int)) w :=
  run_part_plain w (by kernel_rfl) (sc_get s i h)

/-- A word of a signature by its place. -/
theorem index_sig (s : List Nat) (j : Nat) (hs : s.length = 8) (hj : j < 8) (w : World) : (Instr.index 57 (.agg (sc s)) (.int .i64 (j : Int))).run Try.prog w = .ok (.int .u64 ((s.getD j 0 : Nat) : Int)) w := by
  obtain ⟨i0, hi, hz0, hz1, hz2⟩ := info_parts info_u64
  have hp := part_sig s j (by omega) w
  simp [Instr.index, run_underlying Try.underlying57, asIntOf, hj, sizeOf, typeInfo, hi, hz1, hp]

theorem eqItems_sig (a b : List Nat) (ha : a.length = 8) (hb : b.length = 8) (d : Nat) (w : World) : ∀ (is : List Nat), (∀ i ∈ is, i < 8) →
    (Op.eqItems (d + 1) 55 1 (sc a) (sc b) is).run Try.prog w = .ok (is.all fun i => a.getD i 0 == b.getD i 0) w
  | [], _ => by simp [Op.eqItems]
  | i :: is, h => by
    have hi := h i (by simp)
    have ih := eqItems_sig a b ha hb d w is (fun j hj => h j (by simp [hj]))
    simp only [Op.eqItems, Sem.run_bind, Nat.mul_one, part_sig a i (by omega), part_sig b i (by omega), Result.andThen_ok, run_equalIn_int w d 55 .u64 .u64 _ _ Try.underlying55]
    have e : (((a.getD i 0 : Nat) : Int) == ((b.getD i 0 : Nat) : Int)) = (a.getD i 0 == b.getD i 0) := by
      rw [Bool.eq_iff_iff]; simp; omega
    rw [e, List.all_cons]
    cases (a.getD i 0 == b.getD i 0)
    · simp
    · simpa using ih

theorem all_same (a b : List Nat) (ha : a.length = 8) (hb : b.length = 8) : ((List.range 8).all fun i => a.getD i 0 == b.getD i 0) = (a == b) := by
  rw [Bool.eq_iff_iff]
  simp only [List.all_eq_true, beq_iff_eq, List.mem_range]
  constructor
  · intro h
    apply List.ext_getElem (by rw [ha, hb])
    intro i h1 h2
    have := h i (by omega)
    simpa [h1, h2] using this
  · intro h; subst h; intro _ _; rfl

theorem eql_sig (a b : List Nat) (ha : a.length = 8) (hb : b.length = 8) (w : World) : (binOp .eql 57 (.agg (sc a)) (.agg (sc b))).run Try.prog w = .ok (.bool (a == b)) w := by
  obtain ⟨i0, hi, _⟩ := info_parts info_u64
  rw [run_eql_struct, run_equalIn_array w 9999 _ _ Try.underlying57 hi, cells_u64, eqItems_sig a b ha hb 9998 w _ (fun i h => List.mem_range.1 h), all_same a b ha hb]
  rfl
theorem neq_sig (a b : List Nat) (ha : a.length = 8) (hb : b.length = 8) (w : World) : (binOp .neq 57 (.agg (sc a)) (.agg (sc b))).run Try.prog w = .ok (.bool (!(a == b))) w := by
  obtain ⟨i0, hi, _⟩ := info_parts info_u64
  rw [run_neq_struct, run_equalIn_array w 9999 _ _ Try.underlying57 hi, cells_u64, eqItems_sig a b ha hb 9998 w _ (fun i h => List.mem_range.1 h), all_same a b ha hb]
  rfl
end Go.Proofs.Ytbmmicfdnfpcaaa.Sg