/- When two signatures are the same, as the program compares them. -/
import Derived.Test.YtfbbcjlbelnfaaaSigB
import Derived.ChangeKeysEq
import Derived.Laws.StructEq
import Derived.Test.YtfbbcjlbelnfaaaSigP
namespace Go.Proofs.Ytfbbcjlbelnfaaa.Sg
open Go.ChangeShapes Go.WideShapes Go.ChangeAt Go.RowKit

theorem info_u64 : (Try.prog.info? 25).map (fun i => (i.zero, i.size, i.bytes)) = some (some (.int .u64 0), 1, 8) := by kernel_rfl

theorem part_sig (s : List Nat) (i : Nat) (h : i < s.length) (w : World) : (part 25 (sc s) i).run Try.prog w = .ok (.int .u64 ((s.getD i 0 : Nat) : Int)) w :=
  run_part_plain w (by kernel_rfl) (sc_get s i h)

/-- A word of a signature by its place. -/
theorem index_sig (s : List Nat) (j : Nat) (hs : s.length = 8) (hj : j < 8) (w : World) : (Instr.index 27 (.agg (sc s)) (.int .i64 (j : Int))).run Try.prog w = .ok (.int .u64 ((s.getD j 0 : Nat) : Int)) w := by
  obtain ⟨i0, hi, hz0, hz1, hz2⟩ := info_parts info_u64
  have hp := part_sig s j (by omega) w
  simp [Instr.index, run_underlying Try.underlying27, asIntOf, hj, sizeOf, typeInfo, hi, hz1, hp]

theorem eqItems_sig (a b : List Nat) (ha : a.length = 8) (hb : b.length = 8) (d : Nat) (w : World) : ∀ (is : List Nat), (∀ i ∈ is, i < 8) →
    (Op.eqItems (d + 1) 25 1 (sc a) (sc b) is).run Try.prog w = .ok (is.all fun i => a.getD i 0 == b.getD i 0) w
  | [], _ => by simp [Op.eqItems]
  | i :: is, h => by
    have hi := h i (by simp)
    have ih := eqItems_sig a b ha hb d w is (fun j hj => h j (by simp [hj]))
    simp only [Op.eqItems, Sem.run_bind, Nat.mul_one, part_sig a i (by omega), part_sig b i (by omega), Result.andThen_ok, run_equalIn_int w d 25 .u64 .u64 _ _ Try.underlying25]
    have e : (((a.getD i 0 : Nat) : Int) == ((b.getD i 0 : Nat) : Int)) = (a.getD i 0 == b.getD i 0) := by
      rw [Bool.eq_iff_iff]; simp; omega
    rw [e, List.all_cons]
    cases (a.getD i 0 == b.getD i 0)
    · simp
    · simpa using ih

theorem all_same (a b : List Nat) (ha : a.length = 8) (hb : b.length = 8) : ((List.range 8).all fun i => a.getD i 0 == b.getD i 0) = (a == b) := by
  rw [Bool.eq_iff_iff]
  simp only [List.all_eq_true, beq_iff_eq, List.mem_range]
  constructor
  · intro h
    apply List.ext_getElem (by rw [ha, hb])
    intro i h1 h2
    have := h i (by omega)
    simpa [h1, h2] using this
  · intro h; subst h; intro _ _; rfl

theorem eql_sig (a b : List Nat) (ha : a.length = 8) (hb : b.length = 8) (w : World) : (binOp .eql 27 (.agg (sc a)) (.agg (sc b))).run Try.prog w = .ok (.bool (a == b)) w := by
  obtain ⟨i0, hi, _⟩ := info_parts info_u64
  rw [run_eql_struct, run_equalIn_array w 9999 _ _ Try.underlying27 hi, cells_u64, eqItems_sig a b ha hb 9998 w _ (fun i h => List.mem_range.1 h), all_same a b ha hb]
  rfl
theorem neq_sig (a b : List Nat) (ha : a.length = 8) (hb : b.length = 8) (w : World) : (binOp .neq 27 (.agg (sc a)) (.agg (sc b))).run Try.prog w = .ok (.bool (!(a == b))) w := by
  obtain ⟨i0, hi, _⟩ := info_parts info_u64
  rw [run_neq_struct, run_equalIn_array w 9999 _ _ Try.underlying27 hi, cells_u64, eqItems_sig a b ha hb 9998 w _ (fun i h => List.mem_range.1 h), all_same a b ha hb]
  rfl
end Go.Proofs.Ytfbbcjlbelnfaaa.Sg
/- What the program's Union, Meet, Meets and Empty answer. -/
namespace Go.Proofs.Ytfbbcjlbelnfaaa.Sg
open Go.ChangeShapes Go.WideShapes Go.ChangeAt Go.RowKit

/-- The first j words worked upon. -/
def zipTo (f : Nat → Nat → Nat) (a b : List Nat) : Nat → List Nat
  | 0 => a
  | j + 1 => (zipTo f a b j).set j (f (a.getD j 0) (b.getD j 0))
theorem zipTo_len (f : Nat → Nat → Nat) (a b : List Nat) (j : Nat) : (zipTo f a b j).length = a.length := by
  induction j with
  | zero => rfl
  | succ j ih => simp [zipTo, ih]
theorem zipTo_get (f : Nat → Nat → Nat) (a b : List Nat) (j : Nat) (hj : j ≤ a.length) (i : Nat) : (zipTo f a b j).getD i 0 = if i < j then f (a.getD i 0) (b.getD i 0) else a.getD i 0 := by
  induction j with
  | zero => simp [zipTo]
  | succ j ih =>
    unfold zipTo
    rw [getD_set _ _ _ _ (by rw [zipTo_len]; omega), ih (by omega)]
    by_cases e : j = i
    · subst e; simp
    · simp only [e, if_false]
      by_cases h : i < j
      · simp [h, show i < j + 1 by omega]
      · simp [h, show ¬ i < j + 1 by omega]
theorem zipTo_all (f : Nat → Nat → Nat) (a b : List Nat) (ha : a.length = 8) (hb : b.length = 8) : zipTo f a b 8 = List.zipWith f a b := by
  apply List.ext_getElem (by rw [zipTo_len]; simp [ha, hb])
  intro i h1 h2
  have h := zipTo_get f a b 8 (by omega) i
  rw [zipTo_len] at h1
  have h' : i < 8 := by omega
  have e1 : (zipTo f a b 8)[i]'(by rw [zipTo_len]; exact h1) = (zipTo f a b 8).getD i 0 := by simp [zipTo_len, h1]
  rw [e1, h, if_pos h']
  simp [h1, show i < b.length by omega]

theorem at_of {cs : Array Value} {j : Nat} {v : Value} (h : cs[j]? = some v) : ∀ h' : j < cs.size, cs[j] = v := fun h' => by
  rw [Array.getElem?_eq_getElem h'] at h
  exact Option.some.inj h

theorem empty_any (s : List Nat) (hs : Ok s) (w : World) :
    Calls Try.prog 85 #[sv s] w fun e w' => e = .returned (.bool (s == nought)) ∧ Below w.heap.size w w' := by
  have heq := fun w => eql_sig s nought hs.1 rfl w
  have hz := sc_size s
  rw [hs.1] at hz
  unfold sv
  have hn : sc nought = #[Value.int .u64 0, Value.int .u64 0, Value.int .u64 0, Value.int .u64 0, Value.int .u64 0, Value.int .u64 0, Value.int .u64 0, Value.int .u64 0] := rfl
  rw [hn] at heq
  generalize sc s = cs at *
  generalize (s == nought) = r at *
  have hpk := pack8 cs hz
  clear hs hn
  go_enter Try.func85, Try.ntmps85
  go_wp2
  go_ret
  exact ⟨rfl, below_a1 _ _⟩
end Go.Proofs.Ytfbbcjlbelnfaaa.Sg
