/- When two signatures are the same, as the program compares them. -/
import Derived.Test.YtgjahjnomfijfaaGreatSigB
import Derived.ChangeKeysEq
import Derived.Laws.StructEq
import Derived.Test.YtgjahjnomfijfaaGreatSigP
namespace Go.Proofs.YtgjahjnomfijfaaGreat.Sg
open Go.ChangeShapes Go.WideShapes Go.ChangeAt Go.RowKit
theorem info_u64 : (Tryz.prog.info? 49).map (fun i => (i.zero, i.size, i.bytes)) = some (some (.int .u64 0), 1, 8) := by kernel_rfl
theorem part_sig (s : List Nat) (i : Nat) (h : i < s.length) (w : World) : (part 49 (sc s) i).run Tryz.prog w = .ok (.int .u64 ((s.getD i 0 : Nat) : Int)) w :=
 run_part_plain w (by kernel_rfl) (sc_get s i h)
theorem eqItems_sig (a b : List Nat) (ha : a.length = 8) (hb : b.length = 8) (d : Nat) (w : World) : ∀ (is : List Nat), (∀ i ∈ is, i < 8) →
  (Op.eqItems (d + 1) 49 1 (sc a) (sc b) is).run Tryz.prog w = .ok (is.all fun i => a.getD i 0 == b.getD i 0) w
 | [], _ => by simp [Op.eqItems]
 | i :: is, h => by
  have hi := h i (by simp)
  have ih := eqItems_sig a b ha hb d w is (fun j hj => h j (by simp [hj]))
  simp only [Op.eqItems, Sem.run_bind, Nat.mul_one, part_sig a i (by omega), part_sig b i (by omega), Result.andThen_ok, run_equalIn_int w d 49 .u64 .u64 _ _ Tryz.underlying49]
  have e : (((a.getD i 0 : Nat) : Int) == ((b.getD i 0 : Nat) : Int)) = (a.getD i 0 == b.getD i 0) := by
   rw [Bool.eq_iff_iff]; simp; omega
  rw [e, List.all_cons]
  cases (a.getD i 0 == b.getD i 0)
  ·simp
  ·simpa using ih
theorem all_same (a b : List Nat) (ha : a.length = 8) (hb : b.length = 8) : ((List.range 8).all fun i => a.getD i 0 == b.getD i 0) = (a == b) := by
 rw [Bool.eq_iff_iff]
 simp only [List.all_eq_true, beq_iff_eq, List.mem_range]
 constructor
 ·intro h
  apply List.ext_getElem (by rw [ha, hb])
  intro i h1 h2
  have := h i (by omega)
  simpa [h1, h2] using this
 ·intro h; subst h; intro _ _; rfl
theorem eql_sig (a b : List Nat) (ha : a.length = 8) (hb : b.length = 8) (w : World) : (binOp .eql 51 (.agg (sc a)) (.agg (sc b))).run Tryz.prog w = .ok (.bool (a == b)) w := by
 obtain ⟨i0, hi, _⟩ := info_parts info_u64
 rw [run_eql_struct, run_equalIn_array w 9999 _ _ Tryz.underlying51 hi, cells_u64, eqItems_sig a b ha hb 9998 w _ (fun i h => List.mem_range.1 h), all_same a b ha hb]
 rfl
end Go.Proofs.YtgjahjnomfijfaaGreat.Sg
/- What the program's Union, Meet, Meets and Empty answer. -/
namespace Go.Proofs.YtgjahjnomfijfaaGreat.Sg
open Go.ChangeShapes Go.WideShapes Go.ChangeAt Go.RowKit
def zipTo (f : Nat → Nat → Nat) (a b : List Nat) : Nat → List Nat
 | 0 => a
 | j + 1 => (zipTo f a b j).set j (f (a.getD j 0) (b.getD j 0))
theorem empty_any (s : List Nat) (hs : Ok s) (w : World) :
  Calls Tryz.prog 143 #[sv s] w fun e w' => e = .returned (.bool (s == nought)) ∧ Below w.heap.size w w' := by
 have heq := fun w => eql_sig s nought hs.1 rfl w
 have hz := sc_size s
 rw [hs.1] at hz
 unfold sv
 have hn : sc nought = #[Value.int .u64 0, Value.int .u64 0, Value.int .u64 0, Value.int .u64 0, Value.int .u64 0, Value.int .u64 0, Value.int .u64 0, Value.int .u64 0] := rfl
 rw [hn] at heq
 generalize sc s = cs at *
 generalize (s == nought) = r at *
 have hpk := pack8 cs hz
 clear hs hn
 go_enter Tryz.func143, Tryz.ntmps143
 go_wp2
 go_ret
 exact ⟨rfl, below_a1 _ _⟩
end Go.Proofs.YtgjahjnomfijfaaGreat.Sg
