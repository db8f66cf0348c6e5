/- What is wrong: errors.Is. -/
import Derived.Test.YtadollckekddgaaDoorHiA
import Derived.LaidEql
import Derived.Stop.Asserts
import Derived.RowKitTokens
namespace Go.Proofs.YtadollckekddgaaDoor.Hi
open Go.ChangeShapes Go.WideShapes Go.ChangeAt Go.RowKit
open Go.Extern.Stop Go.Stop Go.Extern
set_option linter.unusedVariables false

theorem isTypeOf (v : Value) (w : World) : (Extern.ReflectliteType.typeOf #[.iface 127 v]).run Tryd.prog w = .ok (.iface 111 (.agg #[.pointer (some ⟨3, 127, none⟩)])) w := by kernel_rfl
def cmpX : Array Value → Sem Value := Extern.ReflectliteType.method fun t => do Extern.Rtype.noPackHeld "Comparable" t; pure (.bool (← typeInfo t).comparable)
theorem isComparable (w : World) : (cmpX #[.agg #[.pointer (some ⟨3, 127, none⟩)]]).run Tryd.prog w = .ok (.bool true) w := by kernel_rfl
theorem isMethodComparable (v : Value) (w : World) : (Go.method 261 111 v "Comparable").run Tryd.prog w = .ok (76, v) w := by kernel_rfl
theorem isComp : (Tryd.prog.info? 127).map (·.comparable) = some true := by kernel_rfl
theorem isSize : (Tryd.prog.info? 149).map (·.size) = some 1 := by kernel_rfl
theorem noIsE (v : Value) (xT : TypeId) (w : World) : (Instr.typeAssert (.iface 127 v) xT 113 true).run Tryd.prog w = .ok (.tuple #[.nilIface, .bool false]) w := run_typeAssert_lacksB Tryd.underlying113 (by kernel_rfl) (by kernel_rfl) v xT w
theorem noUnwrapE (v : Value) (xT : TypeId) (w : World) : (Instr.typeAssert (.iface 127 v) xT 116 true).run Tryd.prog w = .ok (.tuple #[.nilIface, .bool false]) w := run_typeAssert_lacksB Tryd.underlying116 (by kernel_rfl) (by kernel_rfl) v xT w
theorem noUnwrapsE (v : Value) (xT : TypeId) (w : World) : (Instr.typeAssert (.iface 127 v) xT 118 true).run Tryd.prog w = .ok (.tuple #[.nilIface, .bool false]) w := run_typeAssert_lacksB Tryd.underlying118 (by kernel_rfl) (by kernel_rfl) v xT w
theorem noIsF (v : Value) (xT : TypeId) (w : World) : (Instr.typeAssert (.iface 75 v) xT 113 true).run Tryd.prog w = .ok (.tuple #[.nilIface, .bool false]) w := run_typeAssert_lacksB Tryd.underlying113 (by kernel_rfl) (by kernel_rfl) v xT w
theorem hasUnwrapF (v : Value) (xT : TypeId) (w : World) : (Instr.typeAssert (.iface 75 v) xT 116 true).run Tryd.prog w = .ok (.tuple #[.iface 75 v, .bool true]) w := run_typeAssert_hasB Tryd.underlying116 (by kernel_rfl) v xT w
theorem methodUnwrap (v : Value) (w : World) : (Go.method 261 75 v "Unwrap").run Tryd.prog w = .ok (70, v) w := by kernel_rfl
/-- An error of a place. -/
def flt (at_ : Int) (a : Addr) : Value := .iface 75 (.agg #[.int .i64 at_, .iface 127 (.pointer (some a))])
def snt (a : Addr) : Value := .iface 127 (.pointer (some a))
set_option maxRecDepth 100000 in
theorem unwrap_any (at_ : Int) (a : Addr) (w : World) : Calls Tryd.prog 70 #[.agg #[.int .i64 at_, .iface 127 (.pointer (some a))]] w fun e w' => e = .returned (.iface 127 (.pointer (some a))) ∧ Below w.heap.size w w' := by
  go_enter Tryd.func70, Tryd.ntmps70
  go_wp2
  go_ret
  exact ⟨rfl, below_a1 _ _⟩
set_option maxRecDepth 100000 in
theorem is_fault (at_ : Int) (a : Addr) (w : World) : Calls Tryd.prog 23 #[flt at_ a, snt a] w fun e w' => e = .returned (.bool true) ∧ Below w.heap.size w w' := by
  obtain ⟨i, hi, hcmp⟩ := Option.map_eq_some_iff.1 isComp
  obtain ⟨j, hj, hjs⟩ := Option.map_eq_some_iff.1 isSize
  have h8 := @run_callFunc_extern Tryd.prog 37 _ Extern.ReflectliteType.typeOf Tryd.func37 (by kernel_rfl) (by kernel_rfl) (by kernel_rfl) (by kernel_rfl)
  have h32 := @run_callFunc_extern Tryd.prog 76 _ cmpX Tryd.func76 (by kernel_rfl) (by kernel_rfl) (by kernel_rfl) (by kernel_rfl)
  have tT := isTypeOf
  have cT := isComparable
  have mR := isMethodComparable
  have nE := noIsE
  have nF := noIsF
  have uF := hasUnwrapF
  have mU := methodUnwrap
  have heq := fun w => run_eql_iface_ptr_same (P := Tryd.prog) w a Tryd.underlying47 Tryd.underlying127 hi hcmp hj
  have hty := fun w => run_eql_iface_types (P := Tryd.prog) 75 127 (.agg #[.int .i64 at_, .iface 127 (.pointer (some a))]) (.pointer (some a)) Tryd.underlying47 (by decide) w
  unfold flt snt
  go_enter Tryd.func23, Tryd.ntmps23
  go_wp2
  refine wp_loop_rounds 2 ?_
  rw [rounds_succ]
  go_wp2_with (first | (go_at_call 70; refine (unwrap_any _ _ _).mono ?_; rintro e w1 ⟨rfl, hb⟩))
  rw [rounds_succ]
  go_wp2
  go_ret
  exact ⟨rfl, by assumption⟩
set_option maxRecDepth 100000 in
theorem is_other (a b : Addr) (ca cb : Array Value) (ta tb : TypeId) (w : World) (hne : a ≠ b) (ha : w.heap[a.block]? = some (.cells ca ta (0, 0))) (hb : w.heap[b.block]? = some (.cells cb tb (0, 0))) :
    Calls Tryd.prog 23 #[snt a, snt b] w fun e w' => e = .returned (.bool false) ∧ w' = w := by
  obtain ⟨i, hi, hcmp⟩ := Option.map_eq_some_iff.1 isComp
  obtain ⟨j, hj, hjs⟩ := Option.map_eq_some_iff.1 isSize
  have h8 := @run_callFunc_extern Tryd.prog 37 _ Extern.ReflectliteType.typeOf Tryd.func37 (by kernel_rfl) (by kernel_rfl) (by kernel_rfl) (by kernel_rfl)
  have h32 := @run_callFunc_extern Tryd.prog 76 _ cmpX Tryd.func76 (by kernel_rfl) (by kernel_rfl) (by kernel_rfl) (by kernel_rfl)
  have tT := isTypeOf
  have cT := isComparable
  have mR := isMethodComparable
  have nE := noIsE
  have uE := noUnwrapE
  have vE := noUnwrapsE
  have heq := run_eql_iface_ptr_other (P := Tryd.prog) w Tryd.underlying47 Tryd.underlying127 hi hcmp hj (by rw [hjs]; decide) hne ha hb
  unfold snt
  go_enter Tryd.func23, Tryd.ntmps23
  go_wp2
  refine wp_loop_rounds 1 ?_
  rw [rounds_succ]
  go_wp2
  go_ret
  exact ⟨rfl, rfl⟩
/-- The two errors lie where the variables say. -/
structure ErrAt (w : World) (a c : Addr) : Prop where
  ev : w.cell? ⟨0, 0, none⟩ = some (snt a)
  ar : w.cell? ⟨1, 0, none⟩ = some (snt c)
  ne : c ≠ a
  ba : ∃ ca ta, w.heap[a.block]? = some (.cells ca ta (0, 0))
  bc : ∃ cc tc, w.heap[c.block]? = some (.cells cc tc (0, 0))
theorem ErrAt.later {w w' : World} {a c : Addr} {B : Nat} (h : ErrAt w a c) (hb : Below B w w') (hB : w.heap.size ≤ B) : ErrAt w' a c := by
  obtain ⟨ca, ta, ha⟩ := h.ba
  obtain ⟨cc, tc, hc⟩ := h.bc
  refine ⟨?_, ?_, h.ne, ⟨ca, ta, ?_⟩, ⟨cc, tc, ?_⟩⟩
  · exact cell_later hb (by have := World.block_lt_of_cell? _ _ h.ev; simpa using Nat.lt_of_lt_of_le this hB) h.ev
  · exact cell_later hb (by have := World.block_lt_of_cell? _ _ h.ar; simpa using Nat.lt_of_lt_of_le this hB) h.ar
  · rw [hb.block _ (Nat.lt_of_lt_of_le (heap_lt ha) hB)]; exact ha
  · rw [hb.block _ (Nat.lt_of_lt_of_le (heap_lt hc) hB)]; exact hc
theorem errno_fault {w : World} {a c : Addr} (h : ErrAt w a c) (at_ : Int) : Calls Tryd.prog 11 #[flt at_ a] w fun e w' => e = .returned (.int .i64 14) ∧ Below w.heap.size w w' := by
  have hev := h.ev
  have HI : Hid (∀ w, Calls Tryd.prog 23 #[flt at_ a, snt a] w fun e w' => e = .returned (.bool true) ∧ Below w.heap.size w w') := fun w => is_fault at_ a w
  clear h
  generalize flt at_ a = u at *
  generalize snt a = v at *
  go_enter Tryd.func11, Tryd.ntmps11
  go_wp2_with fail
  refine (HI.out _).mono ?_
  rintro e w1 ⟨rfl, hb⟩
  go_wp2_with fail
  go_ret
  exact ⟨rfl, hb⟩
theorem errno_arg {w : World} {a c : Addr} (h : ErrAt w a c) : Calls Tryd.prog 11 #[snt c] w fun e w' => e = .returned (.int .i64 1) ∧ Below w.heap.size w w' := by
  have hev := h.ev
  obtain ⟨ca, ta, ha⟩ := h.ba
  obtain ⟨cc, tc, hc⟩ := h.bc
  have HI : Hid (Calls Tryd.prog 23 #[snt c, snt a] w fun e w' => e = .returned (.bool false) ∧ w' = w) := is_other c a _ _ _ _ w h.ne hc ha
  clear h ha hc
  generalize snt c = u at *
  generalize snt a = v at *
  go_enter Tryd.func11, Tryd.ntmps11
  go_wp2_with fail
  refine HI.out.mono ?_
  rintro e w1 ⟨rfl, rfl⟩
  go_wp2_with fail
  go_ret
  exact ⟨rfl, Below.refl _ _⟩
end Go.Proofs.YtadollckekddgaaDoor.Hi
