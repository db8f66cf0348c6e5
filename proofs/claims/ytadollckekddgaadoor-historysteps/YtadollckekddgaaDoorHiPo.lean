/- Where it is wrong: errors.As at a fault. -/
import Derived.Test.YtadollckekddgaaDoorHiL
import Derived.LaidEql
import Derived.Stop.Asserts
import Derived.RowKitTokens
namespace Go.Proofs.YtadollckekddgaaDoor.Hi
open Go.ChangeShapes Go.WideShapes Go.ChangeAt Go.RowKit
open Go.Extern.Stop Go.Stop Go.Extern
set_option linter.unusedVariables false

/-! closed facts on the entries, at a fault's types -/
theorem po_valueP (t : Addr) (w : World) : (ReflectliteValue.unpack (.iface 78 (.pointer (some t)))).run Tryd.prog w
    = .ok (.agg #[.pointer (some ⟨3, 78, none⟩), .pointer (some ⟨w.heap.size, 0, none⟩), .int .u64 150]) (w.alloc (.cells #[.pointer (some t)] 78)) := by kernel_rfl
theorem po_typeP (a : Addr) (w : World) : (ReflectliteValue.methodAny (ReflectliteValue.valueError "reflectlite.Value.Type" 0) (fun t _ _ _ => ReflectliteType.toType t) #[.agg #[.pointer (some ⟨3, 78, none⟩), .pointer (some a), .int .u64 150]]).run Tryd.prog w
    = .ok (.iface 111 (.agg #[.pointer (some ⟨3, 78, none⟩)])) w := by kernel_rfl
theorem po_mKind (h : Value) (w : World) : (Go.method 261 111 (.agg #[h]) "Kind").run Tryd.prog w = .ok (66, h) w := by kernel_rfl
theorem po_kindP (w : World) : ((ReflectliteType.abiMethod fun t => (fun a : Nat => Value.int IntKind.u8 (a : Int)) <$> Rtype.kind t) #[.pointer (some ⟨3, 78, none⟩)]).run Tryd.prog w = .ok (.int .u8 22) w := by kernel_rfl
theorem po_kindF (w : World) : ((ReflectliteType.abiMethod fun t => (fun a : Nat => Value.int IntKind.u8 (a : Int)) <$> Rtype.kind t) #[.pointer (some ⟨3, 75, none⟩)]).run Tryd.prog w = .ok (.int .u8 25) w := by kernel_rfl
theorem po_mElem (h : Value) (w : World) : (Go.method 261 111 (.agg #[h]) "Elem").run Tryd.prog w = .ok (77, .agg #[h]) w := by kernel_rfl
theorem po_mImpl (h : Value) (w : World) : (Go.method 261 111 (.agg #[h]) "Implements").run Tryd.prog w = .ok (78, .agg #[h]) w := by kernel_rfl
theorem po_mAssign (h : Value) (w : World) : (Go.method 261 111 (.agg #[h]) "AssignableTo").run Tryd.prog w = .ok (75, .agg #[h]) w := by kernel_rfl
theorem po_elemP (w : World) : (ReflectliteType.method ReflectliteType.elem #[.agg #[.pointer (some ⟨3, 78, none⟩)]]).run Tryd.prog w = .ok (.iface 111 (.agg #[.pointer (some ⟨3, 75, none⟩)])) w := by kernel_rfl
theorem po_implF (w : World) : (ReflectliteType.relation "Implements" ReflectliteType.implements_ #[.agg #[.pointer (some ⟨3, 75, none⟩)], .iface 111 (.agg #[.pointer (some ⟨3, 47, none⟩)])]).run Tryd.prog w = .ok (.bool true) w := by kernel_rfl
theorem po_typeF (v : Value) (w : World) : (ReflectliteType.typeOf #[.iface 75 v]).run Tryd.prog w = .ok (.iface 111 (.agg #[.pointer (some ⟨3, 75, none⟩)])) w := by kernel_rfl
theorem po_assignF (w : World) : (ReflectliteType.relation "AssignableTo" ReflectliteType.assignableTo #[.agg #[.pointer (some ⟨3, 75, none⟩)], .iface 111 (.agg #[.pointer (some ⟨3, 75, none⟩)])]).run Tryd.prog w = .ok (.bool true) w := by kernel_rfl
theorem po_valueF (x y : Value) (w : World) : (ReflectliteValue.unpack (.iface 75 (.agg #[x, y]))).run Tryd.prog w
    = .ok (.agg #[.pointer (some ⟨3, 75, none⟩), .pointer (some ⟨w.heap.size, 0, none⟩), .int .u64 153]) (w.alloc (.cells #[x, y] 75)) := by kernel_rfl
theorem po_partsP (a : Addr) (w : World) : (ReflectliteValue.parts (.agg #[.pointer (some ⟨3, 78, none⟩), .pointer (some a), .int .u64 150])).run Tryd.prog w = .ok (some (78, a, 150)) w := by kernel_rfl
theorem po_elemOf (w : World) : (Rtype.elem? 78).run Tryd.prog w = .ok (some 75) w := by kernel_rfl
theorem po_mkF (p : Addr) (w : World) : (ReflectliteValue.mk 75 p ReflectliteValue.flagAddr).run Tryd.prog w = .ok (.agg #[.pointer (some ⟨3, 75, none⟩), .pointer (some p), .int .u64 409]) w := by kernel_rfl
theorem po_partsA (a : Addr) (w : World) : (ReflectliteValue.parts (.agg #[.pointer (some ⟨3, 75, none⟩), .pointer (some a), .int .u64 409])).run Tryd.prog w = .ok (some (75, a, 409)) w := by kernel_rfl
theorem po_partsF (a : Addr) (w : World) : (ReflectliteValue.parts (.agg #[.pointer (some ⟨3, 75, none⟩), .pointer (some a), .int .u64 153])).run Tryd.prog w = .ok (some (75, a, 153)) w := by kernel_rfl
theorem po_direct (w : World) : (Rtype.directlyAssignable 75 75).run Tryd.prog w = .ok true w := by kernel_rfl
theorem po_size : (Tryd.prog.info? 75).map (·.size) = some 2 := by kernel_rfl
end Go.Proofs.YtadollckekddgaaDoor.Hi
