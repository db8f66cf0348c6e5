/- Where it is wrong: errors.As at a fault. -/
import Derived.Test.YtbpnookejildnaaDoorHiL
import Derived.LaidEql
import Derived.Stop.Asserts
import Derived.RowKitTokens
namespace Go.Proofs.YtbpnookejildnaaDoor.Hi
open Go.ChangeShapes Go.WideShapes Go.ChangeAt Go.RowKit
open Go.Extern.Stop Go.Stop Go.Extern
set_option linter.unusedVariables false

/-! closed facts on the entries, at a fault's types -/
theorem po_valueP (t : Addr) (w : World) : (ReflectliteValue.unpack (.iface 98 (.pointer (some t)))).run Tryd.prog w
    = .ok (.agg #[.pointer (some ⟨3, 98, none⟩), .pointer (some ⟨w.heap.size, 0, none⟩), .int .u64 150]) (w.alloc (.cells #[.pointer (some t)] 98)) := by kernel_rfl
theorem po_typeP (a : Addr) (w : World) : (ReflectliteValue.methodAny (ReflectliteValue.valueError "reflectlite.Value.Type" 0) (fun t _ _ _ => ReflectliteType.toType t) #[.agg #[.pointer (some ⟨3, 98, none⟩), .pointer (some a), .int .u64 150]]).run Tryd.prog w
    = .ok (.iface 131 (.agg #[.pointer (some ⟨3, 98, none⟩)])) w := by kernel_rfl
theorem po_mKind (h : Value) (w : World) : (Go.method 281 131 (.agg #[h]) "Kind").run Tryd.prog w = .ok (84, h) w := by kernel_rfl
theorem po_kindP (w : World) : ((ReflectliteType.abiMethod fun t => (fun a : Nat => Value.int IntKind.u8 (a : Int)) <$> Rtype.kind t) #[.pointer (some ⟨3, 98, none⟩)]).run Tryd.prog w = .ok (.int .u8 22) w := by kernel_rfl
theorem po_kindF (w : World) : ((ReflectliteType.abiMethod fun t => (fun a : Nat => Value.int IntKind.u8 (a : Int)) <$> Rtype.kind t) #[.pointer (some ⟨3, 95, none⟩)]).run Tryd.prog w = .ok (.int .u8 25) w := by kernel_rfl
theorem po_mElem (h : Value) (w : World) : (Go.method 281 131 (.agg #[h]) "Elem").run Tryd.prog w = .ok (95, .agg #[h]) w := by kernel_rfl
theorem po_mImpl (h : Value) (w : World) : (Go.method 281 131 (.agg #[h]) "Implements").run Tryd.prog w = .ok (96, .agg #[h]) w := by kernel_rfl
theorem po_mAssign (h : Value) (w : World) : (Go.method 281 131 (.agg #[h]) "AssignableTo").run Tryd.prog w = .ok (93, .agg #[h]) w := by kernel_rfl
theorem po_elemP (w : World) : (ReflectliteType.method ReflectliteType.elem #[.agg #[.pointer (some ⟨3, 98, none⟩)]]).run Tryd.prog w = .ok (.iface 131 (.agg #[.pointer (some ⟨3, 95, none⟩)])) w := by kernel_rfl
theorem po_implF (w : World) : (ReflectliteType.relation "Implements" ReflectliteType.implements_ #[.agg #[.pointer (some ⟨3, 95, none⟩)], .iface 131 (.agg #[.pointer (some ⟨3, 60, none⟩)])]).run Tryd.prog w = .ok (.bool true) w := by kernel_rfl
theorem po_typeF (v : Value) (w : World) : (ReflectliteType.typeOf #[.iface 95 v]).run Tryd.prog w = .ok (.iface 131 (.agg #[.pointer (some ⟨3, 95, none⟩)])) w := by kernel_rfl
theorem po_assignF (w : World) : (ReflectliteType.relation "AssignableTo" ReflectliteType.assignableTo #[.agg #[.pointer (some ⟨3, 95, none⟩)], .iface 131 (.agg #[.pointer (some ⟨3, 95, none⟩)])]).run Tryd.prog w = .ok (.bool true) w := by kernel_rfl
theorem po_valueF (x y : Value) (w : World) : (ReflectliteValue.unpack (.iface 95 (.agg #[x, y]))).run Tryd.prog w
    = .ok (.agg #[.pointer (some ⟨3, 95, none⟩), .pointer (some ⟨w.heap.size, 0, none⟩), .int .u64 153]) (w.alloc (.cells #[x, y] 95)) := by kernel_rfl
theorem po_partsP (a : Addr) (w : World) : (ReflectliteValue.parts (.agg #[.pointer (some ⟨3, 98, none⟩), .pointer (some a), .int .u64 150])).run Tryd.prog w = .ok (some (98, a, 150)) w := by kernel_rfl
theorem po_elemOf (w : World) : (Rtype.elem? 98).run Tryd.prog w = .ok (some 95) w := by kernel_rfl
theorem po_mkF (p : Addr) (w : World) : (ReflectliteValue.mk 95 p ReflectliteValue.flagAddr).run Tryd.prog w = .ok (.agg #[.pointer (some ⟨3, 95, none⟩), .pointer (some p), .int .u64 409]) w := by kernel_rfl
theorem po_partsA (a : Addr) (w : World) : (ReflectliteValue.parts (.agg #[.pointer (some ⟨3, 95, none⟩), .pointer (some a), .int .u64 409])).run Tryd.prog w = .ok (some (95, a, 409)) w := by kernel_rfl
theorem po_partsF (a : Addr) (w : World) : (ReflectliteValue.parts (.agg #[.pointer (some ⟨3, 95, none⟩), .pointer (some a), .int .u64 153])).run Tryd.prog w = .ok (some (95, a, 153)) w := by kernel_rfl
theorem po_direct (w : World) : (Rtype.directlyAssignable 95 95).run Tryd.prog w = .ok true w := by kernel_rfl
theorem po_size : (Tryd.prog.info? 95).map (·.size) = some 2 := by kernel_rfl
end Go.Proofs.YtbpnookejildnaaDoor.Hi
