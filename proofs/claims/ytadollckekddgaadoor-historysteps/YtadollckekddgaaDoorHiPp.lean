/- errors.As at a fault: the entries that read or write memory; placeOf. -/
import Derived.Test.YtadollckekddgaaDoorHiPo
import Derived.Test.YtadollckekddgaaDoorHiSo
namespace Go.Proofs.YtadollckekddgaaDoor.Hi
open Go.ChangeShapes Go.WideShapes Go.ChangeAt Go.RowKit
open Go.Extern.Stop Go.Stop Go.Extern
set_option linter.unusedVariables false

theorem rl_meth (z : Sem Value) (f : TypeId → Addr → Nat → Nat → Sem Value) (v : Value) :
    ReflectliteValue.method z f #[v] = (do match ← ReflectliteValue.parts v with | none => z | some (t, a, fl) => f t a fl (fl % 32)) := rfl
theorem po_isNil (a p : Addr) (W : World) (ha : W.cell? a = some (.pointer (some p))) :
    (ReflectliteValue.method (ReflectliteValue.valueError "reflectlite.Value.IsNil" 0) ReflectliteValue.isNil #[.agg #[.pointer (some ⟨3, 78, none⟩), .pointer (some a), .int .u64 150]]).run Tryd.prog W = .ok (.bool false) W := by
  rw [rl_meth]
  simp only [Sem.run_bind, po_partsP, Result.andThen]
  simp [ReflectliteValue.isNil, loadVar, isAgg, underlying, Tryd.underlying78, ha, Result.andThen]
theorem po_elemV (a p : Addr) (W : World) (ha : W.cell? a = some (.pointer (some p))) :
    (ReflectliteValue.method (ReflectliteValue.valueError "reflectlite.Value.Elem" 0) ReflectliteValue.elem #[.agg #[.pointer (some ⟨3, 78, none⟩), .pointer (some a), .int .u64 150]]).run Tryd.prog W
      = .ok (.agg #[.pointer (some ⟨3, 75, none⟩), .pointer (some p), .int .u64 409]) W := by
  rw [rl_meth]
  simp only [Sem.run_bind, po_partsP, Result.andThen]
  simp [ReflectliteValue.elem, loadVar, isAgg, underlying, Tryd.underlying78, ha, Result.andThen, po_elemOf, po_mkF]
theorem rl_set (v x : Value) : ReflectliteValue.set #[v, x] = (do
    let (some (dst, a, fl), some (src, b, _)) := (← ReflectliteValue.parts v, ← ReflectliteValue.parts x)
      | unsupported (.noEntry "extern/(internal/reflectlite.Value).Set.zeroValue")
    if fl / ReflectliteValue.flagAddr % 2 == 0 then unsupported (.noEntry "extern/(internal/reflectlite.Value).Set.unaddressable")
    let val ← loadVar src b
    if ← Rtype.directlyAssignable dst src then storeVar dst a val
    else if ← Rtype.implements dst src then
      if (← Rtype.kind src) == 20 then
        match val with
        | .nilIface => unsupported (.noEntry "extern/reflectlite: a nil value of one interface type handed on as a value of another")
        | _ => storeVar dst a val
      else storeVar dst a (.iface src val)
    else panicString ("reflectlite.Set: value of type " ++ (← Rtype.spelt src) ++ " is not assignable to type " ++ (← Rtype.spelt dst))
    pure (.tuple #[])) := rfl
theorem po_set (g b : Nat) (old : Array Value) (x y : Value) (W : World) (hb : W.heap[b]? = some (.cells #[x, y] 75 (0, 0))) (hg : W.heap[g]? = some (.cells old 75 (0, 0))) (ho : old.size = 2) (hx : x.oneCell' = true) (hy : y.oneCell' = true) :
    (ReflectliteValue.set #[.agg #[.pointer (some ⟨3, 75, none⟩), .pointer (some ⟨g, 0, none⟩), .int .u64 409], .agg #[.pointer (some ⟨3, 75, none⟩), .pointer (some ⟨b, 0, none⟩), .int .u64 153]]).run Tryd.prog W
      = .ok (.tuple #[]) (W.setRow g #[x, y]) := by
  rw [rl_set]
  have hl := run_loadVar_row (P := Tryd.prog) W b 75 75 #[x, y] (0, 0) _ hb Tryd.underlying75 rfl (by kernel_rfl)
  have hs := run_storeVar_row (P := Tryd.prog) W g 75 75 old #[x, y] hg (by kernel_rfl) (by simpa using ho) (by simp [hx, hy])
  simp only [Sem.run_bind, po_partsA, po_partsF, Result.andThen]
  simp [ReflectliteValue.flagAddr, hl, Result.andThen, po_direct, hs]

set_option maxRecDepth 100000 in
set_option maxHeartbeats 8000000 in
theorem as_fault (x y : Value) (g : Nat) (old : Array Value) (w : World) (hg : w.cell? ⟨2, 0, none⟩ = some (.iface 111 (.agg #[.pointer (some ⟨3, 47, none⟩)]))) (hgs : 2 < w.heap.size) (ht : w.heap[g]? = some (.cells old 75 (0, 0))) (ho : old.size = 2) (hx : x.oneCell' = true) (hy : y.oneCell' = true) :
    Calls Tryd.prog 24 #[.iface 75 (.agg #[x, y]), .iface 78 (.pointer (some ⟨g, 0, none⟩))] w fun ev w' => ev = .returned (.bool true) ∧ w'.heap[g]? = some (.cells #[x, y] 75 (0, 0)) ∧ Keep [g] w w' := by
  have h1 := @run_callFunc_extern Tryd.prog 39 _ (fun args => ReflectliteValue.unpack (args.getD 0 (.tuple #[]))) Tryd.func39 (by kernel_rfl) (by kernel_rfl) (by kernel_rfl) (by kernel_rfl)
  have h2 := @run_callFunc_extern Tryd.prog 40 _ (ReflectliteValue.methodAny (ReflectliteValue.valueError "reflectlite.Value.Type" 0) (fun t _ _ _ => ReflectliteType.toType t)) Tryd.func40 (by kernel_rfl) (by kernel_rfl) (by kernel_rfl) (by kernel_rfl)
  have h3 := @run_callFunc_extern Tryd.prog 41 _ (ReflectliteValue.method (ReflectliteValue.valueError "reflectlite.Value.IsNil" 0) ReflectliteValue.isNil) Tryd.func41 (by kernel_rfl) (by kernel_rfl) (by kernel_rfl) (by kernel_rfl)
  have h4 := @run_callFunc_extern Tryd.prog 66 _ (ReflectliteType.abiMethod fun t => do pure (.int .u8 (← Rtype.kind t))) Tryd.func66 (by kernel_rfl) (by kernel_rfl) (by kernel_rfl) (by kernel_rfl)
  have h5 := @run_callFunc_extern Tryd.prog 77 _ (ReflectliteType.method ReflectliteType.elem) Tryd.func77 (by kernel_rfl) (by kernel_rfl) (by kernel_rfl) (by kernel_rfl)
  have h6 := @run_callFunc_extern Tryd.prog 78 _ (ReflectliteType.relation "Implements" ReflectliteType.implements_) Tryd.func78 (by kernel_rfl) (by kernel_rfl) (by kernel_rfl) (by kernel_rfl)
  have h7 := @run_callFunc_extern Tryd.prog 37 _ ReflectliteType.typeOf Tryd.func37 (by kernel_rfl) (by kernel_rfl) (by kernel_rfl) (by kernel_rfl)
  have h8 := @run_callFunc_extern Tryd.prog 75 _ (ReflectliteType.relation "AssignableTo" ReflectliteType.assignableTo) Tryd.func75 (by kernel_rfl) (by kernel_rfl) (by kernel_rfl) (by kernel_rfl)
  have h9 := @run_callFunc_extern Tryd.prog 48 _ (ReflectliteValue.method (ReflectliteValue.valueError "reflectlite.Value.Elem" 0) ReflectliteValue.elem) Tryd.func48 (by kernel_rfl) (by kernel_rfl) (by kernel_rfl) (by kernel_rfl)
  have h10 := @run_callFunc_extern Tryd.prog 49 _ ReflectliteValue.set Tryd.func49 (by kernel_rfl) (by kernel_rfl) (by kernel_rfl) (by kernel_rfl)
  have f1 := po_valueP
  have f2 := po_typeP
  have f3 := po_mKind
  have f4 := po_kindP
  have f5 := po_kindF
  have f6 := po_mElem
  have f7 := po_mImpl
  have f8 := po_mAssign
  have f9 := po_elemP
  have f10 := po_implF
  have f11 := po_typeF
  have f12 := po_assignF
  have f13 := po_valueF
  have hgl : g < w.heap.size := heap_lt ht
  have n1 : (ReflectliteValue.method (ReflectliteValue.valueError "reflectlite.Value.IsNil" 0) ReflectliteValue.isNil #[.agg #[.pointer (some ⟨3, 78, none⟩), .pointer (some ⟨w.heap.size, 0, none⟩), .int .u64 150]]).run Tryd.prog ((w.alloc (.cells #[.pointer (some ⟨g, 0, none⟩)] 78)).alloc (.cells #[.pointer (some ⟨3, 78, none⟩), .pointer (some ⟨w.heap.size, 0, none⟩), .int .u64 150] 96)) = .ok (.bool false) _ :=
    po_isNil ⟨w.heap.size, 0, none⟩ ⟨g, 0, none⟩ _ (by rw [cell_old (by simp), cell_at (heap_alloc_new _ _)]; rfl)
  have hg2 : ((w.alloc (.cells #[.pointer (some ⟨g, 0, none⟩)] 78)).alloc (.cells #[.pointer (some ⟨3, 78, none⟩), .pointer (some ⟨w.heap.size, 0, none⟩), .int .u64 150] 96)).cell? ⟨2, 0, none⟩ = some (.iface 111 (.agg #[.pointer (some ⟨3, 47, none⟩)])) := by
    rw [cell_old (by simp; omega), cell_old hgs]; exact hg
  have el := po_elemV ⟨w.heap.size, 0, none⟩ ⟨g, 0, none⟩ (((w.alloc (.cells #[.pointer (some ⟨g, 0, none⟩)] 78)).alloc (.cells #[.pointer (some ⟨3, 78, none⟩), .pointer (some ⟨w.heap.size, 0, none⟩), .int .u64 150] 96)).alloc (.cells #[.pointer (some ⟨3, 78, none⟩), .pointer (some ⟨w.heap.size, 0, none⟩), .int .u64 150] 96)) (by rw [cell_old (by simp; omega), cell_old (by simp), cell_at (heap_alloc_new _ _)]; rfl)
  have hb4 : ((((w.alloc (.cells #[.pointer (some ⟨g, 0, none⟩)] 78)).alloc (.cells #[.pointer (some ⟨3, 78, none⟩), .pointer (some ⟨w.heap.size, 0, none⟩), .int .u64 150] 96)).alloc (.cells #[.pointer (some ⟨3, 78, none⟩), .pointer (some ⟨w.heap.size, 0, none⟩), .int .u64 150] 96)).alloc (.cells #[x, y] 75)).heap[w.heap.size + 1 + 1 + 1]? = some (.cells #[x, y] 75 (0, 0)) := by
    have := heap_alloc_new (((w.alloc (.cells #[.pointer (some ⟨g, 0, none⟩)] 78)).alloc (.cells #[.pointer (some ⟨3, 78, none⟩), .pointer (some ⟨w.heap.size, 0, none⟩), .int .u64 150] 96)).alloc (.cells #[.pointer (some ⟨3, 78, none⟩), .pointer (some ⟨w.heap.size, 0, none⟩), .int .u64 150] 96)) (.cells #[x, y] 75)
    simpa using this
  have hg4 : ((((w.alloc (.cells #[.pointer (some ⟨g, 0, none⟩)] 78)).alloc (.cells #[.pointer (some ⟨3, 78, none⟩), .pointer (some ⟨w.heap.size, 0, none⟩), .int .u64 150] 96)).alloc (.cells #[.pointer (some ⟨3, 78, none⟩), .pointer (some ⟨w.heap.size, 0, none⟩), .int .u64 150] 96)).alloc (.cells #[x, y] 75)).heap[g]? = some (.cells old 75 (0, 0)) := by
    rw [heap_alloc_old _ _ (by simp; omega), heap_alloc_old _ _ (by simp; omega), heap_alloc_old _ _ (by simp; omega), heap_alloc_old _ _ hgl]; exact ht
  have st := po_set g (w.heap.size + 1 + 1 + 1) old x y ((((w.alloc (.cells #[.pointer (some ⟨g, 0, none⟩)] 78)).alloc (.cells #[.pointer (some ⟨3, 78, none⟩), .pointer (some ⟨w.heap.size, 0, none⟩), .int .u64 150] 96)).alloc (.cells #[.pointer (some ⟨3, 78, none⟩), .pointer (some ⟨w.heap.size, 0, none⟩), .int .u64 150] 96)).alloc (.cells #[x, y] 75)) hb4 hg4 ho hx hy
  go_enter Tryd.func24, Tryd.ntmps24
  go_wp2
  refine wp_loop_rounds 1 ?_
  rw [rounds_succ]
  go_wp2
  go_ret
  refine ⟨rfl, ?_, ?_⟩
  · exact setRow_heap _ _ _ _ _ _ hg4
  · refine ⟨rfl, rfl, rfl, by simp; omega, fun b hb hm => ?_⟩
    rw [setRow_other _ _ _ _ (by simpa using hm), heap_alloc_old _ _ (by simp; omega), heap_alloc_old _ _ (by simp; omega), heap_alloc_old _ _ (by simp; omega), heap_alloc_old _ _ hb]
/-- Where the type of errors lies. -/
def TyAt (w : World) : Prop := w.cell? ⟨2, 0, none⟩ = some (.iface 111 (.agg #[.pointer (some ⟨3, 47, none⟩)]))
theorem TyAt.lt {w : World} (h : TyAt w) : 2 < w.heap.size := World.block_lt_of_cell? _ _ h
theorem TyAt.later {w w' : World} {B : Nat} (h : TyAt w) (hb : Below B w w') (hB : w.heap.size ≤ B) : TyAt w' := by
  unfold TyAt
  rw [cell_below hb (Nat.lt_of_lt_of_le h.lt hB)]
  exact h
set_option maxRecDepth 100000 in
theorem place_fault {w : World} (h : TyAt w) (n : Int) (a : Addr) : Calls Tryd.prog 12 #[flt n a] w (PlaceQ w n) := by
  have HA : Hid (Calls Tryd.prog 24 #[.iface 75 (.agg #[.int .i64 n, .iface 127 (.pointer (some a))]), .iface 78 (.pointer (some ⟨w.heap.size, 0, none⟩))] (w.alloc (.cells #[.int .i64 0, .nilIface] 75)) fun ev w' => ev = .returned (.bool true) ∧ w'.heap[w.heap.size]? = some (.cells #[.int .i64 n, .iface 127 (.pointer (some a))] 75 (0, 0)) ∧ Keep [w.heap.size] (w.alloc (.cells #[.int .i64 0, .nilIface] 75)) w') :=
    as_fault _ _ w.heap.size #[.int .i64 0, .nilIface] _ (h.later (below_a1 _ _) (Nat.le_refl _)) (by have := h.lt; simp; omega) (heap_alloc_new _ _) rfl rfl rfl
  unfold PlaceQ flt
  clear h
  go_enter Tryd.func12, Tryd.ntmps12
  go_wp2_with fail
  refine HA.out.mono ?_
  rintro e w2 ⟨rfl, hh, hk⟩
  have c0 : w2.cell? ⟨w.heap.size, 0, none⟩ = some (.int .i64 n) := by rw [cell_at hh]; rfl
  have HB : Hid (Below w.heap.size w w2) := (below_a1 w _).trans (hk.below (by simp) (by simp))
  clear hh hk HA
  go_wp2_with fail
  go_ret
  exact ⟨rfl, HB.out⟩
end Go.Proofs.YtadollckekddgaaDoor.Hi
