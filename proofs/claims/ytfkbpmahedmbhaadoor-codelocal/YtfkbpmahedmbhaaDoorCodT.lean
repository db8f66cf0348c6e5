/- CodeTells, walked. -/
import Derived.Test.YtfkbpmahedmbhaaDoorCodS
namespace Go.Proofs.YtfkbpmahedmbhaaDoor
open Go.ChangeShapes Go.WideShapes Go.ChangeAt Go.RowKit

def ansC : Option (Nat × Int) → Int × Int × Int × Int
  | none => (0, 0, 0, 10)
  | some (c, x) => ((c : Int), x, ((1 + wdC c : Nat) : Int), 0)
theorem ansA_eq (o : Option (Nat × Int)) : ansA o = .tuple #[.agg #[.int .i64 (ansC o).1, .int .i64 (ansC o).2.1], .int .i64 (ansC o).2.2.1, .int .i64 (ansC o).2.2.2] := by
  cases o with
  | none => rfl
  | some x => rfl
theorem wtells (s : ByteArray) (hs : s.size ≤ maxLen) (a : Int) (_ha : (Lit.int .i64 a).wf = true) {w : World} (hT : Tab w) :
    Calls Tryd.prog 3 #[.string s, .int .i64 a] w fun e w' => e = .returned (.bool true) ∧ Below w.heap.size w w' := by
  have hs' : s.size ≤ 9223372036854775807 := by unfold maxLen at hs; omega
  have HA : Hid (Calls Tryd.prog 9 #[.string s, .int .i64 a] w fun e w' => e = .returned (.tuple #[.agg #[.int .i64 (ansC (atS s a)).1, .int .i64 (ansC (atS s a)).2.1], .int .i64 (ansC (atS s a)).2.2.1, .int .i64 (ansC (atS s a)).2.2.2]) ∧ Below w.heap.size w w') := by
    rw [← ansA_eq]; exact at_any s hs' a hT
  have HB : Hid (∀ w, Calls Tryd.prog 10 #[.string s, .int .i64 a] w fun e w' => e = .returned (.tuple #[.agg #[.int .i64 (ansC (atS s a)).1, .int .i64 (ansC (atS s a)).2.1], .int .i64 (ansC (atS s a)).2.2.1, .int .i64 (ansC (atS s a)).2.2.2]) ∧ Below w.heap.size w w') := fun w => by
    rw [← ansA_eq]; exact rat_any s hs' a w
  generalize (ansC (atS s a)).1 = x1 at *
  generalize (ansC (atS s a)).2.1 = x2 at *
  generalize (ansC (atS s a)).2.2.1 = x3 at *
  generalize (ansC (atS s a)).2.2.2 = x4 at *
  clear hT hs hs'
  go_enter Tryd.func3, Tryd.ntmps3
  go_wp2_with fail
  refine HA.out.mono ?_
  rintro e w1 ⟨rfl, hb1⟩
  go_wp2_with fail
  refine (HB.out _).mono ?_
  rintro e w2 ⟨rfl, hb2⟩
  have hr := row_on (heap_alloc_new w1 _) hb2
  have c0 := cell_at hr 0
  have c1 := cell_at hr 1
  simp only [List.getElem?_toArray, List.getElem?_cons_zero, List.getElem?_cons_succ] at c0 c1
  have d0 : ∀ o, (w2.alloc o).cell? ⟨w1.heap.size, 0, none⟩ = some (.int .i64 x1) := fun o => cell_later (below_a1 _ _) (heap_lt hr) c0
  have d1 : ∀ o, (w2.alloc o).cell? ⟨w1.heap.size, 1, none⟩ = some (.int .i64 x2) := fun o => cell_later (below_a1 _ _) (heap_lt hr) c1
  have hbb := below_then (below_then hb1 (below_a1 _ _)) hb2
  clear hb1 hb2 hr c0 c1 HA HB
  go_wp2_with fail
  go_ret
  exact ⟨rfl, below_then hbb (below_a1 _ _)⟩
end Go.Proofs.YtfkbpmahedmbhaaDoor
