/- The law TxlogNil, walked. -/
import Derived.Test.YtfpnpkpjkcmoaaaLogN
import Derived.Test.YtfpnpkpjkcmoaaaSigE
namespace Go.Proofs.Ytfpnpkpjkcmoaaa
open Go.ChangeShapes Go.WideShapes Go.ChangeAt Go.RowKit

theorem lognil_walk (a0 : Int) (a1 : Int) (w : World) :
    Calls Try.prog 8 #[.int .i64 a0, .int .i64 a1] w fun e w' => e = .returned (.bool true) ∧ Below w.heap.size w w' := by
  have HRD : Hid (∀ w : World, Calls Try.prog 18 #[.pointer none] w fun e w' => e = .returned (.agg (Sg.sc Sg.nought)) ∧ Below w.heap.size w w') := fun w => reads_nil w
  have HSG : Hid (∀ w : World, Calls Try.prog 16 #[.pointer none] w fun e w' => e = .returned (.agg (Sg.sc Sg.nought)) ∧ Below w.heap.size w w') := fun w => sig_nil w
  have hz : (Sg.sc Sg.nought).size = 8 := rfl
  have h1 := Sg.sc_one Sg.nought
  have heq : ∀ w : World, (binOp .eql 44 (.agg (Sg.sc Sg.nought)) (.agg #[.int .u64 0, .int .u64 0, .int .u64 0, .int .u64 0, .int .u64 0, .int .u64 0, .int .u64 0, .int .u64 0])).run Try.prog w = .ok (.bool true) w := fun w => Sg.eql_sig Sg.nought Sg.nought rfl rfl w
  generalize Sg.sc Sg.nought = cs at *
  have hpo := Sg.pack8 cs hz
  have hst := fun (w : World) (old : Array Value) (ho : old.size = 8) => Sg.store_1_0 (P := Try.prog) w 44 old cs ho hz h1
  go_enter Try.func8, Try.ntmps8
  go_wp2_with fail
  refine (write_nil _ _ _).mono ?_
  rintro e w' ⟨rfl, rfl⟩
  go_wp2_with fail
  refine (own_nil _ _).mono ?_
  rintro e w' ⟨rfl, rfl⟩
  go_wp2_with fail
  refine (read_nil _ _).mono ?_
  rintro e w' ⟨rfl, rfl⟩
  go_wp2_with fail
  refine (HRD.out _).mono ?_
  rintro e w2 ⟨rfl, hb2⟩
  have HA : Hid ((w2.alloc (.cells cs 44)).heap[w2.heap.size]? = some (.cells cs 44 (0, 0))) := heap_alloc_new _ _
  have HB2 : Hid (Below w'.heap.size w' (w2.alloc (.cells cs 44))) := below_alloc hb2 _
  clear hb2
  go_wp2_with fail
  refine (HSG.out _).mono ?_
  rintro e w3 ⟨rfl, hb3⟩
  have HA3 : Hid ((w3.alloc (.cells cs 44)).heap[w2.heap.size]? = some (.cells cs 44 (0, 0))) := Sg.row_later (Sg.row_later HA.out hb3) (below_a1 _ _)
  have HB3 : Hid (Below w'.heap.size w' (w3.alloc (.cells cs 44))) := below_alloc (below_then HB2.out hb3) _
  have HS3 : Hid ((w3.alloc (.cells cs 44)).heap[w3.heap.size]? = some (.cells cs 44 (0, 0))) := heap_alloc_new _ _
  clear hb3
  have la := Sg.row_cells HA3.out hz
  have lb := Sg.row_cells HS3.out hz
  go_wp2_with fail
  refine (writes_nil _).mono ?_
  rintro e w4 ⟨rfl, rfl⟩
  go_wp2_with fail
  refine (lclear_nil _).mono ?_
  rintro e w4 ⟨rfl, rfl⟩
  go_wp2
  go_ret
  exact ⟨rfl, HB3.out⟩
end Go.Proofs.Ytfpnpkpjkcmoaaa
