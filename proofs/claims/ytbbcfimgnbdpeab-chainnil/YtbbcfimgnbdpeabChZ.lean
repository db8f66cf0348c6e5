/- ChainNil, walked. -/
import Derived.Test.YtbbcfimgnbdpeabChB
namespace Go.Proofs.Ytbbcfimgnbdpeab.Ch
open Go.ChangeShapes Go.WideShapes Go.ChangeAt Go.RowKit
attribute [local go_sem ↓] Go.wp_at_zero Go.wp_at_succ

set_option maxRecDepth 100000 in
theorem nil_walk (w : World) (b m v : Int) : Calls Try.prog 3 #[.int .i64 b, .int .i64 m, .int .i64 v] w fun e w' => e = .returned (.bool true) ∧ Below w.heap.size w w' := by
  have HX : Hid (∀ w : World, Calls Try.prog 6 #[.pointer none, .int .i64 v] w fun e w' => e = .returned (.agg (wnC wn0)) ∧ Below w.heap.size w w') := fun w => next_nil w v
  have HN : Hid (∀ w : World, Calls Try.prog 7 #[.int .i64 b, .int .i64 m, .int .i64 0, .slice none 0 0] w fun e w' => e = .returned (.tuple #[.pointer none, .int .i64 1]) ∧ Below w.heap.size w w') := fun w => new_no w b m 0 _ [] Nl.nil (by
    cases h : rightV b m 0 ([] : List Int).length with
    | false => rfl
    | true => exact absurd (call_of h).2.2.2.2 (by simp))
  simp only [wnC, wn0] at HX
  go_enter Try.func3, Try.ntmps3
  go_wp2_with fail
  refine (HX.out _).mono ?_
  rintro e w1 ⟨rfl, hb1⟩
  have HB1 : Hid (Below w.heap.size w w1) := hb1
  clear hb1
  go_wp2_with fail
  refine (HN.out _).mono ?_
  rintro e w2 ⟨rfl, hb2⟩
  have HB2 : Hid (Below w.heap.size w w2) := below_then HB1.out (below_next hb2)
  have hr2 := row_next hb2
  have c0 : w2.cell? ⟨w1.heap.size, 0, none⟩ = some (.int .i64 0) := by rw [cell_at hr2]; rfl
  have c1 : w2.cell? ⟨w1.heap.size, 1, none⟩ = some (.int .i64 0) := by rw [cell_at hr2]; rfl
  have c2 : w2.cell? ⟨w1.heap.size, 2, none⟩ = some (.int .i64 0) := by rw [cell_at hr2]; rfl
  have c3 : w2.cell? ⟨w1.heap.size, 3, none⟩ = some (.int .i64 0) := by rw [cell_at hr2]; rfl
  have HR2 : Hid (w2.heap[w1.heap.size]? = some (.cells #[.int .i64 0, .int .i64 0, .int .i64 0, .int .i64 0] 24 (0, 0))) := hr2
  clear hb2 hr2 HN
  go_wp2_with fail
  refine (HX.out _).mono ?_
  rintro e w3 ⟨rfl, hb3⟩
  have HB3 : Hid (Below w.heap.size w w3) := below_then HB2.out hb3
  have hr3 : w3.heap[w1.heap.size]? = some (.cells #[.int .i64 0, .int .i64 0, .int .i64 0, .int .i64 0] 24 (0, 0)) := by rw [hb3.block _ (heap_lt HR2.out)]; exact HR2.out
  have d0 : w3.cell? ⟨w1.heap.size, 0, none⟩ = some (.int .i64 0) := by rw [cell_at hr3]; rfl
  have d1 : w3.cell? ⟨w1.heap.size, 1, none⟩ = some (.int .i64 0) := by rw [cell_at hr3]; rfl
  have d2 : w3.cell? ⟨w1.heap.size, 2, none⟩ = some (.int .i64 0) := by rw [cell_at hr3]; rfl
  have d3 : w3.cell? ⟨w1.heap.size, 3, none⟩ = some (.int .i64 0) := by rw [cell_at hr3]; rfl
  have hlt := heap_lt hr3
  clear hb3 hr3 HX c0 c1 c2 c3
  go_wp2_with fail
  go_ret
  exact ⟨rfl, below_then HB3.out (below_a1 _ _)⟩
end Go.Proofs.Ytbbcfimgnbdpeab.Ch
