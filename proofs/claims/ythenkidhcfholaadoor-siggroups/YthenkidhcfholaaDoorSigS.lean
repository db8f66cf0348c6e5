/- The examples at the head of all statements come out as the document tells them. -/
import Derived.Test.YthenkidhcfholaaDoorSigO
import Derived.Test.YthenkidhcfholaaDoorSigT
namespace Go.Proofs.YthenkidhcfholaaDoor
open Go.ChangeShapes Go.WideShapes Go.ChangeAt Go.RowKit

theorem ex_bits : bitsOf (ofAll [0, 2, 2]) = [0, 117] := by decide +kernel
theorem ex_has : bit (ofAll [0, 2, 2]) (sigN 2) = true := by decide +kernel
theorem ex_not : bit (ofAll [0, 2, 2]) (sigN 1) = false := by decide +kernel

theorem lst3 (w : World) (a b c : Int) : Lst (w.alloc (.cells #[.int .i64 a, .int .i64 b, .int .i64 c] 3)) (.slice (some ⟨w.heap.size, 0, none⟩) 3 3) [a, b, c] := by
  refine ⟨_, _, rfl, by simp, Or.inr ⟨_, rfl, fun i hi => ?_⟩⟩
  rw [add_at, cell_of_row _ _ i _ 3 (0, 0) (heap_alloc_new _ _)]
  have hi' : i < 3 := hi
  rcases i with _ | _ | _ | i
  · rfl
  · rfl
  · rfl
  · omega
theorem lst2 (w : World) (a b : Int) : Lst (w.alloc (.cells #[.int .i64 a, .int .i64 b] 3)) (.slice (some ⟨w.heap.size, 0, none⟩) 2 2) [a, b] := by
  refine ⟨_, _, rfl, by simp, Or.inr ⟨_, rfl, fun i hi => ?_⟩⟩
  rw [add_at, cell_of_row _ _ i _ 3 (0, 0) (heap_alloc_new _ _)]
  have hi' : i < 2 := hi
  rcases i with _ | _ | i
  · rfl
  · rfl
  · omega

theorem shown_any (w : World) (hT : Tab w) : Calls Tryd.prog 9 #[] w fun e w' => e = .returned (.bool true) ∧ Below w.heap.size w w' := by
  have HT : Hid (Tab w) := hT
  have HO : Hid (∀ w : World, Calls Tryd.prog 10 #[.slice (some ⟨w.heap.size, 0, none⟩) 3 3] (w.alloc (.cells #[.int .i64 0, .int .i64 2, .int .i64 2] 3)) fun e w' => e = .returned (sv (ofAll [0, 2, 2])) ∧ Below (w.alloc (.cells #[.int .i64 0, .int .i64 2, .int .i64 2] 3)).heap.size (w.alloc (.cells #[.int .i64 0, .int .i64 2, .int .i64 2] 3)) w') := fun w => of_any _ _ _ (lst3 w 0 2 2)
  have hok := ok_ofAll [0, 2, 2]
  have e1 := ex_bits
  have e2 := ex_has
  have e3 := ex_not
  generalize ofAll [0, 2, 2] = S at *
  have HB : Hid (∀ w, Tab w → Calls Tryd.prog 22 #[sv S] w fun e w' => ∃ v, e = .returned v ∧ Lst w' v [0, 117] ∧ Below w.heap.size w w') := fun w h => (bits_any _ hok w h).mono fun e w' ⟨v, h1, h2, h3⟩ => ⟨v, h1, by have := own_lst h2; rw [e1] at this; exact this, h3⟩
  have HH : Hid (∀ w, Calls Tryd.prog 14 #[sv S, .int .i64 2] w fun e w' => e = .returned (.bool true) ∧ Below w.heap.size w w') := fun w => by have := has_any _ hok 2 w; rwa [e2] at this
  have HN : Hid (∀ w, Calls Tryd.prog 14 #[sv S, .int .i64 1] w fun e w' => e = .returned (.bool false) ∧ Below w.heap.size w w') := fun w => by have := has_any _ hok 1 w; rwa [e3] at this
  have HX : Hid (∀ w, Calls Tryd.prog 27 #[sv S] w fun e w' => e = .returned (.string (strOfNums (textOf S))) ∧ Below w.heap.size w w') := fun w => text_any _ hok w
  have hts : (strOfNums (textOf S)).size = 128 := by rw [strOfNums_size]; exact textTo_len _ 8
  have hz : (sc S).size = 8 := by rw [sc_size]; exact hok.1
  have h1 := sc_one S
  clear e1 e2 e3
  unfold sv at *
  clear hok hT
  generalize strOfNums (textOf S) = tx at *
  generalize sc S = cs at *
  have hpk := pack8 cs hz
  have hst := fun (w : World) (old : Array Value) (ho : old.size = 8) => store_1_0 (P := Tryd.prog) w 25 old cs ho hz h1
  go_enter Tryd.func9, Tryd.ntmps9
  go_wp2_with fail
  refine (HO.out _).mono ?_
  rintro e w1 ⟨rfl, hb1⟩
  have HL1 : Hid (Below w.heap.size w w1) := below_then (below_a1 _ _) hb1
  clear hb1
  have HT2 : Hid (Tab (w1.alloc (.cells cs 25))) := HT.out.later (below_alloc HL1.out _)
  go_wp2_with fail
  refine (HB.out _ HT2.out).mono ?_
  rintro e w2 ⟨v, rfl, hv, hb2⟩
  have HL2 : Hid (Below w.heap.size w w2) := below_then (below_alloc HL1.out _) hb2
  have HV2 : Hid (Lst w2 v [0, 117]) := hv
  have HR2 : Hid (w2.heap[w1.heap.size]? = some (.cells cs 25 (0, 0))) := row_later (heap_alloc_new _ _) hb2
  clear hb2 hv
  have hl2 := row_cells HR2.out hz
  go_wp2_with fail
  refine (HH.out _).mono ?_
  rintro e w3 ⟨rfl, hb3⟩
  have HL3 : Hid (Below w.heap.size w w3) := below_then HL2.out hb3
  have HV3 : Hid (Lst w3 v [0, 117]) := HV2.out.later hb3
  have HR3 : Hid (w3.heap[w1.heap.size]? = some (.cells cs 25 (0, 0))) := row_later HR2.out hb3
  clear hb3 hl2
  have hl3 := row_cells HR3.out hz
  go_wp2_with fail
  refine (HN.out _).mono ?_
  rintro e w4 ⟨rfl, hb4⟩
  have HL4 : Hid (Below w.heap.size w w4) := below_then HL3.out hb4
  have HV4 : Hid (Lst w4 v [0, 117]) := HV3.out.later hb4
  have HR4 : Hid (w4.heap[w1.heap.size]? = some (.cells cs 25 (0, 0))) := row_later HR3.out hb4
  clear hb4 hl3
  have hl4 := row_cells HR4.out hz
  go_wp2_with fail
  refine (HX.out _).mono ?_
  rintro e w5 ⟨rfl, hb5⟩
  have HL5 : Hid (Below w.heap.size w w5) := below_then HL4.out hb5
  have HV5 : Hid (Lst w5 v [0, 117]) := HV4.out.later hb5
  clear hb5 hl4
  go_wp2_with fail
  refine (ints_any _ _ _ [0, 117] [0, 117] (HV5.out.later (below_a1 _ _)) (lst2 _ _ _)).mono ?_
  rintro e w6 ⟨rfl, n, rfl⟩
  go_wp2
  go_ret
  exact ⟨by simp, below_drawn (below_alloc HL5.out _) n⟩
end Go.Proofs.YthenkidhcfholaaDoor
