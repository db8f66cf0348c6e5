/- CommitPlays walked. (Printed by tools/cde.py.) -/
import Derived.Test.YtfbbcjlbelnfaaaCdD
import Derived.Test.YtfbbcjlbelnfaaaCmS
import Derived.Test.YtfbbcjlbelnfaaaRefE
import Derived.Test.YtfbbcjlbelnfaaaActL
namespace Go.Proofs.Ytfbbcjlbelnfaaa
open Go.ChangeShapes Go.WideShapes Go.ChangeAt Go.RowKit
attribute [local go_sem ↓] Go.wp_at_zero Go.wp_at_succ

def playC (raw s wr n : Int) (mu : Bool) (tr : Int) (vr : Value) (z : Int) (rd : List Nat) (rg : Int) (v : Value) : Array Value := #[.int .i64 raw, .int .i64 s, .int .i64 wr, .int .i64 n, .bool mu, .int .i64 tr, vr, .int .i64 z, rdV rd 0, rdV rd 1, rdV rd 2, rdV rd 3, rdV rd 4, rdV rd 5, rdV rd 6, rdV rd 7, .int .i64 rg, v]
theorem conf_cells {w : World} {B : Nat} {c0 c1 c2 c3 c4 c5 c6 : Value} {t : TypeId} (h : w.heap[B]? = some (.cells #[c0, c1, c2, c3, c4, c5, c6] t (0, 0))) : w.cell? ⟨B, 0, none⟩ = some c0 ∧ w.cell? ⟨B, 1, none⟩ = some c1 ∧ w.cell? ⟨B, 2, none⟩ = some c2 ∧ w.cell? ⟨B, 3, none⟩ = some c3 ∧ w.cell? ⟨B, 4, none⟩ = some c4 ∧ w.cell? ⟨B, 5, none⟩ = some c5 ∧ w.cell? ⟨B, 6, none⟩ = some c6 :=
  ⟨by rw [cell_at h]; rfl, by rw [cell_at h]; rfl, by rw [cell_at h]; rfl, by rw [cell_at h]; rfl, by rw [cell_at h]; rfl, by rw [cell_at h]; rfl, by rw [cell_at h]; rfl⟩
theorem heap_alloc2_mid (w : World) (a b o : Obj) : (((w.alloc a).alloc o).alloc b).heap[w.heap.size + 1]? = some o := by
  have := row_on (heap_alloc2_new w a o) (below_a1 ((w.alloc a).alloc o) b)
  exact this
set_option maxRecDepth 100000 in
set_option maxHeartbeats 3200000 in
theorem cplays_no (w : World) (raw s wr n : Int) (mu : Bool) (tr : Int) (va : Option Addr) (vn vcap : Nat) (z : Int) (rd : List Nat) (rg : Int) (a : Option Addr) (ln cap : Nat) (hr : Sg.Ok rd) (h : takesM s z n = false) : Calls Try.prog 3 #[.agg (playC raw s wr n mu tr (.slice va vn vcap) z rd rg (.slice a ln cap))] w fun e w' => e = .returned (.bool true) ∧ Below w.heap.size w w' := by
  have HS : Hid (∀ w, Calls Try.prog 6 #[] w fun e w' => e = .returned (.bool true) ∧ Below w.heap.size w w') := mshown_any
  have HT : Hid (∀ w, Calls Try.prog 8 #[.agg #[.int .i64 raw, .int .i64 s, .int .i64 wr, .int .i64 n, .bool mu, .int .i64 tr, .slice va vn vcap], .int .i64 z] w fun e w' => e = .returned (.bool false) ∧ Below w.heap.size w w') := by rw [← h]; exact takes10_any raw s wr n mu tr (.slice va vn vcap) z
  have HB : Hid (∀ (w : World), Calls Try.prog 7 #[.agg #[.int .i64 raw, .int .i64 s, .int .i64 wr, .int .i64 n, .bool mu, .int .i64 tr, .slice va vn vcap], .int .i64 z, .agg #[rdV rd 0, rdV rd 1, rdV rd 2, rdV rd 3, rdV rd 4, rdV rd 5, rdV rd 6, rdV rd 7]] w fun e w' => e = .returned (.tuple #[.pointer none, .int .i64 1]) ∧ Below w.heap.size w w') := fun w => mnew_no w raw s wr n mu tr (.slice va vn vcap) z rd hr (by unfold takesM takesK at h; simp only [Bool.and_eq_false_iff, decide_eq_false_iff_not] at h; omega)
  clear h hr
  unfold playC
  unfold rdV at *
  generalize rd.getD 0 0 = m0 at *
  generalize rd.getD 1 0 = m1 at *
  generalize rd.getD 2 0 = m2 at *
  generalize rd.getD 3 0 = m3 at *
  generalize rd.getD 4 0 = m4 at *
  generalize rd.getD 5 0 = m5 at *
  generalize rd.getD 6 0 = m6 at *
  generalize rd.getD 7 0 = m7 at *
  go_enter Try.func3, Try.ntmps3
  go_wp2_with fail
  refine (HS.out _).mono ?_
  rintro e y1 ⟨rfl, hb1⟩
  have HR1 : Hid (y1.heap[w.heap.size + 1]? = some (.cells #[.int .i64 raw, .int .i64 s, .int .i64 wr, .int .i64 n, .bool mu, .int .i64 tr, .slice va vn vcap] 24 (0, 0)) ∧ y1.heap[w.heap.size + 1 + 1]? = some (.cells #[.int .u64 ((m0 : Nat) : Int), .int .u64 ((m1 : Nat) : Int), .int .u64 ((m2 : Nat) : Int), .int .u64 ((m3 : Nat) : Int), .int .u64 ((m4 : Nat) : Int), .int .u64 ((m5 : Nat) : Int), .int .u64 ((m6 : Nat) : Int), .int .u64 ((m7 : Nat) : Int)] 27 (0, 0))) := ⟨row_on (heap_alloc2_mid _ _ _ _) hb1, row_on (heap_alloc3_new _ _ _ _) hb1⟩
  have HB1 : Hid (Below w.heap.size w y1) := below_then (below_alloc (below_alloc (below_a1 _ _) _) _) hb1
  clear hb1
  obtain ⟨g0, g1, g2, g3, g4, g5, g6⟩ := conf_cells HR1.out.1
  obtain ⟨r0, r1, r2, r3, r4, r5, r6, r7⟩ := cells8 HR1.out.2
  go_wp2_with fail
  refine (HB.out _).mono ?_
  rintro e y2 ⟨rfl, hb2⟩
  have HB2 : Hid (Below w.heap.size w y2) := below_then HB1.out hb2
  have HR2 : Hid (y2.heap[w.heap.size + 1]? = some (.cells #[.int .i64 raw, .int .i64 s, .int .i64 wr, .int .i64 n, .bool mu, .int .i64 tr, .slice va vn vcap] 24 (0, 0))) := row_on HR1.out.1 hb2
  clear hb2 r0 r1 r2 r3 r4 r5 r6 r7 g0 g1 g2 g3 g4 g5 g6
  obtain ⟨g0, g1, g2, g3, g4, g5, g6⟩ := conf_cells HR2.out
  go_wp2_with fail
  refine (HT.out _).mono ?_
  rintro e y3 ⟨rfl, hb3⟩
  have HB3 : Hid (Below w.heap.size w y3) := below_then HB2.out hb3
  clear hb3 g0 g1 g2 g3 g4 g5 g6
  go_wp2
  go_ret
  exact ⟨rfl, HB3.out⟩
set_option maxRecDepth 100000 in
set_option maxHeartbeats 3200000 in
theorem cplays_may (w : World) (raw : Int) (s : Nat) (wr n : Int) (mu : Bool) (tr : Int) (va : Option Addr) (vn vcap : Nat) (z : Int) (rd : List Nat) (rg : Int) (a : Option Addr) (ln cap : Nat) (hr : Sg.Ok rd) (h : takesM (s : Int) z n = true) (hz1 : z ≤ 9223372036854775807) (hm : takes 3 rg = false) : Calls Try.prog 3 #[.agg (playC raw (s : Int) wr n mu tr (.slice va vn vcap) z rd rg (.slice a ln cap))] w fun e w' => e = .returned (.bool true) ∧ Below w.heap.size w w' := by
  have HS : Hid (∀ w, Calls Try.prog 6 #[] w fun e w' => e = .returned (.bool true) ∧ Below w.heap.size w w') := mshown_any
  have HT : Hid (∀ w, Calls Try.prog 8 #[.agg #[.int .i64 raw, .int .i64 (s : Int), .int .i64 wr, .int .i64 n, .bool mu, .int .i64 tr, .slice va vn vcap], .int .i64 z] w fun e w' => e = .returned (.bool true) ∧ Below w.heap.size w w') := by rw [← h]; exact takes10_any raw (s : Int) wr n mu tr (.slice va vn vcap) z
  have HM : Hid (∀ w, Calls Try.prog 9 #[.int .i64 3, .int .i64 rg] w fun e w' => e = .returned (.bool false) ∧ w' = w) := by rw [← hm]; exact takes_any 3 rg
  have HB : Hid (∀ (w : World), Calls Try.prog 7 #[.agg #[.int .i64 raw, .int .i64 (s : Int), .int .i64 wr, .int .i64 n, .bool mu, .int .i64 tr, .slice va vn vcap], .int .i64 z, .agg #[rdV rd 0, rdV rd 1, rdV rd 2, rdV rd 3, rdV rd 4, rdV rd 5, rdV rd 6, rdV rd 7]] w fun e w' => ∃ X, e = .returned (.tuple #[.pointer (some ⟨X, 0, none⟩), .int .i64 0]) ∧ Below w.heap.size w w') := fun w => by
    unfold takesM takesK at h
    simp only [Bool.and_eq_true, decide_eq_true_eq] at h
    refine (mnew_yes w (P := ⟨s, z, rd, false, exNew n mu⟩) ⟨by simp only; omega, by simp only; omega, by simp only; omega, hz1, hr⟩ rfl (by simp only [exNew]; omega) (by simp only [exNew]; omega) raw wr tr (.slice va vn vcap)).mono ?_
    rintro e w' ⟨Z, X, rfl, _, _, _, _, _, hb⟩
    exact ⟨Z, rfl, hb⟩
  clear h hr hm
  unfold playC
  unfold rdV at *
  generalize rd.getD 0 0 = m0 at *
  generalize rd.getD 1 0 = m1 at *
  generalize rd.getD 2 0 = m2 at *
  generalize rd.getD 3 0 = m3 at *
  generalize rd.getD 4 0 = m4 at *
  generalize rd.getD 5 0 = m5 at *
  generalize rd.getD 6 0 = m6 at *
  generalize rd.getD 7 0 = m7 at *
  go_enter Try.func3, Try.ntmps3
  go_wp2_with fail
  refine (HS.out _).mono ?_
  rintro e y1 ⟨rfl, hb1⟩
  have HR1 : Hid (y1.heap[w.heap.size + 1]? = some (.cells #[.int .i64 raw, .int .i64 (s : Int), .int .i64 wr, .int .i64 n, .bool mu, .int .i64 tr, .slice va vn vcap] 24 (0, 0)) ∧ y1.heap[w.heap.size + 1 + 1]? = some (.cells #[.int .u64 ((m0 : Nat) : Int), .int .u64 ((m1 : Nat) : Int), .int .u64 ((m2 : Nat) : Int), .int .u64 ((m3 : Nat) : Int), .int .u64 ((m4 : Nat) : Int), .int .u64 ((m5 : Nat) : Int), .int .u64 ((m6 : Nat) : Int), .int .u64 ((m7 : Nat) : Int)] 27 (0, 0))) := ⟨row_on (heap_alloc2_mid _ _ _ _) hb1, row_on (heap_alloc3_new _ _ _ _) hb1⟩
  have HB1 : Hid (Below w.heap.size w y1) := below_then (below_alloc (below_alloc (below_a1 _ _) _) _) hb1
  clear hb1
  obtain ⟨g0, g1, g2, g3, g4, g5, g6⟩ := conf_cells HR1.out.1
  obtain ⟨r0, r1, r2, r3, r4, r5, r6, r7⟩ := cells8 HR1.out.2
  go_wp2_with fail
  refine (HB.out _).mono ?_
  rintro e y2 ⟨X, rfl, hb2⟩
  have HB2 : Hid (Below w.heap.size w y2) := below_then HB1.out hb2
  have HR2 : Hid (y2.heap[w.heap.size + 1]? = some (.cells #[.int .i64 raw, .int .i64 (s : Int), .int .i64 wr, .int .i64 n, .bool mu, .int .i64 tr, .slice va vn vcap] 24 (0, 0))) := row_on HR1.out.1 hb2
  clear hb2 r0 r1 r2 r3 r4 r5 r6 r7 g0 g1 g2 g3 g4 g5 g6
  obtain ⟨g0, g1, g2, g3, g4, g5, g6⟩ := conf_cells HR2.out
  go_wp2_with fail
  refine (HT.out _).mono ?_
  rintro e y3 ⟨rfl, hb3⟩
  have HB3 : Hid (Below w.heap.size w y3) := below_then HB2.out hb3
  clear hb3 g0 g1 g2 g3 g4 g5 g6
  go_wp2_with fail
  refine (HM.out _).mono ?_
  rintro e y4 ⟨rfl, rfl⟩
  go_wp2
  go_ret
  exact ⟨rfl, HB3.out⟩
end Go.Proofs.Ytfbbcjlbelnfaaa
