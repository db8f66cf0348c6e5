/- CheckElse walked. -/
import Derived.Test.YtemdgknfedaaiaaChkS
namespace Go.Proofs.Ytemdgknfedaaiaa
open Go.ChangeShapes Go.WideShapes Go.ChangeAt Go.RowKit
attribute [local go_sem ↓] Go.wp_at_zero Go.wp_at_succ

def takesK (s z : Int) : Bool := decide (1 ≤ s) && decide (s ≤ 16) && decide (0 ≤ z)
theorem ctakes_any (s z : Int) (w : World) : Calls Try.prog 9 #[.int .i64 s, .int .i64 z] w fun e w' => e = .returned (.bool (takesK s z)) ∧ w' = w := by
  unfold takesK
  by_cases h1 : 1 ≤ s
  · have d1 : decide (1 ≤ s) = true := decide_eq_true h1
    by_cases h2 : s ≤ 16
    · have d2 : decide (s ≤ 16) = true := decide_eq_true h2
      rw [d1, d2]
      clear h1 h2
      go_enter Try.func9, Try.ntmps9
      go_wp2
      go_ret
      exact ⟨rfl, rfl⟩
    · have d2 : decide (s ≤ 16) = false := decide_eq_false h2
      rw [d1, d2]
      clear h1 h2
      go_enter Try.func9, Try.ntmps9
      go_wp2
      go_ret
      exact ⟨rfl, rfl⟩
  · have d1 : decide (1 ≤ s) = false := decide_eq_false h1
    rw [d1]
    clear h1
    go_enter Try.func9, Try.ntmps9
    go_wp2
    go_ret
    exact ⟨rfl, rfl⟩
def elC (s z : Int) (rd : List Nat) (r : Int) : Array Value := #[.int .i64 s, .int .i64 z, rdV rd 0, rdV rd 1, rdV rd 2, rdV rd 3, rdV rd 4, rdV rd 5, rdV rd 6, rdV rd 7, .int .i64 r]
set_option maxRecDepth 10000 in
theorem else_no (w : World) (s z : Int) (rd : List Nat) (r : Int) (h : takesK s z = false ∨ takes 1 r = false ∨ s = r) : Calls Try.prog 4 #[.agg (elC s z rd r)] w fun e w' => e = .returned (.bool true) ∧ Below w.heap.size w w' := by
  have HS : Hid (∀ w, Calls Try.prog 7 #[] w fun e w' => e = .returned (.bool true) ∧ Below w.heap.size w w') := cshown_any
  have HT : Hid (∀ w, Calls Try.prog 9 #[.int .i64 s, .int .i64 z] w fun e w' => e = .returned (.bool (takesK s z)) ∧ w' = w) := ctakes_any s z
  have HR : Hid (∀ w, Calls Try.prog 19 #[.int .i64 1, .int .i64 r] w fun e w' => e = .returned (.bool (takes 1 r)) ∧ w' = w) := takes_any 1 r
  have hq0 : takesK s z = false ∨ takes 1 r = false ∨ (s == r) = true := by simpa using h
  have HQ : Hid (takesK s z = false ∨ takes 1 r = false ∨ (s == r) = true) := hq0
  clear hq0
  clear h
  unfold elC rdV
  generalize rd.getD 0 0 = n0 at *
  generalize rd.getD 1 0 = n1 at *
  generalize rd.getD 2 0 = n2 at *
  generalize rd.getD 3 0 = n3 at *
  generalize rd.getD 4 0 = n4 at *
  generalize rd.getD 5 0 = n5 at *
  generalize rd.getD 6 0 = n6 at *
  generalize rd.getD 7 0 = n7 at *
  generalize takesK s z = t1 at *
  generalize takes 1 r = t2 at *
  generalize hq : (s == r) = t3 at *
  go_enter Try.func4, Try.ntmps4
  go_wp2_with fail
  refine (HS.out _).mono ?_
  rintro e w1 ⟨rfl, hb1⟩
  have HR1 : Hid (w1.heap[w.heap.size + 1]? = some (.cells #[.int .u64 ((n0 : Nat) : Int), .int .u64 ((n1 : Nat) : Int), .int .u64 ((n2 : Nat) : Int), .int .u64 ((n3 : Nat) : Int), .int .u64 ((n4 : Nat) : Int), .int .u64 ((n5 : Nat) : Int), .int .u64 ((n6 : Nat) : Int), .int .u64 ((n7 : Nat) : Int)] 24 (0, 0))) := row_on (heap_alloc2_new _ _ _) hb1
  have HB1 : Hid (Below w.heap.size w w1) := below_then (below_alloc (below_a1 _ _) _) hb1
  clear hb1
  go_wp2_with fail
  refine (HT.out _).mono ?_
  rintro e y1 ⟨rfl, rfl⟩
  go_wp2_with fail
  refine (HR.out _).mono ?_
  rintro e y2 ⟨rfl, rfl⟩
  cases t1 <;> cases t2 <;> cases t3
  all_goals first
    | (exfalso; have := HQ.out; simp at this; done)
    | (go_wp2; go_ret; exact ⟨rfl, HB1.out⟩)
set_option maxRecDepth 10000 in
set_option maxHeartbeats 1600000 in
theorem else_yes (w : World) {P : Cp} (hp : POk P) (hl : P.last = true) (r : Nat) (h1 : 1 ≤ r) (h2 : r ≤ 16) (h : P.s ≠ r) : Calls Try.prog 4 #[.agg (elC P.s P.z P.rd r)] w fun e w' => e = .returned (.bool true) ∧ Below w.heap.size w w' := by
  have HS : Hid (∀ w, Calls Try.prog 7 #[] w fun e w' => e = .returned (.bool true) ∧ Below w.heap.size w w') := cshown_any
  have HT : Hid (∀ w, Calls Try.prog 9 #[.int .i64 (P.s : Int), .int .i64 P.z] w fun e w' => e = .returned (.bool (takesK (P.s : Int) P.z)) ∧ w' = w) := ctakes_any (P.s : Int) P.z
  have HR : Hid (∀ w, Calls Try.prog 19 #[.int .i64 1, .int .i64 (r : Int)] w fun e w' => e = .returned (.bool (takes 1 (r : Int))) ∧ w' = w) := takes_any 1 (r : Int)
  have HB : Hid (∀ w : World, Calls Try.prog 8 #[.int .i64 (P.s : Int), .int .i64 P.z, .agg #[rdV P.rd 0, rdV P.rd 1, rdV P.rd 2, rdV P.rd 3, rdV P.rd 4, rdV P.rd 5, rdV P.rd 6, rdV P.rd 7], .bool true] w fun e w' => e = .returned (.tuple #[.pointer (some ⟨w.heap.size + 1, 0, none⟩), .int .i64 0]) ∧ KAt w' (w.heap.size + 1) P (ckNew P) ∧ Below w.heap.size w w') := fun w => by
    have := cnew_yes w hp
    rw [hl] at this
    rw [rd_cells hp.rd.1]; exact this
  have HN : Hid (∀ w : World, Calls Try.prog 10 #[.int .i64 1, .int .i64 (r : Int)] w fun e w' => ∃ p F, e = .returned (.tuple #[p, .int .i64 0]) ∧ p ≠ .pointer none ∧ MemAt w' w.heap.size p 1 r [] F ∧ Below w.heap.size w w') := fun w => new_yes w 1 r (by decide) ⟨h1, h2⟩
  have t1 : takesK P.s P.z = true := by unfold takesK; have := hp.s1; have := hp.s16; have := hp.z0; simp; omega
  have t2 : takes 1 (r : Int) = true := by unfold takes; simp; omega
  rw [t1] at HT
  rw [t2] at HR
  have hq : ((P.s : Int) == (r : Int)) = false := by simp; omega
  have HG : Hid (goesK r P (ckNew P) = false) := by unfold goesK; simp; intro _ _ e; exact h e.symm
  clear t1 t2
  unfold elC
  unfold rdV at *
  generalize P.rd.getD 0 0 = n0 at *
  generalize P.rd.getD 1 0 = n1 at *
  generalize P.rd.getD 2 0 = n2 at *
  generalize P.rd.getD 3 0 = n3 at *
  generalize P.rd.getD 4 0 = n4 at *
  generalize P.rd.getD 5 0 = n5 at *
  generalize P.rd.getD 6 0 = n6 at *
  generalize P.rd.getD 7 0 = n7 at *
  go_enter Try.func4, Try.ntmps4
  go_wp2_with fail
  refine (HS.out _).mono ?_
  rintro e w1 ⟨rfl, hb1⟩
  have HR1 : Hid (w1.heap[w.heap.size + 1]? = some (.cells #[.int .u64 ((n0 : Nat) : Int), .int .u64 ((n1 : Nat) : Int), .int .u64 ((n2 : Nat) : Int), .int .u64 ((n3 : Nat) : Int), .int .u64 ((n4 : Nat) : Int), .int .u64 ((n5 : Nat) : Int), .int .u64 ((n6 : Nat) : Int), .int .u64 ((n7 : Nat) : Int)] 24 (0, 0))) := row_on (heap_alloc2_new _ _ _) hb1
  have HB1 : Hid (Below w.heap.size w w1) := below_then (below_alloc (below_a1 _ _) _) hb1
  clear hb1
  go_wp2_with fail
  refine (HT.out _).mono ?_
  rintro e y1 ⟨rfl, rfl⟩
  go_wp2_with fail
  refine (HR.out _).mono ?_
  rintro e y2 ⟨rfl, rfl⟩
  obtain ⟨r0, r1, r2, r3, r4, r5, r6, r7⟩ := cells8 HR1.out
  go_wp2_with fail
  refine (HB.out _).mono ?_
  rintro e w2 ⟨rfl, hx2, hb2⟩
  have HX2 : Hid (KAt w2 (y2.heap.size + 1) P (ckNew P) ∧ Below w.heap.size w w2) := ⟨hx2, below_then HB1.out hb2⟩
  generalize y2.heap.size + 1 = X at *
  clear hx2 hb2 HB1 HR1 r0 r1 r2 r3 r4 r5 r6 r7
  go_wp2_with fail
  refine (HN.out _).mono ?_
  rintro e w3 ⟨p, F3, rfl, _, hm3, hb3⟩
  obtain ⟨M, rfl⟩ := hm3.ptr
  have HX3 : Hid (KAt w3 X P (ckNew P) ∧ MemAt w3 w2.heap.size (.pointer (some ⟨M, 0, none⟩)) 1 r [] F3 ∧ Below w.heap.size w w3) := ⟨HX2.out.1.below hb3 (heap_lt HX2.out.1), hm3, below_then HX2.out.2 hb3⟩
  clear hm3 hb3
  have HT4 : Hid (Calls Try.prog 14 #[.pointer (some ⟨X, 0, none⟩), .pointer (some ⟨M, 0, none⟩), .int .i64 3] w3 fun e w' => e = .returned (.agg #[.int .i64 0, .int .i64 0, .int .i64 0, .bool false]) ∧ Below w3.heap.size w3 w') := cstep_none HX3.out.2.1 HX3.out.1 HG.out 3
  go_wp2_with fail
  refine HT4.out.mono ?_
  rintro e w4 ⟨rfl, hb4⟩
  have HX4 : Hid (KAt w4 X P (ckNew P) ∧ MemAt w4 w2.heap.size (.pointer (some ⟨M, 0, none⟩)) 1 r [] F3 ∧ Below w.heap.size w w4) := ⟨HX3.out.1.below hb4 (heap_lt HX3.out.1), HX3.out.2.1.below hb4, below_then HX3.out.2.2 hb4⟩
  clear hb4 HX3 HT4 HX2
  have HX5 : Hid (∀ o, Calls Try.prog 20 #[.pointer (some ⟨M, 0, none⟩)] (w4.alloc o) fun e w' => e = .returned (.int .i64 0) ∧ w' = w4.alloc o) := fun o => count_any (HX4.out.2.1.below (below_a1 _ _))
  go_wp2_with fail
  refine (HX5.out _).mono ?_
  rintro e w' ⟨rfl, rfl⟩
  have HX6 : Hid (∀ o, Calls Try.prog 21 #[.pointer (some ⟨X, 0, none⟩)] (w4.alloc o) fun e w' => e = .returned (.tuple #[.int .i64 0, .int .i64 0, .bool false]) ∧ Below (w4.alloc o).heap.size (w4.alloc o) w') := fun o => cstart_any (HX4.out.1.alloc o)
  go_wp2_with fail
  refine (HX6.out _).mono ?_
  rintro e w6 ⟨rfl, hb6⟩
  have HR6 : Hid (w6.heap[w4.heap.size]? = some (.cells #[.int .i64 0, .int .i64 0, .int .i64 0, .bool false] 50 (0, 0))) := row_on (heap_alloc_new _ _) hb6
  obtain ⟨⟨a0, a1, a2, a3⟩, g0, g1, g2, g3⟩ := ans_cells HR6.out
  have HB6 : Hid (Below w.heap.size w w6) := below_then HX4.out.2.2 (below_then (below_a1 _ _) hb6)
  clear hb6
  go_wp2
  go_ret
  exact ⟨rfl, HB6.out⟩
end Go.Proofs.Ytemdgknfedaaiaa
