/- Do. -/
import Derived.Test.YthnegagpmkblfaaGreatDoorJTxATxO
import Derived.Test.YthnegagpmkblfaaGreatDoorWlV
import Derived.Test.YthnegagpmkblfaaGreatDoorJCqJCmD
import Derived.Test.YthnegagpmkblfaaGreatDoorWlR
namespace Go.Proofs.YthnegagpmkblfaaGreatDoor
open Go.ChangeShapes Go.WideShapes Go.ChangeAt Go.RowKit
attribute [local go_sem ↓] Go.wp_at_zero Go.wp_at_succ
set_option linter.unusedVariables false

theorem put_same {s : Tl.Tb} {c v : Int} (h : Tl.writeE s c = 5) : Tl.put s c v = s := by
  have h2 : Tl.putE s c = 2 := by
    unfold Tl.writeE at h
    split at h
    · next e => exact e
    · unfold Tl.putE at h
      split at h
      · split at h
        · simp at h
        · split at h <;> simp at h
      · simp at h
  unfold Tl.putE at h2
  unfold Tl.put
  split at h2
  · next hr =>
    rw [if_pos hr]
    split at h2
    · simp at h2
    · next e =>
      split at h2
      · next hm => rw [if_pos hm]
      · simp at h2
  · simp at h2
set_option maxRecDepth 100000 in
theorem do_no {w : World} {base : Nat} {p : Value} {c r : Nat} {L : List Ac} {F : List Nat} {T : Nat} {x : Tx} {G : List Nat} (h : TM w base p c r L F T x G) (a : Wa) (hn : takesX c r x a = false) (t : Int) :
    Calls Tryz.prog 43 #[.pointer (some ⟨T, 0, none⟩), p, .int .i64 t, waV a] w fun e w' => e = .returned (anV 4 1 0 false) ∧ TM w' base p c r L F T x G ∧ Next (G ++ F) (G ++ F) w w' := by
  have HTK : Hid (∀ w', Below w.heap.size w w' → Calls Tryz.prog 63 #[.pointer (some ⟨T, 0, none⟩), p, waV a] w' fun e w'' => e = .returned (.bool false) ∧ Below w'.heap.size w' w'') := fun w' k => by rw [← hn]; exact takesT (h.below k) a
  have HQ0 : Hid (TM w base p c r L F T x G) := h
  obtain ⟨M, rfl⟩ := h.mem.ptr
  have hlt := h.lt
  have HLT : Hid (∀ q ∈ G ++ F, q < w.heap.size) := fun q hq => (hlt q hq).2
  clear h hlt hn
  obtain ⟨kd, cl, va, co⟩ := a
  unfold waV anV at *
  obtain ⟨w0, hw0⟩ : ∃ w0, w0 = (w.alloc (.cells #[.int .i64 kd, .int .i64 cl, .int .i64 va, .int .i64 co] 77)).alloc (.cells #[.int .i64 0, .int .i64 0, .int .i64 0, .bool false] 48) := ⟨_, rfl⟩
  have HB0 : Hid (Below w.heap.size w w0) := by rw [hw0]; exact below_then (below_a1 _ _) (below_a1 _ _)
  have HW0 : Hid (w0.heap[w.heap.size]? = some (.cells #[.int .i64 kd, .int .i64 cl, .int .i64 va, .int .i64 co] 77 (0, 0))) := by rw [hw0]; exact row_on (heap_alloc_new _ _) (below_a1 _ _)
  have HR0 : Hid (w0.heap[w.heap.size + 1]? = some (.cells #[.int .i64 0, .int .i64 0, .int .i64 0, .bool false] 48 (0, 0)) ∧ w.heap.size + 1 ∉ G ++ F) := ⟨by rw [hw0]; exact heap_alloc2_new w _ _, fun e => by have := HLT.out _ e; omega⟩
  go_enter Tryz.func43, Tryz.ntmps43
  go_wp2_with fail
  rw [← hw0]
  clear hw0
  refine (HTK.out _ HB0.out).mono ?_
  rintro e w1 ⟨rfl, hb1⟩
  have HB1 : Hid (Below w.heap.size w w1) := below_then HB0.out hb1
  have HW1 : Hid (w1.heap[w.heap.size]? = some (.cells #[.int .i64 kd, .int .i64 cl, .int .i64 va, .int .i64 co] 77 (0, 0))) := row_on HW0.out hb1
  have HR1 : Hid (w1.heap[w.heap.size + 1]? = some (.cells #[.int .i64 0, .int .i64 0, .int .i64 0, .bool false] 48 (0, 0)) ∧ w.heap.size + 1 ∉ G ++ F) := ⟨row_on HR0.out.1 hb1, HR0.out.2⟩
  have k0 : w1.cell? ⟨w.heap.size, 0, none⟩ = some (.int .i64 kd) := by rw [cell_at HW1.out]; rfl
  have k1 : w1.cell? ⟨w.heap.size, 1, none⟩ = some (.int .i64 cl) := by rw [cell_at HW1.out]; rfl
  have k2 : w1.cell? ⟨w.heap.size, 2, none⟩ = some (.int .i64 va) := by rw [cell_at HW1.out]; rfl
  have k3 : w1.cell? ⟨w.heap.size, 3, none⟩ = some (.int .i64 co) := by rw [cell_at HW1.out]; rfl
  have hW1 := heap_lt HW1.out
  clear hb1
  obtain ⟨⟨a0, a1, a2, a3⟩, g0, g1, g2, g3⟩ := ans_cells HR1.out.1
  have hBa := heap_lt HR1.out.1
  go_wp2
  have qf := (HQ0.out.below HB1.out).other (Co.keepWB (w := w1) (B := w.heap.size + 1) 4 1 0 false) (fun q hq e => HR1.out.2 (by simp only [List.mem_singleton] at e; rw [← e]; exact hq))
  exact ret_ans rfl rfl (Co.ansW_set rfl HR1.out.1 4 1 0 false) rfl rfl ⟨rfl, qf, nx_other (Next.of_below HB1.out _) (Nat.le_succ _) (Co.keepWB (w := w1) (B := w.heap.size + 1) 4 1 0 false)⟩
set_option maxRecDepth 100000 in
theorem do_1 {w : World} {base : Nat} {p : Value} {c r : Nat} {L : List Ac} {F : List Nat} {T : Nat} {x : Tx} {G : List Nat} (h : TM w base p c r L F T x G) (a : Wa) (hn : takesX c r x a = true) (hk : a.kind = 1) (t : Int) {x' : Tx} {L' : List Ac} {kk ee vv : Int} {gg : Bool}
    (HIN : ∀ w', Below w.heap.size w w' → Calls Tryz.prog 64 #[.pointer (some ⟨T, 0, none⟩), p, .int .i64 t] w' fun e w'' => e = .returned (anV kk ee vv gg) ∧ ∃ F' G', TM w'' base p c r L' F' T x' G' ∧ Next (G ++ F) (G' ++ F') w' w'') :
    Calls Tryz.prog 43 #[.pointer (some ⟨T, 0, none⟩), p, .int .i64 t, waV a] w fun e w' => e = .returned (anV kk ee vv gg) ∧ ∃ F' G', TM w' base p c r L' F' T x' G' ∧ Next (G ++ F) (G' ++ F') w w' := by
  have HTK : Hid (∀ w', Below w.heap.size w w' → Calls Tryz.prog 63 #[.pointer (some ⟨T, 0, none⟩), p, waV a] w' fun e w'' => e = .returned (.bool true) ∧ Below w'.heap.size w' w'') := fun w' k => by rw [← hn]; exact takesT (h.below k) a
  have HQ0 : Hid (TM w base p c r L F T x G) := h
  obtain ⟨M, rfl⟩ := h.mem.ptr
  have hlt := h.lt
  have HLT : Hid (∀ q ∈ G ++ F, q < w.heap.size) := fun q hq => (hlt q hq).2
  clear h hlt hn
  obtain ⟨kd, cl, va, co⟩ := a
  unfold waV anV at *
  simp only at hk
  subst hk
  obtain ⟨w0, hw0⟩ : ∃ w0, w0 = (w.alloc (.cells #[.int .i64 1, .int .i64 cl, .int .i64 va, .int .i64 co] 77)).alloc (.cells #[.int .i64 0, .int .i64 0, .int .i64 0, .bool false] 48) := ⟨_, rfl⟩
  have HB0 : Hid (Below w.heap.size w w0) := by rw [hw0]; exact below_then (below_a1 _ _) (below_a1 _ _)
  have HW0 : Hid (w0.heap[w.heap.size]? = some (.cells #[.int .i64 1, .int .i64 cl, .int .i64 va, .int .i64 co] 77 (0, 0))) := by rw [hw0]; exact row_on (heap_alloc_new _ _) (below_a1 _ _)
  have HR0 : Hid (w0.heap[w.heap.size + 1]? = some (.cells #[.int .i64 0, .int .i64 0, .int .i64 0, .bool false] 48 (0, 0)) ∧ w.heap.size + 1 ∉ G ++ F) := ⟨by rw [hw0]; exact heap_alloc2_new w _ _, fun e => by have := HLT.out _ e; omega⟩
  go_enter Tryz.func43, Tryz.ntmps43
  go_wp2_with fail
  rw [← hw0]
  clear hw0
  refine (HTK.out _ HB0.out).mono ?_
  rintro e w1 ⟨rfl, hb1⟩
  have HB1 : Hid (Below w.heap.size w w1) := below_then HB0.out hb1
  have HW1 : Hid (w1.heap[w.heap.size]? = some (.cells #[.int .i64 1, .int .i64 cl, .int .i64 va, .int .i64 co] 77 (0, 0))) := row_on HW0.out hb1
  have HR1 : Hid (w1.heap[w.heap.size + 1]? = some (.cells #[.int .i64 0, .int .i64 0, .int .i64 0, .bool false] 48 (0, 0)) ∧ w.heap.size + 1 ∉ G ++ F) := ⟨row_on HR0.out.1 hb1, HR0.out.2⟩
  have k0 : w1.cell? ⟨w.heap.size, 0, none⟩ = some (.int .i64 1) := by rw [cell_at HW1.out]; rfl
  have k1 : w1.cell? ⟨w.heap.size, 1, none⟩ = some (.int .i64 cl) := by rw [cell_at HW1.out]; rfl
  have k2 : w1.cell? ⟨w.heap.size, 2, none⟩ = some (.int .i64 va) := by rw [cell_at HW1.out]; rfl
  have k3 : w1.cell? ⟨w.heap.size, 3, none⟩ = some (.int .i64 co) := by rw [cell_at HW1.out]; rfl
  have hW1 := heap_lt HW1.out
  clear hb1
  go_wp2_with fail
  refine (HIN _ HB1.out).mono ?_
  rintro e w2 ⟨rfl, F2, G2, q2, n2⟩
  have HQ2 : Hid (TM w2 base (.pointer (some ⟨M, 0, none⟩)) c r L' F2 T x' G2) := q2
  have HR2 : Hid (w2.heap[w.heap.size + 1]? = some (.cells #[.int .i64 0, .int .i64 0, .int .i64 0, .bool false] 48 (0, 0)) ∧ w.heap.size + 1 ∉ G2 ++ F2) := row_next0 HR1.out.1 HR1.out.2 n2
  have HN2 : Hid (Next (G ++ F) (G2 ++ F2) w w2) := (Next.of_below HB1.out _).trans n2
  clear q2 n2 k0 k1 k2 k3
  obtain ⟨⟨a0, a1, a2, a3⟩, g0, g1, g2, g3⟩ := ans_cells HR2.out.1
  have hBa := heap_lt HR2.out.1
  go_wp2
  have qf := HQ2.out.other (Co.keepWB (w := w2) (B := w.heap.size + 1) kk ee vv gg) (fun q hq e => HR2.out.2 (by simp only [List.mem_singleton] at e; rw [← e]; exact hq))
  exact ret_ans rfl rfl (Co.ansW_set rfl HR2.out.1 kk ee vv gg) rfl rfl ⟨rfl, F2, G2, qf, nx_other HN2.out (Nat.le_succ _) (Co.keepWB (w := w2) (B := w.heap.size + 1) kk ee vv gg)⟩
set_option maxRecDepth 100000 in
theorem do_2 {w : World} {base : Nat} {p : Value} {c r : Nat} {L : List Ac} {F : List Nat} {T : Nat} {x : Tx} {G : List Nat} (h : TM w base p c r L F T x G) (a : Wa) (hn : takesX c r x a = true) (hk : a.kind = 2) (t : Int) {x' : Tx} {L' : List Ac} {kk ee vv : Int} {gg : Bool}
    (HIN : ∀ w', Below w.heap.size w w' → Calls Tryz.prog 65 #[.pointer (some ⟨T, 0, none⟩), p, .int .i64 t, .int .i64 a.cell] w' fun e w'' => e = .returned (anV kk ee vv gg) ∧ ∃ F' G', TM w'' base p c r L' F' T x' G' ∧ Next (G ++ F) (G' ++ F') w' w'') :
    Calls Tryz.prog 43 #[.pointer (some ⟨T, 0, none⟩), p, .int .i64 t, waV a] w fun e w' => e = .returned (anV kk ee vv gg) ∧ ∃ F' G', TM w' base p c r L' F' T x' G' ∧ Next (G ++ F) (G' ++ F') w w' := by
  have HTK : Hid (∀ w', Below w.heap.size w w' → Calls Tryz.prog 63 #[.pointer (some ⟨T, 0, none⟩), p, waV a] w' fun e w'' => e = .returned (.bool true) ∧ Below w'.heap.size w' w'') := fun w' k => by rw [← hn]; exact takesT (h.below k) a
  have HQ0 : Hid (TM w base p c r L F T x G) := h
  obtain ⟨M, rfl⟩ := h.mem.ptr
  have hlt := h.lt
  have HLT : Hid (∀ q ∈ G ++ F, q < w.heap.size) := fun q hq => (hlt q hq).2
  clear h hlt hn
  obtain ⟨kd, cl, va, co⟩ := a
  unfold waV anV at *
  simp only at hk
  subst hk
  obtain ⟨w0, hw0⟩ : ∃ w0, w0 = (w.alloc (.cells #[.int .i64 2, .int .i64 cl, .int .i64 va, .int .i64 co] 77)).alloc (.cells #[.int .i64 0, .int .i64 0, .int .i64 0, .bool false] 48) := ⟨_, rfl⟩
  have HB0 : Hid (Below w.heap.size w w0) := by rw [hw0]; exact below_then (below_a1 _ _) (below_a1 _ _)
  have HW0 : Hid (w0.heap[w.heap.size]? = some (.cells #[.int .i64 2, .int .i64 cl, .int .i64 va, .int .i64 co] 77 (0, 0))) := by rw [hw0]; exact row_on (heap_alloc_new _ _) (below_a1 _ _)
  have HR0 : Hid (w0.heap[w.heap.size + 1]? = some (.cells #[.int .i64 0, .int .i64 0, .int .i64 0, .bool false] 48 (0, 0)) ∧ w.heap.size + 1 ∉ G ++ F) := ⟨by rw [hw0]; exact heap_alloc2_new w _ _, fun e => by have := HLT.out _ e; omega⟩
  go_enter Tryz.func43, Tryz.ntmps43
  go_wp2_with fail
  rw [← hw0]
  clear hw0
  refine (HTK.out _ HB0.out).mono ?_
  rintro e w1 ⟨rfl, hb1⟩
  have HB1 : Hid (Below w.heap.size w w1) := below_then HB0.out hb1
  have HW1 : Hid (w1.heap[w.heap.size]? = some (.cells #[.int .i64 2, .int .i64 cl, .int .i64 va, .int .i64 co] 77 (0, 0))) := row_on HW0.out hb1
  have HR1 : Hid (w1.heap[w.heap.size + 1]? = some (.cells #[.int .i64 0, .int .i64 0, .int .i64 0, .bool false] 48 (0, 0)) ∧ w.heap.size + 1 ∉ G ++ F) := ⟨row_on HR0.out.1 hb1, HR0.out.2⟩
  have k0 : w1.cell? ⟨w.heap.size, 0, none⟩ = some (.int .i64 2) := by rw [cell_at HW1.out]; rfl
  have k1 : w1.cell? ⟨w.heap.size, 1, none⟩ = some (.int .i64 cl) := by rw [cell_at HW1.out]; rfl
  have k2 : w1.cell? ⟨w.heap.size, 2, none⟩ = some (.int .i64 va) := by rw [cell_at HW1.out]; rfl
  have k3 : w1.cell? ⟨w.heap.size, 3, none⟩ = some (.int .i64 co) := by rw [cell_at HW1.out]; rfl
  have hW1 := heap_lt HW1.out
  clear hb1
  go_wp2_with fail
  refine (HIN _ HB1.out).mono ?_
  rintro e w2 ⟨rfl, F2, G2, q2, n2⟩
  have HQ2 : Hid (TM w2 base (.pointer (some ⟨M, 0, none⟩)) c r L' F2 T x' G2) := q2
  have HR2 : Hid (w2.heap[w.heap.size + 1]? = some (.cells #[.int .i64 0, .int .i64 0, .int .i64 0, .bool false] 48 (0, 0)) ∧ w.heap.size + 1 ∉ G2 ++ F2) := row_next0 HR1.out.1 HR1.out.2 n2
  have HN2 : Hid (Next (G ++ F) (G2 ++ F2) w w2) := (Next.of_below HB1.out _).trans n2
  clear q2 n2 k0 k1 k2 k3
  obtain ⟨⟨a0, a1, a2, a3⟩, g0, g1, g2, g3⟩ := ans_cells HR2.out.1
  have hBa := heap_lt HR2.out.1
  go_wp2
  have qf := HQ2.out.other (Co.keepWB (w := w2) (B := w.heap.size + 1) kk ee vv gg) (fun q hq e => HR2.out.2 (by simp only [List.mem_singleton] at e; rw [← e]; exact hq))
  exact ret_ans rfl rfl (Co.ansW_set rfl HR2.out.1 kk ee vv gg) rfl rfl ⟨rfl, F2, G2, qf, nx_other HN2.out (Nat.le_succ _) (Co.keepWB (w := w2) (B := w.heap.size + 1) kk ee vv gg)⟩
set_option maxRecDepth 100000 in
theorem do_3 {w : World} {base : Nat} {p : Value} {c r : Nat} {L : List Ac} {F : List Nat} {T : Nat} {x : Tx} {G : List Nat} (h : TM w base p c r L F T x G) (a : Wa) (hn : takesX c r x a = true) (hk : a.kind = 3) (t : Int) {x' : Tx} {L' : List Ac} {kk ee vv : Int} {gg : Bool}
    (HIN : ∀ w', Below w.heap.size w w' → Calls Tryz.prog 66 #[.pointer (some ⟨T, 0, none⟩), .int .i64 a.cell, .int .i64 a.value] w' fun e w'' => e = .returned (anV kk ee vv gg) ∧ ∃ F' G', TM w'' base p c r L' F' T x' G' ∧ Next (G ++ F) (G' ++ F') w' w'') :
    Calls Tryz.prog 43 #[.pointer (some ⟨T, 0, none⟩), p, .int .i64 t, waV a] w fun e w' => e = .returned (anV kk ee vv gg) ∧ ∃ F' G', TM w' base p c r L' F' T x' G' ∧ Next (G ++ F) (G' ++ F') w w' := by
  have HTK : Hid (∀ w', Below w.heap.size w w' → Calls Tryz.prog 63 #[.pointer (some ⟨T, 0, none⟩), p, waV a] w' fun e w'' => e = .returned (.bool true) ∧ Below w'.heap.size w' w'') := fun w' k => by rw [← hn]; exact takesT (h.below k) a
  have HQ0 : Hid (TM w base p c r L F T x G) := h
  obtain ⟨M, rfl⟩ := h.mem.ptr
  have hlt := h.lt
  have HLT : Hid (∀ q ∈ G ++ F, q < w.heap.size) := fun q hq => (hlt q hq).2
  clear h hlt hn
  obtain ⟨kd, cl, va, co⟩ := a
  unfold waV anV at *
  simp only at hk
  subst hk
  obtain ⟨w0, hw0⟩ : ∃ w0, w0 = (w.alloc (.cells #[.int .i64 3, .int .i64 cl, .int .i64 va, .int .i64 co] 77)).alloc (.cells #[.int .i64 0, .int .i64 0, .int .i64 0, .bool false] 48) := ⟨_, rfl⟩
  have HB0 : Hid (Below w.heap.size w w0) := by rw [hw0]; exact below_then (below_a1 _ _) (below_a1 _ _)
  have HW0 : Hid (w0.heap[w.heap.size]? = some (.cells #[.int .i64 3, .int .i64 cl, .int .i64 va, .int .i64 co] 77 (0, 0))) := by rw [hw0]; exact row_on (heap_alloc_new _ _) (below_a1 _ _)
  have HR0 : Hid (w0.heap[w.heap.size + 1]? = some (.cells #[.int .i64 0, .int .i64 0, .int .i64 0, .bool false] 48 (0, 0)) ∧ w.heap.size + 1 ∉ G ++ F) := ⟨by rw [hw0]; exact heap_alloc2_new w _ _, fun e => by have := HLT.out _ e; omega⟩
  go_enter Tryz.func43, Tryz.ntmps43
  go_wp2_with fail
  rw [← hw0]
  clear hw0
  refine (HTK.out _ HB0.out).mono ?_
  rintro e w1 ⟨rfl, hb1⟩
  have HB1 : Hid (Below w.heap.size w w1) := below_then HB0.out hb1
  have HW1 : Hid (w1.heap[w.heap.size]? = some (.cells #[.int .i64 3, .int .i64 cl, .int .i64 va, .int .i64 co] 77 (0, 0))) := row_on HW0.out hb1
  have HR1 : Hid (w1.heap[w.heap.size + 1]? = some (.cells #[.int .i64 0, .int .i64 0, .int .i64 0, .bool false] 48 (0, 0)) ∧ w.heap.size + 1 ∉ G ++ F) := ⟨row_on HR0.out.1 hb1, HR0.out.2⟩
  have k0 : w1.cell? ⟨w.heap.size, 0, none⟩ = some (.int .i64 3) := by rw [cell_at HW1.out]; rfl
  have k1 : w1.cell? ⟨w.heap.size, 1, none⟩ = some (.int .i64 cl) := by rw [cell_at HW1.out]; rfl
  have k2 : w1.cell? ⟨w.heap.size, 2, none⟩ = some (.int .i64 va) := by rw [cell_at HW1.out]; rfl
  have k3 : w1.cell? ⟨w.heap.size, 3, none⟩ = some (.int .i64 co) := by rw [cell_at HW1.out]; rfl
  have hW1 := heap_lt HW1.out
  clear hb1
  go_wp2_with fail
  refine (HIN _ HB1.out).mono ?_
  rintro e w2 ⟨rfl, F2, G2, q2, n2⟩
  have HQ2 : Hid (TM w2 base (.pointer (some ⟨M, 0, none⟩)) c r L' F2 T x' G2) := q2
  have HR2 : Hid (w2.heap[w.heap.size + 1]? = some (.cells #[.int .i64 0, .int .i64 0, .int .i64 0, .bool false] 48 (0, 0)) ∧ w.heap.size + 1 ∉ G2 ++ F2) := row_next0 HR1.out.1 HR1.out.2 n2
  have HN2 : Hid (Next (G ++ F) (G2 ++ F2) w w2) := (Next.of_below HB1.out _).trans n2
  clear q2 n2 k0 k1 k2 k3
  obtain ⟨⟨a0, a1, a2, a3⟩, g0, g1, g2, g3⟩ := ans_cells HR2.out.1
  have hBa := heap_lt HR2.out.1
  go_wp2
  have qf := HQ2.out.other (Co.keepWB (w := w2) (B := w.heap.size + 1) kk ee vv gg) (fun q hq e => HR2.out.2 (by simp only [List.mem_singleton] at e; rw [← e]; exact hq))
  exact ret_ans rfl rfl (Co.ansW_set rfl HR2.out.1 kk ee vv gg) rfl rfl ⟨rfl, F2, G2, qf, nx_other HN2.out (Nat.le_succ _) (Co.keepWB (w := w2) (B := w.heap.size + 1) kk ee vv gg)⟩
set_option maxRecDepth 100000 in
theorem do_4 {w : World} {base : Nat} {p : Value} {c r : Nat} {L : List Ac} {F : List Nat} {T : Nat} {x : Tx} {G : List Nat} (h : TM w base p c r L F T x G) (a : Wa) (hn : takesX c r x a = true) (hk : a.kind = 4) (t : Int) {x' : Tx} {L' : List Ac} {kk ee vv : Int} {gg : Bool}
    (HIN : ∀ w', Below w.heap.size w w' → Calls Tryz.prog 67 #[.pointer (some ⟨T, 0, none⟩), p, .int .i64 t] w' fun e w'' => e = .returned (anV kk ee vv gg) ∧ ∃ F' G', TM w'' base p c r L' F' T x' G' ∧ Next (G ++ F) (G' ++ F') w' w'') :
    Calls Tryz.prog 43 #[.pointer (some ⟨T, 0, none⟩), p, .int .i64 t, waV a] w fun e w' => e = .returned (anV kk ee vv gg) ∧ ∃ F' G', TM w' base p c r L' F' T x' G' ∧ Next (G ++ F) (G' ++ F') w w' := by
  have HTK : Hid (∀ w', Below w.heap.size w w' → Calls Tryz.prog 63 #[.pointer (some ⟨T, 0, none⟩), p, waV a] w' fun e w'' => e = .returned (.bool true) ∧ Below w'.heap.size w' w'') := fun w' k => by rw [← hn]; exact takesT (h.below k) a
  have HQ0 : Hid (TM w base p c r L F T x G) := h
  obtain ⟨M, rfl⟩ := h.mem.ptr
  have hlt := h.lt
  have HLT : Hid (∀ q ∈ G ++ F, q < w.heap.size) := fun q hq => (hlt q hq).2
  clear h hlt hn
  obtain ⟨kd, cl, va, co⟩ := a
  unfold waV anV at *
  simp only at hk
  subst hk
  obtain ⟨w0, hw0⟩ : ∃ w0, w0 = (w.alloc (.cells #[.int .i64 4, .int .i64 cl, .int .i64 va, .int .i64 co] 77)).alloc (.cells #[.int .i64 0, .int .i64 0, .int .i64 0, .bool false] 48) := ⟨_, rfl⟩
  have HB0 : Hid (Below w.heap.size w w0) := by rw [hw0]; exact below_then (below_a1 _ _) (below_a1 _ _)
  have HW0 : Hid (w0.heap[w.heap.size]? = some (.cells #[.int .i64 4, .int .i64 cl, .int .i64 va, .int .i64 co] 77 (0, 0))) := by rw [hw0]; exact row_on (heap_alloc_new _ _) (below_a1 _ _)
  have HR0 : Hid (w0.heap[w.heap.size + 1]? = some (.cells #[.int .i64 0, .int .i64 0, .int .i64 0, .bool false] 48 (0, 0)) ∧ w.heap.size + 1 ∉ G ++ F) := ⟨by rw [hw0]; exact heap_alloc2_new w _ _, fun e => by have := HLT.out _ e; omega⟩
  go_enter Tryz.func43, Tryz.ntmps43
  go_wp2_with fail
  rw [← hw0]
  clear hw0
  refine (HTK.out _ HB0.out).mono ?_
  rintro e w1 ⟨rfl, hb1⟩
  have HB1 : Hid (Below w.heap.size w w1) := below_then HB0.out hb1
  have HW1 : Hid (w1.heap[w.heap.size]? = some (.cells #[.int .i64 4, .int .i64 cl, .int .i64 va, .int .i64 co] 77 (0, 0))) := row_on HW0.out hb1
  have HR1 : Hid (w1.heap[w.heap.size + 1]? = some (.cells #[.int .i64 0, .int .i64 0, .int .i64 0, .bool false] 48 (0, 0)) ∧ w.heap.size + 1 ∉ G ++ F) := ⟨row_on HR0.out.1 hb1, HR0.out.2⟩
  have k0 : w1.cell? ⟨w.heap.size, 0, none⟩ = some (.int .i64 4) := by rw [cell_at HW1.out]; rfl
  have k1 : w1.cell? ⟨w.heap.size, 1, none⟩ = some (.int .i64 cl) := by rw [cell_at HW1.out]; rfl
  have k2 : w1.cell? ⟨w.heap.size, 2, none⟩ = some (.int .i64 va) := by rw [cell_at HW1.out]; rfl
  have k3 : w1.cell? ⟨w.heap.size, 3, none⟩ = some (.int .i64 co) := by rw [cell_at HW1.out]; rfl
  have hW1 := heap_lt HW1.out
  clear hb1
  go_wp2_with fail
  refine (HIN _ HB1.out).mono ?_
  rintro e w2 ⟨rfl, F2, G2, q2, n2⟩
  have HQ2 : Hid (TM w2 base (.pointer (some ⟨M, 0, none⟩)) c r L' F2 T x' G2) := q2
  have HR2 : Hid (w2.heap[w.heap.size + 1]? = some (.cells #[.int .i64 0, .int .i64 0, .int .i64 0, .bool false] 48 (0, 0)) ∧ w.heap.size + 1 ∉ G2 ++ F2) := row_next0 HR1.out.1 HR1.out.2 n2
  have HN2 : Hid (Next (G ++ F) (G2 ++ F2) w w2) := (Next.of_below HB1.out _).trans n2
  clear q2 n2 k0 k1 k2 k3
  obtain ⟨⟨a0, a1, a2, a3⟩, g0, g1, g2, g3⟩ := ans_cells HR2.out.1
  have hBa := heap_lt HR2.out.1
  go_wp2
  have qf := HQ2.out.other (Co.keepWB (w := w2) (B := w.heap.size + 1) kk ee vv gg) (fun q hq e => HR2.out.2 (by simp only [List.mem_singleton] at e; rw [← e]; exact hq))
  exact ret_ans rfl rfl (Co.ansW_set rfl HR2.out.1 kk ee vv gg) rfl rfl ⟨rfl, F2, G2, qf, nx_other HN2.out (Nat.le_succ _) (Co.keepWB (w := w2) (B := w.heap.size + 1) kk ee vv gg)⟩
set_option maxRecDepth 100000 in
theorem do_5 {w : World} {base : Nat} {p : Value} {c r : Nat} {L : List Ac} {F : List Nat} {T : Nat} {x : Tx} {G : List Nat} (h : TM w base p c r L F T x G) (a : Wa) (hn : takesX c r x a = true) (hk : a.kind ≠ 1 ∧ a.kind ≠ 2 ∧ a.kind ≠ 3 ∧ a.kind ≠ 4) (t : Int) {x' : Tx} {L' : List Ac} {kk ee vv : Int} {gg : Bool}
    (HIN : ∀ w', Below w.heap.size w w' → Calls Tryz.prog 68 #[.pointer (some ⟨T, 0, none⟩), .int .i64 a.code] w' fun e w'' => e = .returned (anV kk ee vv gg) ∧ ∃ F' G', TM w'' base p c r L' F' T x' G' ∧ Next (G ++ F) (G' ++ F') w' w'') :
    Calls Tryz.prog 43 #[.pointer (some ⟨T, 0, none⟩), p, .int .i64 t, waV a] w fun e w' => e = .returned (anV kk ee vv gg) ∧ ∃ F' G', TM w' base p c r L' F' T x' G' ∧ Next (G ++ F) (G' ++ F') w w' := by
  have HTK : Hid (∀ w', Below w.heap.size w w' → Calls Tryz.prog 63 #[.pointer (some ⟨T, 0, none⟩), p, waV a] w' fun e w'' => e = .returned (.bool true) ∧ Below w'.heap.size w' w'') := fun w' k => by rw [← hn]; exact takesT (h.below k) a
  have HQ0 : Hid (TM w base p c r L F T x G) := h
  obtain ⟨M, rfl⟩ := h.mem.ptr
  have hlt := h.lt
  have HLT : Hid (∀ q ∈ G ++ F, q < w.heap.size) := fun q hq => (hlt q hq).2
  clear h hlt hn
  obtain ⟨kd, cl, va, co⟩ := a
  unfold waV anV at *
  simp only at hk
  have d1 : (kd == 1) = false := by simp; omega
  have d2 : (kd == 2) = false := by simp; omega
  have d3 : (kd == 3) = false := by simp; omega
  have d4 : (kd == 4) = false := by simp; omega
  obtain ⟨w0, hw0⟩ : ∃ w0, w0 = (w.alloc (.cells #[.int .i64 kd, .int .i64 cl, .int .i64 va, .int .i64 co] 77)).alloc (.cells #[.int .i64 0, .int .i64 0, .int .i64 0, .bool false] 48) := ⟨_, rfl⟩
  have HB0 : Hid (Below w.heap.size w w0) := by rw [hw0]; exact below_then (below_a1 _ _) (below_a1 _ _)
  have HW0 : Hid (w0.heap[w.heap.size]? = some (.cells #[.int .i64 kd, .int .i64 cl, .int .i64 va, .int .i64 co] 77 (0, 0))) := by rw [hw0]; exact row_on (heap_alloc_new _ _) (below_a1 _ _)
  have HR0 : Hid (w0.heap[w.heap.size + 1]? = some (.cells #[.int .i64 0, .int .i64 0, .int .i64 0, .bool false] 48 (0, 0)) ∧ w.heap.size + 1 ∉ G ++ F) := ⟨by rw [hw0]; exact heap_alloc2_new w _ _, fun e => by have := HLT.out _ e; omega⟩
  go_enter Tryz.func43, Tryz.ntmps43
  go_wp2_with fail
  rw [← hw0]
  clear hw0
  refine (HTK.out _ HB0.out).mono ?_
  rintro e w1 ⟨rfl, hb1⟩
  have HB1 : Hid (Below w.heap.size w w1) := below_then HB0.out hb1
  have HW1 : Hid (w1.heap[w.heap.size]? = some (.cells #[.int .i64 kd, .int .i64 cl, .int .i64 va, .int .i64 co] 77 (0, 0))) := row_on HW0.out hb1
  have HR1 : Hid (w1.heap[w.heap.size + 1]? = some (.cells #[.int .i64 0, .int .i64 0, .int .i64 0, .bool false] 48 (0, 0)) ∧ w.heap.size + 1 ∉ G ++ F) := ⟨row_on HR0.out.1 hb1, HR0.out.2⟩
  have k0 : w1.cell? ⟨w.heap.size, 0, none⟩ = some (.int .i64 kd) := by rw [cell_at HW1.out]; rfl
  have k1 : w1.cell? ⟨w.heap.size, 1, none⟩ = some (.int .i64 cl) := by rw [cell_at HW1.out]; rfl
  have k2 : w1.cell? ⟨w.heap.size, 2, none⟩ = some (.int .i64 va) := by rw [cell_at HW1.out]; rfl
  have k3 : w1.cell? ⟨w.heap.size, 3, none⟩ = some (.int .i64 co) := by rw [cell_at HW1.out]; rfl
  have hW1 := heap_lt HW1.out
  clear hb1
  go_wp2_with fail
  refine (HIN _ HB1.out).mono ?_
  rintro e w2 ⟨rfl, F2, G2, q2, n2⟩
  have HQ2 : Hid (TM w2 base (.pointer (some ⟨M, 0, none⟩)) c r L' F2 T x' G2) := q2
  have HR2 : Hid (w2.heap[w.heap.size + 1]? = some (.cells #[.int .i64 0, .int .i64 0, .int .i64 0, .bool false] 48 (0, 0)) ∧ w.heap.size + 1 ∉ G2 ++ F2) := row_next0 HR1.out.1 HR1.out.2 n2
  have HN2 : Hid (Next (G ++ F) (G2 ++ F2) w w2) := (Next.of_below HB1.out _).trans n2
  clear q2 n2 k0 k1 k2 k3
  obtain ⟨⟨a0, a1, a2, a3⟩, g0, g1, g2, g3⟩ := ans_cells HR2.out.1
  have hBa := heap_lt HR2.out.1
  go_wp2
  have qf := HQ2.out.other (Co.keepWB (w := w2) (B := w.heap.size + 1) kk ee vv gg) (fun q hq e => HR2.out.2 (by simp only [List.mem_singleton] at e; rw [← e]; exact hq))
  exact ret_ans rfl rfl (Co.ansW_set rfl HR2.out.1 kk ee vv gg) rfl rfl ⟨rfl, F2, G2, qf, nx_other HN2.out (Nat.le_succ _) (Co.keepWB (w := w2) (B := w.heap.size + 1) kk ee vv gg)⟩
theorem takes_iff {c r : Nat} {x : Tx} {a : Wa} (h : takesX c r x a = true) : r = x.s ∧ (a.kind = 1 → x.phase = 0) ∧ (a.kind = 2 ∨ a.kind = 3 → x.phase = 2 ∧ 0 ≤ a.cell ∧ a.cell < (c : Int)) ∧ (a.kind = 4 → x.phase = 2) ∧ (a.kind ≠ 1 → a.kind ≠ 2 → a.kind ≠ 3 → a.kind ≠ 4 → a.kind = 5 ∧ x.phase = 2 ∧ (a.code = 8 ∨ a.code = 7)) := by
  unfold takesX at h
  simp only [Bool.and_eq_true, decide_eq_true_eq] at h
  obtain ⟨h1, h2⟩ := h
  refine ⟨h1, fun e => ?_, fun e => ?_, fun e => ?_, fun e1 e2 e3 e4 => ?_⟩
  · rw [if_pos e] at h2; simpa using h2
  · rw [if_neg (by omega), if_pos e] at h2
    simp only [Bool.and_eq_true, decide_eq_true_eq] at h2
    exact ⟨h2.1.1, h2.1.2, h2.2⟩
  · rw [if_neg (by omega), if_neg (by omega), if_pos e] at h2; simpa using h2
  · rw [if_neg e1, if_neg (by omega), if_neg e4] at h2
    split at h2
    · next e5 =>
      simp only [Bool.and_eq_true, Bool.or_eq_true, decide_eq_true_eq] at h2
      exact ⟨e5, h2⟩
    · simp at h2
theorem do_any {w : World} {base : Nat} {p : Value} {c r : Nat} {L : List Ac} {F : List Nat} {T : Nat} {x : Tx} {G : List Nat} (h : TM w base p c r L F T x G) (hb : base ≤ w.heap.size) (hL : L.length < 3298534883328) (hE : x.ev.length + 1 < 1073741824) (hx : XOk x) (hd : Wd L) (hc : c ≤ 1024) (a : Wa) (t : Int) :
    Calls Tryz.prog 43 #[.pointer (some ⟨T, 0, none⟩), p, .int .i64 t, waV a] w fun e w' => e = .returned (anV (doX c r x L t a).k (doX c r x L t a).e (doX c r x L t a).v (doX c r x L t a).y) ∧ ∃ F' G', TM w' base p c r (doX c r x L t a).L F' T (doX c r x L t a).x G' ∧ Next (G ++ F) (G' ++ F') w w' := by
  unfold doX
  cases hn : takesX c r x a
  · rw [if_neg (by decide)]
    refine (do_no h a hn t).mono ?_
    rintro e w' ⟨rfl, h1, h2⟩
    exact ⟨rfl, F, G, h1, h2⟩
  · rw [if_pos rfl]
    obtain ⟨hr, t1, t2, t4, t5⟩ := takes_iff hn
    by_cases k1 : a.kind = 1
    · rw [if_pos k1]
      exact do_1 h a hn k1 t (fun w' k => open_any (h.below k) (Nat.le_trans hb k.size) hL hE hx.s1 hx.s16 (xok_open hx (t1 k1)) hd t)
    · rw [if_neg k1]
      by_cases k2 : a.kind = 2
      · rw [if_pos k2]
        obtain ⟨p2, c0, c1⟩ := t2 (Or.inl k2)
        cases hy : Tl.getY x.tb a.cell
        · rw [if_neg (by decide)]
          exact do_2 h a hn k2 t (fun w' k => readF_any (h.below k) (Nat.le_trans hb k.size) hL (by omega) hx.s1 hx.s16 hx.z0 hx.z1 hd c0 (by omega) (xok_read hx p2 c0 (by omega)) hy t)
        · rw [if_pos rfl]
          refine do_2 h a hn k2 t (fun w' k => (readO_any (h.below k) (Nat.le_trans hb k.size) (by omega) hy t).mono ?_)
          rintro e w'' ⟨rfl, G', h1, h2⟩
          exact ⟨rfl, F, G', h1, h2⟩
      · rw [if_neg k2]
        by_cases k3 : a.kind = 3
        · rw [if_pos k3]
          by_cases h5 : Tl.writeE x.tb a.cell = 5
          · rw [if_pos h5]
            have hp : Tl.put x.tb a.cell a.value = x.tb := put_same h5
            refine do_3 h a hn k3 t (fun w' k => (wrote_any (h.below k) (Nat.le_trans hb k.size) (by omega) a.cell a.value).mono ?_)
            rintro e w'' ⟨rfl, G', h1, h2⟩
            rw [if_pos h5, hp] at h1
            rw [if_pos h5]
            exact ⟨rfl, F, G', h1, h2⟩
          · rw [if_neg h5]
            refine do_3 h a hn k3 t (fun w' k => (wrote_any (h.below k) (Nat.le_trans hb k.size) (by omega) a.cell a.value).mono ?_)
            rintro e w'' ⟨rfl, G', h1, h2⟩
            rw [if_neg h5] at h1
            rw [if_neg h5]
            exact ⟨rfl, F, G', h1, h2⟩
        · rw [if_neg k3]
          by_cases k4 : a.kind = 4
          · rw [if_pos k4]
            by_cases h0 : x.tb.R.length = 0
            · rw [if_pos h0]
              refine do_4 h a hn k4 t (fun w' k => (commN_any (h.below k) (Nat.le_trans hb k.size) (by omega) h0 t).mono ?_)
              rintro e w'' ⟨rfl, G', h1, h2⟩
              exact ⟨rfl, F, G', h1, h2⟩
            · rw [if_neg h0]
              exact do_4 h a hn k4 t (fun w' k => commF_any (h.below k) (Nat.le_trans hb k.size) hL (by omega) hx.s1 hx.s16 hx.z0 hx.z1 hd hx.n1 hx.n2 (xok_comm hx (t4 k4) h0) h0 t)
          · rw [if_neg k4]
            refine do_5 h a hn ⟨k1, k2, k3, k4⟩ t (fun w' k => (abort_any (h.below k) (Nat.le_trans hb k.size) (by omega) a.code).mono ?_)
            rintro e w'' ⟨rfl, G', h1, h2⟩
            exact ⟨rfl, F, G', h1, h2⟩
end Go.Proofs.YthnegagpmkblfaaGreatDoor
/- New, Told. -/
namespace Go.Proofs.YthnegagpmkblfaaGreatDoor
open Go.ChangeShapes Go.WideShapes Go.ChangeAt Go.RowKit
attribute [local go_sem ↓] Go.wp_at_zero Go.wp_at_succ

def confT (raw s wr n : Int) (mu : Bool) (tr : Int) (v : Value) : Value := .agg #[.int .i64 raw, .int .i64 s, .int .i64 wr, .int .i64 n, .bool mu, .int .i64 tr, v]
set_option maxRecDepth 100000 in
theorem newT_yes (w : World) (base : Nat) (hb : base ≤ w.heap.size) (raw : Int) (s m : Nat) (n : Int) (mu : Bool) (tr : Int) (v : Value) (h1 : 1 ≤ s) (h2 : s ≤ 16) (h3 : 1 ≤ n) (h4 : n ≤ 1099511627776) (m1 : 1 ≤ m) (m2 : m ≤ 24) :
    Calls Tryz.prog 57 #[confT raw (s : Int) (m : Int) n mu tr v] w fun e w' => ∃ T G, e = .returned (.tuple #[.pointer (some ⟨T, 0, none⟩), .int .i64 0]) ∧ TxAt w' base T (newX s n mu m) G ∧ (∀ q ∈ G, w.heap.size ≤ q) ∧ Below w.heap.size w w' := by
  have HLN : Hid (∀ w', Calls Tryz.prog 111 #[.int .i64 (m : Int)] w' fun e w'' => ∃ L B, e = .returned (.tuple #[.pointer (some ⟨L, 0, none⟩), .int .i64 0]) ∧ w'.heap.size ≤ L ∧ w'.heap.size ≤ B ∧ Tl.LogAt w'' L B (Tl.empty m) Sg.nought ∧ Below w'.heap.size w' w'') := fun w' => Tl.lnew_yes w' m m1 m2
  have d1 : decide ((s : Int) < 1) = false := by simp; omega
  have d2 : decide ((16 : Int) < (s : Int)) = false := by simp; omega
  have d3 : decide (n < 1) = false := by simp; omega
  have d4 : decide ((1099511627776 : Int) < n) = false := by simp; omega
  clear h1 h2 h3 h4 m1 m2
  unfold confT
  go_enter Tryz.func57, Tryz.ntmps57
  go_wp2_with fail
  refine (HLN.out _).mono ?_
  rintro e w1 ⟨lg, tk, rfl, hl1, hl2, hl, hb1⟩
  have HB1 : Hid (Below w.heap.size w w1) := below_then (below_a1 _ _) hb1
  have HC1 : Hid (w1.heap[w.heap.size]? = some (.cells #[.int .i64 raw, .int .i64 (s : Int), .int .i64 (m : Int), .int .i64 n, .bool mu, .int .i64 tr, v] 32 (0, 0))) := row_on (heap_alloc_new _ _) hb1
  have HL1 : Hid (Tl.LogAt w1 lg tk (Tl.empty m) Sg.nought ∧ w.heap.size ≤ lg ∧ w.heap.size ≤ tk) := ⟨hl, by simp at hl1; omega, by simp at hl2; omega⟩
  have y1 : w1.cell? ⟨w.heap.size, 1, none⟩ = some (.int .i64 (s : Int)) := by rw [cell_at HC1.out]; rfl
  have y3 : w1.cell? ⟨w.heap.size, 3, none⟩ = some (.int .i64 n) := by rw [cell_at HC1.out]; rfl
  have y4 : w1.cell? ⟨w.heap.size, 4, none⟩ = some (.bool mu) := by rw [cell_at HC1.out]; rfl
  have hW := heap_lt HC1.out
  clear hl1 hl2 hl hb1
  go_wp2
  have hs1 := HB1.out.size
  have HB3 : ∀ o1 o2, Below w1.heap.size w1 ((w1.alloc o1).alloc o2) := fun o1 o2 => below_then (below_a1 _ _) (below_a1 _ _)
  go_ret2
  refine ⟨w1.heap.size + 1, _, rfl, ⟨lg, tk, .slice none 0 0, .nilIface, [], tx_build (x := newX s n mu m) (heap_alloc2_new w1 _ _) (HL1.out.1.below (HB3 _ _)) ⟨rfl, Or.inl ⟨rfl, rfl⟩⟩ ⟨rfl, rfl⟩ (by omega) (by have := HL1.out.2.1; omega) (by have := HL1.out.2.2; omega) List.nodup_nil (by simp) (by simp) (by simp) (fun _ _ => by simp)⟩, fun q hq => ?_, below_then HB1.out (HB3 _ _)⟩
  simp [Value.ownBlock] at hq
  have a1 := HL1.out.2.1
  have a2 := HL1.out.2.2
  omega
end Go.Proofs.YthnegagpmkblfaaGreatDoor
