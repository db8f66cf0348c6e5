/- The example at the head of layer 8's statements. -/
import Derived.Test.YtemdgknfedaaiaaChkJ
import Derived.Test.YtemdgknfedaaiaaSigF
namespace Go.Proofs.Ytemdgknfedaaiaa
open Go.ChangeShapes Go.WideShapes Go.ChangeAt Go.RowKit
attribute [local go_sem ↓] Go.wp_at_zero Go.wp_at_succ

def shR : List Nat := [0, 9007199254740992, 0, 0, 0, 0, 0, 0]
theorem shR_is : Sg.ofAll [2] = shR := by kernel_rfl
theorem shR_ok : Sg.Ok shR := by rw [← shR_is]; exact Sg.ok_ofAll _
def shP : Cp := ⟨4, 1, shR, false⟩
theorem shP_ok : POk shP := ⟨by decide, by decide, by decide, by decide, shR_ok⟩
def kL0 : List Ac := storeL 2 4 [] 0 ⟨1, 0, 0⟩ 2
def kB1 : Ck := ⟨1, 2, 2, 0, 1, 0⟩
def kL1 : List Ac := nextKL 2 4 shP (ckNew shP) kL0 5
def kL2 : List Ac := nextKL 2 4 shP kB1 kL1 5
def kL3 : List Ac := storeL 2 4 kL2 0 ⟨2, 2, 0⟩ 5
def kB3 : Ck := ⟨2, 2, 2, 1, 2, 0⟩
def kL4 : List Ac := nextKL 2 4 shP kB1 kL3 5
def kB4 : Ck := ⟨4, 2, 2, 8, 2, 0⟩
def kL5 : List Ac := nextKL 2 4 shP kB3 kL4 5
theorem kn1 : nextK 4 shP (ckNew shP) kL0 = kB1 ∧ ansKK 4 shP (ckNew shP) kL0 = 2 ∧ errKK 4 shP (ckNew shP) kL0 = 0 ∧ goesK 4 shP (ckNew shP) = true ∧ nextN 4 shP (ckNew shP) kL0 0 = 1 := ⟨rfl, rfl, rfl, rfl, rfl⟩
theorem kn2 : nextK 4 shP kB1 kL1 = kB1 ∧ ansKK 4 shP kB1 kL1 = 1 ∧ errKK 4 shP kB1 kL1 = 0 ∧ goesK 4 shP kB1 = true ∧ nextN 4 shP kB1 kL1 1 = 1 := ⟨rfl, rfl, rfl, rfl, rfl⟩
theorem kn4 : nextK 4 shP kB1 kL3 = kB3 ∧ ansKK 4 shP kB1 kL3 = 2 ∧ errKK 4 shP kB1 kL3 = 0 ∧ goesK 4 shP kB1 = true ∧ nextN 4 shP kB1 kL3 1 = 2 := ⟨rfl, rfl, rfl, rfl, rfl⟩
theorem kn5 : nextK 4 shP kB3 kL4 = kB4 ∧ ansKK 4 shP kB3 kL4 = 3 ∧ errKK 4 shP kB3 kL4 = 0 ∧ goesK 4 shP kB3 = true ∧ nextN 4 shP kB3 kL4 2 = 3 := ⟨rfl, rfl, rfl, rfl, rfl⟩
theorem cells8 {w : World} {B : Nat} {t : TypeId} {c0 c1 c2 c3 c4 c5 c6 c7 : Value} (h : w.heap[B]? = some (.cells #[c0, c1, c2, c3, c4, c5, c6, c7] t (0, 0))) :
    w.cell? ⟨B, 0, none⟩ = some c0 ∧ w.cell? ⟨B, 1, none⟩ = some c1 ∧ w.cell? ⟨B, 2, none⟩ = some c2 ∧ w.cell? ⟨B, 3, none⟩ = some c3 ∧ w.cell? ⟨B, 4, none⟩ = some c4 ∧ w.cell? ⟨B, 5, none⟩ = some c5 ∧ w.cell? ⟨B, 6, none⟩ = some c6 ∧ w.cell? ⟨B, 7, none⟩ = some c7 :=
  ⟨by rw [cell_at h]; rfl, by rw [cell_at h]; rfl, by rw [cell_at h]; rfl, by rw [cell_at h]; rfl, by rw [cell_at h]; rfl, by rw [cell_at h]; rfl, by rw [cell_at h]; rfl, by rw [cell_at h]; rfl⟩
set_option maxRecDepth 10000 in
set_option maxHeartbeats 3200000 in
theorem cshown_any (w : World) : Calls Try.prog 7 #[] w fun e w' => e = .returned (.bool true) ∧ Below w.heap.size w w' := by
  have HN : Hid (∀ w : World, Calls Try.prog 10 #[.int .i64 2, .int .i64 4] w fun e w' => ∃ p F, e = .returned (.tuple #[p, .int .i64 0]) ∧ p ≠ .pointer none ∧ MemAt w' w.heap.size p 2 4 [] F ∧ Below w.heap.size w w') := fun w => new_yes w 2 4 (by decide) (by decide)
  have HO : Hid (∀ (w : World) (v : Value), Sg.Lst w v [2] → Calls Try.prog 26 #[v] w fun e w' => e = .returned (.agg #[.int .u64 0, .int .u64 9007199254740992, .int .u64 0, .int .u64 0, .int .u64 0, .int .u64 0, .int .u64 0, .int .u64 0]) ∧ Below w.heap.size w w') := fun w v h => by
    have := Sg.of_any w v [2] h
    rw [shR_is] at this; exact this
  have HB : Hid (∀ w : World, Calls Try.prog 8 #[.int .i64 4, .int .i64 1, .agg #[.int .u64 0, .int .u64 9007199254740992, .int .u64 0, .int .u64 0, .int .u64 0, .int .u64 0, .int .u64 0, .int .u64 0], .bool false] w fun e w' => e = .returned (.tuple #[.pointer (some ⟨w.heap.size + 1, 0, none⟩), .int .i64 0]) ∧ KAt w' (w.heap.size + 1) shP (ckNew shP) ∧ Below w.heap.size w w') := fun w => cnew_yes w shP_ok
  have HC : Hid (∀ w : World, Calls Try.prog 8 #[.int .i64 4, .int .i64 (-1), .agg #[.int .u64 0, .int .u64 9007199254740992, .int .u64 0, .int .u64 0, .int .u64 0, .int .u64 0, .int .u64 0, .int .u64 0], .bool false] w fun e w' => e = .returned (.tuple #[.pointer none, .int .i64 1]) ∧ Below w.heap.size w w') := fun w => cnew_no w 4 (-1) shR false (by decide)
  go_enter Try.func7, Try.ntmps7
  go_wp2_with fail
  refine (HN.out _).mono ?_
  rintro e w1 ⟨p, F1, rfl, _, hm1, hb1⟩
  obtain ⟨M, rfl⟩ := hm1.ptr
  have HM1 : Hid (MemAt w1 w.heap.size (.pointer (some ⟨M, 0, none⟩)) 2 4 [] F1 ∧ Below w.heap.size w w1) := ⟨hm1, hb1⟩
  clear hm1 hb1
  go_wp2_with fail
  have hl : Sg.Lst (w1.alloc (.cells #[.int .i64 2] 3)) (.slice (some ⟨w1.heap.size, 0, none⟩) 1 1) [2] := ⟨_, 1, rfl, by decide, Or.inr ⟨_, rfl, fun i hi => by
    obtain rfl : i = 0 := by simp at hi; omega
    rw [show (⟨w1.heap.size, 0, none⟩ : Addr).add 0 = ⟨w1.heap.size, 0, none⟩ from rfl, cell_at (heap_alloc_new w1 _)]; rfl⟩⟩
  refine (HO.out _ _ hl).mono ?_
  rintro e w2 ⟨rfl, hb2⟩
  have HM2 : Hid (MemAt w2 w.heap.size (.pointer (some ⟨M, 0, none⟩)) 2 4 [] F1 ∧ Below w.heap.size w w2) := ⟨HM1.out.1.below (below_then (below_a1 _ _) hb2), below_then HM1.out.2 (below_then (below_a1 _ _) hb2)⟩
  clear hl hb2 HM1
  go_wp2_with fail
  refine (HB.out _).mono ?_
  rintro e w3 ⟨rfl, hx3, hb3⟩
  have HW3 : Hid (KWay w w3 w.heap.size (.pointer (some ⟨M, 0, none⟩)) 2 4 [] ((w2.alloc (.cells #[.int .u64 0, .int .u64 9007199254740992, .int .u64 0, .int .u64 0, .int .u64 0, .int .u64 0, .int .u64 0, .int .u64 0] 24)).heap.size + 1) shP (ckNew shP) 0 [(w2.heap.size, .cells #[.int .u64 0, .int .u64 9007199254740992, .int .u64 0, .int .u64 0, .int .u64 0, .int .u64 0, .int .u64 0, .int .u64 0] 24)]) := kway_new shP_ok (HM2.out.1.below (below_a1 _ _)) (below_then HM2.out.2 (below_a1 _ _)) (Nat.le_refl _) (by have := HM2.out.2.size; simp; omega) (by simp) hx3 hb3 (fun z hz => by
    obtain rfl : z = (w2.heap.size, .cells #[.int .u64 0, .int .u64 9007199254740992, .int .u64 0, .int .u64 0, .int .u64 0, .int .u64 0, .int .u64 0, .int .u64 0] 24) := by simpa using hz
    exact ⟨heap_alloc_new _ _, fun e => by have := (HM2.out.1.lt _ e).2; simp at this⟩)
  clear hx3 hb3
  generalize (w2.alloc (.cells #[.int .u64 0, .int .u64 9007199254740992, .int .u64 0, .int .u64 0, .int .u64 0, .int .u64 0, .int .u64 0, .int .u64 0] 24)).heap.size + 1 = X at *
  obtain hr3 := HW3.out.row (B := w2.heap.size) (o := .cells #[.int .u64 0, .int .u64 9007199254740992, .int .u64 0, .int .u64 0, .int .u64 0, .int .u64 0, .int .u64 0, .int .u64 0] 24) (by simp)
  obtain ⟨r0, r1, r2, r3, r4, r5, r6, r7⟩ := cells8 hr3
  go_wp2_with fail
  refine (HC.out _).mono ?_
  rintro e w4 ⟨rfl, hb4⟩
  have HW4 : Hid (KWay w w4 w.heap.size (.pointer (some ⟨M, 0, none⟩)) 2 4 [] X shP (ckNew shP) 0 []) := (HW3.out.later hb4).less (fun z hz => by simp at hz)
  clear hb4 HW3 HM2 hr3 r0 r1 r2 r3 r4 r5 r6 r7
  have H5 : Hid (Calls Try.prog 12 #[.pointer (some ⟨M, 0, none⟩), .int .i64 0, .agg #[.int .i64 1, .int .i64 0, .int .i64 0], .int .i64 2] w4 fun e w' => e = .returned (.int .i64 0) ∧ KWay w w' w.heap.size (.pointer (some ⟨M, 0, none⟩)) 2 4 kL0 X shP (ckNew shP) 0 []) := kway_store HW4.out (by decide) 0 ⟨1, 0, 0⟩ 2 (by unfold W64; decide)
  go_wp2_with fail
  refine H5.out.mono ?_
  rintro e w5 ⟨rfl, h5⟩
  have HW5 : Hid (KWay w w5 w.heap.size (.pointer (some ⟨M, 0, none⟩)) 2 4 kL0 X shP (ckNew shP) 0 []) := h5
  clear h5 H5 HW4
  have HT6 : Hid (Calls Try.prog 14 #[.pointer (some ⟨X, 0, none⟩), .pointer (some ⟨M, 0, none⟩), .int .i64 5] w5 fun e w' => e = .returned (.agg #[.int .i64 2, .int .i64 0, .int .i64 0, .bool true]) ∧ KWay w w' w.heap.size (.pointer (some ⟨M, 0, none⟩)) 2 4 kL1 X shP kB1 1 []) := by
    have := kway_step HW5.out (by decide) 5
    rw [kn1.1, kn1.2.1, kn1.2.2.1, kn1.2.2.2.1, kn1.2.2.2.2] at this
    exact this
  go_wp2_with fail
  refine HT6.out.mono ?_
  rintro e w6 ⟨rfl, h6⟩
  have HW6 : Hid (KWay w (w6.alloc (.cells #[.int .i64 2, .int .i64 0, .int .i64 0, .bool true] 50)) w.heap.size (.pointer (some ⟨M, 0, none⟩)) 2 4 kL1 X shP kB1 1 ((w6.heap.size, ansO 2 true) :: [])) := h6.more _
  clear h6 HT6 HW5
  have HT7 : Hid (Calls Try.prog 14 #[.pointer (some ⟨X, 0, none⟩), .pointer (some ⟨M, 0, none⟩), .int .i64 5] (w6.alloc (.cells #[.int .i64 2, .int .i64 0, .int .i64 0, .bool true] 50)) fun e w' => e = .returned (.agg #[.int .i64 1, .int .i64 0, .int .i64 0, .bool true]) ∧ KWay w w' w.heap.size (.pointer (some ⟨M, 0, none⟩)) 2 4 kL2 X shP kB1 1 ((w6.heap.size, ansO 2 true) :: [])) := by
    have := kway_step HW6.out (by decide) 5
    rw [kn2.1, kn2.2.1, kn2.2.2.1, kn2.2.2.2.1, kn2.2.2.2.2] at this
    exact this
  go_wp2_with fail
  refine HT7.out.mono ?_
  rintro e w7 ⟨rfl, h7⟩
  have HW7 : Hid (KWay w (w7.alloc (.cells #[.int .i64 1, .int .i64 0, .int .i64 0, .bool true] 50)) w.heap.size (.pointer (some ⟨M, 0, none⟩)) 2 4 kL2 X shP kB1 1 ((w7.heap.size, ansO 1 true) :: ((w6.heap.size, ansO 2 true) :: []))) := h7.more _
  clear h7 HT7 HW6
  have H8 : Hid (Calls Try.prog 12 #[.pointer (some ⟨M, 0, none⟩), .int .i64 0, .agg #[.int .i64 2, .int .i64 2, .int .i64 0], .int .i64 5] (w7.alloc (.cells #[.int .i64 1, .int .i64 0, .int .i64 0, .bool true] 50)) fun e w' => e = .returned (.int .i64 0) ∧ KWay w w' w.heap.size (.pointer (some ⟨M, 0, none⟩)) 2 4 kL3 X shP kB1 1 ((w7.heap.size, ansO 1 true) :: ((w6.heap.size, ansO 2 true) :: []))) := kway_store HW7.out (by decide) 0 ⟨2, 2, 0⟩ 5 (by unfold W64; decide)
  go_wp2_with fail
  refine H8.out.mono ?_
  rintro e w8 ⟨rfl, h8⟩
  have HW8 : Hid (KWay w w8 w.heap.size (.pointer (some ⟨M, 0, none⟩)) 2 4 kL3 X shP kB1 1 ((w7.heap.size, ansO 1 true) :: ((w6.heap.size, ansO 2 true) :: []))) := h8
  clear h8 H8 HW7
  have HT9 : Hid (Calls Try.prog 14 #[.pointer (some ⟨X, 0, none⟩), .pointer (some ⟨M, 0, none⟩), .int .i64 5] w8 fun e w' => e = .returned (.agg #[.int .i64 2, .int .i64 0, .int .i64 0, .bool true]) ∧ KWay w w' w.heap.size (.pointer (some ⟨M, 0, none⟩)) 2 4 kL4 X shP kB3 2 ((w7.heap.size, ansO 1 true) :: ((w6.heap.size, ansO 2 true) :: []))) := by
    have := kway_step HW8.out (by decide) 5
    rw [kn4.1, kn4.2.1, kn4.2.2.1, kn4.2.2.2.1, kn4.2.2.2.2] at this
    exact this
  go_wp2_with fail
  refine HT9.out.mono ?_
  rintro e w9 ⟨rfl, h9⟩
  have HW9 : Hid (KWay w (w9.alloc (.cells #[.int .i64 2, .int .i64 0, .int .i64 0, .bool true] 50)) w.heap.size (.pointer (some ⟨M, 0, none⟩)) 2 4 kL4 X shP kB3 2 ((w9.heap.size, ansO 2 true) :: ((w7.heap.size, ansO 1 true) :: ((w6.heap.size, ansO 2 true) :: [])))) := h9.more _
  clear h9 HT9 HW8
  have HT10 : Hid (Calls Try.prog 14 #[.pointer (some ⟨X, 0, none⟩), .pointer (some ⟨M, 0, none⟩), .int .i64 5] (w9.alloc (.cells #[.int .i64 2, .int .i64 0, .int .i64 0, .bool true] 50)) fun e w' => e = .returned (.agg #[.int .i64 3, .int .i64 0, .int .i64 0, .bool true]) ∧ KWay w w' w.heap.size (.pointer (some ⟨M, 0, none⟩)) 2 4 kL5 X shP kB4 3 ((w9.heap.size, ansO 2 true) :: ((w7.heap.size, ansO 1 true) :: ((w6.heap.size, ansO 2 true) :: [])))) := by
    have := kway_step HW9.out (by decide) 5
    rw [kn5.1, kn5.2.1, kn5.2.2.1, kn5.2.2.2.1, kn5.2.2.2.2] at this
    exact this
  go_wp2_with fail
  refine HT10.out.mono ?_
  rintro e w10 ⟨rfl, h10⟩
  have HW10 : Hid (KWay w (w10.alloc (.cells #[.int .i64 3, .int .i64 0, .int .i64 0, .bool true] 50)) w.heap.size (.pointer (some ⟨M, 0, none⟩)) 2 4 kL5 X shP kB4 3 ((w10.heap.size, ansO 3 true) :: ((w9.heap.size, ansO 2 true) :: ((w7.heap.size, ansO 1 true) :: ((w6.heap.size, ansO 2 true) :: []))))) := h10.more _
  clear h10 HT10 HW9
  have HTS : Hid (Calls Try.prog 21 #[.pointer (some ⟨X, 0, none⟩)] (w10.alloc (.cells #[.int .i64 3, .int .i64 0, .int .i64 0, .bool true] 50)) fun e w' => e = .returned (.tuple #[.int .i64 2, .int .i64 2, .bool true]) ∧ KWay w w' w.heap.size (.pointer (some ⟨M, 0, none⟩)) 2 4 kL5 X shP kB4 3 ((w10.heap.size, ansO 3 true) :: ((w9.heap.size, ansO 2 true) :: ((w7.heap.size, ansO 1 true) :: ((w6.heap.size, ansO 2 true) :: []))))) := kway_start HW10.out
  go_wp2_with fail
  refine HTS.out.mono ?_
  rintro e w11 ⟨rfl, h11⟩
  have HW11 : Hid (Below w.heap.size w w11) := h11.bel
  obtain ⟨⟨a0, _, _, _⟩, _⟩ := ans_cells (k := 2) (y := true) (h11.row (B := w6.heap.size) (o := ansO 2 true) (by simp))
  obtain ⟨⟨a1, _, _, _⟩, _⟩ := ans_cells (k := 1) (y := true) (h11.row (B := w7.heap.size) (o := ansO 1 true) (by simp))
  obtain ⟨⟨a2, _, _, _⟩, _⟩ := ans_cells (k := 2) (y := true) (h11.row (B := w9.heap.size) (o := ansO 2 true) (by simp))
  obtain ⟨⟨a3, _, _, _⟩, _⟩ := ans_cells (k := 3) (y := true) (h11.row (B := w10.heap.size) (o := ansO 3 true) (by simp))
  clear h11 HTS HW10
  go_wp2
  go_ret
  exact ⟨rfl, HW11.out⟩
end Go.Proofs.Ytemdgknfedaaiaa
