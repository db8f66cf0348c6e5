/- A region's size: the program's and the document's. -/
import Derived.Test.YtceogkgnapdeiaaPcA
import Derived.Laws.EntriesVeiled
namespace Go.Proofs.Ytceogkgnapdeiaa.Pc
open Go.ChangeShapes Go.WideShapes Go.ChangeAt Go.RowKit
attribute [local go_sem ↓] Go.wp_at_zero Go.wp_at_succ

def regV (x : Rg) : Value := .agg #[.int .i64 x.1, .int .i64 x.2]
theorem isreg_any (w : World) (x : Rg) : Calls Try.prog 26 #[regV x] w fun e w' => e = .returned (.bool (okR x)) ∧ Below w.heap.size w w' := by
  obtain ⟨k, m⟩ := x
  unfold regV okR
  dsimp only
  cases h1 : decide (1 ≤ k) <;> cases h2 : decide (k ≤ 4) <;> cases h3 : decide (0 ≤ m) <;> cases h4 : decide (m ≤ 16)
  all_goals
    go_enter Try.func26, Try.ntmps26
    go_wp2
    go_ret
    exact ⟨by simp, by first | exact Below.refl _ _ | exact below_a1 _ _⟩
theorem sizes_any (w : World) : Calls Try.prog 27 #[] w fun e w' => ∃ g, e = .returned (.slice (some ⟨g, 0, none⟩) 4 4) ∧ Below w.heap.size w w' ∧ w'.heap[g]? = some (.cells #[.func (.func 29) #[] #[], .func (.func 30) #[] #[], .func (.func 31) #[] #[], .func (.func 32) #[] #[]] 68 (0, 0)) := by
  go_enter Try.func27, Try.ntmps27
  go_wp2
  go_ret
  exact ⟨w.heap.size, rfl, below_a1 _ _, heap_alloc_new _ _⟩
theorem row_nx {w w' : World} {o : Obj} (hb : Below (w.alloc o).heap.size (w.alloc o) w') : w'.heap[w.heap.size]? = some o := by
  rw [hb.block _ (by simp)]; exact heap_alloc_new _ _
theorem okR_parts {x : Rg} (h : okR x = true) : (x.1 = 1 ∨ x.1 = 2 ∨ x.1 = 3 ∨ x.1 = 4) ∧ capB x.2 = true := by
  simp only [okR, Bool.and_eq_true, decide_eq_true_eq] at h
  refine ⟨by omega, ?_⟩
  simp only [capB, Bool.and_eq_true, decide_eq_true_eq]
  omega
def Sans (x : Rg) (w : World) : Ending → World → Prop := fun e w' => e = .returned (.tuple #[.int .i64 (szV x), .int .i64 (erV x)]) ∧ Below w.heap.size w w'
theorem size_no (w : World) (x : Rg) (h : okR x = false) : Calls Try.prog 18 #[regV x] w (Sans x w) := by
  have HI : Hid (∀ w : World, Calls Try.prog 26 #[regV x] w fun e w' => e = .returned (.bool false) ∧ Below w.heap.size w w') := fun w => h ▸ isreg_any w x
  unfold Sans szV erV
  rw [h]
  obtain ⟨k, m⟩ := x
  clear h
  unfold regV at *
  go_enter Try.func18, Try.ntmps18
  go_wp2_with fail
  refine (HI.out _).mono ?_
  rintro e w1 ⟨rfl, hb⟩
  go_wp2_with fail
  go_ret2
  exact ⟨rfl, below_then (below_a1 _ _) hb⟩
theorem size_1 (w : World) {m : Int} (h : okR (1, m) = true) : Calls Try.prog 18 #[regV (1, m)] w (Sans (1, m) w) := by
  have HI : Hid (∀ w : World, Calls Try.prog 26 #[regV (1, m)] w fun e w' => e = .returned (.bool true) ∧ Below w.heap.size w w') := fun w => h ▸ isreg_any w (1, m)
  have HS : Hid (∀ w : World, Calls Try.prog 27 #[] w fun e w' => ∃ g, e = .returned (.slice (some ⟨g, 0, none⟩) 4 4) ∧ Below w.heap.size w w' ∧ w'.heap[g]? = some (.cells #[.func (.func 29) #[] #[], .func (.func 30) #[] #[], .func (.func 31) #[] #[], .func (.func 32) #[] #[]] 68 (0, 0))) := fun w => sizes_any w
  have hm := (okR_parts h).2
  dsimp only at hm
  have H1 : Hid (∀ w : World, Calls Try.prog 29 #[.int .i64 m] w fun e w' => e = .returned (.int .i64 (m)) ∧ w' = w) := fun w => sz15 w hm
  unfold Sans szV erV
  rw [h]
  clear h hm
  unfold regV at *
  dsimp only at HI ⊢
  go_enter Try.func18, Try.ntmps18
  go_wp2_with fail
  refine (HI.out _).mono ?_
  rintro e w1 ⟨rfl, hb⟩
  have hr := row_nx hb
  have hbb : Below w.heap.size w w1 := below_then (below_a1 _ _) hb
  have HR : Hid (w1.heap[w.heap.size]? = some (.cells #[.int .i64 1, .int .i64 m] 51 (0, 0))) := hr
  have HB : Hid (Below w.heap.size w w1) := hbb
  have hk0 : w1.cell? ⟨w.heap.size, 0, none⟩ = some (.int .i64 1) := (cell_at hr 0).trans rfl
  clear hb hbb hr
  go_wp2_with fail
  go_region_with ((go_at_call 27; refine (HS.out _).mono ?_; rintro e w2 ⟨g, rfl, hb2, hg⟩; have hb3 : Below w1.heap.size w1 w2 := ⟨hb2.os, hb2.tape, hb2.output, hb2.size, hb2.block⟩; have hS : w2.cell? ⟨w.heap.size, 0, none⟩ = some (.int .i64 1) := cell_later hb3 (a := ⟨w.heap.size, 0, none⟩) (heap_lt HR.out) hk0; have hg0 : w2.cell? ⟨g, 0, none⟩ = some (.func (.func 29) #[] #[]) := (cell_at hg 0).trans rfl))
  all_goals
    have hk1 : w2.cell? ⟨w.heap.size, 1, none⟩ = some (.int .i64 m) := cell_later hb3 (a := ⟨w.heap.size, 1, none⟩) (heap_lt HR.out) ((cell_at HR.out 1).trans rfl)
    go_wp2_with fail
    refine (H1.out _).mono ?_
    rintro e w3 ⟨rfl, rfl⟩
    go_wp2_with fail
    go_ret2
    exact ⟨rfl, HB.out.trans (hb3.mono HB.out.size)⟩
theorem size_2 (w : World) {m : Int} (h : okR (2, m) = true) : Calls Try.prog 18 #[regV (2, m)] w (Sans (2, m) w) := by
  have HI : Hid (∀ w : World, Calls Try.prog 26 #[regV (2, m)] w fun e w' => e = .returned (.bool true) ∧ Below w.heap.size w w') := fun w => h ▸ isreg_any w (2, m)
  have HS : Hid (∀ w : World, Calls Try.prog 27 #[] w fun e w' => ∃ g, e = .returned (.slice (some ⟨g, 0, none⟩) 4 4) ∧ Below w.heap.size w w' ∧ w'.heap[g]? = some (.cells #[.func (.func 29) #[] #[], .func (.func 30) #[] #[], .func (.func 31) #[] #[], .func (.func 32) #[] #[]] 68 (0, 0))) := fun w => sizes_any w
  have hm := (okR_parts h).2
  dsimp only at hm
  have H2 : Hid (∀ w : World, Calls Try.prog 30 #[.int .i64 m] w fun e w' => e = .returned (.int .i64 (m + 2)) ∧ w' = w) := fun w => sz16 w hm
  unfold Sans szV erV
  rw [h]
  clear h hm
  unfold regV at *
  dsimp only at HI ⊢
  go_enter Try.func18, Try.ntmps18
  go_wp2_with fail
  refine (HI.out _).mono ?_
  rintro e w1 ⟨rfl, hb⟩
  have hr := row_nx hb
  have hbb : Below w.heap.size w w1 := below_then (below_a1 _ _) hb
  have HR : Hid (w1.heap[w.heap.size]? = some (.cells #[.int .i64 2, .int .i64 m] 51 (0, 0))) := hr
  have HB : Hid (Below w.heap.size w w1) := hbb
  have hk0 : w1.cell? ⟨w.heap.size, 0, none⟩ = some (.int .i64 2) := (cell_at hr 0).trans rfl
  clear hb hbb hr
  go_wp2_with fail
  go_region_with ((go_at_call 27; refine (HS.out _).mono ?_; rintro e w2 ⟨g, rfl, hb2, hg⟩; have hb3 : Below w1.heap.size w1 w2 := ⟨hb2.os, hb2.tape, hb2.output, hb2.size, hb2.block⟩; have hS : w2.cell? ⟨w.heap.size, 0, none⟩ = some (.int .i64 2) := cell_later hb3 (a := ⟨w.heap.size, 0, none⟩) (heap_lt HR.out) hk0; have hg0 : w2.cell? ⟨g, 1, none⟩ = some (.func (.func 30) #[] #[]) := (cell_at hg 1).trans rfl))
  all_goals
    have hk1 : w2.cell? ⟨w.heap.size, 1, none⟩ = some (.int .i64 m) := cell_later hb3 (a := ⟨w.heap.size, 1, none⟩) (heap_lt HR.out) ((cell_at HR.out 1).trans rfl)
    go_wp2_with fail
    refine (H2.out _).mono ?_
    rintro e w3 ⟨rfl, rfl⟩
    go_wp2_with fail
    go_ret2
    exact ⟨rfl, HB.out.trans (hb3.mono HB.out.size)⟩
theorem size_3 (w : World) {m : Int} (h : okR (3, m) = true) : Calls Try.prog 18 #[regV (3, m)] w (Sans (3, m) w) := by
  have HI : Hid (∀ w : World, Calls Try.prog 26 #[regV (3, m)] w fun e w' => e = .returned (.bool true) ∧ Below w.heap.size w w') := fun w => h ▸ isreg_any w (3, m)
  have HS : Hid (∀ w : World, Calls Try.prog 27 #[] w fun e w' => ∃ g, e = .returned (.slice (some ⟨g, 0, none⟩) 4 4) ∧ Below w.heap.size w w' ∧ w'.heap[g]? = some (.cells #[.func (.func 29) #[] #[], .func (.func 30) #[] #[], .func (.func 31) #[] #[], .func (.func 32) #[] #[]] 68 (0, 0))) := fun w => sizes_any w
  have hm := (okR_parts h).2
  dsimp only at hm
  have H3 : Hid (∀ w : World, Calls Try.prog 31 #[.int .i64 m] w fun e w' => e = .returned (.int .i64 (3 * m + 1)) ∧ w' = w) := fun w => sz17 w hm
  unfold Sans szV erV
  rw [h]
  clear h hm
  unfold regV at *
  dsimp only at HI ⊢
  go_enter Try.func18, Try.ntmps18
  go_wp2_with fail
  refine (HI.out _).mono ?_
  rintro e w1 ⟨rfl, hb⟩
  have hr := row_nx hb
  have hbb : Below w.heap.size w w1 := below_then (below_a1 _ _) hb
  have HR : Hid (w1.heap[w.heap.size]? = some (.cells #[.int .i64 3, .int .i64 m] 51 (0, 0))) := hr
  have HB : Hid (Below w.heap.size w w1) := hbb
  have hk0 : w1.cell? ⟨w.heap.size, 0, none⟩ = some (.int .i64 3) := (cell_at hr 0).trans rfl
  clear hb hbb hr
  go_wp2_with fail
  go_region_with ((go_at_call 27; refine (HS.out _).mono ?_; rintro e w2 ⟨g, rfl, hb2, hg⟩; have hb3 : Below w1.heap.size w1 w2 := ⟨hb2.os, hb2.tape, hb2.output, hb2.size, hb2.block⟩; have hS : w2.cell? ⟨w.heap.size, 0, none⟩ = some (.int .i64 3) := cell_later hb3 (a := ⟨w.heap.size, 0, none⟩) (heap_lt HR.out) hk0; have hg0 : w2.cell? ⟨g, 2, none⟩ = some (.func (.func 31) #[] #[]) := (cell_at hg 2).trans rfl))
  all_goals
    have hk1 : w2.cell? ⟨w.heap.size, 1, none⟩ = some (.int .i64 m) := cell_later hb3 (a := ⟨w.heap.size, 1, none⟩) (heap_lt HR.out) ((cell_at HR.out 1).trans rfl)
    go_wp2_with fail
    refine (H3.out _).mono ?_
    rintro e w3 ⟨rfl, rfl⟩
    go_wp2_with fail
    go_ret2
    exact ⟨rfl, HB.out.trans (hb3.mono HB.out.size)⟩
theorem size_4 (w : World) {m : Int} (h : okR (4, m) = true) : Calls Try.prog 18 #[regV (4, m)] w (Sans (4, m) w) := by
  have HI : Hid (∀ w : World, Calls Try.prog 26 #[regV (4, m)] w fun e w' => e = .returned (.bool true) ∧ Below w.heap.size w w') := fun w => h ▸ isreg_any w (4, m)
  have HS : Hid (∀ w : World, Calls Try.prog 27 #[] w fun e w' => ∃ g, e = .returned (.slice (some ⟨g, 0, none⟩) 4 4) ∧ Below w.heap.size w w' ∧ w'.heap[g]? = some (.cells #[.func (.func 29) #[] #[], .func (.func 30) #[] #[], .func (.func 31) #[] #[], .func (.func 32) #[] #[]] 68 (0, 0))) := fun w => sizes_any w
  have hm := (okR_parts h).2
  dsimp only at hm
  have H4 : Hid (∀ w : World, Calls Try.prog 32 #[.int .i64 m] w fun e w' => e = .returned (.int .i64 (2 * m + 3)) ∧ w' = w) := fun w => sz18 w hm
  unfold Sans szV erV
  rw [h]
  clear h hm
  unfold regV at *
  dsimp only at HI ⊢
  go_enter Try.func18, Try.ntmps18
  go_wp2_with fail
  refine (HI.out _).mono ?_
  rintro e w1 ⟨rfl, hb⟩
  have hr := row_nx hb
  have hbb : Below w.heap.size w w1 := below_then (below_a1 _ _) hb
  have HR : Hid (w1.heap[w.heap.size]? = some (.cells #[.int .i64 4, .int .i64 m] 51 (0, 0))) := hr
  have HB : Hid (Below w.heap.size w w1) := hbb
  have hk0 : w1.cell? ⟨w.heap.size, 0, none⟩ = some (.int .i64 4) := (cell_at hr 0).trans rfl
  clear hb hbb hr
  go_wp2_with fail
  go_region_with ((go_at_call 27; refine (HS.out _).mono ?_; rintro e w2 ⟨g, rfl, hb2, hg⟩; have hb3 : Below w1.heap.size w1 w2 := ⟨hb2.os, hb2.tape, hb2.output, hb2.size, hb2.block⟩; have hS : w2.cell? ⟨w.heap.size, 0, none⟩ = some (.int .i64 4) := cell_later hb3 (a := ⟨w.heap.size, 0, none⟩) (heap_lt HR.out) hk0; have hg0 : w2.cell? ⟨g, 3, none⟩ = some (.func (.func 32) #[] #[]) := (cell_at hg 3).trans rfl))
  all_goals
    have hk1 : w2.cell? ⟨w.heap.size, 1, none⟩ = some (.int .i64 m) := cell_later hb3 (a := ⟨w.heap.size, 1, none⟩) (heap_lt HR.out) ((cell_at HR.out 1).trans rfl)
    go_wp2_with fail
    refine (H4.out _).mono ?_
    rintro e w3 ⟨rfl, rfl⟩
    go_wp2_with fail
    go_ret2
    exact ⟨rfl, HB.out.trans (hb3.mono HB.out.size)⟩
theorem size_yes (w : World) (x : Rg) (h : okR x = true) : Calls Try.prog 18 #[regV x] w (Sans x w) := by
  obtain ⟨k, m⟩ := x
  have hk := (okR_parts h).1
  dsimp only at hk
  rcases hk with rfl | rfl | rfl | rfl
  · exact size_1 w h
  · exact size_2 w h
  · exact size_3 w h
  · exact size_4 w h
theorem size_any (w : World) (x : Rg) : Calls Try.prog 18 #[regV x] w (Sans x w) := by
  cases h : okR x
  · exact size_no w x h
  · exact size_yes w x h
theorem rsize_any (w : World) (x : Rg) : Calls Try.prog 15 #[regV x] w (Sans x w) := by
  have HR : Hid (∀ w : World, Calls Try.prog 20 #[.int .i64 x.2] w fun e w' => e = .returned (.bool (capB x.2)) ∧ w' = w) := fun w => capR w x.2
  obtain ⟨k, m⟩ := x
  dsimp only at HR
  cases hm : capB m with
  | false =>
    have h : okR (k, m) = false := by
      rw [Bool.eq_false_iff]
      intro h
      rw [(okR_parts h).2] at hm
      cases hm
    unfold Sans szV erV
    rw [h]
    rw [hm] at HR
    clear h hm
    unfold regV
    dsimp only
    go_enter Try.func15, Try.ntmps15
    go_wp2_with fail
    refine (HR.out _).mono ?_
    rintro e w1 ⟨rfl, rfl⟩
    go_wp2_with fail
    go_ret2
    exact ⟨rfl, below_a1 _ _⟩
  | true =>
    have H1 : Hid (∀ w : World, Calls Try.prog 21 #[.int .i64 m] w fun e w' => e = .returned (.int .i64 m) ∧ w' = w) := fun w => rs15 w hm
    have H2 : Hid (∀ w : World, Calls Try.prog 22 #[.int .i64 m] w fun e w' => e = .returned (.int .i64 (m + 2)) ∧ w' = w) := fun w => rs16 w hm
    have H3 : Hid (∀ w : World, Calls Try.prog 23 #[.int .i64 m] w fun e w' => e = .returned (.int .i64 (3 * m + 1)) ∧ w' = w) := fun w => rs17 w hm
    have H4 : Hid (∀ w : World, Calls Try.prog 24 #[.int .i64 m] w fun e w' => e = .returned (.int .i64 (2 * m + 3)) ∧ w' = w) := fun w => rs18 w hm
    by_cases hk : 1 ≤ k ∧ k ≤ 4
    · have h : okR (k, m) = true := by
        have := capB_yes hm
        simp only [okR, Bool.and_eq_true, decide_eq_true_eq]
        omega
      have hk' := (okR_parts h).1
      unfold Sans szV erV
      rw [h]
      rw [hm] at HR
      clear h hm hk
      unfold regV
      dsimp only at hk' ⊢
      rcases hk' with rfl | rfl | rfl | rfl
      · go_enter Try.func15, Try.ntmps15
        go_wp2_with fail
        refine (HR.out _).mono ?_
        rintro e w1 ⟨rfl, rfl⟩
        go_wp2_with fail
        refine (H1.out _).mono ?_
        rintro e w1 ⟨rfl, rfl⟩
        go_wp2_with fail
        go_ret2
        exact ⟨rfl, below_a1 _ _⟩
      · go_enter Try.func15, Try.ntmps15
        go_wp2_with fail
        refine (HR.out _).mono ?_
        rintro e w1 ⟨rfl, rfl⟩
        go_wp2_with fail
        refine (H2.out _).mono ?_
        rintro e w1 ⟨rfl, rfl⟩
        go_wp2_with fail
        go_ret2
        exact ⟨rfl, below_a1 _ _⟩
      · go_enter Try.func15, Try.ntmps15
        go_wp2_with fail
        refine (HR.out _).mono ?_
        rintro e w1 ⟨rfl, rfl⟩
        go_wp2_with fail
        refine (H3.out _).mono ?_
        rintro e w1 ⟨rfl, rfl⟩
        go_wp2_with fail
        go_ret2
        exact ⟨rfl, below_a1 _ _⟩
      · go_enter Try.func15, Try.ntmps15
        go_wp2_with fail
        refine (HR.out _).mono ?_
        rintro e w1 ⟨rfl, rfl⟩
        go_wp2_with fail
        refine (H4.out _).mono ?_
        rintro e w1 ⟨rfl, rfl⟩
        go_wp2_with fail
        go_ret2
        exact ⟨rfl, below_a1 _ _⟩
    · have h : okR (k, m) = false := by
        rw [Bool.eq_false_iff]
        intro h
        have := (okR_parts h).1
        dsimp only at this
        omega
      have n1 : (k == 1) = false := by simpa using (by omega : ¬ k = 1)
      have n2 : (k == 2) = false := by simpa using (by omega : ¬ k = 2)
      have n3 : (k == 3) = false := by simpa using (by omega : ¬ k = 3)
      have n4 : (k == 4) = false := by simpa using (by omega : ¬ k = 4)
      unfold Sans szV erV
      rw [h]
      rw [hm] at HR
      clear h hm hk
      unfold regV
      dsimp only
      go_enter Try.func15, Try.ntmps15
      go_wp2_with fail
      refine (HR.out _).mono ?_
      rintro e w1 ⟨rfl, rfl⟩
      go_wp2_with fail
      go_ret2
      exact ⟨rfl, below_a1 _ _⟩
end Go.Proofs.Ytceogkgnapdeiaa.Pc
