/- The chain's closures, walked one by one (printed by tools/chv.py). -/
import Derived.Test.YtaffkcliepfcmaaChU
import Derived.Deep.RegionHeld3
namespace Go.Proofs.Ytaffkcliepfcmaa.Ch
open Go.ChangeShapes Go.WideShapes Go.ChangeAt Go.RowKit
attribute [local go_sem ↓] Go.wp_at_zero Go.wp_at_succ

theorem keyof_b (w : World) {i : Int} (hi : 0 ≤ i ∧ i ≤ 100) : Calls Try.prog 41 #[.int .i64 i] w fun e w' => e = .returned (.int .i64 (keyV i)) ∧ Below w.heap.size w w' := (keyof_any w hi).mono (fun e w' h => ⟨h.1, by rw [h.2]; exact Below.refl _ _⟩)
theorem nextof_b (w : World) {i : Int} (hi : 0 ≤ i ∧ i ≤ 100) : Calls Try.prog 39 #[.int .i64 i] w fun e w' => e = .returned (.int .i64 (nxtV i)) ∧ Below w.heap.size w w' := (nextof_any w hi).mono (fun e w' h => ⟨h.1, by rw [h.2]; exact Below.refl _ _⟩)
set_option maxRecDepth 100000 in
theorem kb_no {w : World} {F : List Nat} {b n p : Int}  (hl : leadV p n = 0) (hF : ∀ q ∈ F, q < w.heap.size)  : Calls Try.prog 36 #[.agg #[.int .i64 b, .int .i64 n], .int .i64 p] w (Gv (refT 1) F w) := by
  have HL : Hid (∀ w : World, Calls Try.prog 40 #[.int .i64 p, .int .i64 n] w fun e w' => e = .returned (.tuple #[.int .i64 (leadV p n), .bool false]) ∧ w' = w) := fun w => by have := leads_any w p n; rw [show decide (leadV p n ≠ 0) = false by simp [hl]] at this; exact this
  have HFL : Hid (∀ q ∈ F, q < w.heap.size) := hF
  clear hF
  clear hl
  generalize leadV p n = y at *
  go_enter Try.func36, Try.ntmps36
  go_wp2_with fail
  refine (HL.out _).mono ?_
  rintro e w1 ⟨rfl, rfl⟩
  go_wp2_with fail
  obtain ⟨w2, hw2⟩ : ∃ w2, w2 = (World.alloc (World.alloc w (.cells #[.int .i64 b, .int .i64 n] 56)) (.cells #[.int .i64 0, .int .i64 0, .int .i64 0, .int .i64 0, .nilFunc] 54)) := ⟨_, rfl⟩
  have HB2 : Hid (Below w.heap.size w w2) := by rw [hw2]; exact bl2 _ _ _
  have HG0 : Hid (w2.heap[w.heap.size]? = some (.cells #[.int .i64 b, .int .i64 n] 56 (0, 0))) := by rw [hw2]; exact hp_past (hp_at (by simp))
  have HG1 : Hid (w2.heap[w.heap.size + 1]? = some (.cells #[.int .i64 0, .int .i64 0, .int .i64 0, .int .i64 0, .nilFunc] 54 (0, 0))) := by rw [hw2]; exact hp_at (by simp)
  rw [← hw2]
  clear hw2
  refine (refused_any w2 1 []).mono ?_
  rintro e w4 h4
  obtain ⟨cs, w5, rfl, hz, hst, hr, hold⟩ := gv_put (w := w) (F := F) (R := w.heap.size + 1) h4 HG1.out rfl (by simp) HB2.out (by omega) (by simp)
  clear h4
  go_wp2_with fail
  exact ret_tn rfl rfl hr.out.1 hz rfl hr.out.2
set_option maxRecDepth 100000 in
theorem kb_yes {w : World} {F : List Nat} {b n p : Int}  (hs : SiteOk b n) (hl : leadV p n ≠ 0) (hF : ∀ q ∈ F, q < w.heap.size)  : Calls Try.prog 36 #[.agg #[.int .i64 b, .int .i64 n], .int .i64 p] w (Gv (readT b (keyV (leadV p n)) doneT) F w) := by
  have HL : Hid (∀ w : World, Calls Try.prog 40 #[.int .i64 p, .int .i64 n] w fun e w' => e = .returned (.tuple #[.int .i64 (leadV p n), .bool true]) ∧ w' = w) := fun w => by have := leads_any w p n; rw [show decide (leadV p n ≠ 0) = true by simp [hl]] at this; exact this
  obtain ⟨e1, e2⟩ := lead_of hl
  have hy : 0 ≤ leadV p n ∧ leadV p n ≤ 100 := by have := hs.2; omega
  have HK : Hid (∀ w : World, Calls Try.prog 41 #[.int .i64 (leadV p n)] w fun e w' => e = .returned (.int .i64 (keyV (leadV p n))) ∧ Below w.heap.size w w') := fun w => keyof_b w hy
  have HR : Hid (∀ w : World, Calls Try.prog 35 #[.agg #[.int .i64 b, .int .i64 n], .int .i64 (keyV (leadV p n)), .func (.func 61) #[] #[]] w (Gv (readT b (keyV (leadV p n)) doneT) [] w)) := fun w => read_any hs (by have := hs.2; unfold keyV; omega) (fv_mk (by simp) (ent Try.func61 (by kernel_rfl) rfl) (fun z _ w' _ => by simpa [encI] using done_any w' z []))
  have HFL : Hid (∀ q ∈ F, q < w.heap.size) := hF
  clear hF
  clear hs hl e1 e2 hy
  generalize leadV p n = y at *
  generalize keyV y = y1 at *
  go_enter Try.func36, Try.ntmps36
  go_wp2_with fail
  refine (HL.out _).mono ?_
  rintro e w1 ⟨rfl, rfl⟩
  go_wp2_with fail
  obtain ⟨w2, hw2⟩ : ∃ w2, w2 = (World.alloc (World.alloc w (.cells #[.int .i64 b, .int .i64 n] 56)) (.cells #[.int .i64 0, .int .i64 0, .int .i64 0, .int .i64 0, .nilFunc] 54)) := ⟨_, rfl⟩
  have HB2 : Hid (Below w.heap.size w w2) := by rw [hw2]; exact bl2 _ _ _
  have HG0 : Hid (w2.heap[w.heap.size]? = some (.cells #[.int .i64 b, .int .i64 n] 56 (0, 0))) := by rw [hw2]; exact hp_past (hp_at (by simp))
  have HG1 : Hid (w2.heap[w.heap.size + 1]? = some (.cells #[.int .i64 0, .int .i64 0, .int .i64 0, .int .i64 0, .nilFunc] 54 (0, 0))) := by rw [hw2]; exact hp_at (by simp)
  rw [← hw2]
  clear hw2
  have HR2 : Hid (∀ w3 : World, Below w2.heap.size w2 w3 → Calls Try.prog 35 #[.agg #[.int .i64 b, .int .i64 n], .int .i64 y1, .func (.func 61) #[] #[]] w3 (Gv (readT b y1 doneT) [] w3)) := fun w3 _ => HR.out w3
  clear HR HL
  have HS : Hid (∀ w' : World, (∀ q, q < w2.heap.size → q ≠ w.heap.size + 1 → w'.heap[q]? = w2.heap[q]?) → w'.cell? ⟨w.heap.size, 0, none⟩ = some (.int .i64 b) ∧ w'.cell? ⟨w.heap.size, 1, none⟩ = some (.int .i64 n)) := fun w' hq => ⟨(by rw [cell_at ((hq _ (heap_lt HG0.out) (by omega)).trans HG0.out)]; rfl), (by rw [cell_at ((hq _ (heap_lt HG0.out) (by omega)).trans HG0.out)]; rfl)⟩
  have hS2 : w2.cell? ⟨w.heap.size, 0, none⟩ = some (.int .i64 b) ∧ w2.cell? ⟨w.heap.size, 1, none⟩ = some (.int .i64 n) := HS.out w2 (fun _ _ _ => rfl)
  obtain ⟨s0, s1⟩ := hS2
  have yS : w.heap.size < w2.heap.size := heap_lt HG0.out
  go_region_held3 (fun w' => w'.cell? ⟨w.heap.size, 0, none⟩ = some (.int .i64 b) ∧ w'.cell? ⟨w.heap.size, 1, none⟩ = some (.int .i64 n)) (first | go_keep | exact hS | exact hS5) (first
    | (go_at_call 41; refine (HK.out _).mono ?_; rintro e w3 ⟨rfl, hb3⟩; have HB3 : Hid (Below w2.heap.size w2 w3) := below_then (bl_drew1 _) hb3; have hS : w3.cell? ⟨w.heap.size, 0, none⟩ = some (.int .i64 b) ∧ w3.cell? ⟨w.heap.size, 1, none⟩ = some (.int .i64 n) := HS.out w3 (fun q hq _ => HB3.out.block q hq); clear hb3)
    | (go_at_call 35; refine (HR2.out _ HB3.out).mono ?_; rintro e w4 h4; obtain ⟨cs, w5, rfl, hz, hst, hr, hold⟩ := gv_put (w := w) (F := F) (R := w.heap.size + 1) h4 (by rw [HB3.out.block _ (heap_lt HG1.out)]; exact HG1.out) rfl (by simp) (below_then HB2.out HB3.out) (by omega) (by simp); have hS : w4.cell? ⟨w.heap.size, 0, none⟩ = some (.int .i64 b) ∧ w4.cell? ⟨w.heap.size, 1, none⟩ = some (.int .i64 n) := HS.out w4 (fun q hq _ => ((gv_below h4).block q (Nat.lt_of_lt_of_le hq HB3.out.size)).trans (HB3.out.block q hq)); have hS5 : w5.cell? ⟨w.heap.size, 0, none⟩ = some (.int .i64 b) ∧ w5.cell? ⟨w.heap.size, 1, none⟩ = some (.int .i64 n) := HS.out w5 (fun q hq hqr => (hold.out q (Nat.lt_of_lt_of_le hq HB3.out.size) hqr).trans (HB3.out.block q hq)); clear h4))
  all_goals (go_wp2_with fail; exact ret_tn rfl rfl hr.out.1 hz rfl hr.out.2)
theorem kb_any (w : World) {b n p : Int} (hs : SiteOk b n) {F : List Nat} (hF : ∀ q ∈ F, q < w.heap.size) : Calls Try.prog 36 #[.agg #[.int .i64 b, .int .i64 n], .int .i64 p] w (Gv (kbT b n p) F w) := by
  unfold kbT
  by_cases hl : leadV p n = 0
  · rw [if_pos hl]; exact kb_no hl hF
  · rw [if_neg hl]; exact kb_yes hs hl hF
set_option maxRecDepth 100000 in
theorem count1_no {w : World} {F : List Nat} {b n p i : Int} {BS : Nat} {BM : Nat} (hl : leadV p n = 0) (hF : ∀ q ∈ F, q < w.heap.size) (hS : Bx F w BS 56 #[.int .i64 b, .int .i64 n]) (hM : Bx F w BM 3 #[.int .i64 i]) : Calls Try.prog 63 #[.int .i64 p, .pointer (some ⟨BS, 0, none⟩), .pointer (some ⟨BM, 0, none⟩)] w (Gv (doneT i) F w) := by
  have HL : Hid (∀ w : World, Calls Try.prog 40 #[.int .i64 p, .int .i64 n] w fun e w' => e = .returned (.tuple #[.int .i64 (leadV p n), .bool false]) ∧ w' = w) := fun w => by have := leads_any w p n; rw [show decide (leadV p n ≠ 0) = false by simp [hl]] at this; exact this
  have HFL : Hid (∀ q ∈ F, q < w.heap.size) := hF
  have HBS : Hid (Bx F w BS 56 #[.int .i64 b, .int .i64 n]) := hS
  have cS0 := hS.cell 0 rfl
  have cS1 := hS.cell 1 rfl
  have xS := hS.lt
  have HBM : Hid (Bx F w BM 3 #[.int .i64 i]) := hM
  have cM0 := hM.cell 0 rfl
  have xM := hM.lt
  clear hF hS hM
  clear hl
  generalize leadV p n = d at *
  go_enter Try.func63, Try.ntmps63
  go_wp2_with fail
  refine (HL.out _).mono ?_
  rintro e w1 ⟨rfl, rfl⟩
  go_wp2_with fail
  obtain ⟨w2, hw2⟩ : ∃ w2, w2 = (World.alloc w (.cells #[.int .i64 0, .int .i64 0, .int .i64 0, .int .i64 0, .nilFunc] 54)) := ⟨_, rfl⟩
  have HB2 : Hid (Below w.heap.size w w2) := by rw [hw2]; exact below_a1 _ _
  have HG0 : Hid (w2.heap[w.heap.size]? = some (.cells #[.int .i64 0, .int .i64 0, .int .i64 0, .int .i64 0, .nilFunc] 54 (0, 0))) := by rw [hw2]; exact hp_at (by simp)
  rw [← hw2]
  clear hw2
  refine (done_any w2 _ []).mono ?_
  rintro e w4 h4
  obtain ⟨cs, w5, rfl, hz, hst, hr, hold⟩ := gv_put (w := w) (F := F) (R := w.heap.size) h4 HG0.out rfl (by simp) HB2.out (by omega) (by simp)
  clear h4
  go_wp2_with fail
  exact ret_tn rfl rfl hr.out.1 hz rfl hr.out.2
set_option maxRecDepth 100000 in
theorem count1_full {w : World} {F : List Nat} {b n p i : Int} {BS : Nat} {BM : Nat} (hl : leadV p n ≠ 0) (hi : i = n) (hF : ∀ q ∈ F, q < w.heap.size) (hS : Bx F w BS 56 #[.int .i64 b, .int .i64 n]) (hM : Bx F w BM 3 #[.int .i64 i]) : Calls Try.prog 63 #[.int .i64 p, .pointer (some ⟨BS, 0, none⟩), .pointer (some ⟨BM, 0, none⟩)] w (Gv (doneT i) F w) := by
  have HL : Hid (∀ w : World, Calls Try.prog 40 #[.int .i64 p, .int .i64 n] w fun e w' => e = .returned (.tuple #[.int .i64 (leadV p n), .bool true]) ∧ w' = w) := fun w => by have := leads_any w p n; rw [show decide (leadV p n ≠ 0) = true by simp [hl]] at this; exact this
  have HFL : Hid (∀ q ∈ F, q < w.heap.size) := hF
  have HBS : Hid (Bx F w BS 56 #[.int .i64 b, .int .i64 n]) := hS
  have cS0 := hS.cell 0 rfl
  have cS1 := hS.cell 1 rfl
  have xS := hS.lt
  have HBM : Hid (Bx F w BM 3 #[.int .i64 i]) := hM
  have cM0 := hM.cell 0 rfl
  have xM := hM.lt
  clear hF hS hM
  have hin : (i == n) = true := by simp [hi]
  clear hi
  clear hl
  generalize leadV p n = d at *
  go_enter Try.func63, Try.ntmps63
  go_wp2_with fail
  refine (HL.out _).mono ?_
  rintro e w1 ⟨rfl, rfl⟩
  go_wp2_with fail
  obtain ⟨w2, hw2⟩ : ∃ w2, w2 = (World.alloc w (.cells #[.int .i64 0, .int .i64 0, .int .i64 0, .int .i64 0, .nilFunc] 54)) := ⟨_, rfl⟩
  have HB2 : Hid (Below w.heap.size w w2) := by rw [hw2]; exact below_a1 _ _
  have HG0 : Hid (w2.heap[w.heap.size]? = some (.cells #[.int .i64 0, .int .i64 0, .int .i64 0, .int .i64 0, .nilFunc] 54 (0, 0))) := by rw [hw2]; exact hp_at (by simp)
  rw [← hw2]
  clear hw2
  refine (done_any w2 _ []).mono ?_
  rintro e w4 h4
  obtain ⟨cs, w5, rfl, hz, hst, hr, hold⟩ := gv_put (w := w) (F := F) (R := w.heap.size) h4 HG0.out rfl (by simp) HB2.out (by omega) (by simp)
  clear h4
  go_wp2_with fail
  exact ret_tn rfl rfl hr.out.1 hz rfl hr.out.2
set_option maxRecDepth 100000 in
theorem count1_on {w : World} {F : List Nat} {b n p i : Int} {t : T} {BS : Nat} {BM : Nat} (hs : SiteOk b n) (hl : leadV p n ≠ 0) (hi : i ≠ n) (h0 : 0 ≤ i ∧ i ≤ 16) (ih : ∀ w' : World, Calls Try.prog 37 #[.agg #[.int .i64 b, .int .i64 n], .int .i64 (nxtV (leadV p n)), .int .i64 (i + 1)] w' (Gv t [] w')) (hF : ∀ q ∈ F, q < w.heap.size) (hS : Bx F w BS 56 #[.int .i64 b, .int .i64 n]) (hM : Bx F w BM 3 #[.int .i64 i]) : Calls Try.prog 63 #[.int .i64 p, .pointer (some ⟨BS, 0, none⟩), .pointer (some ⟨BM, 0, none⟩)] w (Gv (t) F w) := by
  have HL : Hid (∀ w : World, Calls Try.prog 40 #[.int .i64 p, .int .i64 n] w fun e w' => e = .returned (.tuple #[.int .i64 (leadV p n), .bool true]) ∧ w' = w) := fun w => by have := leads_any w p n; rw [show decide (leadV p n ≠ 0) = true by simp [hl]] at this; exact this
  obtain ⟨e1, e2⟩ := lead_of hl
  have hy : 0 ≤ leadV p n ∧ leadV p n ≤ 100 := by have := hs.2; omega
  have HK : Hid (∀ w : World, Calls Try.prog 39 #[.int .i64 (leadV p n)] w fun e w' => e = .returned (.int .i64 (nxtV (leadV p n))) ∧ Below w.heap.size w w') := fun w => nextof_b w hy
  have HFL : Hid (∀ q ∈ F, q < w.heap.size) := hF
  have HBS : Hid (Bx F w BS 56 #[.int .i64 b, .int .i64 n]) := hS
  have cS0 := hS.cell 0 rfl
  have cS1 := hS.cell 1 rfl
  have xS := hS.lt
  have HBM : Hid (Bx F w BM 3 #[.int .i64 i]) := hM
  have cM0 := hM.cell 0 rfl
  have xM := hM.lt
  clear hF hS hM
  have hin : (i == n) = false := by simp [hi]
  have HWI : Hid (IntKind.i64.wrap (i + 1) = i + 1) := (by rw [IntKind.wrap_i64]; omega : IntKind.i64.wrap (i + 1) = i + 1)
  have HR : Hid (∀ w' : World, Calls Try.prog 37 #[.agg #[.int .i64 b, .int .i64 n], .int .i64 (nxtV (leadV p n)), .int .i64 (i + 1)] w' (Gv t [] w')) := ih
  clear hs hl hi h0 ih hy e1 e2
  generalize leadV p n = d at *
  generalize nxtV d = y1 at *
  go_enter Try.func63, Try.ntmps63
  go_wp2_with fail
  refine (HL.out _).mono ?_
  rintro e w1 ⟨rfl, rfl⟩
  go_wp2_with fail
  obtain ⟨w2, hw2⟩ : ∃ w2, w2 = (World.alloc w (.cells #[.int .i64 0, .int .i64 0, .int .i64 0, .int .i64 0, .nilFunc] 54)) := ⟨_, rfl⟩
  have HB2 : Hid (Below w.heap.size w w2) := by rw [hw2]; exact below_a1 _ _
  have HG0 : Hid (w2.heap[w.heap.size]? = some (.cells #[.int .i64 0, .int .i64 0, .int .i64 0, .int .i64 0, .nilFunc] 54 (0, 0))) := by rw [hw2]; exact hp_at (by simp)
  rw [← hw2]
  clear hw2
  have HR2 : Hid (∀ w3 : World, Below w2.heap.size w2 w3 → Calls Try.prog 37 #[.agg #[.int .i64 b, .int .i64 n], .int .i64 y1, .int .i64 (IntKind.i64.wrap (i + 1))] w3 (Gv t [] w3)) := fun w3 _ => by rw [HWI.out]; exact HR.out w3
  clear HR HL
  have HS : Hid (∀ w' : World, (∀ q, q < w2.heap.size → q ≠ w.heap.size → w'.heap[q]? = w2.heap[q]?) → w'.cell? ⟨BS, 0, none⟩ = some (.int .i64 b) ∧ w'.cell? ⟨BS, 1, none⟩ = some (.int .i64 n) ∧ w'.cell? ⟨BM, 0, none⟩ = some (.int .i64 i)) := fun w' hq => ⟨(by rw [cell_at ((hq _ (heap_lt (HBS.out.wide in_nil HB2.out).2) (by omega)).trans (HBS.out.wide in_nil HB2.out).2)]; rfl), (by rw [cell_at ((hq _ (heap_lt (HBS.out.wide in_nil HB2.out).2) (by omega)).trans (HBS.out.wide in_nil HB2.out).2)]; rfl), (by rw [cell_at ((hq _ (heap_lt (HBM.out.wide in_nil HB2.out).2) (by omega)).trans (HBM.out.wide in_nil HB2.out).2)]; rfl)⟩
  have hS2 : w2.cell? ⟨BS, 0, none⟩ = some (.int .i64 b) ∧ w2.cell? ⟨BS, 1, none⟩ = some (.int .i64 n) ∧ w2.cell? ⟨BM, 0, none⟩ = some (.int .i64 i) := HS.out w2 (fun _ _ _ => rfl)
  obtain ⟨s0, s1, s2⟩ := hS2
  have yS : BS < w2.heap.size := heap_lt (HBS.out.wide in_nil HB2.out).2
  have yM : BM < w2.heap.size := heap_lt (HBM.out.wide in_nil HB2.out).2
  clear cS0 cS1 cM0 xS xM
  go_region_held3 (fun w' => w'.cell? ⟨BS, 0, none⟩ = some (.int .i64 b) ∧ w'.cell? ⟨BS, 1, none⟩ = some (.int .i64 n) ∧ w'.cell? ⟨BM, 0, none⟩ = some (.int .i64 i)) (first | go_keep | exact hS | exact hS5) (first
    | (go_at_call 39; refine (HK.out _).mono ?_; rintro e w3 ⟨rfl, hb3⟩; have HB3 : Hid (Below w2.heap.size w2 w3) := below_then (bl_drew1 _) hb3; have hS : w3.cell? ⟨BS, 0, none⟩ = some (.int .i64 b) ∧ w3.cell? ⟨BS, 1, none⟩ = some (.int .i64 n) ∧ w3.cell? ⟨BM, 0, none⟩ = some (.int .i64 i) := HS.out w3 (fun q hq _ => HB3.out.block q hq); clear hb3)
    | (go_at_call 37; refine (HR2.out _ HB3.out).mono ?_; rintro e w4 h4; obtain ⟨cs, w5, rfl, hz, hst, hr, hold⟩ := gv_put (w := w) (F := F) (R := w.heap.size) h4 (by rw [HB3.out.block _ (heap_lt HG0.out)]; exact HG0.out) rfl (by simp) (below_then HB2.out HB3.out) (by omega) (by simp); have hS : w4.cell? ⟨BS, 0, none⟩ = some (.int .i64 b) ∧ w4.cell? ⟨BS, 1, none⟩ = some (.int .i64 n) ∧ w4.cell? ⟨BM, 0, none⟩ = some (.int .i64 i) := HS.out w4 (fun q hq _ => ((gv_below h4).block q (Nat.lt_of_lt_of_le hq HB3.out.size)).trans (HB3.out.block q hq)); have hS5 : w5.cell? ⟨BS, 0, none⟩ = some (.int .i64 b) ∧ w5.cell? ⟨BS, 1, none⟩ = some (.int .i64 n) ∧ w5.cell? ⟨BM, 0, none⟩ = some (.int .i64 i) := HS.out w5 (fun q hq hqr => (hold.out q (Nat.lt_of_lt_of_le hq HB3.out.size) hqr).trans (HB3.out.block q hq)); clear h4))
  all_goals (go_wp2_with fail; exact ret_tn rfl rfl hr.out.1 hz rfl hr.out.2)
set_option maxRecDepth 100000 in
theorem count_of {w : World} {F : List Nat} {b n c i : Int} {h : Int → T}  (hs : SiteOk b n) (hc : 0 ≤ c ∧ c ≤ 100) (hc1 : ∀ (z : Int) (w' : World) (F' : List Nat) (BS BM : Nat), An z → (∀ q ∈ F', q < w'.heap.size) → Bx F' w' BS 56 #[.int .i64 b, .int .i64 n] → Bx F' w' BM 3 #[.int .i64 i] → Calls Try.prog 63 #[.int .i64 z, .pointer (some ⟨BS, 0, none⟩), .pointer (some ⟨BM, 0, none⟩)] w' (Gv (h z) F' w')) (hF : ∀ q ∈ F, q < w.heap.size)  : Calls Try.prog 37 #[.agg #[.int .i64 b, .int .i64 n], .int .i64 c, .int .i64 i] w (Gv (readT b c h) F w) := by
  have HFL : Hid (∀ q ∈ F, q < w.heap.size) := hF
  clear hF
  go_enter Try.func37, Try.ntmps37
  go_wp2_with fail
  obtain ⟨w2, hw2⟩ : ∃ w2, w2 = (World.alloc (World.alloc (World.alloc w (.cells #[.int .i64 b, .int .i64 n] 56)) (.cells #[.int .i64 i] 3)) (.cells #[.int .i64 0, .int .i64 0, .int .i64 0, .int .i64 0, .nilFunc] 54)) := ⟨_, rfl⟩
  have HB2 : Hid (Below w.heap.size w w2) := by rw [hw2]; exact bl3 _ _ _ _
  have HG0 : Hid (w2.heap[w.heap.size]? = some (.cells #[.int .i64 b, .int .i64 n] 56 (0, 0))) := by rw [hw2]; exact hp_past (hp_past (hp_at (by simp)))
  have HG1 : Hid (w2.heap[w.heap.size + 1]? = some (.cells #[.int .i64 i] 3 (0, 0))) := by rw [hw2]; exact hp_past (hp_at (by simp))
  have HG2 : Hid (w2.heap[w.heap.size + 1 + 1]? = some (.cells #[.int .i64 0, .int .i64 0, .int .i64 0, .int .i64 0, .nilFunc] 54 (0, 0))) := by rw [hw2]; exact hp_at (by simp)
  rw [← hw2]
  clear hw2
  have HLO : Hid (∀ q ∈ (w.heap.size) :: (w.heap.size + 1) :: F, q < w2.heap.size) := lo_cons (heap_lt HG0.out) (lo_cons (heap_lt HG1.out) (lo_nil HFL.out HB2.out))
  have HFV : Hid (Fv encI An h ((w.heap.size) :: (w.heap.size + 1) :: F) w2 (.func (.func 63) #[] #[.pointer (some ⟨w.heap.size, 0, none⟩), .pointer (some ⟨w.heap.size + 1, 0, none⟩)])) := fv_mk HLO.out (ent Try.func63 (by kernel_rfl) rfl) (fun z hz w' hu => by simpa [encI] using hc1 z w' _ _ _ hz (fun q hq => Nat.lt_of_lt_of_le (HLO.out q hq) hu.1) (Bx.un ⟨by simp, HG0.out⟩ hu) (Bx.un ⟨by simp, HG1.out⟩ hu))
  have HNW : Hid (∀ q ∈ (w.heap.size) :: (w.heap.size + 1) :: F, q ∈ F ∨ w.heap.size ≤ q) := nw_cons (by omega) (nw_cons (by omega) nw_nil)
  have HNI : Hid (w.heap.size + 1 + 1 ∉ (w.heap.size) :: (w.heap.size + 1) :: F) := ni_cons (by omega) (ni_cons (by omega) (ni_nil HFL.out (by omega)))
  refine (read_any hs hc HFV.out).mono ?_
  rintro e w4 h4
  obtain ⟨cs, w5, rfl, hz, hst, hr, hold⟩ := gv_put (w := w) (F := F) (R := w.heap.size + 1 + 1) h4 HG2.out rfl HNI.out HB2.out (by omega) HNW.out
  clear h4
  go_wp2_with fail
  exact ret_tn rfl rfl hr.out.1 hz rfl hr.out.2
theorem count_any {b n : Int} (hs : SiteOk b n) : ∀ (f : Nat) (w : World) (c i : Int) (F : List Nat), (∀ q ∈ F, q < w.heap.size) → (0 ≤ c ∧ c ≤ 100) → 0 ≤ i → i + f = n → Calls Try.prog 37 #[.agg #[.int .i64 b, .int .i64 n], .int .i64 c, .int .i64 i] w (Gv (cntT b n f c i) F w) := by
  intro f
  have hn := hs.2
  induction f with
  | zero =>
    intro w c i F hF hc h0 hi
    refine count_of hs hc (fun z w' F' BS BM _ hF' hS hM => ?_) hF
    by_cases hl : leadV z n = 0
    · exact count1_no hl hF' hS hM
    · exact count1_full hl (by omega) hF' hS hM
  | succ f ih =>
    intro w c i F hF hc h0 hi
    refine count_of hs hc (fun z w' F' BS BM _ hF' hS hM => ?_) hF
    by_cases hl : leadV z n = 0
    · rw [if_pos hl]; exact count1_no hl hF' hS hM
    · rw [if_neg hl]
      obtain ⟨e1, e2⟩ := lead_of hl
      exact count1_on hs hl (by omega) (by omega) (fun w2 => ih w2 _ _ [] (by simp) (by unfold nxtV keyV; omega) (by omega) (by omega)) hF' hS hM
set_option maxRecDepth 100000 in
theorem goon1_no {w : World} {F : List Nat} {b n p i c k : Int} {id : FuncId} {first cap : Array Value} {h : Wy → T} {BS : Nat} {BM : Nat} {BT : Nat} {BC : Nat} {BK : Nat} (hc : 0 ≤ c ∧ c < 2 * n + 3) (hl : leadV p n = 0) (hf : Fv encW (WyOk n) h F w (.func (.func id) first cap)) (hF : ∀ q ∈ F, q < w.heap.size) (hS : Bx F w BS 56 #[.int .i64 b, .int .i64 n]) (hM : Bx F w BM 3 #[.int .i64 i]) (hT : Bx F w BT 87 #[.func (.func id) first cap]) (hC : Bx F w BC 3 #[.int .i64 c]) (hK : Bx F w BK 2 #[.int .i64 k]) : Calls Try.prog 95 #[.int .i64 p, .pointer (some ⟨BS, 0, none⟩), .pointer (some ⟨BM, 0, none⟩), .pointer (some ⟨BT, 0, none⟩), .pointer (some ⟨BC, 0, none⟩), .pointer (some ⟨BK, 0, none⟩)] w (Gv (h ⟨c, p, false, 0, 0⟩) F w) := by
  have HL : Hid (∀ w : World, Calls Try.prog 40 #[.int .i64 p, .int .i64 n] w fun e w' => e = .returned (.tuple #[.int .i64 (leadV p n), .bool false]) ∧ w' = w) := fun w => by have := leads_any w p n; rw [show decide (leadV p n ≠ 0) = false by simp [hl]] at this; exact this
  have HC : Hid (∀ w', Un F w w' → Calls Try.prog id (first ++ #[.agg #[.int .i64 c, .int .i64 p, .bool false, .int .i64 0, .int .i64 0]] ++ cap) w' (Gv (h ⟨c, p, false, 0, 0⟩) F w')) := fun w' hu => by have := (hf.get).2 ⟨c, p, false, 0, 0⟩ ⟨hc, by simp⟩ w' hu; simpa [encW] using this
  have he := (hf.get).1
  have HFL : Hid (∀ q ∈ F, q < w.heap.size) := hF
  have HBS : Hid (Bx F w BS 56 #[.int .i64 b, .int .i64 n]) := hS
  have cS0 := hS.cell 0 rfl
  have cS1 := hS.cell 1 rfl
  have xS := hS.lt
  have xSb : BS < w.heap.size + 1 := by omega
  have xSc : BS < w.heap.size + 1 + 1 := by omega
  have HBM : Hid (Bx F w BM 3 #[.int .i64 i]) := hM
  have cM0 := hM.cell 0 rfl
  have xM := hM.lt
  have xMb : BM < w.heap.size + 1 := by omega
  have xMc : BM < w.heap.size + 1 + 1 := by omega
  have HBT : Hid (Bx F w BT 87 #[.func (.func id) first cap]) := hT
  have cT0 := hT.cell 0 rfl
  have xT := hT.lt
  have xTb : BT < w.heap.size + 1 := by omega
  have xTc : BT < w.heap.size + 1 + 1 := by omega
  have HBC : Hid (Bx F w BC 3 #[.int .i64 c]) := hC
  have cC0 := hC.cell 0 rfl
  have xC := hC.lt
  have xCb : BC < w.heap.size + 1 := by omega
  have xCc : BC < w.heap.size + 1 + 1 := by omega
  have HBK : Hid (Bx F w BK 2 #[.int .i64 k]) := hK
  have cK0 := hK.cell 0 rfl
  have xK := hK.lt
  have xKb : BK < w.heap.size + 1 := by omega
  have xKc : BK < w.heap.size + 1 + 1 := by omega
  clear hF hS hM hT hC hK
  clear hl hf hc
  generalize leadV p n = d at *
  generalize h ⟨c, p, false, 0, 0⟩ = t at *
  go_enter Try.func95, Try.ntmps95
  go_wp2_with fail
  refine (HL.out _).mono ?_
  rintro e w1 ⟨rfl, rfl⟩
  go_wp2_with fail
  obtain ⟨w2, hw2⟩ : ∃ w2, w2 = (World.alloc (World.alloc (World.alloc w (.cells #[.int .i64 p] 2)) (.cells #[.int .i64 0, .int .i64 0, .int .i64 0, .int .i64 0, .nilFunc] 54)) (.cells #[.int .i64 d] 3)) := ⟨_, rfl⟩
  have HB2 : Hid (Below w.heap.size w w2) := by rw [hw2]; exact bl3 _ _ _ _
  have HG0 : Hid (w2.heap[w.heap.size]? = some (.cells #[.int .i64 p] 2 (0, 0))) := by rw [hw2]; exact hp_past (hp_past (hp_at (by simp)))
  have HG1 : Hid (w2.heap[w.heap.size + 1]? = some (.cells #[.int .i64 0, .int .i64 0, .int .i64 0, .int .i64 0, .nilFunc] 54 (0, 0))) := by rw [hw2]; exact hp_past (hp_at (by simp))
  have HG2 : Hid (w2.heap[w.heap.size + 1 + 1]? = some (.cells #[.int .i64 d] 3 (0, 0))) := by rw [hw2]; exact hp_at (by simp)
  rw [← hw2]
  clear hw2
  have HNW : Hid (∀ q ∈ F, q ∈ F ∨ w.heap.size ≤ q) := nw_nil
  have HNI : Hid (w.heap.size + 1 ∉ F) := ni_nil HFL.out (by omega)
  have HCC := HC.out w2 (Un.of_below HB2.out HFL.out)
  refine (HCC).mono ?_
  rintro e w4 h4
  obtain ⟨cs, w5, rfl, hz, hst, hr, hold⟩ := gv_put (w := w) (F := F) (R := w.heap.size + 1) h4 HG1.out rfl HNI.out HB2.out (by omega) HNW.out
  clear h4
  go_wp2_with fail
  exact ret_tn rfl rfl hr.out.1 hz rfl hr.out.2
set_option maxRecDepth 100000 in
theorem goon1_full {w : World} {F : List Nat} {b n p i c k : Int} {id : FuncId} {first cap : Array Value} {h : Wy → T} {BS : Nat} {BM : Nat} {BT : Nat} {BC : Nat} {BK : Nat} (hc : 0 ≤ c ∧ c < 2 * n + 3) (hl : leadV p n ≠ 0) (hi : i = n) (hf : Fv encW (WyOk n) h F w (.func (.func id) first cap)) (hF : ∀ q ∈ F, q < w.heap.size) (hS : Bx F w BS 56 #[.int .i64 b, .int .i64 n]) (hM : Bx F w BM 3 #[.int .i64 i]) (hT : Bx F w BT 87 #[.func (.func id) first cap]) (hC : Bx F w BC 3 #[.int .i64 c]) (hK : Bx F w BK 2 #[.int .i64 k]) : Calls Try.prog 95 #[.int .i64 p, .pointer (some ⟨BS, 0, none⟩), .pointer (some ⟨BM, 0, none⟩), .pointer (some ⟨BT, 0, none⟩), .pointer (some ⟨BC, 0, none⟩), .pointer (some ⟨BK, 0, none⟩)] w (Gv (h ⟨c, p, false, 0, 0⟩) F w) := by
  have HL : Hid (∀ w : World, Calls Try.prog 40 #[.int .i64 p, .int .i64 n] w fun e w' => e = .returned (.tuple #[.int .i64 (leadV p n), .bool true]) ∧ w' = w) := fun w => by have := leads_any w p n; rw [show decide (leadV p n ≠ 0) = true by simp [hl]] at this; exact this
  have HC : Hid (∀ w', Un F w w' → Calls Try.prog id (first ++ #[.agg #[.int .i64 c, .int .i64 p, .bool false, .int .i64 0, .int .i64 0]] ++ cap) w' (Gv (h ⟨c, p, false, 0, 0⟩) F w')) := fun w' hu => by have := (hf.get).2 ⟨c, p, false, 0, 0⟩ ⟨hc, by simp⟩ w' hu; simpa [encW] using this
  have he := (hf.get).1
  have HFL : Hid (∀ q ∈ F, q < w.heap.size) := hF
  have HBS : Hid (Bx F w BS 56 #[.int .i64 b, .int .i64 n]) := hS
  have cS0 := hS.cell 0 rfl
  have cS1 := hS.cell 1 rfl
  have xS := hS.lt
  have xSb : BS < w.heap.size + 1 := by omega
  have xSc : BS < w.heap.size + 1 + 1 := by omega
  have HBM : Hid (Bx F w BM 3 #[.int .i64 i]) := hM
  have cM0 := hM.cell 0 rfl
  have xM := hM.lt
  have xMb : BM < w.heap.size + 1 := by omega
  have xMc : BM < w.heap.size + 1 + 1 := by omega
  have HBT : Hid (Bx F w BT 87 #[.func (.func id) first cap]) := hT
  have cT0 := hT.cell 0 rfl
  have xT := hT.lt
  have xTb : BT < w.heap.size + 1 := by omega
  have xTc : BT < w.heap.size + 1 + 1 := by omega
  have HBC : Hid (Bx F w BC 3 #[.int .i64 c]) := hC
  have cC0 := hC.cell 0 rfl
  have xC := hC.lt
  have xCb : BC < w.heap.size + 1 := by omega
  have xCc : BC < w.heap.size + 1 + 1 := by omega
  have HBK : Hid (Bx F w BK 2 #[.int .i64 k]) := hK
  have cK0 := hK.cell 0 rfl
  have xK := hK.lt
  have xKb : BK < w.heap.size + 1 := by omega
  have xKc : BK < w.heap.size + 1 + 1 := by omega
  clear hF hS hM hT hC hK
  have hin : (i == n) = true := by simp [hi]
  clear hi
  clear hl hf hc
  generalize leadV p n = d at *
  generalize h ⟨c, p, false, 0, 0⟩ = t at *
  go_enter Try.func95, Try.ntmps95
  go_wp2_with fail
  refine (HL.out _).mono ?_
  rintro e w1 ⟨rfl, rfl⟩
  go_wp2_with fail
  obtain ⟨w2, hw2⟩ : ∃ w2, w2 = (World.alloc (World.alloc (World.alloc w (.cells #[.int .i64 p] 2)) (.cells #[.int .i64 0, .int .i64 0, .int .i64 0, .int .i64 0, .nilFunc] 54)) (.cells #[.int .i64 d] 3)) := ⟨_, rfl⟩
  have HB2 : Hid (Below w.heap.size w w2) := by rw [hw2]; exact bl3 _ _ _ _
  have HG0 : Hid (w2.heap[w.heap.size]? = some (.cells #[.int .i64 p] 2 (0, 0))) := by rw [hw2]; exact hp_past (hp_past (hp_at (by simp)))
  have HG1 : Hid (w2.heap[w.heap.size + 1]? = some (.cells #[.int .i64 0, .int .i64 0, .int .i64 0, .int .i64 0, .nilFunc] 54 (0, 0))) := by rw [hw2]; exact hp_past (hp_at (by simp))
  have HG2 : Hid (w2.heap[w.heap.size + 1 + 1]? = some (.cells #[.int .i64 d] 3 (0, 0))) := by rw [hw2]; exact hp_at (by simp)
  rw [← hw2]
  clear hw2
  have HNW : Hid (∀ q ∈ F, q ∈ F ∨ w.heap.size ≤ q) := nw_nil
  have HNI : Hid (w.heap.size + 1 ∉ F) := ni_nil HFL.out (by omega)
  have HCC := HC.out w2 (Un.of_below HB2.out HFL.out)
  refine (HCC).mono ?_
  rintro e w4 h4
  obtain ⟨cs, w5, rfl, hz, hst, hr, hold⟩ := gv_put (w := w) (F := F) (R := w.heap.size + 1) h4 HG1.out rfl HNI.out HB2.out (by omega) HNW.out
  clear h4
  go_wp2_with fail
  exact ret_tn rfl rfl hr.out.1 hz rfl hr.out.2
set_option maxRecDepth 100000 in
theorem goon11_end {w : World} {F : List Nat} {b n p i c k d v : Int} {id : FuncId} {first cap : Array Value} {h : Wy → T} {BK : Nat} {BT : Nat} {BC : Nat} {BP : Nat} {BD : Nat} {BS : Nat} {BM : Nat} (hc : 0 ≤ c ∧ c < 2 * n + 3) (hd : 1 ≤ d ∧ d ≤ n) (hk : k ≤ v) (hf : Fv encW (WyOk n) h F w (.func (.func id) first cap)) (hF : ∀ q ∈ F, q < w.heap.size) (hK : Bx F w BK 2 #[.int .i64 k]) (hT : Bx F w BT 87 #[.func (.func id) first cap]) (hC : Bx F w BC 3 #[.int .i64 c]) (hP : Bx F w BP 2 #[.int .i64 p]) (hD : Bx F w BD 3 #[.int .i64 d]) (hS : Bx F w BS 56 #[.int .i64 b, .int .i64 n]) (hM : Bx F w BM 3 #[.int .i64 i]) : Calls Try.prog 96 #[.int .i64 v, .pointer (some ⟨BK, 0, none⟩), .pointer (some ⟨BT, 0, none⟩), .pointer (some ⟨BC, 0, none⟩), .pointer (some ⟨BP, 0, none⟩), .pointer (some ⟨BD, 0, none⟩), .pointer (some ⟨BS, 0, none⟩), .pointer (some ⟨BM, 0, none⟩)] w (Gv (h ⟨c, p, true, d, v⟩) F w) := by
  have HC : Hid (∀ w', Un F w w' → Calls Try.prog id (first ++ #[.agg #[.int .i64 c, .int .i64 p, .bool true, .int .i64 d, .int .i64 v]] ++ cap) w' (Gv (h ⟨c, p, true, d, v⟩) F w')) := fun w' hu => by have := (hf.get).2 ⟨c, p, true, d, v⟩ ⟨hc, fun _ => hd⟩ w' hu; simpa [encW] using this
  have he := (hf.get).1
  have HFL : Hid (∀ q ∈ F, q < w.heap.size) := hF
  have HBK : Hid (Bx F w BK 2 #[.int .i64 k]) := hK
  have cK0 := hK.cell 0 rfl
  have xK := hK.lt
  have HBT : Hid (Bx F w BT 87 #[.func (.func id) first cap]) := hT
  have cT0 := hT.cell 0 rfl
  have xT := hT.lt
  have HBC : Hid (Bx F w BC 3 #[.int .i64 c]) := hC
  have cC0 := hC.cell 0 rfl
  have xC := hC.lt
  have HBP : Hid (Bx F w BP 2 #[.int .i64 p]) := hP
  have cP0 := hP.cell 0 rfl
  have xP := hP.lt
  have HBD : Hid (Bx F w BD 3 #[.int .i64 d]) := hD
  have cD0 := hD.cell 0 rfl
  have xD := hD.lt
  have HBS : Hid (Bx F w BS 56 #[.int .i64 b, .int .i64 n]) := hS
  have cS0 := hS.cell 0 rfl
  have cS1 := hS.cell 1 rfl
  have xS := hS.lt
  have HBM : Hid (Bx F w BM 3 #[.int .i64 i]) := hM
  have cM0 := hM.cell 0 rfl
  have xM := hM.lt
  clear hF hK hT hC hP hD hS hM
  have hkv : decide (k ≤ v) = true := by simpa using hk
  clear hf hc hd hk
  generalize h ⟨c, p, true, d, v⟩ = t at *
  go_enter Try.func96, Try.ntmps96
  go_wp2_with fail
  obtain ⟨w2, hw2⟩ : ∃ w2, w2 = (World.alloc w (.cells #[.int .i64 0, .int .i64 0, .int .i64 0, .int .i64 0, .nilFunc] 54)) := ⟨_, rfl⟩
  have HB2 : Hid (Below w.heap.size w w2) := by rw [hw2]; exact below_a1 _ _
  have HG0 : Hid (w2.heap[w.heap.size]? = some (.cells #[.int .i64 0, .int .i64 0, .int .i64 0, .int .i64 0, .nilFunc] 54 (0, 0))) := by rw [hw2]; exact hp_at (by simp)
  rw [← hw2]
  clear hw2
  have HNW : Hid (∀ q ∈ F, q ∈ F ∨ w.heap.size ≤ q) := nw_nil
  have HNI : Hid (w.heap.size ∉ F) := ni_nil HFL.out (by omega)
  have HCC := HC.out w2 (Un.of_below HB2.out HFL.out)
  refine (HCC).mono ?_
  rintro e w4 h4
  obtain ⟨cs, w5, rfl, hz, hst, hr, hold⟩ := gv_put (w := w) (F := F) (R := w.heap.size) h4 HG0.out rfl HNI.out HB2.out (by omega) HNW.out
  clear h4
  go_wp2_with fail
  exact ret_tn rfl rfl hr.out.1 hz rfl hr.out.2
set_option maxRecDepth 100000 in
theorem goon11_on {w : World} {F : List Nat} {b n p i c k d v : Int} {id : FuncId} {first cap : Array Value} {h : Wy → T} {g : Int → T} {BK : Nat} {BT : Nat} {BC : Nat} {BP : Nat} {BD : Nat} {BS : Nat} {BM : Nat} (hs : SiteOk b n) (hd : 1 ≤ d ∧ d ≤ n) (h0 : 0 ≤ i ∧ i ≤ 16) (hk : ¬ k ≤ v) (hf : Fv encW (WyOk n) h F w (.func (.func id) first cap)) (ih : ∀ (w' : World) (F' : List Nat) (c' : Int), (0 ≤ c' ∧ c' < 2 * n + 3) → (∀ q ∈ F', q < w'.heap.size) → Fv encW (WyOk n) h F' w' (.func (.func id) first cap) → Calls Try.prog 75 #[.agg #[.int .i64 b, .int .i64 n], .int .i64 c', .int .i64 (i + 1), .int .i64 k, (.func (.func id) first cap)] w' (Gv (g c') F' w')) (hF : ∀ q ∈ F, q < w.heap.size) (hK : Bx F w BK 2 #[.int .i64 k]) (hT : Bx F w BT 87 #[.func (.func id) first cap]) (hC : Bx F w BC 3 #[.int .i64 c]) (hP : Bx F w BP 2 #[.int .i64 p]) (hD : Bx F w BD 3 #[.int .i64 d]) (hS : Bx F w BS 56 #[.int .i64 b, .int .i64 n]) (hM : Bx F w BM 3 #[.int .i64 i]) : Calls Try.prog 96 #[.int .i64 v, .pointer (some ⟨BK, 0, none⟩), .pointer (some ⟨BT, 0, none⟩), .pointer (some ⟨BC, 0, none⟩), .pointer (some ⟨BP, 0, none⟩), .pointer (some ⟨BD, 0, none⟩), .pointer (some ⟨BS, 0, none⟩), .pointer (some ⟨BM, 0, none⟩)] w (Gv (g (nxtV d)) F w) := by
  have hy : 0 ≤ d ∧ d ≤ 100 := by have := hs.2; omega
  have HK : Hid (∀ w : World, Calls Try.prog 39 #[.int .i64 d] w fun e w' => e = .returned (.int .i64 (nxtV d)) ∧ Below w.heap.size w w') := fun w => nextof_b w hy
  have HR : Hid (∀ w' : World, Below w.heap.size w w' → Calls Try.prog 75 #[.agg #[.int .i64 b, .int .i64 n], .int .i64 (nxtV d), .int .i64 (i + 1), .int .i64 k, (.func (.func id) first cap)] w' (Gv (g (nxtV d)) F w')) := fun w' hb => ih w' F _ (nxt_own hd) (lo_nil hF hb) (hf.later hb)
  have HFL : Hid (∀ q ∈ F, q < w.heap.size) := hF
  have HBK : Hid (Bx F w BK 2 #[.int .i64 k]) := hK
  have cK0 := hK.cell 0 rfl
  have xK := hK.lt
  have HBT : Hid (Bx F w BT 87 #[.func (.func id) first cap]) := hT
  have cT0 := hT.cell 0 rfl
  have xT := hT.lt
  have HBC : Hid (Bx F w BC 3 #[.int .i64 c]) := hC
  have cC0 := hC.cell 0 rfl
  have xC := hC.lt
  have HBP : Hid (Bx F w BP 2 #[.int .i64 p]) := hP
  have cP0 := hP.cell 0 rfl
  have xP := hP.lt
  have HBD : Hid (Bx F w BD 3 #[.int .i64 d]) := hD
  have cD0 := hD.cell 0 rfl
  have xD := hD.lt
  have HBS : Hid (Bx F w BS 56 #[.int .i64 b, .int .i64 n]) := hS
  have cS0 := hS.cell 0 rfl
  have cS1 := hS.cell 1 rfl
  have xS := hS.lt
  have HBM : Hid (Bx F w BM 3 #[.int .i64 i]) := hM
  have cM0 := hM.cell 0 rfl
  have xM := hM.lt
  clear hF hK hT hC hP hD hS hM
  have hkv : decide (k ≤ v) = false := by simpa using hk
  have HWI : Hid (IntKind.i64.wrap (i + 1) = i + 1) := (by rw [IntKind.wrap_i64]; omega : IntKind.i64.wrap (i + 1) = i + 1)
  clear hs hf hd hk h0 ih hy
  generalize g (nxtV d) = t at *
  generalize nxtV d = y1 at *
  go_enter Try.func96, Try.ntmps96
  go_wp2_with fail
  obtain ⟨w2, hw2⟩ : ∃ w2, w2 = (World.alloc w (.cells #[.int .i64 0, .int .i64 0, .int .i64 0, .int .i64 0, .nilFunc] 54)) := ⟨_, rfl⟩
  have HB2 : Hid (Below w.heap.size w w2) := by rw [hw2]; exact below_a1 _ _
  have HG0 : Hid (w2.heap[w.heap.size]? = some (.cells #[.int .i64 0, .int .i64 0, .int .i64 0, .int .i64 0, .nilFunc] 54 (0, 0))) := by rw [hw2]; exact hp_at (by simp)
  rw [← hw2]
  clear hw2
  have HNW : Hid (∀ q ∈ F, q ∈ F ∨ w.heap.size ≤ q) := nw_nil
  have HNI : Hid (w.heap.size ∉ F) := ni_nil HFL.out (by omega)
  have HR2 : Hid (∀ w3 : World, Below w2.heap.size w2 w3 → Calls Try.prog 75 #[.agg #[.int .i64 b, .int .i64 n], .int .i64 y1, .int .i64 (IntKind.i64.wrap (i + 1)), .int .i64 k, (.func (.func id) first cap)] w3 (Gv t F w3)) := fun w3 hb => by rw [HWI.out]; exact HR.out w3 (below_then HB2.out hb)
  clear HR
  have HS : Hid (∀ w' : World, (∀ q, q < w2.heap.size → q ≠ w.heap.size → w'.heap[q]? = w2.heap[q]?) → w'.cell? ⟨BS, 0, none⟩ = some (.int .i64 b) ∧ w'.cell? ⟨BS, 1, none⟩ = some (.int .i64 n) ∧ w'.cell? ⟨BD, 0, none⟩ = some (.int .i64 d) ∧ w'.cell? ⟨BM, 0, none⟩ = some (.int .i64 i) ∧ w'.cell? ⟨BK, 0, none⟩ = some (.int .i64 k) ∧ w'.cell? ⟨BT, 0, none⟩ = some (.func (.func id) first cap)) := fun w' hq => ⟨(by rw [cell_at ((hq _ (heap_lt (HBS.out.wide in_nil HB2.out).2) (by omega)).trans (HBS.out.wide in_nil HB2.out).2)]; rfl), (by rw [cell_at ((hq _ (heap_lt (HBS.out.wide in_nil HB2.out).2) (by omega)).trans (HBS.out.wide in_nil HB2.out).2)]; rfl), (by rw [cell_at ((hq _ (heap_lt (HBD.out.wide in_nil HB2.out).2) (by omega)).trans (HBD.out.wide in_nil HB2.out).2)]; rfl), (by rw [cell_at ((hq _ (heap_lt (HBM.out.wide in_nil HB2.out).2) (by omega)).trans (HBM.out.wide in_nil HB2.out).2)]; rfl), (by rw [cell_at ((hq _ (heap_lt (HBK.out.wide in_nil HB2.out).2) (by omega)).trans (HBK.out.wide in_nil HB2.out).2)]; rfl), (by rw [cell_at ((hq _ (heap_lt (HBT.out.wide in_nil HB2.out).2) (by omega)).trans (HBT.out.wide in_nil HB2.out).2)]; rfl)⟩
  have hS2 : w2.cell? ⟨BS, 0, none⟩ = some (.int .i64 b) ∧ w2.cell? ⟨BS, 1, none⟩ = some (.int .i64 n) ∧ w2.cell? ⟨BD, 0, none⟩ = some (.int .i64 d) ∧ w2.cell? ⟨BM, 0, none⟩ = some (.int .i64 i) ∧ w2.cell? ⟨BK, 0, none⟩ = some (.int .i64 k) ∧ w2.cell? ⟨BT, 0, none⟩ = some (.func (.func id) first cap) := HS.out w2 (fun _ _ _ => rfl)
  obtain ⟨s0, s1, s2, s3, s4, s5⟩ := hS2
  have yS : BS < w2.heap.size := heap_lt (HBS.out.wide in_nil HB2.out).2
  have yD : BD < w2.heap.size := heap_lt (HBD.out.wide in_nil HB2.out).2
  have yM : BM < w2.heap.size := heap_lt (HBM.out.wide in_nil HB2.out).2
  have yK : BK < w2.heap.size := heap_lt (HBK.out.wide in_nil HB2.out).2
  have yT : BT < w2.heap.size := heap_lt (HBT.out.wide in_nil HB2.out).2
  clear cK0 cT0 cC0 cP0 cD0 cS0 cS1 cM0 xK xT xC xP xD xS xM
  go_region_held3 (fun w' => w'.cell? ⟨BS, 0, none⟩ = some (.int .i64 b) ∧ w'.cell? ⟨BS, 1, none⟩ = some (.int .i64 n) ∧ w'.cell? ⟨BD, 0, none⟩ = some (.int .i64 d) ∧ w'.cell? ⟨BM, 0, none⟩ = some (.int .i64 i) ∧ w'.cell? ⟨BK, 0, none⟩ = some (.int .i64 k) ∧ w'.cell? ⟨BT, 0, none⟩ = some (.func (.func id) first cap)) (first | go_keep | exact hS | exact hS5) (first
    | (go_at_call 39; refine (HK.out _).mono ?_; rintro e w3 ⟨rfl, hb3⟩; have HB3 : Hid (Below w2.heap.size w2 w3) := below_then (bl_drew1 _) hb3; have hS : w3.cell? ⟨BS, 0, none⟩ = some (.int .i64 b) ∧ w3.cell? ⟨BS, 1, none⟩ = some (.int .i64 n) ∧ w3.cell? ⟨BD, 0, none⟩ = some (.int .i64 d) ∧ w3.cell? ⟨BM, 0, none⟩ = some (.int .i64 i) ∧ w3.cell? ⟨BK, 0, none⟩ = some (.int .i64 k) ∧ w3.cell? ⟨BT, 0, none⟩ = some (.func (.func id) first cap) := HS.out w3 (fun q hq _ => HB3.out.block q hq); clear hb3)
    | (go_at_call 75; refine (HR2.out _ HB3.out).mono ?_; rintro e w4 h4; obtain ⟨cs, w5, rfl, hz, hst, hr, hold⟩ := gv_put (w := w) (F := F) (R := w.heap.size) h4 (by rw [HB3.out.block _ (heap_lt HG0.out)]; exact HG0.out) rfl HNI.out (below_then HB2.out HB3.out) (by omega) HNW.out; have hS : w4.cell? ⟨BS, 0, none⟩ = some (.int .i64 b) ∧ w4.cell? ⟨BS, 1, none⟩ = some (.int .i64 n) ∧ w4.cell? ⟨BD, 0, none⟩ = some (.int .i64 d) ∧ w4.cell? ⟨BM, 0, none⟩ = some (.int .i64 i) ∧ w4.cell? ⟨BK, 0, none⟩ = some (.int .i64 k) ∧ w4.cell? ⟨BT, 0, none⟩ = some (.func (.func id) first cap) := HS.out w4 (fun q hq _ => ((gv_below h4).block q (Nat.lt_of_lt_of_le hq HB3.out.size)).trans (HB3.out.block q hq)); have hS5 : w5.cell? ⟨BS, 0, none⟩ = some (.int .i64 b) ∧ w5.cell? ⟨BS, 1, none⟩ = some (.int .i64 n) ∧ w5.cell? ⟨BD, 0, none⟩ = some (.int .i64 d) ∧ w5.cell? ⟨BM, 0, none⟩ = some (.int .i64 i) ∧ w5.cell? ⟨BK, 0, none⟩ = some (.int .i64 k) ∧ w5.cell? ⟨BT, 0, none⟩ = some (.func (.func id) first cap) := HS.out w5 (fun q hq hqr => (hold.out q (Nat.lt_of_lt_of_le hq HB3.out.size) hqr).trans (HB3.out.block q hq)); clear h4))
  all_goals (go_wp2_with fail; exact ret_tn rfl rfl hr.out.1 hz rfl hr.out.2)
theorem goon11_x {w : World} {F : List Nat} {b n p i c k d v : Int} {id : FuncId} {first cap : Array Value} {h : Wy → T} {g : Int → T} {BK BT BC BP BD BS BM : Nat} (hs : SiteOk b n) (hc : 0 ≤ c ∧ c < 2 * n + 3) (hd : 1 ≤ d ∧ d ≤ n) (h0 : 0 ≤ i ∧ i ≤ 16) (hf : Fv encW (WyOk n) h F w (.func (.func id) first cap)) (ih : ∀ (w' : World) (F' : List Nat) (c' : Int), (0 ≤ c' ∧ c' < 2 * n + 3) → (∀ q ∈ F', q < w'.heap.size) → Fv encW (WyOk n) h F' w' (.func (.func id) first cap) → Calls Try.prog 75 #[.agg #[.int .i64 b, .int .i64 n], .int .i64 c', .int .i64 (i + 1), .int .i64 k, (.func (.func id) first cap)] w' (Gv (g c') F' w')) (hF : ∀ q ∈ F, q < w.heap.size) (hK : Bx F w BK 2 #[.int .i64 k]) (hT : Bx F w BT 87 #[.func (.func id) first cap]) (hC : Bx F w BC 3 #[.int .i64 c]) (hP : Bx F w BP 2 #[.int .i64 p]) (hD : Bx F w BD 3 #[.int .i64 d]) (hS : Bx F w BS 56 #[.int .i64 b, .int .i64 n]) (hM : Bx F w BM 3 #[.int .i64 i]) : Calls Try.prog 96 #[.int .i64 v, .pointer (some ⟨BK, 0, none⟩), .pointer (some ⟨BT, 0, none⟩), .pointer (some ⟨BC, 0, none⟩), .pointer (some ⟨BP, 0, none⟩), .pointer (some ⟨BD, 0, none⟩), .pointer (some ⟨BS, 0, none⟩), .pointer (some ⟨BM, 0, none⟩)] w (Gv (if k ≤ v then h ⟨c, p, true, d, v⟩ else g (nxtV d)) F w) := by
  by_cases hk : k ≤ v
  · rw [if_pos hk]; exact goon11_end hc hd hk hf hF hK hT hC hP hD hS hM
  · rw [if_neg hk]; exact goon11_on hs hd h0 hk hf ih hF hK hT hC hP hD hS hM
set_option maxRecDepth 100000 in
theorem goon1_on {w : World} {F : List Nat} {b n p i c k : Int} {id : FuncId} {first cap : Array Value} {h : Wy → T} {g gg : Int → T} {BS : Nat} {BM : Nat} {BT : Nat} {BC : Nat} {BK : Nat} (hs : SiteOk b n) (hc : 0 ≤ c ∧ c < 2 * n + 3) (hl : leadV p n ≠ 0) (hi : i ≠ n) (h0 : 0 ≤ i ∧ i ≤ 16) (hf : Fv encW (WyOk n) h F w (.func (.func id) first cap)) (ih : ∀ (w' : World) (F' : List Nat) (c' : Int), (0 ≤ c' ∧ c' < 2 * n + 3) → (∀ q ∈ F', q < w'.heap.size) → Fv encW (WyOk n) h F' w' (.func (.func id) first cap) → Calls Try.prog 75 #[.agg #[.int .i64 b, .int .i64 n], .int .i64 c', .int .i64 (i + 1), .int .i64 k, (.func (.func id) first cap)] w' (Gv (g c') F' w')) (hgg : ∀ v, gg v = if k ≤ v then h ⟨c, p, true, leadV p n, v⟩ else g (nxtV (leadV p n))) (hF : ∀ q ∈ F, q < w.heap.size) (hS : Bx F w BS 56 #[.int .i64 b, .int .i64 n]) (hM : Bx F w BM 3 #[.int .i64 i]) (hT : Bx F w BT 87 #[.func (.func id) first cap]) (hC : Bx F w BC 3 #[.int .i64 c]) (hK : Bx F w BK 2 #[.int .i64 k]) : Calls Try.prog 95 #[.int .i64 p, .pointer (some ⟨BS, 0, none⟩), .pointer (some ⟨BM, 0, none⟩), .pointer (some ⟨BT, 0, none⟩), .pointer (some ⟨BC, 0, none⟩), .pointer (some ⟨BK, 0, none⟩)] w (Gv (readT b (keyV (leadV p n)) gg) F w) := by
  have HL : Hid (∀ w : World, Calls Try.prog 40 #[.int .i64 p, .int .i64 n] w fun e w' => e = .returned (.tuple #[.int .i64 (leadV p n), .bool true]) ∧ w' = w) := fun w => by have := leads_any w p n; rw [show decide (leadV p n ≠ 0) = true by simp [hl]] at this; exact this
  have e2 : 1 ≤ leadV p n ∧ leadV p n ≤ n := by obtain ⟨e1, e2⟩ := lead_of hl; rw [e1]; exact e2
  have hy : 0 ≤ leadV p n ∧ leadV p n ≤ 100 := by have := hs.2; omega
  have HK : Hid (∀ w : World, Calls Try.prog 41 #[.int .i64 (leadV p n)] w fun e w' => e = .returned (.int .i64 (keyV (leadV p n))) ∧ Below w.heap.size w w') := fun w => keyof_b w hy
  have HFL : Hid (∀ q ∈ F, q < w.heap.size) := hF
  have HBS : Hid (Bx F w BS 56 #[.int .i64 b, .int .i64 n]) := hS
  have cS0 := hS.cell 0 rfl
  have cS1 := hS.cell 1 rfl
  have xS := hS.lt
  have xSb : BS < w.heap.size + 1 := by omega
  have xSc : BS < w.heap.size + 1 + 1 := by omega
  have HBM : Hid (Bx F w BM 3 #[.int .i64 i]) := hM
  have cM0 := hM.cell 0 rfl
  have xM := hM.lt
  have xMb : BM < w.heap.size + 1 := by omega
  have xMc : BM < w.heap.size + 1 + 1 := by omega
  have HBT : Hid (Bx F w BT 87 #[.func (.func id) first cap]) := hT
  have cT0 := hT.cell 0 rfl
  have xT := hT.lt
  have xTb : BT < w.heap.size + 1 := by omega
  have xTc : BT < w.heap.size + 1 + 1 := by omega
  have HBC : Hid (Bx F w BC 3 #[.int .i64 c]) := hC
  have cC0 := hC.cell 0 rfl
  have xC := hC.lt
  have xCb : BC < w.heap.size + 1 := by omega
  have xCc : BC < w.heap.size + 1 + 1 := by omega
  have HBK : Hid (Bx F w BK 2 #[.int .i64 k]) := hK
  have cK0 := hK.cell 0 rfl
  have xK := hK.lt
  have xKb : BK < w.heap.size + 1 := by omega
  have xKc : BK < w.heap.size + 1 + 1 := by omega
  clear hF hS hM hT hC hK
  have hin : (i == n) = false := by simp [hi]
  have HX : Hid (SiteOk b n ∧ (0 ≤ c ∧ c < 2 * n + 3) ∧ (1 ≤ leadV p n ∧ leadV p n ≤ n) ∧ (0 ≤ i ∧ i ≤ 16) ∧ 0 ≤ keyV (leadV p n) ∧ keyV (leadV p n) ≤ 100) := ⟨hs, hc, e2, h0, by have := hs.2; unfold keyV; omega, by have := hs.2; unfold keyV; omega⟩
  have HIH : Hid _ := ih
  have HFV : Hid (Fv encW (WyOk n) h F w (.func (.func id) first cap)) := hf
  have HGG : Hid (∀ v, gg v = if k ≤ v then h ⟨c, p, true, leadV p n, v⟩ else g (nxtV (leadV p n))) := hgg
  clear hs hl hi h0 ih hy hc hf e2 hgg
  generalize leadV p n = d at *
  generalize keyV d = y1 at *
  go_enter Try.func95, Try.ntmps95
  go_wp2_with fail
  refine (HL.out _).mono ?_
  rintro e w1 ⟨rfl, rfl⟩
  go_wp2_with fail
  obtain ⟨w2, hw2⟩ : ∃ w2, w2 = (World.alloc (World.alloc (World.alloc w (.cells #[.int .i64 p] 2)) (.cells #[.int .i64 0, .int .i64 0, .int .i64 0, .int .i64 0, .nilFunc] 54)) (.cells #[.int .i64 d] 3)) := ⟨_, rfl⟩
  have HB2 : Hid (Below w.heap.size w w2) := by rw [hw2]; exact bl3 _ _ _ _
  have HG0 : Hid (w2.heap[w.heap.size]? = some (.cells #[.int .i64 p] 2 (0, 0))) := by rw [hw2]; exact hp_past (hp_past (hp_at (by simp)))
  have HG1 : Hid (w2.heap[w.heap.size + 1]? = some (.cells #[.int .i64 0, .int .i64 0, .int .i64 0, .int .i64 0, .nilFunc] 54 (0, 0))) := by rw [hw2]; exact hp_past (hp_at (by simp))
  have HG2 : Hid (w2.heap[w.heap.size + 1 + 1]? = some (.cells #[.int .i64 d] 3 (0, 0))) := by rw [hw2]; exact hp_at (by simp)
  rw [← hw2]
  clear hw2
  have HLO : Hid (∀ q ∈ (w.heap.size) :: (w.heap.size + 1 + 1) :: F, q < w2.heap.size) := lo_cons (heap_lt HG0.out) (lo_cons (heap_lt HG2.out) (lo_nil HFL.out HB2.out))
  have HCF : Hid (Fv encI An gg ((w.heap.size) :: (w.heap.size + 1 + 1) :: F) w2 (.func (.func 96) #[] #[.pointer (some ⟨BK, 0, none⟩), .pointer (some ⟨BT, 0, none⟩), .pointer (some ⟨BC, 0, none⟩), .pointer (some ⟨w.heap.size, 0, none⟩), .pointer (some ⟨w.heap.size + 1 + 1, 0, none⟩), .pointer (some ⟨BS, 0, none⟩), .pointer (some ⟨BM, 0, none⟩)])) := fv_mk HLO.out (ent Try.func96 (by kernel_rfl) rfl) (fun z hz w' hu => by rw [HGG.out z]; simpa [encI] using goon11_x HX.out.1 HX.out.2.1 HX.out.2.2.1 HX.out.2.2.2.1 (((HFV.out.later HB2.out).wide (in_cons (in_cons in_nil)) HLO.out).un hu) HIH.out (fun q hq => Nat.lt_of_lt_of_le (HLO.out q hq) hu.1) ((HBK.out.wide (in_cons (in_cons in_nil)) HB2.out).un hu) ((HBT.out.wide (in_cons (in_cons in_nil)) HB2.out).un hu) ((HBC.out.wide (in_cons (in_cons in_nil)) HB2.out).un hu) (Bx.un ⟨by simp, HG0.out⟩ hu) (Bx.un ⟨by simp, HG2.out⟩ hu) ((HBS.out.wide (in_cons (in_cons in_nil)) HB2.out).un hu) ((HBM.out.wide (in_cons (in_cons in_nil)) HB2.out).un hu))
  have HNW : Hid (∀ q ∈ (w.heap.size) :: (w.heap.size + 1 + 1) :: F, q ∈ F ∨ w.heap.size ≤ q) := nw_cons (by omega) (nw_cons (by omega) nw_nil)
  have HNI : Hid (w.heap.size + 1 ∉ (w.heap.size) :: (w.heap.size + 1 + 1) :: F) := ni_cons (by omega) (ni_cons (by omega) (ni_nil HFL.out (by omega)))
  have HR2 : Hid (∀ w3 : World, Below w2.heap.size w2 w3 → Calls Try.prog 35 #[.agg #[.int .i64 b, .int .i64 n], .int .i64 y1, .func (.func 96) #[] #[.pointer (some ⟨BK, 0, none⟩), .pointer (some ⟨BT, 0, none⟩), .pointer (some ⟨BC, 0, none⟩), .pointer (some ⟨w.heap.size, 0, none⟩), .pointer (some ⟨w.heap.size + 1 + 1, 0, none⟩), .pointer (some ⟨BS, 0, none⟩), .pointer (some ⟨BM, 0, none⟩)]] w3 (Gv (readT b y1 gg) ((w.heap.size) :: (w.heap.size + 1 + 1) :: F) w3)) := fun w3 hb => read_any HX.out.1 HX.out.2.2.2.2 (HCF.out.later hb)
  clear HL HX HIH HFV HCF HLO HGG
  have HS : Hid (∀ w' : World, (∀ q, q < w2.heap.size → q ≠ w.heap.size + 1 → w'.heap[q]? = w2.heap[q]?) → w'.cell? ⟨BS, 0, none⟩ = some (.int .i64 b) ∧ w'.cell? ⟨BS, 1, none⟩ = some (.int .i64 n) ∧ w'.cell? ⟨w.heap.size + 1 + 1, 0, none⟩ = some (.int .i64 d)) := fun w' hq => ⟨(by rw [cell_at ((hq _ (heap_lt (HBS.out.wide in_nil HB2.out).2) (by omega)).trans (HBS.out.wide in_nil HB2.out).2)]; rfl), (by rw [cell_at ((hq _ (heap_lt (HBS.out.wide in_nil HB2.out).2) (by omega)).trans (HBS.out.wide in_nil HB2.out).2)]; rfl), (by rw [cell_at ((hq _ (heap_lt HG2.out) (by omega)).trans HG2.out)]; rfl)⟩
  have hS2 : w2.cell? ⟨BS, 0, none⟩ = some (.int .i64 b) ∧ w2.cell? ⟨BS, 1, none⟩ = some (.int .i64 n) ∧ w2.cell? ⟨w.heap.size + 1 + 1, 0, none⟩ = some (.int .i64 d) := HS.out w2 (fun _ _ _ => rfl)
  obtain ⟨s0, s1, s2⟩ := hS2
  have yS : BS < w2.heap.size := heap_lt (HBS.out.wide in_nil HB2.out).2
  have yD : w.heap.size + 1 + 1 < w2.heap.size := heap_lt HG2.out
  clear cK0 cT0 cC0 cS0 cS1 cM0 xK xT xC xS xM xKb xTb xCb xSb xMb xKc xTc xCc xSc xMc
  go_region_held3 (fun w' => w'.cell? ⟨BS, 0, none⟩ = some (.int .i64 b) ∧ w'.cell? ⟨BS, 1, none⟩ = some (.int .i64 n) ∧ w'.cell? ⟨w.heap.size + 1 + 1, 0, none⟩ = some (.int .i64 d)) (first | go_keep | exact hS | exact hS5) (first
    | (go_at_call 41; refine (HK.out _).mono ?_; rintro e w3 ⟨rfl, hb3⟩; have HB3 : Hid (Below w2.heap.size w2 w3) := below_then (bl_drew1 _) hb3; have hS : w3.cell? ⟨BS, 0, none⟩ = some (.int .i64 b) ∧ w3.cell? ⟨BS, 1, none⟩ = some (.int .i64 n) ∧ w3.cell? ⟨w.heap.size + 1 + 1, 0, none⟩ = some (.int .i64 d) := HS.out w3 (fun q hq _ => HB3.out.block q hq); clear hb3)
    | (go_at_call 35; refine (HR2.out _ HB3.out).mono ?_; rintro e w4 h4; obtain ⟨cs, w5, rfl, hz, hst, hr, hold⟩ := gv_put (w := w) (F := F) (R := w.heap.size + 1) h4 (by rw [HB3.out.block _ (heap_lt HG1.out)]; exact HG1.out) rfl HNI.out (below_then HB2.out HB3.out) (by omega) HNW.out; have hS : w4.cell? ⟨BS, 0, none⟩ = some (.int .i64 b) ∧ w4.cell? ⟨BS, 1, none⟩ = some (.int .i64 n) ∧ w4.cell? ⟨w.heap.size + 1 + 1, 0, none⟩ = some (.int .i64 d) := HS.out w4 (fun q hq _ => ((gv_below h4).block q (Nat.lt_of_lt_of_le hq HB3.out.size)).trans (HB3.out.block q hq)); have hS5 : w5.cell? ⟨BS, 0, none⟩ = some (.int .i64 b) ∧ w5.cell? ⟨BS, 1, none⟩ = some (.int .i64 n) ∧ w5.cell? ⟨w.heap.size + 1 + 1, 0, none⟩ = some (.int .i64 d) := HS.out w5 (fun q hq hqr => (hold.out q (Nat.lt_of_lt_of_le hq HB3.out.size) hqr).trans (HB3.out.block q hq)); clear h4))
  all_goals (go_wp2_with fail; exact ret_tn rfl rfl hr.out.1 hz rfl hr.out.2)
set_option maxRecDepth 100000 in
theorem goon_of {w : World} {F : List Nat} {b n c i k : Int} {id : FuncId} {first cap : Array Value} {h : Wy → T} {g : Int → T}  (hs : SiteOk b n) (hc : 0 ≤ c ∧ c ≤ 100) (hf : Fv encW (WyOk n) h F w (.func (.func id) first cap)) (hc1 : ∀ (z : Int) (w' : World) (F' : List Nat) (BS BM BT BC BK : Nat), An z → Fv encW (WyOk n) h F' w' (.func (.func id) first cap) → (∀ q ∈ F', q < w'.heap.size) → Bx F' w' BS 56 #[.int .i64 b, .int .i64 n] → Bx F' w' BM 3 #[.int .i64 i] → Bx F' w' BT 87 #[.func (.func id) first cap] → Bx F' w' BC 3 #[.int .i64 c] → Bx F' w' BK 2 #[.int .i64 k] → Calls Try.prog 95 #[.int .i64 z, .pointer (some ⟨BS, 0, none⟩), .pointer (some ⟨BM, 0, none⟩), .pointer (some ⟨BT, 0, none⟩), .pointer (some ⟨BC, 0, none⟩), .pointer (some ⟨BK, 0, none⟩)] w' (Gv (g z) F' w')) (hF : ∀ q ∈ F, q < w.heap.size)  : Calls Try.prog 75 #[.agg #[.int .i64 b, .int .i64 n], .int .i64 c, .int .i64 i, .int .i64 k, (.func (.func id) first cap)] w (Gv (readT b c g) F w) := by
  have HFV : Hid (Fv encW (WyOk n) h F w (.func (.func id) first cap)) := hf
  clear hf
  have HFL : Hid (∀ q ∈ F, q < w.heap.size) := hF
  clear hF
  go_enter Try.func75, Try.ntmps75
  go_wp2_with fail
  obtain ⟨w2, hw2⟩ : ∃ w2, w2 = (World.alloc (World.alloc (World.alloc (World.alloc (World.alloc (World.alloc w (.cells #[.int .i64 b, .int .i64 n] 56)) (.cells #[.int .i64 c] 3)) (.cells #[.int .i64 i] 3)) (.cells #[.int .i64 k] 2)) (.cells #[.func (.func id) first cap] 87)) (.cells #[.int .i64 0, .int .i64 0, .int .i64 0, .int .i64 0, .nilFunc] 54)) := ⟨_, rfl⟩
  have HB2 : Hid (Below w.heap.size w w2) := by rw [hw2]; exact bl6 _ _ _ _ _ _ _
  have HG0 : Hid (w2.heap[w.heap.size]? = some (.cells #[.int .i64 b, .int .i64 n] 56 (0, 0))) := by rw [hw2]; exact hp_past (hp_past (hp_past (hp_past (hp_past (hp_at (by simp))))))
  have HG1 : Hid (w2.heap[w.heap.size + 1]? = some (.cells #[.int .i64 c] 3 (0, 0))) := by rw [hw2]; exact hp_past (hp_past (hp_past (hp_past (hp_at (by simp)))))
  have HG2 : Hid (w2.heap[w.heap.size + 1 + 1]? = some (.cells #[.int .i64 i] 3 (0, 0))) := by rw [hw2]; exact hp_past (hp_past (hp_past (hp_at (by simp))))
  have HG3 : Hid (w2.heap[w.heap.size + 1 + 1 + 1]? = some (.cells #[.int .i64 k] 2 (0, 0))) := by rw [hw2]; exact hp_past (hp_past (hp_at (by simp)))
  have HG4 : Hid (w2.heap[w.heap.size + 1 + 1 + 1 + 1]? = some (.cells #[.func (.func id) first cap] 87 (0, 0))) := by rw [hw2]; exact hp_past (hp_at (by simp))
  have HG5 : Hid (w2.heap[w.heap.size + 1 + 1 + 1 + 1 + 1]? = some (.cells #[.int .i64 0, .int .i64 0, .int .i64 0, .int .i64 0, .nilFunc] 54 (0, 0))) := by rw [hw2]; exact hp_at (by simp)
  rw [← hw2]
  clear hw2
  have HLO : Hid (∀ q ∈ (w.heap.size) :: (w.heap.size + 1) :: (w.heap.size + 1 + 1) :: (w.heap.size + 1 + 1 + 1) :: (w.heap.size + 1 + 1 + 1 + 1) :: F, q < w2.heap.size) := lo_cons (heap_lt HG0.out) (lo_cons (heap_lt HG1.out) (lo_cons (heap_lt HG2.out) (lo_cons (heap_lt HG3.out) (lo_cons (heap_lt HG4.out) (lo_nil HFL.out HB2.out)))))
  have HCF : Hid (Fv encI An g ((w.heap.size) :: (w.heap.size + 1) :: (w.heap.size + 1 + 1) :: (w.heap.size + 1 + 1 + 1) :: (w.heap.size + 1 + 1 + 1 + 1) :: F) w2 (.func (.func 95) #[] #[.pointer (some ⟨w.heap.size, 0, none⟩), .pointer (some ⟨w.heap.size + 1 + 1, 0, none⟩), .pointer (some ⟨w.heap.size + 1 + 1 + 1 + 1, 0, none⟩), .pointer (some ⟨w.heap.size + 1, 0, none⟩), .pointer (some ⟨w.heap.size + 1 + 1 + 1, 0, none⟩)])) := fv_mk HLO.out (ent Try.func95 (by kernel_rfl) rfl) (fun z hz w' hu => by simpa [encI] using hc1 z w' _ _ _ _ _ _ hz (((HFV.out.later HB2.out).wide (in_cons (in_cons (in_cons (in_cons (in_cons in_nil))))) HLO.out).un hu) (fun q hq => Nat.lt_of_lt_of_le (HLO.out q hq) hu.1) (Bx.un ⟨by simp, HG0.out⟩ hu) (Bx.un ⟨by simp, HG2.out⟩ hu) (Bx.un ⟨by simp, HG4.out⟩ hu) (Bx.un ⟨by simp, HG1.out⟩ hu) (Bx.un ⟨by simp, HG3.out⟩ hu))
  have HNW : Hid (∀ q ∈ (w.heap.size) :: (w.heap.size + 1) :: (w.heap.size + 1 + 1) :: (w.heap.size + 1 + 1 + 1) :: (w.heap.size + 1 + 1 + 1 + 1) :: F, q ∈ F ∨ w.heap.size ≤ q) := nw_cons (by omega) (nw_cons (by omega) (nw_cons (by omega) (nw_cons (by omega) (nw_cons (by omega) nw_nil))))
  have HNI : Hid (w.heap.size + 1 + 1 + 1 + 1 + 1 ∉ (w.heap.size) :: (w.heap.size + 1) :: (w.heap.size + 1 + 1) :: (w.heap.size + 1 + 1 + 1) :: (w.heap.size + 1 + 1 + 1 + 1) :: F) := ni_cons (by omega) (ni_cons (by omega) (ni_cons (by omega) (ni_cons (by omega) (ni_cons (by omega) (ni_nil HFL.out (by omega))))))
  refine (read_any hs hc HCF.out).mono ?_
  rintro e w4 h4
  obtain ⟨cs, w5, rfl, hz, hst, hr, hold⟩ := gv_put (w := w) (F := F) (R := w.heap.size + 1 + 1 + 1 + 1 + 1) h4 HG5.out rfl HNI.out HB2.out (by omega) HNW.out
  clear h4
  go_wp2_with fail
  exact ret_tn rfl rfl hr.out.1 hz rfl hr.out.2
theorem goon_any {b n k : Int} {id : FuncId} {first cap : Array Value} {h : Wy → T} (hs : SiteOk b n) : ∀ (fu : Nat) (w : World) (c i : Int) (F : List Nat), (∀ q ∈ F, q < w.heap.size) → (0 ≤ c ∧ c < 2 * n + 3) → 0 ≤ i → i + fu = n → Fv encW (WyOk n) h F w (.func (.func id) first cap) → Calls Try.prog 75 #[.agg #[.int .i64 b, .int .i64 n], .int .i64 c, .int .i64 i, .int .i64 k, (.func (.func id) first cap)] w (Gv (goT b n k h fu c) F w) := by
  intro fu
  have hn := hs.2
  induction fu with
  | zero =>
    intro w c i F hF hc h0 hi hf
    refine goon_of hs (by omega) hf (fun z w' F' BS BM BT BC BK _ hf' hF' hS hM hT hC hK => ?_) hF
    by_cases hl : leadV z n = 0
    · exact goon1_no hc hl hf' hF' hS hM hT hC hK
    · exact goon1_full hc hl (by omega) hf' hF' hS hM hT hC hK
  | succ fu ih =>
    intro w c i F hF hc h0 hi hf
    refine goon_of hs (by omega) hf (fun z w' F' BS BM BT BC BK _ hf' hF' hS hM hT hC hK => ?_) hF
    by_cases hl : leadV z n = 0
    · rw [if_pos hl]; exact goon1_no hc hl hf' hF' hS hM hT hC hK
    · rw [if_neg hl]
      exact goon1_on (g := goT b n k h fu) hs hc hl (by omega) (by omega) hf' (fun w2 F2 c2 hc2 hF2 hf2 => ih w2 c2 _ F2 hF2 hc2 (by omega) (by omega) hf2) (fun _ => rfl) hF' hS hM hT hC hK
set_option maxRecDepth 100000 in
theorem goto_any {w : World} {F : List Nat} {b n k : Int} {id : FuncId} {first cap : Array Value} {h : Wy → T}  (hs : SiteOk b n) (hf : Fv encW (WyOk n) h F w (.func (.func id) first cap)) (hF : ∀ q ∈ F, q < w.heap.size)  : Calls Try.prog 46 #[.agg #[.int .i64 b, .int .i64 n], .int .i64 k, (.func (.func id) first cap)] w (Gv (goT b n k h n.toNat 0) F w) := by
  have HG : Hid (∀ w' : World, Below w.heap.size w w' → Calls Try.prog 75 #[.agg #[.int .i64 b, .int .i64 n], .int .i64 0, .int .i64 0, .int .i64 k, (.func (.func id) first cap)] w' (Gv (goT b n k h n.toNat 0) F w')) := fun w' hb => goon_any hs _ _ _ _ _ (lo_nil hF hb) (by have := hs.2; omega) (by omega) (by have := hs.2; omega) (hf.later hb)
  have HFL : Hid (∀ q ∈ F, q < w.heap.size) := hF
  clear hF
  clear hf hs
  generalize goT b n k h n.toNat 0 = t at *
  go_enter Try.func46, Try.ntmps46
  go_wp2_with fail
  obtain ⟨w2, hw2⟩ : ∃ w2, w2 = (World.alloc (World.alloc w (.cells #[.int .i64 b, .int .i64 n] 56)) (.cells #[.int .i64 0, .int .i64 0, .int .i64 0, .int .i64 0, .nilFunc] 54)) := ⟨_, rfl⟩
  have HB2 : Hid (Below w.heap.size w w2) := by rw [hw2]; exact bl2 _ _ _
  have HG0 : Hid (w2.heap[w.heap.size]? = some (.cells #[.int .i64 b, .int .i64 n] 56 (0, 0))) := by rw [hw2]; exact hp_past (hp_at (by simp))
  have HG1 : Hid (w2.heap[w.heap.size + 1]? = some (.cells #[.int .i64 0, .int .i64 0, .int .i64 0, .int .i64 0, .nilFunc] 54 (0, 0))) := by rw [hw2]; exact hp_at (by simp)
  rw [← hw2]
  clear hw2
  have HNW : Hid (∀ q ∈ F, q ∈ F ∨ w.heap.size ≤ q) := nw_nil
  have HNI : Hid (w.heap.size + 1 ∉ F) := ni_nil HFL.out (by omega)
  refine (HG.out w2 HB2.out).mono ?_
  rintro e w4 h4
  obtain ⟨cs, w5, rfl, hz, hst, hr, hold⟩ := gv_put (w := w) (F := F) (R := w.heap.size + 1) h4 HG1.out rfl HNI.out HB2.out (by omega) HNW.out
  clear h4
  go_wp2_with fail
  exact ret_tn rfl rfl hr.out.1 hz rfl hr.out.2
set_option maxRecDepth 100000 in
theorem give11_any {w : World} {F : List Nat} {b n d : Int} {BS : Nat} {BD : Nat} (hs : SiteOk b n) (hF : ∀ q ∈ F, q < w.heap.size) (hS : Bx F w BS 56 #[.int .i64 b, .int .i64 n]) (hD : Bx F w BD 3 #[.int .i64 d]) : Calls Try.prog 82 #[.pointer (some ⟨BS, 0, none⟩), .pointer (some ⟨BD, 0, none⟩)] w (Gv (putT b 1 d (doneT 0)) F w) := by
  have HW : Hid (∀ w : World, Calls Try.prog 52 #[.agg #[.int .i64 b, .int .i64 n], .int .i64 1, .int .i64 d, .func (.func 55) #[] #[]] w (Gv (putT b 1 d (doneT 0)) [] w)) := fun w => write_any hs (by omega) (fv_mk (F := []) (by simp) (ent Try.func55 (by kernel_rfl) rfl) (fun _ _ w' _ => by simpa [encU] using thru_any w' []))
  have HFL : Hid (∀ q ∈ F, q < w.heap.size) := hF
  have HBS : Hid (Bx F w BS 56 #[.int .i64 b, .int .i64 n]) := hS
  have cS0 := hS.cell 0 rfl
  have cS1 := hS.cell 1 rfl
  have xS := hS.lt
  have HBD : Hid (Bx F w BD 3 #[.int .i64 d]) := hD
  have cD0 := hD.cell 0 rfl
  have xD := hD.lt
  clear hF hS hD
  clear hs
  generalize putT b 1 d (doneT 0) = t at *
  go_enter Try.func82, Try.ntmps82
  go_wp2_with fail
  obtain ⟨w2, hw2⟩ : ∃ w2, w2 = (World.alloc w (.cells #[.int .i64 0, .int .i64 0, .int .i64 0, .int .i64 0, .nilFunc] 54)) := ⟨_, rfl⟩
  have HB2 : Hid (Below w.heap.size w w2) := by rw [hw2]; exact below_a1 _ _
  have HG0 : Hid (w2.heap[w.heap.size]? = some (.cells #[.int .i64 0, .int .i64 0, .int .i64 0, .int .i64 0, .nilFunc] 54 (0, 0))) := by rw [hw2]; exact hp_at (by simp)
  rw [← hw2]
  clear hw2
  refine (HW.out w2).mono ?_
  rintro e w4 h4
  obtain ⟨cs, w5, rfl, hz, hst, hr, hold⟩ := gv_put (w := w) (F := F) (R := w.heap.size) h4 HG0.out rfl (by simp) HB2.out (by omega) (by simp)
  clear h4
  go_wp2_with fail
  exact ret_tn rfl rfl hr.out.1 hz rfl hr.out.2
set_option maxRecDepth 100000 in
theorem give1_any {w : World} {F : List Nat} {b n d p : Int} {BS : Nat} {BD : Nat} (hs : SiteOk b n) (hd : 1 ≤ d ∧ d ≤ n) (hF : ∀ q ∈ F, q < w.heap.size) (hS : Bx F w BS 56 #[.int .i64 b, .int .i64 n]) (hD : Bx F w BD 3 #[.int .i64 d]) : Calls Try.prog 81 #[.int .i64 p, .pointer (some ⟨BS, 0, none⟩), .pointer (some ⟨BD, 0, none⟩)] w (Gv (putT b (nxtV d) p (putT b 1 d (doneT 0))) F w) := by
  have hy : 0 ≤ d ∧ d ≤ 100 := by have := hs.2; omega
  have HK : Hid (∀ w : World, Calls Try.prog 39 #[.int .i64 d] w fun e w' => e = .returned (.int .i64 (nxtV d)) ∧ Below w.heap.size w w') := fun w => nextof_b w hy
  have HX : Hid (SiteOk b n ∧ 0 ≤ nxtV d ∧ nxtV d ≤ 100) := ⟨hs, by unfold nxtV keyV; omega, by have := hs.2; unfold nxtV keyV; omega⟩
  have HFL : Hid (∀ q ∈ F, q < w.heap.size) := hF
  have HBS : Hid (Bx F w BS 56 #[.int .i64 b, .int .i64 n]) := hS
  have cS0 := hS.cell 0 rfl
  have cS1 := hS.cell 1 rfl
  have xS := hS.lt
  have HBD : Hid (Bx F w BD 3 #[.int .i64 d]) := hD
  have cD0 := hD.cell 0 rfl
  have xD := hD.lt
  clear hF hS hD
  clear hs hd hy
  generalize nxtV d = y1 at *
  go_enter Try.func81, Try.ntmps81
  go_wp2_with fail
  obtain ⟨w2, hw2⟩ : ∃ w2, w2 = (World.alloc w (.cells #[.int .i64 0, .int .i64 0, .int .i64 0, .int .i64 0, .nilFunc] 54)) := ⟨_, rfl⟩
  have HB2 : Hid (Below w.heap.size w w2) := by rw [hw2]; exact below_a1 _ _
  have HG0 : Hid (w2.heap[w.heap.size]? = some (.cells #[.int .i64 0, .int .i64 0, .int .i64 0, .int .i64 0, .nilFunc] 54 (0, 0))) := by rw [hw2]; exact hp_at (by simp)
  rw [← hw2]
  clear hw2
  have HLO : Hid (∀ q ∈ F, q < w2.heap.size) := lo_nil HFL.out HB2.out
  have HCF : Hid (Fv encU (fun _ => True) (fun _ => putT b 1 d (doneT 0)) (F) w2 (.func (.func 82) #[] #[.pointer (some ⟨BS, 0, none⟩), .pointer (some ⟨BD, 0, none⟩)])) := fv_mk HLO.out (ent Try.func82 (by kernel_rfl) rfl) (fun z hz w' hu => by simpa [encU] using give11_any HX.out.1 (fun q hq => Nat.lt_of_lt_of_le (HLO.out q hq) hu.1) ((HBS.out.wide (in_nil) HB2.out).un hu) ((HBD.out.wide (in_nil) HB2.out).un hu))
  have HNW : Hid (∀ q ∈ F, q ∈ F ∨ w.heap.size ≤ q) := nw_nil
  have HNI : Hid (w.heap.size ∉ F) := ni_nil HFL.out (by omega)
  have HR2 : Hid (∀ w3 : World, Below w2.heap.size w2 w3 → Calls Try.prog 52 #[.agg #[.int .i64 b, .int .i64 n], .int .i64 y1, .int .i64 p, .func (.func 82) #[] #[.pointer (some ⟨BS, 0, none⟩), .pointer (some ⟨BD, 0, none⟩)]] w3 (Gv (putT b y1 p (putT b 1 d (doneT 0))) F w3)) := fun w3 hb => write_any HX.out.1 HX.out.2 (HCF.out.later hb)
  clear HX HCF HLO
  have HS : Hid (∀ w' : World, (∀ q, q < w2.heap.size → q ≠ w.heap.size → w'.heap[q]? = w2.heap[q]?) → w'.cell? ⟨BS, 0, none⟩ = some (.int .i64 b) ∧ w'.cell? ⟨BS, 1, none⟩ = some (.int .i64 n) ∧ w'.cell? ⟨BD, 0, none⟩ = some (.int .i64 d)) := fun w' hq => ⟨(by rw [cell_at ((hq _ (heap_lt (HBS.out.wide in_nil HB2.out).2) (by omega)).trans (HBS.out.wide in_nil HB2.out).2)]; rfl), (by rw [cell_at ((hq _ (heap_lt (HBS.out.wide in_nil HB2.out).2) (by omega)).trans (HBS.out.wide in_nil HB2.out).2)]; rfl), (by rw [cell_at ((hq _ (heap_lt (HBD.out.wide in_nil HB2.out).2) (by omega)).trans (HBD.out.wide in_nil HB2.out).2)]; rfl)⟩
  have hS2 : w2.cell? ⟨BS, 0, none⟩ = some (.int .i64 b) ∧ w2.cell? ⟨BS, 1, none⟩ = some (.int .i64 n) ∧ w2.cell? ⟨BD, 0, none⟩ = some (.int .i64 d) := HS.out w2 (fun _ _ _ => rfl)
  obtain ⟨s0, s1, s2⟩ := hS2
  have yS : BS < w2.heap.size := heap_lt (HBS.out.wide in_nil HB2.out).2
  have yD : BD < w2.heap.size := heap_lt (HBD.out.wide in_nil HB2.out).2
  clear cS0 cS1 cD0 xS xD
  go_region_held3 (fun w' => w'.cell? ⟨BS, 0, none⟩ = some (.int .i64 b) ∧ w'.cell? ⟨BS, 1, none⟩ = some (.int .i64 n) ∧ w'.cell? ⟨BD, 0, none⟩ = some (.int .i64 d)) (first | go_keep | exact hS | exact hS5) (first
    | (go_at_call 39; refine (HK.out _).mono ?_; rintro e w3 ⟨rfl, hb3⟩; have HB3 : Hid (Below w2.heap.size w2 w3) := below_then (bl_drew1 _) hb3; have hS : w3.cell? ⟨BS, 0, none⟩ = some (.int .i64 b) ∧ w3.cell? ⟨BS, 1, none⟩ = some (.int .i64 n) ∧ w3.cell? ⟨BD, 0, none⟩ = some (.int .i64 d) := HS.out w3 (fun q hq _ => HB3.out.block q hq); clear hb3)
    | (go_at_call 52; refine (HR2.out _ HB3.out).mono ?_; rintro e w4 h4; obtain ⟨cs, w5, rfl, hz, hst, hr, hold⟩ := gv_put (w := w) (F := F) (R := w.heap.size) h4 (by rw [HB3.out.block _ (heap_lt HG0.out)]; exact HG0.out) rfl HNI.out (below_then HB2.out HB3.out) (by omega) HNW.out; have hS : w4.cell? ⟨BS, 0, none⟩ = some (.int .i64 b) ∧ w4.cell? ⟨BS, 1, none⟩ = some (.int .i64 n) ∧ w4.cell? ⟨BD, 0, none⟩ = some (.int .i64 d) := HS.out w4 (fun q hq _ => ((gv_below h4).block q (Nat.lt_of_lt_of_le hq HB3.out.size)).trans (HB3.out.block q hq)); have hS5 : w5.cell? ⟨BS, 0, none⟩ = some (.int .i64 b) ∧ w5.cell? ⟨BS, 1, none⟩ = some (.int .i64 n) ∧ w5.cell? ⟨BD, 0, none⟩ = some (.int .i64 d) := HS.out w5 (fun q hq hqr => (hold.out q (Nat.lt_of_lt_of_le hq HB3.out.size) hqr).trans (HB3.out.block q hq)); clear h4))
  all_goals (go_wp2_with fail; exact ret_tn rfl rfl hr.out.1 hz rfl hr.out.2)
set_option maxRecDepth 100000 in
theorem give_any {w : World} {F : List Nat} {b n d : Int}  (hs : SiteOk b n) (hd : 1 ≤ d ∧ d ≤ n) (hF : ∀ q ∈ F, q < w.heap.size)  : Calls Try.prog 59 #[.agg #[.int .i64 b, .int .i64 n], .int .i64 d] w (Gv (giveT b d) F w) := by
  have HFL : Hid (∀ q ∈ F, q < w.heap.size) := hF
  clear hF
  go_enter Try.func59, Try.ntmps59
  go_wp2_with fail
  obtain ⟨w2, hw2⟩ : ∃ w2, w2 = (World.alloc (World.alloc (World.alloc w (.cells #[.int .i64 b, .int .i64 n] 56)) (.cells #[.int .i64 d] 3)) (.cells #[.int .i64 0, .int .i64 0, .int .i64 0, .int .i64 0, .nilFunc] 54)) := ⟨_, rfl⟩
  have HB2 : Hid (Below w.heap.size w w2) := by rw [hw2]; exact bl3 _ _ _ _
  have HG0 : Hid (w2.heap[w.heap.size]? = some (.cells #[.int .i64 b, .int .i64 n] 56 (0, 0))) := by rw [hw2]; exact hp_past (hp_past (hp_at (by simp)))
  have HG1 : Hid (w2.heap[w.heap.size + 1]? = some (.cells #[.int .i64 d] 3 (0, 0))) := by rw [hw2]; exact hp_past (hp_at (by simp))
  have HG2 : Hid (w2.heap[w.heap.size + 1 + 1]? = some (.cells #[.int .i64 0, .int .i64 0, .int .i64 0, .int .i64 0, .nilFunc] 54 (0, 0))) := by rw [hw2]; exact hp_at (by simp)
  rw [← hw2]
  clear hw2
  have HLO : Hid (∀ q ∈ (w.heap.size) :: (w.heap.size + 1) :: F, q < w2.heap.size) := lo_cons (heap_lt HG0.out) (lo_cons (heap_lt HG1.out) (lo_nil HFL.out HB2.out))
  have HCF : Hid (Fv encI An (fun p => putT b (nxtV d) p (putT b 1 d (doneT 0))) ((w.heap.size) :: (w.heap.size + 1) :: F) w2 (.func (.func 81) #[] #[.pointer (some ⟨w.heap.size, 0, none⟩), .pointer (some ⟨w.heap.size + 1, 0, none⟩)])) := fv_mk HLO.out (ent Try.func81 (by kernel_rfl) rfl) (fun z hz w' hu => by simpa [encI] using give1_any hs hd (fun q hq => Nat.lt_of_lt_of_le (HLO.out q hq) hu.1) (Bx.un ⟨by simp, HG0.out⟩ hu) (Bx.un ⟨by simp, HG1.out⟩ hu))
  have HNW : Hid (∀ q ∈ (w.heap.size) :: (w.heap.size + 1) :: F, q ∈ F ∨ w.heap.size ≤ q) := nw_cons (by omega) (nw_cons (by omega) nw_nil)
  have HNI : Hid (w.heap.size + 1 + 1 ∉ (w.heap.size) :: (w.heap.size + 1) :: F) := ni_cons (by omega) (ni_cons (by omega) (ni_nil HFL.out (by omega)))
  refine (read_any hs (by omega) HCF.out).mono ?_
  rintro e w4 h4
  obtain ⟨cs, w5, rfl, hz, hst, hr, hold⟩ := gv_put (w := w) (F := F) (R := w.heap.size + 1 + 1) h4 HG2.out rfl HNI.out HB2.out (by omega) HNW.out
  clear h4
  go_wp2_with fail
  exact ret_tn rfl rfl hr.out.1 hz rfl hr.out.2
set_option maxRecDepth 100000 in
theorem un11_any {w : World} {F : List Nat} {n d : Int} {id : FuncId} {first cap : Array Value} {h : Int → T} {BG : Nat} {BD : Nat} (hd : 1 ≤ d ∧ d ≤ n) (hf : Fv encI (fun d => 1 ≤ d ∧ d ≤ n) h F w (.func (.func id) first cap)) (hF : ∀ q ∈ F, q < w.heap.size) (hG : Bx F w BG 83 #[.func (.func id) first cap]) (hD : Bx F w BD 3 #[.int .i64 d]) : Calls Try.prog 98 #[.pointer (some ⟨BG, 0, none⟩), .pointer (some ⟨BD, 0, none⟩)] w (Gv (h d) F w) := by
  have HC : Hid (∀ w', Un F w w' → Calls Try.prog id (first ++ #[.int .i64 d] ++ cap) w' (Gv (h d) F w')) := fun w' hu => by have := (hf.get).2 d hd w' hu; simpa [encI] using this
  have he := (hf.get).1
  have HFL : Hid (∀ q ∈ F, q < w.heap.size) := hF
  have HBG : Hid (Bx F w BG 83 #[.func (.func id) first cap]) := hG
  have cG0 := hG.cell 0 rfl
  have xG := hG.lt
  have HBD : Hid (Bx F w BD 3 #[.int .i64 d]) := hD
  have cD0 := hD.cell 0 rfl
  have xD := hD.lt
  clear hF hG hD
  clear hf hd
  generalize h d = t at *
  go_enter Try.func98, Try.ntmps98
  go_wp2_with fail
  obtain ⟨w2, hw2⟩ : ∃ w2, w2 = (World.alloc w (.cells #[.int .i64 0, .int .i64 0, .int .i64 0, .int .i64 0, .nilFunc] 54)) := ⟨_, rfl⟩
  have HB2 : Hid (Below w.heap.size w w2) := by rw [hw2]; exact below_a1 _ _
  have HG0 : Hid (w2.heap[w.heap.size]? = some (.cells #[.int .i64 0, .int .i64 0, .int .i64 0, .int .i64 0, .nilFunc] 54 (0, 0))) := by rw [hw2]; exact hp_at (by simp)
  rw [← hw2]
  clear hw2
  have HNW : Hid (∀ q ∈ F, q ∈ F ∨ w.heap.size ≤ q) := nw_nil
  have HNI : Hid (w.heap.size ∉ F) := ni_nil HFL.out (by omega)
  have HCC := HC.out w2 (Un.of_below HB2.out HFL.out)
  refine (HCC).mono ?_
  rintro e w4 h4
  obtain ⟨cs, w5, rfl, hz, hst, hr, hold⟩ := gv_put (w := w) (F := F) (R := w.heap.size) h4 HG0.out rfl HNI.out HB2.out (by omega) HNW.out
  clear h4
  go_wp2_with fail
  exact ret_tn rfl rfl hr.out.1 hz rfl hr.out.2
set_option maxRecDepth 100000 in
theorem take111_any {w : World} {F : List Nat} {n d : Int} {id : FuncId} {first cap : Array Value} {h : Int → T} {BG : Nat} {BD : Nat} (hd : 1 ≤ d ∧ d ≤ n) (hf : Fv encI (fun d => 1 ≤ d ∧ d ≤ n) h F w (.func (.func id) first cap)) (hF : ∀ q ∈ F, q < w.heap.size) (hG : Bx F w BG 83 #[.func (.func id) first cap]) (hD : Bx F w BD 3 #[.int .i64 d]) : Calls Try.prog 79 #[.pointer (some ⟨BG, 0, none⟩), .pointer (some ⟨BD, 0, none⟩)] w (Gv (h d) F w) := by
  have HC : Hid (∀ w', Un F w w' → Calls Try.prog id (first ++ #[.int .i64 d] ++ cap) w' (Gv (h d) F w')) := fun w' hu => by have := (hf.get).2 d hd w' hu; simpa [encI] using this
  have he := (hf.get).1
  have HFL : Hid (∀ q ∈ F, q < w.heap.size) := hF
  have HBG : Hid (Bx F w BG 83 #[.func (.func id) first cap]) := hG
  have cG0 := hG.cell 0 rfl
  have xG := hG.lt
  have HBD : Hid (Bx F w BD 3 #[.int .i64 d]) := hD
  have cD0 := hD.cell 0 rfl
  have xD := hD.lt
  clear hF hG hD
  clear hf hd
  generalize h d = t at *
  go_enter Try.func79, Try.ntmps79
  go_wp2_with fail
  obtain ⟨w2, hw2⟩ : ∃ w2, w2 = (World.alloc w (.cells #[.int .i64 0, .int .i64 0, .int .i64 0, .int .i64 0, .nilFunc] 54)) := ⟨_, rfl⟩
  have HB2 : Hid (Below w.heap.size w w2) := by rw [hw2]; exact below_a1 _ _
  have HG0 : Hid (w2.heap[w.heap.size]? = some (.cells #[.int .i64 0, .int .i64 0, .int .i64 0, .int .i64 0, .nilFunc] 54 (0, 0))) := by rw [hw2]; exact hp_at (by simp)
  rw [← hw2]
  clear hw2
  have HNW : Hid (∀ q ∈ F, q ∈ F ∨ w.heap.size ≤ q) := nw_nil
  have HNI : Hid (w.heap.size ∉ F) := ni_nil HFL.out (by omega)
  have HCC := HC.out w2 (Un.of_below HB2.out HFL.out)
  refine (HCC).mono ?_
  rintro e w4 h4
  obtain ⟨cs, w5, rfl, hz, hst, hr, hold⟩ := gv_put (w := w) (F := F) (R := w.heap.size) h4 HG0.out rfl HNI.out HB2.out (by omega) HNW.out
  clear h4
  go_wp2_with fail
  exact ret_tn rfl rfl hr.out.1 hz rfl hr.out.2
set_option maxRecDepth 100000 in
theorem un1_full {w : World} {F : List Nat} {b n p : Int} {id : FuncId} {first cap : Array Value} {BS : Nat} {BG : Nat} (hu : p < 0 ∨ n ≤ p) (hF : ∀ q ∈ F, q < w.heap.size) (hS : Bx F w BS 56 #[.int .i64 b, .int .i64 n]) (hG : Bx F w BG 83 #[.func (.func id) first cap]) : Calls Try.prog 97 #[.int .i64 p, .pointer (some ⟨BS, 0, none⟩), .pointer (some ⟨BG, 0, none⟩)] w (Gv (refT 2) F w) := by
  have HFL : Hid (∀ q ∈ F, q < w.heap.size) := hF
  have HBS : Hid (Bx F w BS 56 #[.int .i64 b, .int .i64 n]) := hS
  have cS0 := hS.cell 0 rfl
  have cS1 := hS.cell 1 rfl
  have xS := hS.lt
  have xSb : BS < w.heap.size + 1 := by omega
  have xSc : BS < w.heap.size + 1 + 1 := by omega
  have HBG : Hid (Bx F w BG 83 #[.func (.func id) first cap]) := hG
  have cG0 := hG.cell 0 rfl
  have xG := hG.lt
  have xGb : BG < w.heap.size + 1 := by omega
  have xGc : BG < w.heap.size + 1 + 1 := by omega
  clear hF hS hG
  by_cases h0 : p < 0
  · have d0 : decide (p < 0) = true := by simpa using h0
    clear h0 hu
    go_enter Try.func97, Try.ntmps97
    go_wp2_with fail
    obtain ⟨w2, hw2⟩ : ∃ w2, w2 = (World.alloc w (.cells #[.int .i64 0, .int .i64 0, .int .i64 0, .int .i64 0, .nilFunc] 54)) := ⟨_, rfl⟩
    have HB2 : Hid (Below w.heap.size w w2) := by rw [hw2]; exact below_a1 _ _
    have HG0 : Hid (w2.heap[w.heap.size]? = some (.cells #[.int .i64 0, .int .i64 0, .int .i64 0, .int .i64 0, .nilFunc] 54 (0, 0))) := by rw [hw2]; exact hp_at (by simp)
    rw [← hw2]
    clear hw2
    refine (refused_any w2 2 []).mono ?_
    rintro e w4 h4
    obtain ⟨cs, w5, rfl, hz, hst, hr, hold⟩ := gv_put (w := w) (F := F) (R := w.heap.size) h4 HG0.out rfl (by simp) HB2.out (by omega) (by simp)
    clear h4
    go_wp2_with fail
    exact ret_tn rfl rfl hr.out.1 hz rfl hr.out.2
  · have d0 : decide (p < 0) = false := by simpa using h0
    have d1 : decide (n ≤ p) = true := by simp; omega
    clear h0 hu
    go_enter Try.func97, Try.ntmps97
    go_wp2_with fail
    obtain ⟨w2, hw2⟩ : ∃ w2, w2 = (World.alloc w (.cells #[.int .i64 0, .int .i64 0, .int .i64 0, .int .i64 0, .nilFunc] 54)) := ⟨_, rfl⟩
    have HB2 : Hid (Below w.heap.size w w2) := by rw [hw2]; exact below_a1 _ _
    have HG0 : Hid (w2.heap[w.heap.size]? = some (.cells #[.int .i64 0, .int .i64 0, .int .i64 0, .int .i64 0, .nilFunc] 54 (0, 0))) := by rw [hw2]; exact hp_at (by simp)
    rw [← hw2]
    clear hw2
    refine (refused_any w2 2 []).mono ?_
    rintro e w4 h4
    obtain ⟨cs, w5, rfl, hz, hst, hr, hold⟩ := gv_put (w := w) (F := F) (R := w.heap.size) h4 HG0.out rfl (by simp) HB2.out (by omega) (by simp)
    clear h4
    go_wp2_with fail
    exact ret_tn rfl rfl hr.out.1 hz rfl hr.out.2
set_option maxRecDepth 100000 in
theorem un1_on {w : World} {F : List Nat} {b n p : Int} {id : FuncId} {first cap : Array Value} {h : Int → T} {BS : Nat} {BG : Nat} (hs : SiteOk b n) (hu : ¬ (p < 0 ∨ n ≤ p)) (hf : Fv encI (fun d => 1 ≤ d ∧ d ≤ n) h F w (.func (.func id) first cap)) (hF : ∀ q ∈ F, q < w.heap.size) (hS : Bx F w BS 56 #[.int .i64 b, .int .i64 n]) (hG : Bx F w BG 83 #[.func (.func id) first cap]) : Calls Try.prog 97 #[.int .i64 p, .pointer (some ⟨BS, 0, none⟩), .pointer (some ⟨BG, 0, none⟩)] w (Gv (putT b 2 (p + 1) (h (p + 1))) F w) := by
  have HX : Hid (SiteOk b n ∧ (1 ≤ p + 1 ∧ p + 1 ≤ n)) := ⟨hs, by omega, by omega⟩
  have HFV : Hid (Fv encI (fun d => 1 ≤ d ∧ d ≤ n) h F w (.func (.func id) first cap)) := hf
  have hwq : ∀ d, p + 1 = d → wrap64 (p + 1) = d := fun d h => by have := hs.2; unfold wrap64; omega
  have d0 : decide (p < 0) = false := by simp; omega
  have d1 : decide (n ≤ p) = false := by simp; omega
  have HFL : Hid (∀ q ∈ F, q < w.heap.size) := hF
  have HBS : Hid (Bx F w BS 56 #[.int .i64 b, .int .i64 n]) := hS
  have cS0 := hS.cell 0 rfl
  have cS1 := hS.cell 1 rfl
  have xS := hS.lt
  have xSb : BS < w.heap.size + 1 := by omega
  have xSc : BS < w.heap.size + 1 + 1 := by omega
  have HBG : Hid (Bx F w BG 83 #[.func (.func id) first cap]) := hG
  have cG0 := hG.cell 0 rfl
  have xG := hG.lt
  have xGb : BG < w.heap.size + 1 := by omega
  have xGc : BG < w.heap.size + 1 + 1 := by omega
  clear hF hS hG
  clear hs hu hf
  generalize hp1 : p + 1 = d at HX ⊢
  have hwp := hwq d hp1
  clear hp1 hwq
  go_enter Try.func97, Try.ntmps97
  go_wp2_with fail
  obtain ⟨w2, hw2⟩ : ∃ w2, w2 = (World.alloc (World.alloc w (.cells #[.int .i64 0, .int .i64 0, .int .i64 0, .int .i64 0, .nilFunc] 54)) (.cells #[.int .i64 d] 3)) := ⟨_, rfl⟩
  have HB2 : Hid (Below w.heap.size w w2) := by rw [hw2]; exact bl2 _ _ _
  have HG0 : Hid (w2.heap[w.heap.size]? = some (.cells #[.int .i64 0, .int .i64 0, .int .i64 0, .int .i64 0, .nilFunc] 54 (0, 0))) := by rw [hw2]; exact hp_past (hp_at (by simp))
  have HG1 : Hid (w2.heap[w.heap.size + 1]? = some (.cells #[.int .i64 d] 3 (0, 0))) := by rw [hw2]; exact hp_at (by simp)
  rw [← hw2]
  clear hw2
  have HLO : Hid (∀ q ∈ (w.heap.size + 1) :: F, q < w2.heap.size) := lo_cons (heap_lt HG1.out) (lo_nil HFL.out HB2.out)
  have HCF : Hid (Fv encU (fun _ => True) (fun _ => h d) ((w.heap.size + 1) :: F) w2 (.func (.func 98) #[] #[.pointer (some ⟨BG, 0, none⟩), .pointer (some ⟨w.heap.size + 1, 0, none⟩)])) := fv_mk HLO.out (ent Try.func98 (by kernel_rfl) rfl) (fun z hz w' hu => by simpa [encU] using un11_any HX.out.2 (((HFV.out.later HB2.out).wide (in_cons in_nil) HLO.out).un hu) (fun q hq => Nat.lt_of_lt_of_le (HLO.out q hq) hu.1) ((HBG.out.wide (in_cons in_nil) HB2.out).un hu) (Bx.un ⟨by simp, HG1.out⟩ hu))
  have HNW : Hid (∀ q ∈ (w.heap.size + 1) :: F, q ∈ F ∨ w.heap.size ≤ q) := nw_cons (by omega) nw_nil
  have HNI : Hid (w.heap.size ∉ (w.heap.size + 1) :: F) := ni_cons (by omega) (ni_nil HFL.out (by omega))
  refine (write_any HX.out.1 (by omega) HCF.out).mono ?_
  rintro e w4 h4
  obtain ⟨cs, w5, rfl, hz, hst, hr, hold⟩ := gv_put (w := w) (F := F) (R := w.heap.size) h4 HG0.out rfl HNI.out HB2.out (by omega) HNW.out
  clear h4
  go_wp2_with fail
  exact ret_tn rfl rfl hr.out.1 hz rfl hr.out.2
theorem un1_any {w : World} {F : List Nat} {b n p : Int} {id : FuncId} {first cap : Array Value} {h : Int → T} {BS BG : Nat} (hs : SiteOk b n) (hf : Fv encI (fun d => 1 ≤ d ∧ d ≤ n) h F w (.func (.func id) first cap)) (hF : ∀ q ∈ F, q < w.heap.size) (hS : Bx F w BS 56 #[.int .i64 b, .int .i64 n]) (hG : Bx F w BG 83 #[.func (.func id) first cap]) : Calls Try.prog 97 #[.int .i64 p, .pointer (some ⟨BS, 0, none⟩), .pointer (some ⟨BG, 0, none⟩)] w (Gv (if p < 0 ∨ n ≤ p then refT 2 else putT b 2 (p + 1) (h (p + 1))) F w) := by
  by_cases hu : p < 0 ∨ n ≤ p
  · rw [if_pos hu]; exact un1_full hu hF hS hG
  · rw [if_neg hu]; exact un1_on hs hu hf hF hS hG
set_option maxRecDepth 100000 in
theorem un_any {w : World} {F : List Nat} {b n : Int} {id : FuncId} {first cap : Array Value} {h : Int → T}  (hs : SiteOk b n) (hf : Fv encI (fun d => 1 ≤ d ∧ d ≤ n) h F w (.func (.func id) first cap)) (hF : ∀ q ∈ F, q < w.heap.size)  : Calls Try.prog 77 #[.agg #[.int .i64 b, .int .i64 n], (.func (.func id) first cap)] w (Gv (unT b n h) F w) := by
  have HFV : Hid (Fv encI (fun d => 1 ≤ d ∧ d ≤ n) h F w (.func (.func id) first cap)) := hf
  clear hf
  have HFL : Hid (∀ q ∈ F, q < w.heap.size) := hF
  clear hF
  go_enter Try.func77, Try.ntmps77
  go_wp2_with fail
  obtain ⟨w2, hw2⟩ : ∃ w2, w2 = (World.alloc (World.alloc (World.alloc w (.cells #[.int .i64 b, .int .i64 n] 56)) (.cells #[.func (.func id) first cap] 83)) (.cells #[.int .i64 0, .int .i64 0, .int .i64 0, .int .i64 0, .nilFunc] 54)) := ⟨_, rfl⟩
  have HB2 : Hid (Below w.heap.size w w2) := by rw [hw2]; exact bl3 _ _ _ _
  have HG0 : Hid (w2.heap[w.heap.size]? = some (.cells #[.int .i64 b, .int .i64 n] 56 (0, 0))) := by rw [hw2]; exact hp_past (hp_past (hp_at (by simp)))
  have HG1 : Hid (w2.heap[w.heap.size + 1]? = some (.cells #[.func (.func id) first cap] 83 (0, 0))) := by rw [hw2]; exact hp_past (hp_at (by simp))
  have HG2 : Hid (w2.heap[w.heap.size + 1 + 1]? = some (.cells #[.int .i64 0, .int .i64 0, .int .i64 0, .int .i64 0, .nilFunc] 54 (0, 0))) := by rw [hw2]; exact hp_at (by simp)
  rw [← hw2]
  clear hw2
  have HLO : Hid (∀ q ∈ (w.heap.size) :: (w.heap.size + 1) :: F, q < w2.heap.size) := lo_cons (heap_lt HG0.out) (lo_cons (heap_lt HG1.out) (lo_nil HFL.out HB2.out))
  have HCF : Hid (Fv encI An (fun u => if u < 0 ∨ n ≤ u then refT 2 else putT b 2 (u + 1) (h (u + 1))) ((w.heap.size) :: (w.heap.size + 1) :: F) w2 (.func (.func 97) #[] #[.pointer (some ⟨w.heap.size, 0, none⟩), .pointer (some ⟨w.heap.size + 1, 0, none⟩)])) := fv_mk HLO.out (ent Try.func97 (by kernel_rfl) rfl) (fun z hz w' hu => by simpa [encI] using un1_any hs (((HFV.out.later HB2.out).wide (in_cons (in_cons in_nil)) HLO.out).un hu) (fun q hq => Nat.lt_of_lt_of_le (HLO.out q hq) hu.1) (Bx.un ⟨by simp, HG0.out⟩ hu) (Bx.un ⟨by simp, HG1.out⟩ hu))
  have HNW : Hid (∀ q ∈ (w.heap.size) :: (w.heap.size + 1) :: F, q ∈ F ∨ w.heap.size ≤ q) := nw_cons (by omega) (nw_cons (by omega) nw_nil)
  have HNI : Hid (w.heap.size + 1 + 1 ∉ (w.heap.size) :: (w.heap.size + 1) :: F) := ni_cons (by omega) (ni_cons (by omega) (ni_nil HFL.out (by omega)))
  refine (read_any hs (by omega) HCF.out).mono ?_
  rintro e w4 h4
  obtain ⟨cs, w5, rfl, hz, hst, hr, hold⟩ := gv_put (w := w) (F := F) (R := w.heap.size + 1 + 1) h4 HG2.out rfl HNI.out HB2.out (by omega) HNW.out
  clear h4
  go_wp2_with fail
  exact ret_tn rfl rfl hr.out.1 hz rfl hr.out.2
set_option maxRecDepth 100000 in
theorem take11_any {w : World} {F : List Nat} {b n d p : Int} {id : FuncId} {first cap : Array Value} {h : Int → T} {BS : Nat} {BG : Nat} {BD : Nat} (hs : SiteOk b n) (hd : 1 ≤ d ∧ d ≤ n) (hf : Fv encI (fun d => 1 ≤ d ∧ d ≤ n) h F w (.func (.func id) first cap)) (hF : ∀ q ∈ F, q < w.heap.size) (hS : Bx F w BS 56 #[.int .i64 b, .int .i64 n]) (hG : Bx F w BG 83 #[.func (.func id) first cap]) (hD : Bx F w BD 3 #[.int .i64 d]) : Calls Try.prog 78 #[.int .i64 p, .pointer (some ⟨BS, 0, none⟩), .pointer (some ⟨BG, 0, none⟩), .pointer (some ⟨BD, 0, none⟩)] w (Gv (putT b 1 p (h d)) F w) := by
  have HFV : Hid (Fv encI (fun d => 1 ≤ d ∧ d ≤ n) h F w (.func (.func id) first cap)) := hf
  clear hf
  have HFL : Hid (∀ q ∈ F, q < w.heap.size) := hF
  have HBS : Hid (Bx F w BS 56 #[.int .i64 b, .int .i64 n]) := hS
  have cS0 := hS.cell 0 rfl
  have cS1 := hS.cell 1 rfl
  have xS := hS.lt
  have HBG : Hid (Bx F w BG 83 #[.func (.func id) first cap]) := hG
  have cG0 := hG.cell 0 rfl
  have xG := hG.lt
  have HBD : Hid (Bx F w BD 3 #[.int .i64 d]) := hD
  have cD0 := hD.cell 0 rfl
  have xD := hD.lt
  clear hF hS hG hD
  go_enter Try.func78, Try.ntmps78
  go_wp2_with fail
  obtain ⟨w2, hw2⟩ : ∃ w2, w2 = (World.alloc w (.cells #[.int .i64 0, .int .i64 0, .int .i64 0, .int .i64 0, .nilFunc] 54)) := ⟨_, rfl⟩
  have HB2 : Hid (Below w.heap.size w w2) := by rw [hw2]; exact below_a1 _ _
  have HG0 : Hid (w2.heap[w.heap.size]? = some (.cells #[.int .i64 0, .int .i64 0, .int .i64 0, .int .i64 0, .nilFunc] 54 (0, 0))) := by rw [hw2]; exact hp_at (by simp)
  rw [← hw2]
  clear hw2
  have HLO : Hid (∀ q ∈ F, q < w2.heap.size) := lo_nil HFL.out HB2.out
  have HCF : Hid (Fv encU (fun _ => True) (fun _ => h d) (F) w2 (.func (.func 79) #[] #[.pointer (some ⟨BG, 0, none⟩), .pointer (some ⟨BD, 0, none⟩)])) := fv_mk HLO.out (ent Try.func79 (by kernel_rfl) rfl) (fun z hz w' hu => by simpa [encU] using take111_any hd (((HFV.out.later HB2.out).wide (in_nil) HLO.out).un hu) (fun q hq => Nat.lt_of_lt_of_le (HLO.out q hq) hu.1) ((HBG.out.wide (in_nil) HB2.out).un hu) ((HBD.out.wide (in_nil) HB2.out).un hu))
  have HNW : Hid (∀ q ∈ F, q ∈ F ∨ w.heap.size ≤ q) := nw_nil
  have HNI : Hid (w.heap.size ∉ F) := ni_nil HFL.out (by omega)
  refine (write_any hs (by omega) HCF.out).mono ?_
  rintro e w4 h4
  obtain ⟨cs, w5, rfl, hz, hst, hr, hold⟩ := gv_put (w := w) (F := F) (R := w.heap.size) h4 HG0.out rfl HNI.out HB2.out (by omega) HNW.out
  clear h4
  go_wp2_with fail
  exact ret_tn rfl rfl hr.out.1 hz rfl hr.out.2
set_option maxRecDepth 100000 in
theorem take1_no {w : World} {F : List Nat} {b n p : Int} {id : FuncId} {first cap : Array Value} {h : Int → T} {BS : Nat} {BG : Nat} (hs : SiteOk b n) (hl : leadV p n = 0) (hf : Fv encI (fun d => 1 ≤ d ∧ d ≤ n) h F w (.func (.func id) first cap)) (hF : ∀ q ∈ F, q < w.heap.size) (hS : Bx F w BS 56 #[.int .i64 b, .int .i64 n]) (hG : Bx F w BG 83 #[.func (.func id) first cap]) : Calls Try.prog 76 #[.int .i64 p, .pointer (some ⟨BS, 0, none⟩), .pointer (some ⟨BG, 0, none⟩)] w (Gv (unT b n h) F w) := by
  have HL : Hid (∀ w : World, Calls Try.prog 40 #[.int .i64 p, .int .i64 n] w fun e w' => e = .returned (.tuple #[.int .i64 (leadV p n), .bool false]) ∧ w' = w) := fun w => by have := leads_any w p n; rw [show decide (leadV p n ≠ 0) = false by simp [hl]] at this; exact this
  have HU : Hid (∀ w' : World, Below w.heap.size w w' → Calls Try.prog 77 #[.agg #[.int .i64 b, .int .i64 n], (.func (.func id) first cap)] w' (Gv (unT b n h) F w')) := fun w' hb => un_any hs (hf.later hb) (lo_nil hF hb)
  have HFL : Hid (∀ q ∈ F, q < w.heap.size) := hF
  have HBS : Hid (Bx F w BS 56 #[.int .i64 b, .int .i64 n]) := hS
  have cS0 := hS.cell 0 rfl
  have cS1 := hS.cell 1 rfl
  have xS := hS.lt
  have xSb : BS < w.heap.size + 1 := by omega
  have xSc : BS < w.heap.size + 1 + 1 := by omega
  have HBG : Hid (Bx F w BG 83 #[.func (.func id) first cap]) := hG
  have cG0 := hG.cell 0 rfl
  have xG := hG.lt
  have xGb : BG < w.heap.size + 1 := by omega
  have xGc : BG < w.heap.size + 1 + 1 := by omega
  clear hF hS hG
  clear hs hl hf
  generalize leadV p n = d at *
  generalize unT b n h = t at *
  go_enter Try.func76, Try.ntmps76
  go_wp2_with fail
  refine (HL.out _).mono ?_
  rintro e w1 ⟨rfl, rfl⟩
  go_wp2_with fail
  obtain ⟨w2, hw2⟩ : ∃ w2, w2 = (World.alloc (World.alloc w (.cells #[.int .i64 0, .int .i64 0, .int .i64 0, .int .i64 0, .nilFunc] 54)) (.cells #[.int .i64 d] 3)) := ⟨_, rfl⟩
  have HB2 : Hid (Below w.heap.size w w2) := by rw [hw2]; exact bl2 _ _ _
  have HG0 : Hid (w2.heap[w.heap.size]? = some (.cells #[.int .i64 0, .int .i64 0, .int .i64 0, .int .i64 0, .nilFunc] 54 (0, 0))) := by rw [hw2]; exact hp_past (hp_at (by simp))
  have HG1 : Hid (w2.heap[w.heap.size + 1]? = some (.cells #[.int .i64 d] 3 (0, 0))) := by rw [hw2]; exact hp_at (by simp)
  rw [← hw2]
  clear hw2
  have HNW : Hid (∀ q ∈ F, q ∈ F ∨ w.heap.size ≤ q) := nw_nil
  have HNI : Hid (w.heap.size ∉ F) := ni_nil HFL.out (by omega)
  refine (HU.out w2 HB2.out).mono ?_
  rintro e w4 h4
  obtain ⟨cs, w5, rfl, hz, hst, hr, hold⟩ := gv_put (w := w) (F := F) (R := w.heap.size) h4 HG0.out rfl HNI.out HB2.out (by omega) HNW.out
  clear h4
  go_wp2_with fail
  exact ret_tn rfl rfl hr.out.1 hz rfl hr.out.2
set_option maxRecDepth 100000 in
theorem take1_on {w : World} {F : List Nat} {b n p : Int} {id : FuncId} {first cap : Array Value} {h : Int → T} {BS : Nat} {BG : Nat} (hs : SiteOk b n) (hl : leadV p n ≠ 0) (hf : Fv encI (fun d => 1 ≤ d ∧ d ≤ n) h F w (.func (.func id) first cap)) (hF : ∀ q ∈ F, q < w.heap.size) (hS : Bx F w BS 56 #[.int .i64 b, .int .i64 n]) (hG : Bx F w BG 83 #[.func (.func id) first cap]) : Calls Try.prog 76 #[.int .i64 p, .pointer (some ⟨BS, 0, none⟩), .pointer (some ⟨BG, 0, none⟩)] w (Gv (readT b (nxtV (leadV p n)) fun q => putT b 1 q (h (leadV p n))) F w) := by
  have HL : Hid (∀ w : World, Calls Try.prog 40 #[.int .i64 p, .int .i64 n] w fun e w' => e = .returned (.tuple #[.int .i64 (leadV p n), .bool true]) ∧ w' = w) := fun w => by have := leads_any w p n; rw [show decide (leadV p n ≠ 0) = true by simp [hl]] at this; exact this
  have e2 : 1 ≤ leadV p n ∧ leadV p n ≤ n := by obtain ⟨e1, e2⟩ := lead_of hl; rw [e1]; exact e2
  have hy : 0 ≤ leadV p n ∧ leadV p n ≤ 100 := by have := hs.2; omega
  have HK : Hid (∀ w : World, Calls Try.prog 39 #[.int .i64 (leadV p n)] w fun e w' => e = .returned (.int .i64 (nxtV (leadV p n))) ∧ Below w.heap.size w w') := fun w => nextof_b w hy
  have HX : Hid (SiteOk b n ∧ (1 ≤ leadV p n ∧ leadV p n ≤ n) ∧ 0 ≤ nxtV (leadV p n) ∧ nxtV (leadV p n) ≤ 100) := ⟨hs, e2, by unfold nxtV keyV; omega, by have := hs.2; unfold nxtV keyV; omega⟩
  have HFV : Hid (Fv encI (fun d => 1 ≤ d ∧ d ≤ n) h F w (.func (.func id) first cap)) := hf
  have HFL : Hid (∀ q ∈ F, q < w.heap.size) := hF
  have HBS : Hid (Bx F w BS 56 #[.int .i64 b, .int .i64 n]) := hS
  have cS0 := hS.cell 0 rfl
  have cS1 := hS.cell 1 rfl
  have xS := hS.lt
  have xSb : BS < w.heap.size + 1 := by omega
  have xSc : BS < w.heap.size + 1 + 1 := by omega
  have HBG : Hid (Bx F w BG 83 #[.func (.func id) first cap]) := hG
  have cG0 := hG.cell 0 rfl
  have xG := hG.lt
  have xGb : BG < w.heap.size + 1 := by omega
  have xGc : BG < w.heap.size + 1 + 1 := by omega
  clear hF hS hG
  clear hs hl hf e2 hy
  generalize leadV p n = d at *
  generalize nxtV d = y1 at *
  go_enter Try.func76, Try.ntmps76
  go_wp2_with fail
  refine (HL.out _).mono ?_
  rintro e w1 ⟨rfl, rfl⟩
  go_wp2_with fail
  obtain ⟨w2, hw2⟩ : ∃ w2, w2 = (World.alloc (World.alloc w (.cells #[.int .i64 0, .int .i64 0, .int .i64 0, .int .i64 0, .nilFunc] 54)) (.cells #[.int .i64 d] 3)) := ⟨_, rfl⟩
  have HB2 : Hid (Below w.heap.size w w2) := by rw [hw2]; exact bl2 _ _ _
  have HG0 : Hid (w2.heap[w.heap.size]? = some (.cells #[.int .i64 0, .int .i64 0, .int .i64 0, .int .i64 0, .nilFunc] 54 (0, 0))) := by rw [hw2]; exact hp_past (hp_at (by simp))
  have HG1 : Hid (w2.heap[w.heap.size + 1]? = some (.cells #[.int .i64 d] 3 (0, 0))) := by rw [hw2]; exact hp_at (by simp)
  rw [← hw2]
  clear hw2
  have HLO : Hid (∀ q ∈ (w.heap.size + 1) :: F, q < w2.heap.size) := lo_cons (heap_lt HG1.out) (lo_nil HFL.out HB2.out)
  have HCF : Hid (Fv encI An (fun q => putT b 1 q (h d)) ((w.heap.size + 1) :: F) w2 (.func (.func 78) #[] #[.pointer (some ⟨BS, 0, none⟩), .pointer (some ⟨BG, 0, none⟩), .pointer (some ⟨w.heap.size + 1, 0, none⟩)])) := fv_mk HLO.out (ent Try.func78 (by kernel_rfl) rfl) (fun z hz w' hu => by simpa [encI] using take11_any HX.out.1 HX.out.2.1 (((HFV.out.later HB2.out).wide (in_cons in_nil) HLO.out).un hu) (fun q hq => Nat.lt_of_lt_of_le (HLO.out q hq) hu.1) ((HBS.out.wide (in_cons in_nil) HB2.out).un hu) ((HBG.out.wide (in_cons in_nil) HB2.out).un hu) (Bx.un ⟨by simp, HG1.out⟩ hu))
  have HNW : Hid (∀ q ∈ (w.heap.size + 1) :: F, q ∈ F ∨ w.heap.size ≤ q) := nw_cons (by omega) nw_nil
  have HNI : Hid (w.heap.size ∉ (w.heap.size + 1) :: F) := ni_cons (by omega) (ni_nil HFL.out (by omega))
  have HR2 : Hid (∀ w3 : World, Below w2.heap.size w2 w3 → Calls Try.prog 35 #[.agg #[.int .i64 b, .int .i64 n], .int .i64 y1, .func (.func 78) #[] #[.pointer (some ⟨BS, 0, none⟩), .pointer (some ⟨BG, 0, none⟩), .pointer (some ⟨w.heap.size + 1, 0, none⟩)]] w3 (Gv (readT b y1 fun q => putT b 1 q (h d)) ((w.heap.size + 1) :: F) w3)) := fun w3 hb => read_any HX.out.1 HX.out.2.2 (HCF.out.later hb)
  clear HX HCF HLO HFV HL
  have HS : Hid (∀ w' : World, (∀ q, q < w2.heap.size → q ≠ w.heap.size → w'.heap[q]? = w2.heap[q]?) → w'.cell? ⟨BS, 0, none⟩ = some (.int .i64 b) ∧ w'.cell? ⟨BS, 1, none⟩ = some (.int .i64 n) ∧ w'.cell? ⟨w.heap.size + 1, 0, none⟩ = some (.int .i64 d)) := fun w' hq => ⟨(by rw [cell_at ((hq _ (heap_lt (HBS.out.wide in_nil HB2.out).2) (by omega)).trans (HBS.out.wide in_nil HB2.out).2)]; rfl), (by rw [cell_at ((hq _ (heap_lt (HBS.out.wide in_nil HB2.out).2) (by omega)).trans (HBS.out.wide in_nil HB2.out).2)]; rfl), (by rw [cell_at ((hq _ (heap_lt HG1.out) (by omega)).trans HG1.out)]; rfl)⟩
  have hS2 : w2.cell? ⟨BS, 0, none⟩ = some (.int .i64 b) ∧ w2.cell? ⟨BS, 1, none⟩ = some (.int .i64 n) ∧ w2.cell? ⟨w.heap.size + 1, 0, none⟩ = some (.int .i64 d) := HS.out w2 (fun _ _ _ => rfl)
  obtain ⟨s0, s1, s2⟩ := hS2
  have yS : BS < w2.heap.size := heap_lt (HBS.out.wide in_nil HB2.out).2
  have yD : w.heap.size + 1 < w2.heap.size := heap_lt HG1.out
  clear cS0 cS1 cG0 xS xG xSb xGb xSc xGc
  go_region_held3 (fun w' => w'.cell? ⟨BS, 0, none⟩ = some (.int .i64 b) ∧ w'.cell? ⟨BS, 1, none⟩ = some (.int .i64 n) ∧ w'.cell? ⟨w.heap.size + 1, 0, none⟩ = some (.int .i64 d)) (first | go_keep | exact hS | exact hS5) (first
    | (go_at_call 39; refine (HK.out _).mono ?_; rintro e w3 ⟨rfl, hb3⟩; have HB3 : Hid (Below w2.heap.size w2 w3) := below_then (bl_drew1 _) hb3; have hS : w3.cell? ⟨BS, 0, none⟩ = some (.int .i64 b) ∧ w3.cell? ⟨BS, 1, none⟩ = some (.int .i64 n) ∧ w3.cell? ⟨w.heap.size + 1, 0, none⟩ = some (.int .i64 d) := HS.out w3 (fun q hq _ => HB3.out.block q hq); clear hb3)
    | (go_at_call 35; refine (HR2.out _ HB3.out).mono ?_; rintro e w4 h4; obtain ⟨cs, w5, rfl, hz, hst, hr, hold⟩ := gv_put (w := w) (F := F) (R := w.heap.size) h4 (by rw [HB3.out.block _ (heap_lt HG0.out)]; exact HG0.out) rfl HNI.out (below_then HB2.out HB3.out) (by omega) HNW.out; have hS : w4.cell? ⟨BS, 0, none⟩ = some (.int .i64 b) ∧ w4.cell? ⟨BS, 1, none⟩ = some (.int .i64 n) ∧ w4.cell? ⟨w.heap.size + 1, 0, none⟩ = some (.int .i64 d) := HS.out w4 (fun q hq _ => ((gv_below h4).block q (Nat.lt_of_lt_of_le hq HB3.out.size)).trans (HB3.out.block q hq)); have hS5 : w5.cell? ⟨BS, 0, none⟩ = some (.int .i64 b) ∧ w5.cell? ⟨BS, 1, none⟩ = some (.int .i64 n) ∧ w5.cell? ⟨w.heap.size + 1, 0, none⟩ = some (.int .i64 d) := HS.out w5 (fun q hq hqr => (hold.out q (Nat.lt_of_lt_of_le hq HB3.out.size) hqr).trans (HB3.out.block q hq)); clear h4))
  all_goals (go_wp2_with fail; exact ret_tn rfl rfl hr.out.1 hz rfl hr.out.2)
theorem take1_any {w : World} {F : List Nat} {b n p : Int} {id : FuncId} {first cap : Array Value} {h : Int → T} {BS BG : Nat} (hs : SiteOk b n) (hf : Fv encI (fun d => 1 ≤ d ∧ d ≤ n) h F w (.func (.func id) first cap)) (hF : ∀ q ∈ F, q < w.heap.size) (hS : Bx F w BS 56 #[.int .i64 b, .int .i64 n]) (hG : Bx F w BG 83 #[.func (.func id) first cap]) : Calls Try.prog 76 #[.int .i64 p, .pointer (some ⟨BS, 0, none⟩), .pointer (some ⟨BG, 0, none⟩)] w (Gv (if leadV p n = 0 then unT b n h else readT b (nxtV (leadV p n)) fun q => putT b 1 q (h (leadV p n))) F w) := by
  by_cases hl : leadV p n = 0
  · rw [if_pos hl]; exact take1_no hs hl hf hF hS hG
  · rw [if_neg hl]; exact take1_on hs hl hf hF hS hG
set_option maxRecDepth 100000 in
theorem take_any {w : World} {F : List Nat} {b n : Int} {id : FuncId} {first cap : Array Value} {h : Int → T}  (hs : SiteOk b n) (hf : Fv encI (fun d => 1 ≤ d ∧ d ≤ n) h F w (.func (.func id) first cap)) (hF : ∀ q ∈ F, q < w.heap.size)  : Calls Try.prog 50 #[.agg #[.int .i64 b, .int .i64 n], (.func (.func id) first cap)] w (Gv (takeT b n h) F w) := by
  have HFV : Hid (Fv encI (fun d => 1 ≤ d ∧ d ≤ n) h F w (.func (.func id) first cap)) := hf
  clear hf
  have HFL : Hid (∀ q ∈ F, q < w.heap.size) := hF
  clear hF
  go_enter Try.func50, Try.ntmps50
  go_wp2_with fail
  obtain ⟨w2, hw2⟩ : ∃ w2, w2 = (World.alloc (World.alloc (World.alloc w (.cells #[.int .i64 b, .int .i64 n] 56)) (.cells #[.func (.func id) first cap] 83)) (.cells #[.int .i64 0, .int .i64 0, .int .i64 0, .int .i64 0, .nilFunc] 54)) := ⟨_, rfl⟩
  have HB2 : Hid (Below w.heap.size w w2) := by rw [hw2]; exact bl3 _ _ _ _
  have HG0 : Hid (w2.heap[w.heap.size]? = some (.cells #[.int .i64 b, .int .i64 n] 56 (0, 0))) := by rw [hw2]; exact hp_past (hp_past (hp_at (by simp)))
  have HG1 : Hid (w2.heap[w.heap.size + 1]? = some (.cells #[.func (.func id) first cap] 83 (0, 0))) := by rw [hw2]; exact hp_past (hp_at (by simp))
  have HG2 : Hid (w2.heap[w.heap.size + 1 + 1]? = some (.cells #[.int .i64 0, .int .i64 0, .int .i64 0, .int .i64 0, .nilFunc] 54 (0, 0))) := by rw [hw2]; exact hp_at (by simp)
  rw [← hw2]
  clear hw2
  have HLO : Hid (∀ q ∈ (w.heap.size) :: (w.heap.size + 1) :: F, q < w2.heap.size) := lo_cons (heap_lt HG0.out) (lo_cons (heap_lt HG1.out) (lo_nil HFL.out HB2.out))
  have HCF : Hid (Fv encI An (fun f => if leadV f n = 0 then unT b n h else readT b (nxtV (leadV f n)) fun q => putT b 1 q (h (leadV f n))) ((w.heap.size) :: (w.heap.size + 1) :: F) w2 (.func (.func 76) #[] #[.pointer (some ⟨w.heap.size, 0, none⟩), .pointer (some ⟨w.heap.size + 1, 0, none⟩)])) := fv_mk HLO.out (ent Try.func76 (by kernel_rfl) rfl) (fun z hz w' hu => by simpa [encI] using take1_any hs (((HFV.out.later HB2.out).wide (in_cons (in_cons in_nil)) HLO.out).un hu) (fun q hq => Nat.lt_of_lt_of_le (HLO.out q hq) hu.1) (Bx.un ⟨by simp, HG0.out⟩ hu) (Bx.un ⟨by simp, HG1.out⟩ hu))
  have HNW : Hid (∀ q ∈ (w.heap.size) :: (w.heap.size + 1) :: F, q ∈ F ∨ w.heap.size ≤ q) := nw_cons (by omega) (nw_cons (by omega) nw_nil)
  have HNI : Hid (w.heap.size + 1 + 1 ∉ (w.heap.size) :: (w.heap.size + 1) :: F) := ni_cons (by omega) (ni_cons (by omega) (ni_nil HFL.out (by omega)))
  refine (read_any hs (by omega) HCF.out).mono ?_
  rintro e w4 h4
  obtain ⟨cs, w5, rfl, hz, hst, hr, hold⟩ := gv_put (w := w) (F := F) (R := w.heap.size + 1 + 1) h4 HG2.out rfl HNI.out HB2.out (by omega) HNW.out
  clear h4
  go_wp2_with fail
  exact ret_tn rfl rfl hr.out.1 hz rfl hr.out.2
set_option maxRecDepth 100000 in
theorem add1111_any {w : World} {F : List Nat} {b n d : Int} {x : Wy} {BS : Nat} {BW : Nat} {BD : Nat} (hs : SiteOk b n) (hx : WyOk n x) (hF : ∀ q ∈ F, q < w.heap.size) (hS : Bx F w BS 56 #[.int .i64 b, .int .i64 n]) (hW : Bx F w BW 81 (wyC x)) (hD : Bx F w BD 3 #[.int .i64 d]) : Calls Try.prog 54 #[.pointer (some ⟨BS, 0, none⟩), .pointer (some ⟨BW, 0, none⟩), .pointer (some ⟨BD, 0, none⟩)] w (Gv (putT b x.cell d (doneT 0)) F w) := by
  have HW : Hid (∀ w : World, Calls Try.prog 52 #[.agg #[.int .i64 b, .int .i64 n], .int .i64 x.cell, .int .i64 d, .func (.func 55) #[] #[]] w (Gv (putT b x.cell d (doneT 0)) [] w)) := fun w => write_any hs (by have := hx.c; have := hs.2; omega) (fv_mk (F := []) (by simp) (ent Try.func55 (by kernel_rfl) rfl) (fun _ _ w' _ => by simpa [encU] using thru_any w' []))
  have HFL : Hid (∀ q ∈ F, q < w.heap.size) := hF
  have HBS : Hid (Bx F w BS 56 #[.int .i64 b, .int .i64 n]) := hS
  have cS0 := hS.cell 0 rfl
  have cS1 := hS.cell 1 rfl
  have xS := hS.lt
  have HBW : Hid (Bx F w BW 81 (wyC x)) := hW
  have cW0 := hW.cell 0 rfl
  have cW1 := hW.cell 1 rfl
  have cW2 := hW.cell 2 rfl
  have cW3 := hW.cell 3 rfl
  have cW4 := hW.cell 4 rfl
  have xW := hW.lt
  have HBD : Hid (Bx F w BD 3 #[.int .i64 d]) := hD
  have cD0 := hD.cell 0 rfl
  have xD := hD.lt
  clear hF hS hW hD
  clear hs hx
  generalize putT b x.cell d (doneT 0) = t at *
  go_enter Try.func54, Try.ntmps54
  go_wp2_with fail
  obtain ⟨w2, hw2⟩ : ∃ w2, w2 = (World.alloc w (.cells #[.int .i64 0, .int .i64 0, .int .i64 0, .int .i64 0, .nilFunc] 54)) := ⟨_, rfl⟩
  have HB2 : Hid (Below w.heap.size w w2) := by rw [hw2]; exact below_a1 _ _
  have HG0 : Hid (w2.heap[w.heap.size]? = some (.cells #[.int .i64 0, .int .i64 0, .int .i64 0, .int .i64 0, .nilFunc] 54 (0, 0))) := by rw [hw2]; exact hp_at (by simp)
  rw [← hw2]
  clear hw2
  refine (HW.out w2).mono ?_
  rintro e w4 h4
  obtain ⟨cs, w5, rfl, hz, hst, hr, hold⟩ := gv_put (w := w) (F := F) (R := w.heap.size) h4 HG0.out rfl (by simp) HB2.out (by omega) (by simp)
  clear h4
  go_wp2_with fail
  exact ret_tn rfl rfl hr.out.1 hz rfl hr.out.2
set_option maxRecDepth 100000 in
theorem add111_any {w : World} {F : List Nat} {b n d : Int} {x : Wy} {BS : Nat} {BD : Nat} {BW : Nat} (hs : SiteOk b n) (hx : WyOk n x) (hd : 1 ≤ d ∧ d ≤ n) (hF : ∀ q ∈ F, q < w.heap.size) (hS : Bx F w BS 56 #[.int .i64 b, .int .i64 n]) (hD : Bx F w BD 3 #[.int .i64 d]) (hW : Bx F w BW 81 (wyC x)) : Calls Try.prog 53 #[.pointer (some ⟨BS, 0, none⟩), .pointer (some ⟨BD, 0, none⟩), .pointer (some ⟨BW, 0, none⟩)] w (Gv (putT b (nxtV d) x.link (putT b x.cell d (doneT 0))) F w) := by
  have hy : 0 ≤ d ∧ d ≤ 100 := by have := hs.2; omega
  have HK : Hid (∀ w : World, Calls Try.prog 39 #[.int .i64 d] w fun e w' => e = .returned (.int .i64 (nxtV d)) ∧ Below w.heap.size w w') := fun w => nextof_b w hy
  have HX : Hid (SiteOk b n ∧ WyOk n x ∧ 0 ≤ nxtV d ∧ nxtV d ≤ 100) := ⟨hs, hx, by unfold nxtV keyV; omega, by have := hs.2; unfold nxtV keyV; omega⟩
  have HFL : Hid (∀ q ∈ F, q < w.heap.size) := hF
  have HBS : Hid (Bx F w BS 56 #[.int .i64 b, .int .i64 n]) := hS
  have cS0 := hS.cell 0 rfl
  have cS1 := hS.cell 1 rfl
  have xS := hS.lt
  have HBD : Hid (Bx F w BD 3 #[.int .i64 d]) := hD
  have cD0 := hD.cell 0 rfl
  have xD := hD.lt
  have HBW : Hid (Bx F w BW 81 (wyC x)) := hW
  have cW0 := hW.cell 0 rfl
  have cW1 := hW.cell 1 rfl
  have cW2 := hW.cell 2 rfl
  have cW3 := hW.cell 3 rfl
  have cW4 := hW.cell 4 rfl
  have xW := hW.lt
  clear hF hS hD hW
  clear hs hd hy hx
  generalize nxtV d = y1 at *
  go_enter Try.func53, Try.ntmps53
  go_wp2_with fail
  obtain ⟨w2, hw2⟩ : ∃ w2, w2 = (World.alloc w (.cells #[.int .i64 0, .int .i64 0, .int .i64 0, .int .i64 0, .nilFunc] 54)) := ⟨_, rfl⟩
  have HB2 : Hid (Below w.heap.size w w2) := by rw [hw2]; exact below_a1 _ _
  have HG0 : Hid (w2.heap[w.heap.size]? = some (.cells #[.int .i64 0, .int .i64 0, .int .i64 0, .int .i64 0, .nilFunc] 54 (0, 0))) := by rw [hw2]; exact hp_at (by simp)
  rw [← hw2]
  clear hw2
  have HLO : Hid (∀ q ∈ F, q < w2.heap.size) := lo_nil HFL.out HB2.out
  have HCF : Hid (Fv encU (fun _ => True) (fun _ => putT b x.cell d (doneT 0)) (F) w2 (.func (.func 54) #[] #[.pointer (some ⟨BS, 0, none⟩), .pointer (some ⟨BW, 0, none⟩), .pointer (some ⟨BD, 0, none⟩)])) := fv_mk HLO.out (ent Try.func54 (by kernel_rfl) rfl) (fun z hz w' hu => by simpa [encU] using add1111_any HX.out.1 HX.out.2.1 (fun q hq => Nat.lt_of_lt_of_le (HLO.out q hq) hu.1) ((HBS.out.wide (in_nil) HB2.out).un hu) ((HBW.out.wide (in_nil) HB2.out).un hu) ((HBD.out.wide (in_nil) HB2.out).un hu))
  have HNW : Hid (∀ q ∈ F, q ∈ F ∨ w.heap.size ≤ q) := nw_nil
  have HNI : Hid (w.heap.size ∉ F) := ni_nil HFL.out (by omega)
  have HR2 : Hid (∀ w3 : World, Below w2.heap.size w2 w3 → Calls Try.prog 52 #[.agg #[.int .i64 b, .int .i64 n], .int .i64 y1, .int .i64 x.link, .func (.func 54) #[] #[.pointer (some ⟨BS, 0, none⟩), .pointer (some ⟨BW, 0, none⟩), .pointer (some ⟨BD, 0, none⟩)]] w3 (Gv (putT b y1 x.link (putT b x.cell d (doneT 0))) F w3)) := fun w3 hb => write_any HX.out.1 HX.out.2.2 (HCF.out.later hb)
  clear HX HCF HLO
  have HS : Hid (∀ w' : World, (∀ q, q < w2.heap.size → q ≠ w.heap.size → w'.heap[q]? = w2.heap[q]?) → w'.cell? ⟨BS, 0, none⟩ = some (.int .i64 b) ∧ w'.cell? ⟨BS, 1, none⟩ = some (.int .i64 n) ∧ w'.cell? ⟨BD, 0, none⟩ = some (.int .i64 d) ∧ w'.cell? ⟨BW, 0, none⟩ = some (.int .i64 x.cell) ∧ w'.cell? ⟨BW, 1, none⟩ = some (.int .i64 x.link) ∧ w'.cell? ⟨BW, 2, none⟩ = some (.bool x.stop) ∧ w'.cell? ⟨BW, 3, none⟩ = some (.int .i64 x.node) ∧ w'.cell? ⟨BW, 4, none⟩ = some (.int .i64 x.key)) := fun w' hq => ⟨(by rw [cell_at ((hq _ (heap_lt (HBS.out.wide in_nil HB2.out).2) (by omega)).trans (HBS.out.wide in_nil HB2.out).2)]; rfl), (by rw [cell_at ((hq _ (heap_lt (HBS.out.wide in_nil HB2.out).2) (by omega)).trans (HBS.out.wide in_nil HB2.out).2)]; rfl), (by rw [cell_at ((hq _ (heap_lt (HBD.out.wide in_nil HB2.out).2) (by omega)).trans (HBD.out.wide in_nil HB2.out).2)]; rfl), (by rw [cell_at ((hq _ (heap_lt (HBW.out.wide in_nil HB2.out).2) (by omega)).trans (HBW.out.wide in_nil HB2.out).2)]; rfl), (by rw [cell_at ((hq _ (heap_lt (HBW.out.wide in_nil HB2.out).2) (by omega)).trans (HBW.out.wide in_nil HB2.out).2)]; rfl), (by rw [cell_at ((hq _ (heap_lt (HBW.out.wide in_nil HB2.out).2) (by omega)).trans (HBW.out.wide in_nil HB2.out).2)]; rfl), (by rw [cell_at ((hq _ (heap_lt (HBW.out.wide in_nil HB2.out).2) (by omega)).trans (HBW.out.wide in_nil HB2.out).2)]; rfl), (by rw [cell_at ((hq _ (heap_lt (HBW.out.wide in_nil HB2.out).2) (by omega)).trans (HBW.out.wide in_nil HB2.out).2)]; rfl)⟩
  have hS2 : w2.cell? ⟨BS, 0, none⟩ = some (.int .i64 b) ∧ w2.cell? ⟨BS, 1, none⟩ = some (.int .i64 n) ∧ w2.cell? ⟨BD, 0, none⟩ = some (.int .i64 d) ∧ w2.cell? ⟨BW, 0, none⟩ = some (.int .i64 x.cell) ∧ w2.cell? ⟨BW, 1, none⟩ = some (.int .i64 x.link) ∧ w2.cell? ⟨BW, 2, none⟩ = some (.bool x.stop) ∧ w2.cell? ⟨BW, 3, none⟩ = some (.int .i64 x.node) ∧ w2.cell? ⟨BW, 4, none⟩ = some (.int .i64 x.key) := HS.out w2 (fun _ _ _ => rfl)
  obtain ⟨s0, s1, s2, s3, s4, s5, s6, s7⟩ := hS2
  have yS : BS < w2.heap.size := heap_lt (HBS.out.wide in_nil HB2.out).2
  have yD : BD < w2.heap.size := heap_lt (HBD.out.wide in_nil HB2.out).2
  have yW : BW < w2.heap.size := heap_lt (HBW.out.wide in_nil HB2.out).2
  clear cS0 cS1 cD0 xS xD xW cW0 cW1 cW2 cW3 cW4
  go_region_held3 (fun w' => w'.cell? ⟨BS, 0, none⟩ = some (.int .i64 b) ∧ w'.cell? ⟨BS, 1, none⟩ = some (.int .i64 n) ∧ w'.cell? ⟨BD, 0, none⟩ = some (.int .i64 d) ∧ w'.cell? ⟨BW, 0, none⟩ = some (.int .i64 x.cell) ∧ w'.cell? ⟨BW, 1, none⟩ = some (.int .i64 x.link) ∧ w'.cell? ⟨BW, 2, none⟩ = some (.bool x.stop) ∧ w'.cell? ⟨BW, 3, none⟩ = some (.int .i64 x.node) ∧ w'.cell? ⟨BW, 4, none⟩ = some (.int .i64 x.key)) (first | go_keep | exact hS | exact hS5) (first
    | (go_at_call 39; refine (HK.out _).mono ?_; rintro e w3 ⟨rfl, hb3⟩; have HB3 : Hid (Below w2.heap.size w2 w3) := below_then (bl_drew1 _) hb3; have hS : w3.cell? ⟨BS, 0, none⟩ = some (.int .i64 b) ∧ w3.cell? ⟨BS, 1, none⟩ = some (.int .i64 n) ∧ w3.cell? ⟨BD, 0, none⟩ = some (.int .i64 d) ∧ w3.cell? ⟨BW, 0, none⟩ = some (.int .i64 x.cell) ∧ w3.cell? ⟨BW, 1, none⟩ = some (.int .i64 x.link) ∧ w3.cell? ⟨BW, 2, none⟩ = some (.bool x.stop) ∧ w3.cell? ⟨BW, 3, none⟩ = some (.int .i64 x.node) ∧ w3.cell? ⟨BW, 4, none⟩ = some (.int .i64 x.key) := HS.out w3 (fun q hq _ => HB3.out.block q hq); clear hb3)
    | (go_at_call 52; refine (HR2.out _ HB3.out).mono ?_; rintro e w4 h4; obtain ⟨cs, w5, rfl, hz, hst, hr, hold⟩ := gv_put (w := w) (F := F) (R := w.heap.size) h4 (by rw [HB3.out.block _ (heap_lt HG0.out)]; exact HG0.out) rfl HNI.out (below_then HB2.out HB3.out) (by omega) HNW.out; have hS : w4.cell? ⟨BS, 0, none⟩ = some (.int .i64 b) ∧ w4.cell? ⟨BS, 1, none⟩ = some (.int .i64 n) ∧ w4.cell? ⟨BD, 0, none⟩ = some (.int .i64 d) ∧ w4.cell? ⟨BW, 0, none⟩ = some (.int .i64 x.cell) ∧ w4.cell? ⟨BW, 1, none⟩ = some (.int .i64 x.link) ∧ w4.cell? ⟨BW, 2, none⟩ = some (.bool x.stop) ∧ w4.cell? ⟨BW, 3, none⟩ = some (.int .i64 x.node) ∧ w4.cell? ⟨BW, 4, none⟩ = some (.int .i64 x.key) := HS.out w4 (fun q hq _ => ((gv_below h4).block q (Nat.lt_of_lt_of_le hq HB3.out.size)).trans (HB3.out.block q hq)); have hS5 : w5.cell? ⟨BS, 0, none⟩ = some (.int .i64 b) ∧ w5.cell? ⟨BS, 1, none⟩ = some (.int .i64 n) ∧ w5.cell? ⟨BD, 0, none⟩ = some (.int .i64 d) ∧ w5.cell? ⟨BW, 0, none⟩ = some (.int .i64 x.cell) ∧ w5.cell? ⟨BW, 1, none⟩ = some (.int .i64 x.link) ∧ w5.cell? ⟨BW, 2, none⟩ = some (.bool x.stop) ∧ w5.cell? ⟨BW, 3, none⟩ = some (.int .i64 x.node) ∧ w5.cell? ⟨BW, 4, none⟩ = some (.int .i64 x.key) := HS.out w5 (fun q hq hqr => (hold.out q (Nat.lt_of_lt_of_le hq HB3.out.size) hqr).trans (HB3.out.block q hq)); clear h4))
  all_goals (go_wp2_with fail; exact ret_tn rfl rfl hr.out.1 hz rfl hr.out.2)
set_option maxRecDepth 100000 in
theorem add11_any {w : World} {F : List Nat} {b n d k : Int} {x : Wy} {BS : Nat} {BK : Nat} {BW : Nat} (hs : SiteOk b n) (hx : WyOk n x) (hd : 1 ≤ d ∧ d ≤ n) (hF : ∀ q ∈ F, q < w.heap.size) (hS : Bx F w BS 56 #[.int .i64 b, .int .i64 n]) (hK : Bx F w BK 2 #[.int .i64 k]) (hW : Bx F w BW 81 (wyC x)) : Calls Try.prog 51 #[.int .i64 d, .pointer (some ⟨BS, 0, none⟩), .pointer (some ⟨BK, 0, none⟩), .pointer (some ⟨BW, 0, none⟩)] w (Gv (putT b (keyV d) k (putT b (nxtV d) x.link (putT b x.cell d (doneT 0)))) F w) := by
  have hy : 0 ≤ d ∧ d ≤ 100 := by have := hs.2; omega
  have HK : Hid (∀ w : World, Calls Try.prog 41 #[.int .i64 d] w fun e w' => e = .returned (.int .i64 (keyV d)) ∧ Below w.heap.size w w') := fun w => keyof_b w hy
  have HX : Hid (SiteOk b n ∧ WyOk n x ∧ (1 ≤ d ∧ d ≤ n) ∧ 0 ≤ keyV d ∧ keyV d ≤ 100) := ⟨hs, hx, hd, by unfold keyV; omega, by have := hs.2; unfold keyV; omega⟩
  have HFL : Hid (∀ q ∈ F, q < w.heap.size) := hF
  have HBS : Hid (Bx F w BS 56 #[.int .i64 b, .int .i64 n]) := hS
  have cS0 := hS.cell 0 rfl
  have cS1 := hS.cell 1 rfl
  have xS := hS.lt
  have HBK : Hid (Bx F w BK 2 #[.int .i64 k]) := hK
  have cK0 := hK.cell 0 rfl
  have xK := hK.lt
  have HBW : Hid (Bx F w BW 81 (wyC x)) := hW
  have cW0 := hW.cell 0 rfl
  have cW1 := hW.cell 1 rfl
  have cW2 := hW.cell 2 rfl
  have cW3 := hW.cell 3 rfl
  have cW4 := hW.cell 4 rfl
  have xW := hW.lt
  clear hF hS hK hW
  clear hs hd hy hx
  generalize keyV d = y1 at *
  go_enter Try.func51, Try.ntmps51
  go_wp2_with fail
  obtain ⟨w2, hw2⟩ : ∃ w2, w2 = (World.alloc (World.alloc w (.cells #[.int .i64 d] 3)) (.cells #[.int .i64 0, .int .i64 0, .int .i64 0, .int .i64 0, .nilFunc] 54)) := ⟨_, rfl⟩
  have HB2 : Hid (Below w.heap.size w w2) := by rw [hw2]; exact bl2 _ _ _
  have HG0 : Hid (w2.heap[w.heap.size]? = some (.cells #[.int .i64 d] 3 (0, 0))) := by rw [hw2]; exact hp_past (hp_at (by simp))
  have HG1 : Hid (w2.heap[w.heap.size + 1]? = some (.cells #[.int .i64 0, .int .i64 0, .int .i64 0, .int .i64 0, .nilFunc] 54 (0, 0))) := by rw [hw2]; exact hp_at (by simp)
  rw [← hw2]
  clear hw2
  have HLO : Hid (∀ q ∈ (w.heap.size) :: F, q < w2.heap.size) := lo_cons (heap_lt HG0.out) (lo_nil HFL.out HB2.out)
  have HCF : Hid (Fv encU (fun _ => True) (fun _ => putT b (nxtV d) x.link (putT b x.cell d (doneT 0))) ((w.heap.size) :: F) w2 (.func (.func 53) #[] #[.pointer (some ⟨BS, 0, none⟩), .pointer (some ⟨w.heap.size, 0, none⟩), .pointer (some ⟨BW, 0, none⟩)])) := fv_mk HLO.out (ent Try.func53 (by kernel_rfl) rfl) (fun z hz w' hu => by simpa [encU] using add111_any HX.out.1 HX.out.2.1 HX.out.2.2.1 (fun q hq => Nat.lt_of_lt_of_le (HLO.out q hq) hu.1) ((HBS.out.wide (in_cons in_nil) HB2.out).un hu) (Bx.un ⟨by simp, HG0.out⟩ hu) ((HBW.out.wide (in_cons in_nil) HB2.out).un hu))
  have HNW : Hid (∀ q ∈ (w.heap.size) :: F, q ∈ F ∨ w.heap.size ≤ q) := nw_cons (by omega) nw_nil
  have HNI : Hid (w.heap.size + 1 ∉ (w.heap.size) :: F) := ni_cons (by omega) (ni_nil HFL.out (by omega))
  have HR2 : Hid (∀ w3 : World, Below w2.heap.size w2 w3 → Calls Try.prog 52 #[.agg #[.int .i64 b, .int .i64 n], .int .i64 y1, .int .i64 k, .func (.func 53) #[] #[.pointer (some ⟨BS, 0, none⟩), .pointer (some ⟨w.heap.size, 0, none⟩), .pointer (some ⟨BW, 0, none⟩)]] w3 (Gv (putT b y1 k (putT b (nxtV d) x.link (putT b x.cell d (doneT 0)))) ((w.heap.size) :: F) w3)) := fun w3 hb => write_any HX.out.1 HX.out.2.2.2 (HCF.out.later hb)
  clear HX HCF HLO
  have HS : Hid (∀ w' : World, (∀ q, q < w2.heap.size → q ≠ w.heap.size + 1 → w'.heap[q]? = w2.heap[q]?) → w'.cell? ⟨BS, 0, none⟩ = some (.int .i64 b) ∧ w'.cell? ⟨BS, 1, none⟩ = some (.int .i64 n) ∧ w'.cell? ⟨w.heap.size, 0, none⟩ = some (.int .i64 d) ∧ w'.cell? ⟨BK, 0, none⟩ = some (.int .i64 k)) := fun w' hq => ⟨(by rw [cell_at ((hq _ (heap_lt (HBS.out.wide in_nil HB2.out).2) (by omega)).trans (HBS.out.wide in_nil HB2.out).2)]; rfl), (by rw [cell_at ((hq _ (heap_lt (HBS.out.wide in_nil HB2.out).2) (by omega)).trans (HBS.out.wide in_nil HB2.out).2)]; rfl), (by rw [cell_at ((hq _ (heap_lt HG0.out) (by omega)).trans HG0.out)]; rfl), (by rw [cell_at ((hq _ (heap_lt (HBK.out.wide in_nil HB2.out).2) (by omega)).trans (HBK.out.wide in_nil HB2.out).2)]; rfl)⟩
  have hS2 : w2.cell? ⟨BS, 0, none⟩ = some (.int .i64 b) ∧ w2.cell? ⟨BS, 1, none⟩ = some (.int .i64 n) ∧ w2.cell? ⟨w.heap.size, 0, none⟩ = some (.int .i64 d) ∧ w2.cell? ⟨BK, 0, none⟩ = some (.int .i64 k) := HS.out w2 (fun _ _ _ => rfl)
  obtain ⟨s0, s1, s2, s3⟩ := hS2
  have yS : BS < w2.heap.size := heap_lt (HBS.out.wide in_nil HB2.out).2
  have yD : w.heap.size < w2.heap.size := heap_lt HG0.out
  have yK : BK < w2.heap.size := heap_lt (HBK.out.wide in_nil HB2.out).2
  clear cS0 cS1 cK0 xS xK xW cW0 cW1 cW2 cW3 cW4
  go_region_held3 (fun w' => w'.cell? ⟨BS, 0, none⟩ = some (.int .i64 b) ∧ w'.cell? ⟨BS, 1, none⟩ = some (.int .i64 n) ∧ w'.cell? ⟨w.heap.size, 0, none⟩ = some (.int .i64 d) ∧ w'.cell? ⟨BK, 0, none⟩ = some (.int .i64 k)) (first | go_keep | exact hS | exact hS5) (first
    | (go_at_call 41; refine (HK.out _).mono ?_; rintro e w3 ⟨rfl, hb3⟩; have HB3 : Hid (Below w2.heap.size w2 w3) := below_then (bl_drew1 _) hb3; have hS : w3.cell? ⟨BS, 0, none⟩ = some (.int .i64 b) ∧ w3.cell? ⟨BS, 1, none⟩ = some (.int .i64 n) ∧ w3.cell? ⟨w.heap.size, 0, none⟩ = some (.int .i64 d) ∧ w3.cell? ⟨BK, 0, none⟩ = some (.int .i64 k) := HS.out w3 (fun q hq _ => HB3.out.block q hq); clear hb3)
    | (go_at_call 52; refine (HR2.out _ HB3.out).mono ?_; rintro e w4 h4; obtain ⟨cs, w5, rfl, hz, hst, hr, hold⟩ := gv_put (w := w) (F := F) (R := w.heap.size + 1) h4 (by rw [HB3.out.block _ (heap_lt HG1.out)]; exact HG1.out) rfl HNI.out (below_then HB2.out HB3.out) (by omega) HNW.out; have hS : w4.cell? ⟨BS, 0, none⟩ = some (.int .i64 b) ∧ w4.cell? ⟨BS, 1, none⟩ = some (.int .i64 n) ∧ w4.cell? ⟨w.heap.size, 0, none⟩ = some (.int .i64 d) ∧ w4.cell? ⟨BK, 0, none⟩ = some (.int .i64 k) := HS.out w4 (fun q hq _ => ((gv_below h4).block q (Nat.lt_of_lt_of_le hq HB3.out.size)).trans (HB3.out.block q hq)); have hS5 : w5.cell? ⟨BS, 0, none⟩ = some (.int .i64 b) ∧ w5.cell? ⟨BS, 1, none⟩ = some (.int .i64 n) ∧ w5.cell? ⟨w.heap.size, 0, none⟩ = some (.int .i64 d) ∧ w5.cell? ⟨BK, 0, none⟩ = some (.int .i64 k) := HS.out w5 (fun q hq hqr => (hold.out q (Nat.lt_of_lt_of_le hq HB3.out.size) hqr).trans (HB3.out.block q hq)); clear h4))
  all_goals (go_wp2_with fail; exact ret_tn rfl rfl hr.out.1 hz rfl hr.out.2)
set_option maxRecDepth 100000 in
theorem add1_there {w : World} {F : List Nat} {b n k : Int} {x : Wy} {BK : Nat} {BS : Nat} (ha : wyAt x k = true) (hF : ∀ q ∈ F, q < w.heap.size) (hK : Bx F w BK 2 #[.int .i64 k]) (hS : Bx F w BS 56 #[.int .i64 b, .int .i64 n]) : Calls Try.prog 47 #[.agg #[.int .i64 x.cell, .int .i64 x.link, .bool x.stop, .int .i64 x.node, .int .i64 x.key], .pointer (some ⟨BK, 0, none⟩), .pointer (some ⟨BS, 0, none⟩)] w (Gv (refT 3) F w) := by
  have HA : Hid (∀ w : World, Calls Try.prog 48 #[.agg #[.int .i64 x.cell, .int .i64 x.link, .bool x.stop, .int .i64 x.node, .int .i64 x.key], .int .i64 k] w fun e w' => e = .returned (.bool true) ∧ Below w.heap.size w w') := fun w => by have := at_any w x k; rw [ha] at this; exact this
  have HFL : Hid (∀ q ∈ F, q < w.heap.size) := hF
  have HBK : Hid (Bx F w BK 2 #[.int .i64 k]) := hK
  have cK0 := hK.cell 0 rfl
  have xK := hK.lt
  have HBS : Hid (Bx F w BS 56 #[.int .i64 b, .int .i64 n]) := hS
  have cS0 := hS.cell 0 rfl
  have cS1 := hS.cell 1 rfl
  have xS := hS.lt
  clear hF hK hS
  clear ha
  go_enter Try.func47, Try.ntmps47
  go_wp2_with fail
  refine (HA.out _).mono ?_
  rintro e w2 ⟨rfl, hbA⟩
  have HB2 : Hid (Below w.heap.size w w2) := below_then (bl2 _ _ _) hbA
  have HG0 : Hid (w2.heap[w.heap.size]? = some (.cells (wyC x) 81 (0, 0))) := by rw [Hid, hbA.block (w.heap.size) (heap_lt (hp_past (hp_at (by simp))))]; exact hp_past (hp_at (by simp))
  have HG1 : Hid (w2.heap[w.heap.size + 1]? = some (.cells #[.int .i64 0, .int .i64 0, .int .i64 0, .int .i64 0, .nilFunc] 54 (0, 0))) := by rw [Hid, hbA.block (w.heap.size + 1) (heap_lt (hp_at (by simp)))]; exact hp_at (by simp)
  have eK0 := (HBK.out.wide in_nil HB2.out).cell 0 rfl
  have eS0 := (HBS.out.wide in_nil HB2.out).cell 0 rfl
  have eS1 := (HBS.out.wide in_nil HB2.out).cell 1 rfl
  clear hbA cK0 cS0 cS1
  go_wp2_with fail
  refine (refused_any w2 3 []).mono ?_
  rintro e w4 h4
  obtain ⟨cs, w5, rfl, hz, hst, hr, hold⟩ := gv_put (w := w) (F := F) (R := w.heap.size + 1) h4 HG1.out rfl (by simp) HB2.out (by omega) (by simp)
  clear h4
  go_wp2_with fail
  exact ret_tn rfl rfl hr.out.1 hz rfl hr.out.2
set_option maxRecDepth 100000 in
theorem del1_none {w : World} {F : List Nat} {b n k : Int} {x : Wy} {BK : Nat} {BS : Nat} (ha : wyAt x k = false) (hF : ∀ q ∈ F, q < w.heap.size) (hK : Bx F w BK 2 #[.int .i64 k]) (hS : Bx F w BS 56 #[.int .i64 b, .int .i64 n]) : Calls Try.prog 56 #[.agg #[.int .i64 x.cell, .int .i64 x.link, .bool x.stop, .int .i64 x.node, .int .i64 x.key], .pointer (some ⟨BK, 0, none⟩), .pointer (some ⟨BS, 0, none⟩)] w (Gv (refT 1) F w) := by
  have HA : Hid (∀ w : World, Calls Try.prog 48 #[.agg #[.int .i64 x.cell, .int .i64 x.link, .bool x.stop, .int .i64 x.node, .int .i64 x.key], .int .i64 k] w fun e w' => e = .returned (.bool false) ∧ Below w.heap.size w w') := fun w => by have := at_any w x k; rw [ha] at this; exact this
  have HFL : Hid (∀ q ∈ F, q < w.heap.size) := hF
  have HBK : Hid (Bx F w BK 2 #[.int .i64 k]) := hK
  have cK0 := hK.cell 0 rfl
  have xK := hK.lt
  have HBS : Hid (Bx F w BS 56 #[.int .i64 b, .int .i64 n]) := hS
  have cS0 := hS.cell 0 rfl
  have cS1 := hS.cell 1 rfl
  have xS := hS.lt
  clear hF hK hS
  clear ha
  go_enter Try.func56, Try.ntmps56
  go_wp2_with fail
  refine (HA.out _).mono ?_
  rintro e w2 ⟨rfl, hbA⟩
  have HB2 : Hid (Below w.heap.size w w2) := below_then (bl2 _ _ _) hbA
  have HG0 : Hid (w2.heap[w.heap.size]? = some (.cells (wyC x) 81 (0, 0))) := by rw [Hid, hbA.block (w.heap.size) (heap_lt (hp_past (hp_at (by simp))))]; exact hp_past (hp_at (by simp))
  have HG1 : Hid (w2.heap[w.heap.size + 1]? = some (.cells #[.int .i64 0, .int .i64 0, .int .i64 0, .int .i64 0, .nilFunc] 54 (0, 0))) := by rw [Hid, hbA.block (w.heap.size + 1) (heap_lt (hp_at (by simp)))]; exact hp_at (by simp)
  have eK0 := (HBK.out.wide in_nil HB2.out).cell 0 rfl
  have eS0 := (HBS.out.wide in_nil HB2.out).cell 0 rfl
  have eS1 := (HBS.out.wide in_nil HB2.out).cell 1 rfl
  clear hbA cK0 cS0 cS1
  go_wp2_with fail
  refine (refused_any w2 1 []).mono ?_
  rintro e w4 h4
  obtain ⟨cs, w5, rfl, hz, hst, hr, hold⟩ := gv_put (w := w) (F := F) (R := w.heap.size + 1) h4 HG1.out rfl (by simp) HB2.out (by omega) (by simp)
  clear h4
  go_wp2_with fail
  exact ret_tn rfl rfl hr.out.1 hz rfl hr.out.2
set_option maxRecDepth 100000 in
theorem add1_on {w : World} {F : List Nat} {b n k : Int} {x : Wy} {BK : Nat} {BS : Nat} (hs : SiteOk b n) (hx : WyOk n x) (ha : wyAt x k = false) (hF : ∀ q ∈ F, q < w.heap.size) (hK : Bx F w BK 2 #[.int .i64 k]) (hS : Bx F w BS 56 #[.int .i64 b, .int .i64 n]) : Calls Try.prog 47 #[.agg #[.int .i64 x.cell, .int .i64 x.link, .bool x.stop, .int .i64 x.node, .int .i64 x.key], .pointer (some ⟨BK, 0, none⟩), .pointer (some ⟨BS, 0, none⟩)] w (Gv (takeT b n (fun d => putT b (keyV d) k (putT b (nxtV d) x.link (putT b x.cell d (doneT 0))))) F w) := by
  have HA : Hid (∀ w : World, Calls Try.prog 48 #[.agg #[.int .i64 x.cell, .int .i64 x.link, .bool x.stop, .int .i64 x.node, .int .i64 x.key], .int .i64 k] w fun e w' => e = .returned (.bool false) ∧ Below w.heap.size w w') := fun w => by have := at_any w x k; rw [ha] at this; exact this
  have HFL : Hid (∀ q ∈ F, q < w.heap.size) := hF
  have HBK : Hid (Bx F w BK 2 #[.int .i64 k]) := hK
  have cK0 := hK.cell 0 rfl
  have xK := hK.lt
  have HBS : Hid (Bx F w BS 56 #[.int .i64 b, .int .i64 n]) := hS
  have cS0 := hS.cell 0 rfl
  have cS1 := hS.cell 1 rfl
  have xS := hS.lt
  clear hF hK hS
  have HX : Hid (SiteOk b n ∧ WyOk n x) := ⟨hs, hx⟩
  clear ha hs hx
  go_enter Try.func47, Try.ntmps47
  go_wp2_with fail
  refine (HA.out _).mono ?_
  rintro e w2 ⟨rfl, hbA⟩
  have HB2 : Hid (Below w.heap.size w w2) := below_then (bl2 _ _ _) hbA
  have HG0 : Hid (w2.heap[w.heap.size]? = some (.cells (wyC x) 81 (0, 0))) := by rw [Hid, hbA.block (w.heap.size) (heap_lt (hp_past (hp_at (by simp))))]; exact hp_past (hp_at (by simp))
  have HG1 : Hid (w2.heap[w.heap.size + 1]? = some (.cells #[.int .i64 0, .int .i64 0, .int .i64 0, .int .i64 0, .nilFunc] 54 (0, 0))) := by rw [Hid, hbA.block (w.heap.size + 1) (heap_lt (hp_at (by simp)))]; exact hp_at (by simp)
  have eK0 := (HBK.out.wide in_nil HB2.out).cell 0 rfl
  have eS0 := (HBS.out.wide in_nil HB2.out).cell 0 rfl
  have eS1 := (HBS.out.wide in_nil HB2.out).cell 1 rfl
  clear hbA cK0 cS0 cS1
  go_wp2_with fail
  have HLO : Hid (∀ q ∈ (w.heap.size) :: F, q < w2.heap.size) := lo_cons (heap_lt HG0.out) (lo_nil HFL.out HB2.out)
  have HCF : Hid (Fv encI (fun d => 1 ≤ d ∧ d ≤ n) (fun d => putT b (keyV d) k (putT b (nxtV d) x.link (putT b x.cell d (doneT 0)))) ((w.heap.size) :: F) w2 (.func (.func 51) #[] #[.pointer (some ⟨BS, 0, none⟩), .pointer (some ⟨BK, 0, none⟩), .pointer (some ⟨w.heap.size, 0, none⟩)])) := fv_mk HLO.out (ent Try.func51 (by kernel_rfl) rfl) (fun z hz w' hu => by simpa [encI] using add11_any HX.out.1 HX.out.2 hz (fun q hq => Nat.lt_of_lt_of_le (HLO.out q hq) hu.1) ((HBS.out.wide (in_cons in_nil) HB2.out).un hu) ((HBK.out.wide (in_cons in_nil) HB2.out).un hu) (Bx.un ⟨by simp, HG0.out⟩ hu))
  have HNW : Hid (∀ q ∈ (w.heap.size) :: F, q ∈ F ∨ w.heap.size ≤ q) := nw_cons (by omega) nw_nil
  have HNI : Hid (w.heap.size + 1 ∉ (w.heap.size) :: F) := ni_cons (by omega) (ni_nil HFL.out (by omega))
  refine (take_any HX.out.1 HCF.out HLO.out).mono ?_
  rintro e w4 h4
  obtain ⟨cs, w5, rfl, hz, hst, hr, hold⟩ := gv_put (w := w) (F := F) (R := w.heap.size + 1) h4 HG1.out rfl HNI.out HB2.out (by omega) HNW.out
  clear h4
  go_wp2_with fail
  exact ret_tn rfl rfl hr.out.1 hz rfl hr.out.2
set_option maxRecDepth 100000 in
theorem del111_any {w : World} {F : List Nat} {b n : Int} {x : Wy} {BS : Nat} {BW : Nat} (hs : SiteOk b n) (hx : 1 ≤ x.node ∧ x.node ≤ n) (hF : ∀ q ∈ F, q < w.heap.size) (hS : Bx F w BS 56 #[.int .i64 b, .int .i64 n]) (hW : Bx F w BW 81 (wyC x)) : Calls Try.prog 58 #[.pointer (some ⟨BS, 0, none⟩), .pointer (some ⟨BW, 0, none⟩)] w (Gv (giveT b x.node) F w) := by
  have HW : Hid (∀ w : World, Calls Try.prog 59 #[.agg #[.int .i64 b, .int .i64 n], .int .i64 x.node] w (Gv (giveT b x.node) [] w)) := fun w => give_any hs hx (by simp)
  have HFL : Hid (∀ q ∈ F, q < w.heap.size) := hF
  have HBS : Hid (Bx F w BS 56 #[.int .i64 b, .int .i64 n]) := hS
  have cS0 := hS.cell 0 rfl
  have cS1 := hS.cell 1 rfl
  have xS := hS.lt
  have HBW : Hid (Bx F w BW 81 (wyC x)) := hW
  have cW0 := hW.cell 0 rfl
  have cW1 := hW.cell 1 rfl
  have cW2 := hW.cell 2 rfl
  have cW3 := hW.cell 3 rfl
  have cW4 := hW.cell 4 rfl
  have xW := hW.lt
  clear hF hS hW
  clear hs hx
  generalize giveT b x.node = t at *
  go_enter Try.func58, Try.ntmps58
  go_wp2_with fail
  obtain ⟨w2, hw2⟩ : ∃ w2, w2 = (World.alloc w (.cells #[.int .i64 0, .int .i64 0, .int .i64 0, .int .i64 0, .nilFunc] 54)) := ⟨_, rfl⟩
  have HB2 : Hid (Below w.heap.size w w2) := by rw [hw2]; exact below_a1 _ _
  have HG0 : Hid (w2.heap[w.heap.size]? = some (.cells #[.int .i64 0, .int .i64 0, .int .i64 0, .int .i64 0, .nilFunc] 54 (0, 0))) := by rw [hw2]; exact hp_at (by simp)
  rw [← hw2]
  clear hw2
  refine (HW.out w2).mono ?_
  rintro e w4 h4
  obtain ⟨cs, w5, rfl, hz, hst, hr, hold⟩ := gv_put (w := w) (F := F) (R := w.heap.size) h4 HG0.out rfl (by simp) HB2.out (by omega) (by simp)
  clear h4
  go_wp2_with fail
  exact ret_tn rfl rfl hr.out.1 hz rfl hr.out.2
set_option maxRecDepth 100000 in
theorem del11_any {w : World} {F : List Nat} {b n p : Int} {x : Wy} {BS : Nat} {BW : Nat} (hs : SiteOk b n) (hc : WyOk n x) (hx : 1 ≤ x.node ∧ x.node ≤ n) (hF : ∀ q ∈ F, q < w.heap.size) (hS : Bx F w BS 56 #[.int .i64 b, .int .i64 n]) (hW : Bx F w BW 81 (wyC x)) : Calls Try.prog 57 #[.int .i64 p, .pointer (some ⟨BS, 0, none⟩), .pointer (some ⟨BW, 0, none⟩)] w (Gv (putT b x.cell p (giveT b x.node)) F w) := by
  have HFL : Hid (∀ q ∈ F, q < w.heap.size) := hF
  have HBS : Hid (Bx F w BS 56 #[.int .i64 b, .int .i64 n]) := hS
  have cS0 := hS.cell 0 rfl
  have cS1 := hS.cell 1 rfl
  have xS := hS.lt
  have HBW : Hid (Bx F w BW 81 (wyC x)) := hW
  have cW0 := hW.cell 0 rfl
  have cW1 := hW.cell 1 rfl
  have cW2 := hW.cell 2 rfl
  have cW3 := hW.cell 3 rfl
  have cW4 := hW.cell 4 rfl
  have xW := hW.lt
  clear hF hS hW
  go_enter Try.func57, Try.ntmps57
  go_wp2_with fail
  obtain ⟨w2, hw2⟩ : ∃ w2, w2 = (World.alloc w (.cells #[.int .i64 0, .int .i64 0, .int .i64 0, .int .i64 0, .nilFunc] 54)) := ⟨_, rfl⟩
  have HB2 : Hid (Below w.heap.size w w2) := by rw [hw2]; exact below_a1 _ _
  have HG0 : Hid (w2.heap[w.heap.size]? = some (.cells #[.int .i64 0, .int .i64 0, .int .i64 0, .int .i64 0, .nilFunc] 54 (0, 0))) := by rw [hw2]; exact hp_at (by simp)
  rw [← hw2]
  clear hw2
  have HLO : Hid (∀ q ∈ F, q < w2.heap.size) := lo_nil HFL.out HB2.out
  have HCF : Hid (Fv encU (fun _ => True) (fun _ => giveT b x.node) (F) w2 (.func (.func 58) #[] #[.pointer (some ⟨BS, 0, none⟩), .pointer (some ⟨BW, 0, none⟩)])) := fv_mk HLO.out (ent Try.func58 (by kernel_rfl) rfl) (fun z hz w' hu => by simpa [encU] using del111_any hs hx (fun q hq => Nat.lt_of_lt_of_le (HLO.out q hq) hu.1) ((HBS.out.wide (in_nil) HB2.out).un hu) ((HBW.out.wide (in_nil) HB2.out).un hu))
  have HNW : Hid (∀ q ∈ F, q ∈ F ∨ w.heap.size ≤ q) := nw_nil
  have HNI : Hid (w.heap.size ∉ F) := ni_nil HFL.out (by omega)
  refine (write_any hs (by have := hc.c; have := hs.2; omega) HCF.out).mono ?_
  rintro e w4 h4
  obtain ⟨cs, w5, rfl, hz, hst, hr, hold⟩ := gv_put (w := w) (F := F) (R := w.heap.size) h4 HG0.out rfl HNI.out HB2.out (by omega) HNW.out
  clear h4
  go_wp2_with fail
  exact ret_tn rfl rfl hr.out.1 hz rfl hr.out.2
set_option maxRecDepth 100000 in
theorem del1_on {w : World} {F : List Nat} {b n k : Int} {x : Wy} {BK : Nat} {BS : Nat} (hs : SiteOk b n) (hx : WyOk n x) (ha : wyAt x k = true) (hF : ∀ q ∈ F, q < w.heap.size) (hK : Bx F w BK 2 #[.int .i64 k]) (hS : Bx F w BS 56 #[.int .i64 b, .int .i64 n]) : Calls Try.prog 56 #[.agg #[.int .i64 x.cell, .int .i64 x.link, .bool x.stop, .int .i64 x.node, .int .i64 x.key], .pointer (some ⟨BK, 0, none⟩), .pointer (some ⟨BS, 0, none⟩)] w (Gv (readT b (nxtV x.node) fun q => putT b x.cell q (giveT b x.node)) F w) := by
  have HA : Hid (∀ w : World, Calls Try.prog 48 #[.agg #[.int .i64 x.cell, .int .i64 x.link, .bool x.stop, .int .i64 x.node, .int .i64 x.key], .int .i64 k] w fun e w' => e = .returned (.bool true) ∧ Below w.heap.size w w') := fun w => by have := at_any w x k; rw [ha] at this; exact this
  have hd := hx.s (at_stop ha).1
  have hy : 0 ≤ x.node ∧ x.node ≤ 100 := by have := hs.2; omega
  have HK : Hid (∀ w : World, Calls Try.prog 39 #[.int .i64 x.node] w fun e w' => e = .returned (.int .i64 (nxtV x.node)) ∧ Below w.heap.size w w') := fun w => nextof_b w hy
  have HFL : Hid (∀ q ∈ F, q < w.heap.size) := hF
  have HBK : Hid (Bx F w BK 2 #[.int .i64 k]) := hK
  have cK0 := hK.cell 0 rfl
  have xK := hK.lt
  have HBS : Hid (Bx F w BS 56 #[.int .i64 b, .int .i64 n]) := hS
  have cS0 := hS.cell 0 rfl
  have cS1 := hS.cell 1 rfl
  have xS := hS.lt
  clear hF hK hS
  have HX : Hid (SiteOk b n ∧ WyOk n x ∧ (1 ≤ x.node ∧ x.node ≤ n) ∧ 0 ≤ nxtV x.node ∧ nxtV x.node ≤ 100) := ⟨hs, hx, hd, by unfold nxtV keyV; omega, by have := hs.2; unfold nxtV keyV; omega⟩
  clear ha hs hx hd hy
  generalize nxtV x.node = y1 at *
  go_enter Try.func56, Try.ntmps56
  go_wp2_with fail
  refine (HA.out _).mono ?_
  rintro e w2 ⟨rfl, hbA⟩
  have HB2 : Hid (Below w.heap.size w w2) := below_then (bl2 _ _ _) hbA
  have HG0 : Hid (w2.heap[w.heap.size]? = some (.cells (wyC x) 81 (0, 0))) := by rw [Hid, hbA.block (w.heap.size) (heap_lt (hp_past (hp_at (by simp))))]; exact hp_past (hp_at (by simp))
  have HG1 : Hid (w2.heap[w.heap.size + 1]? = some (.cells #[.int .i64 0, .int .i64 0, .int .i64 0, .int .i64 0, .nilFunc] 54 (0, 0))) := by rw [Hid, hbA.block (w.heap.size + 1) (heap_lt (hp_at (by simp)))]; exact hp_at (by simp)
  have eK0 := (HBK.out.wide in_nil HB2.out).cell 0 rfl
  have eS0 := (HBS.out.wide in_nil HB2.out).cell 0 rfl
  have eS1 := (HBS.out.wide in_nil HB2.out).cell 1 rfl
  clear hbA cK0 cS0 cS1
  go_wp2_with fail
  have HLO : Hid (∀ q ∈ (w.heap.size) :: F, q < w2.heap.size) := lo_cons (heap_lt HG0.out) (lo_nil HFL.out HB2.out)
  have HCF : Hid (Fv encI An (fun q => putT b x.cell q (giveT b x.node)) ((w.heap.size) :: F) w2 (.func (.func 57) #[] #[.pointer (some ⟨BS, 0, none⟩), .pointer (some ⟨w.heap.size, 0, none⟩)])) := fv_mk HLO.out (ent Try.func57 (by kernel_rfl) rfl) (fun z hz w' hu => by simpa [encI] using del11_any HX.out.1 HX.out.2.1 HX.out.2.2.1 (fun q hq => Nat.lt_of_lt_of_le (HLO.out q hq) hu.1) ((HBS.out.wide (in_cons in_nil) HB2.out).un hu) (Bx.un ⟨by simp, HG0.out⟩ hu))
  have HNW : Hid (∀ q ∈ (w.heap.size) :: F, q ∈ F ∨ w.heap.size ≤ q) := nw_cons (by omega) nw_nil
  have HNI : Hid (w.heap.size + 1 ∉ (w.heap.size) :: F) := ni_cons (by omega) (ni_nil HFL.out (by omega))
  have HR2 : Hid (∀ w3 : World, Below w2.heap.size w2 w3 → Calls Try.prog 35 #[.agg #[.int .i64 b, .int .i64 n], .int .i64 y1, .func (.func 57) #[] #[.pointer (some ⟨BS, 0, none⟩), .pointer (some ⟨w.heap.size, 0, none⟩)]] w3 (Gv (readT b y1 fun q => putT b x.cell q (giveT b x.node)) ((w.heap.size) :: F) w3)) := fun w3 hb => read_any HX.out.1 HX.out.2.2.2 (HCF.out.later hb)
  clear HX HCF HLO HA
  have HS : Hid (∀ w' : World, (∀ q, q < w2.heap.size → q ≠ w.heap.size + 1 → w'.heap[q]? = w2.heap[q]?) → w'.cell? ⟨BS, 0, none⟩ = some (.int .i64 b) ∧ w'.cell? ⟨BS, 1, none⟩ = some (.int .i64 n) ∧ w'.cell? ⟨w.heap.size, 0, none⟩ = some (.int .i64 x.cell) ∧ w'.cell? ⟨w.heap.size, 1, none⟩ = some (.int .i64 x.link) ∧ w'.cell? ⟨w.heap.size, 2, none⟩ = some (.bool x.stop) ∧ w'.cell? ⟨w.heap.size, 3, none⟩ = some (.int .i64 x.node) ∧ w'.cell? ⟨w.heap.size, 4, none⟩ = some (.int .i64 x.key)) := fun w' hq => ⟨(by rw [cell_at ((hq _ (heap_lt (HBS.out.wide in_nil HB2.out).2) (by omega)).trans (HBS.out.wide in_nil HB2.out).2)]; rfl), (by rw [cell_at ((hq _ (heap_lt (HBS.out.wide in_nil HB2.out).2) (by omega)).trans (HBS.out.wide in_nil HB2.out).2)]; rfl), (by rw [cell_at ((hq _ (heap_lt HG0.out) (by omega)).trans HG0.out)]; rfl), (by rw [cell_at ((hq _ (heap_lt HG0.out) (by omega)).trans HG0.out)]; rfl), (by rw [cell_at ((hq _ (heap_lt HG0.out) (by omega)).trans HG0.out)]; rfl), (by rw [cell_at ((hq _ (heap_lt HG0.out) (by omega)).trans HG0.out)]; rfl), (by rw [cell_at ((hq _ (heap_lt HG0.out) (by omega)).trans HG0.out)]; rfl)⟩
  have hS2 : w2.cell? ⟨BS, 0, none⟩ = some (.int .i64 b) ∧ w2.cell? ⟨BS, 1, none⟩ = some (.int .i64 n) ∧ w2.cell? ⟨w.heap.size, 0, none⟩ = some (.int .i64 x.cell) ∧ w2.cell? ⟨w.heap.size, 1, none⟩ = some (.int .i64 x.link) ∧ w2.cell? ⟨w.heap.size, 2, none⟩ = some (.bool x.stop) ∧ w2.cell? ⟨w.heap.size, 3, none⟩ = some (.int .i64 x.node) ∧ w2.cell? ⟨w.heap.size, 4, none⟩ = some (.int .i64 x.key) := HS.out w2 (fun _ _ _ => rfl)
  obtain ⟨s0, s1, s2, s3, s4, s5, s6⟩ := hS2
  have yS : BS < w2.heap.size := heap_lt (HBS.out.wide in_nil HB2.out).2
  have yW : w.heap.size < w2.heap.size := heap_lt HG0.out
  clear eS0 eS1 eK0
  go_region_held3 (fun w' => w'.cell? ⟨BS, 0, none⟩ = some (.int .i64 b) ∧ w'.cell? ⟨BS, 1, none⟩ = some (.int .i64 n) ∧ w'.cell? ⟨w.heap.size, 0, none⟩ = some (.int .i64 x.cell) ∧ w'.cell? ⟨w.heap.size, 1, none⟩ = some (.int .i64 x.link) ∧ w'.cell? ⟨w.heap.size, 2, none⟩ = some (.bool x.stop) ∧ w'.cell? ⟨w.heap.size, 3, none⟩ = some (.int .i64 x.node) ∧ w'.cell? ⟨w.heap.size, 4, none⟩ = some (.int .i64 x.key)) (first | go_keep | exact hS | exact hS5) (first
    | (go_at_call 39; refine (HK.out _).mono ?_; rintro e w3 ⟨rfl, hb3⟩; have HB3 : Hid (Below w2.heap.size w2 w3) := below_then (bl_drew1 _) hb3; have hS : w3.cell? ⟨BS, 0, none⟩ = some (.int .i64 b) ∧ w3.cell? ⟨BS, 1, none⟩ = some (.int .i64 n) ∧ w3.cell? ⟨w.heap.size, 0, none⟩ = some (.int .i64 x.cell) ∧ w3.cell? ⟨w.heap.size, 1, none⟩ = some (.int .i64 x.link) ∧ w3.cell? ⟨w.heap.size, 2, none⟩ = some (.bool x.stop) ∧ w3.cell? ⟨w.heap.size, 3, none⟩ = some (.int .i64 x.node) ∧ w3.cell? ⟨w.heap.size, 4, none⟩ = some (.int .i64 x.key) := HS.out w3 (fun q hq _ => HB3.out.block q hq); clear hb3)
    | (go_at_call 35; refine (HR2.out _ HB3.out).mono ?_; rintro e w4 h4; obtain ⟨cs, w5, rfl, hz, hst, hr, hold⟩ := gv_put (w := w) (F := F) (R := w.heap.size + 1) h4 (by rw [HB3.out.block _ (heap_lt HG1.out)]; exact HG1.out) rfl HNI.out (below_then HB2.out HB3.out) (by omega) HNW.out; have hS : w4.cell? ⟨BS, 0, none⟩ = some (.int .i64 b) ∧ w4.cell? ⟨BS, 1, none⟩ = some (.int .i64 n) ∧ w4.cell? ⟨w.heap.size, 0, none⟩ = some (.int .i64 x.cell) ∧ w4.cell? ⟨w.heap.size, 1, none⟩ = some (.int .i64 x.link) ∧ w4.cell? ⟨w.heap.size, 2, none⟩ = some (.bool x.stop) ∧ w4.cell? ⟨w.heap.size, 3, none⟩ = some (.int .i64 x.node) ∧ w4.cell? ⟨w.heap.size, 4, none⟩ = some (.int .i64 x.key) := HS.out w4 (fun q hq _ => ((gv_below h4).block q (Nat.lt_of_lt_of_le hq HB3.out.size)).trans (HB3.out.block q hq)); have hS5 : w5.cell? ⟨BS, 0, none⟩ = some (.int .i64 b) ∧ w5.cell? ⟨BS, 1, none⟩ = some (.int .i64 n) ∧ w5.cell? ⟨w.heap.size, 0, none⟩ = some (.int .i64 x.cell) ∧ w5.cell? ⟨w.heap.size, 1, none⟩ = some (.int .i64 x.link) ∧ w5.cell? ⟨w.heap.size, 2, none⟩ = some (.bool x.stop) ∧ w5.cell? ⟨w.heap.size, 3, none⟩ = some (.int .i64 x.node) ∧ w5.cell? ⟨w.heap.size, 4, none⟩ = some (.int .i64 x.key) := HS.out w5 (fun q hq hqr => (hold.out q (Nat.lt_of_lt_of_le hq HB3.out.size) hqr).trans (HB3.out.block q hq)); clear h4))
  all_goals (go_wp2_with fail; exact ret_tn rfl rfl hr.out.1 hz rfl hr.out.2)
set_option maxRecDepth 100000 in
theorem has1_yes {w : World} {F : List Nat} {k : Int} {x : Wy} {BK : Nat} (ha : wyAt x k = true) (hF : ∀ q ∈ F, q < w.heap.size) (hK : Bx F w BK 2 #[.int .i64 k]) : Calls Try.prog 60 #[.agg #[.int .i64 x.cell, .int .i64 x.link, .bool x.stop, .int .i64 x.node, .int .i64 x.key], .pointer (some ⟨BK, 0, none⟩)] w (Gv (doneT 1) F w) := by
  have HA : Hid (∀ w : World, Calls Try.prog 48 #[.agg #[.int .i64 x.cell, .int .i64 x.link, .bool x.stop, .int .i64 x.node, .int .i64 x.key], .int .i64 k] w fun e w' => e = .returned (.bool true) ∧ Below w.heap.size w w') := fun w => by have := at_any w x k; rw [ha] at this; exact this
  have HFL : Hid (∀ q ∈ F, q < w.heap.size) := hF
  have HBK : Hid (Bx F w BK 2 #[.int .i64 k]) := hK
  have cK0 := hK.cell 0 rfl
  have xK := hK.lt
  clear hF hK
  clear ha
  go_enter Try.func60, Try.ntmps60
  go_wp2_with fail
  refine (HA.out _).mono ?_
  rintro e w2 ⟨rfl, hbA⟩
  have HB2 : Hid (Below w.heap.size w w2) := below_then (bl2 _ _ _) hbA
  have HG0 : Hid (w2.heap[w.heap.size]? = some (.cells (wyC x) 81 (0, 0))) := by rw [Hid, hbA.block (w.heap.size) (heap_lt (hp_past (hp_at (by simp))))]; exact hp_past (hp_at (by simp))
  have HG1 : Hid (w2.heap[w.heap.size + 1]? = some (.cells #[.int .i64 0, .int .i64 0, .int .i64 0, .int .i64 0, .nilFunc] 54 (0, 0))) := by rw [Hid, hbA.block (w.heap.size + 1) (heap_lt (hp_at (by simp)))]; exact hp_at (by simp)
  have eK0 := (HBK.out.wide in_nil HB2.out).cell 0 rfl
  clear hbA cK0
  go_wp2_with fail
  refine (done_any w2 1 []).mono ?_
  rintro e w4 h4
  obtain ⟨cs, w5, rfl, hz, hst, hr, hold⟩ := gv_put (w := w) (F := F) (R := w.heap.size + 1) h4 HG1.out rfl (by simp) HB2.out (by omega) (by simp)
  clear h4
  go_wp2_with fail
  exact ret_tn rfl rfl hr.out.1 hz rfl hr.out.2
set_option maxRecDepth 100000 in
theorem has1_no {w : World} {F : List Nat} {k : Int} {x : Wy} {BK : Nat} (ha : wyAt x k = false) (hF : ∀ q ∈ F, q < w.heap.size) (hK : Bx F w BK 2 #[.int .i64 k]) : Calls Try.prog 60 #[.agg #[.int .i64 x.cell, .int .i64 x.link, .bool x.stop, .int .i64 x.node, .int .i64 x.key], .pointer (some ⟨BK, 0, none⟩)] w (Gv (doneT 0) F w) := by
  have HA : Hid (∀ w : World, Calls Try.prog 48 #[.agg #[.int .i64 x.cell, .int .i64 x.link, .bool x.stop, .int .i64 x.node, .int .i64 x.key], .int .i64 k] w fun e w' => e = .returned (.bool false) ∧ Below w.heap.size w w') := fun w => by have := at_any w x k; rw [ha] at this; exact this
  have HFL : Hid (∀ q ∈ F, q < w.heap.size) := hF
  have HBK : Hid (Bx F w BK 2 #[.int .i64 k]) := hK
  have cK0 := hK.cell 0 rfl
  have xK := hK.lt
  clear hF hK
  clear ha
  go_enter Try.func60, Try.ntmps60
  go_wp2_with fail
  refine (HA.out _).mono ?_
  rintro e w2 ⟨rfl, hbA⟩
  have HB2 : Hid (Below w.heap.size w w2) := below_then (bl2 _ _ _) hbA
  have HG0 : Hid (w2.heap[w.heap.size]? = some (.cells (wyC x) 81 (0, 0))) := by rw [Hid, hbA.block (w.heap.size) (heap_lt (hp_past (hp_at (by simp))))]; exact hp_past (hp_at (by simp))
  have HG1 : Hid (w2.heap[w.heap.size + 1]? = some (.cells #[.int .i64 0, .int .i64 0, .int .i64 0, .int .i64 0, .nilFunc] 54 (0, 0))) := by rw [Hid, hbA.block (w.heap.size + 1) (heap_lt (hp_at (by simp)))]; exact hp_at (by simp)
  have eK0 := (HBK.out.wide in_nil HB2.out).cell 0 rfl
  clear hbA cK0
  go_wp2_with fail
  refine (done_any w2 0 []).mono ?_
  rintro e w4 h4
  obtain ⟨cs, w5, rfl, hz, hst, hr, hold⟩ := gv_put (w := w) (F := F) (R := w.heap.size + 1) h4 HG1.out rfl (by simp) HB2.out (by omega) (by simp)
  clear h4
  go_wp2_with fail
  exact ret_tn rfl rfl hr.out.1 hz rfl hr.out.2
set_option maxRecDepth 100000 in
theorem next1_none {w : World} {F : List Nat} {b n k : Int} {x : Wy} {BK : Nat} {BS : Nat} (ha : x.stop = false) (hF : ∀ q ∈ F, q < w.heap.size) (hK : Bx F w BK 2 #[.int .i64 k]) (hS : Bx F w BS 56 #[.int .i64 b, .int .i64 n]) : Calls Try.prog 62 #[.agg #[.int .i64 x.cell, .int .i64 x.link, .bool x.stop, .int .i64 x.node, .int .i64 x.key], .pointer (some ⟨BK, 0, none⟩), .pointer (some ⟨BS, 0, none⟩)] w (Gv (refT 1) F w) := by
  have HFL : Hid (∀ q ∈ F, q < w.heap.size) := hF
  have HBK : Hid (Bx F w BK 2 #[.int .i64 k]) := hK
  have cK0 := hK.cell 0 rfl
  have xK := hK.lt
  have HBS : Hid (Bx F w BS 56 #[.int .i64 b, .int .i64 n]) := hS
  have cS0 := hS.cell 0 rfl
  have cS1 := hS.cell 1 rfl
  have xS := hS.lt
  clear hF hK hS
  rw [ha]
  go_enter Try.func62, Try.ntmps62
  go_wp2_with fail
  obtain ⟨w2, hw2⟩ : ∃ w2, w2 = (World.alloc (World.alloc w (.cells #[.int .i64 x.cell, .int .i64 x.link, .bool false, .int .i64 x.node, .int .i64 x.key] 81)) (.cells #[.int .i64 0, .int .i64 0, .int .i64 0, .int .i64 0, .nilFunc] 54)) := ⟨_, rfl⟩
  have HB2 : Hid (Below w.heap.size w w2) := by rw [hw2]; exact bl2 _ _ _
  have HG0 : Hid (w2.heap[w.heap.size]? = some (.cells #[.int .i64 x.cell, .int .i64 x.link, .bool false, .int .i64 x.node, .int .i64 x.key] 81 (0, 0))) := by rw [hw2]; exact hp_past (hp_at (by simp))
  have HG1 : Hid (w2.heap[w.heap.size + 1]? = some (.cells #[.int .i64 0, .int .i64 0, .int .i64 0, .int .i64 0, .nilFunc] 54 (0, 0))) := by rw [hw2]; exact hp_at (by simp)
  rw [← hw2]
  clear hw2
  refine (refused_any w2 1 []).mono ?_
  rintro e w4 h4
  obtain ⟨cs, w5, rfl, hz, hst, hr, hold⟩ := gv_put (w := w) (F := F) (R := w.heap.size + 1) h4 HG1.out rfl (by simp) HB2.out (by omega) (by simp)
  clear h4
  go_wp2_with fail
  exact ret_tn rfl rfl hr.out.1 hz rfl hr.out.2
set_option maxRecDepth 100000 in
theorem next1_key {w : World} {F : List Nat} {b n k : Int} {x : Wy} {BK : Nat} {BS : Nat} (hst0 : x.stop = true) (ha : wyAt x k = false) (hF : ∀ q ∈ F, q < w.heap.size) (hK : Bx F w BK 2 #[.int .i64 k]) (hS : Bx F w BS 56 #[.int .i64 b, .int .i64 n]) : Calls Try.prog 62 #[.agg #[.int .i64 x.cell, .int .i64 x.link, .bool x.stop, .int .i64 x.node, .int .i64 x.key], .pointer (some ⟨BK, 0, none⟩), .pointer (some ⟨BS, 0, none⟩)] w (Gv (doneT x.key) F w) := by
  have HA : Hid (∀ w : World, Calls Try.prog 48 #[.agg #[.int .i64 x.cell, .int .i64 x.link, .bool true, .int .i64 x.node, .int .i64 x.key], .int .i64 k] w fun e w' => e = .returned (.bool false) ∧ Below w.heap.size w w') := fun w => by have := at_any w x k; rw [ha, wyC, hst0] at this; exact this
  have HFL : Hid (∀ q ∈ F, q < w.heap.size) := hF
  have HBK : Hid (Bx F w BK 2 #[.int .i64 k]) := hK
  have cK0 := hK.cell 0 rfl
  have xK := hK.lt
  have HBS : Hid (Bx F w BS 56 #[.int .i64 b, .int .i64 n]) := hS
  have cS0 := hS.cell 0 rfl
  have cS1 := hS.cell 1 rfl
  have xS := hS.lt
  clear hF hK hS
  clear ha
  rw [hst0]
  go_enter Try.func62, Try.ntmps62
  go_wp2_with fail
  refine (HA.out _).mono ?_
  rintro e w2 ⟨rfl, hbA⟩
  have HB2 : Hid (Below w.heap.size w w2) := below_then (bl2 _ _ _) hbA
  have HG0 : Hid (w2.heap[w.heap.size]? = some (.cells #[.int .i64 x.cell, .int .i64 x.link, .bool true, .int .i64 x.node, .int .i64 x.key] 81 (0, 0))) := by rw [Hid, hbA.block (w.heap.size) (heap_lt (hp_past (hp_at (by simp))))]; exact hp_past (hp_at (by simp))
  have HG1 : Hid (w2.heap[w.heap.size + 1]? = some (.cells #[.int .i64 0, .int .i64 0, .int .i64 0, .int .i64 0, .nilFunc] 54 (0, 0))) := by rw [Hid, hbA.block (w.heap.size + 1) (heap_lt (hp_at (by simp)))]; exact hp_at (by simp)
  have eK0 := (HBK.out.wide in_nil HB2.out).cell 0 rfl
  have eS0 := (HBS.out.wide in_nil HB2.out).cell 0 rfl
  have eS1 := (HBS.out.wide in_nil HB2.out).cell 1 rfl
  have eY0 : w2.cell? ⟨w.heap.size, 0, none⟩ = some (.int .i64 x.cell) := by rw [cell_at HG0.out]; rfl
  have eY1 : w2.cell? ⟨w.heap.size, 1, none⟩ = some (.int .i64 x.link) := by rw [cell_at HG0.out]; rfl
  have eY2 : w2.cell? ⟨w.heap.size, 2, none⟩ = some (.bool true) := by rw [cell_at HG0.out]; rfl
  have eY3 : w2.cell? ⟨w.heap.size, 3, none⟩ = some (.int .i64 x.node) := by rw [cell_at HG0.out]; rfl
  have eY4 : w2.cell? ⟨w.heap.size, 4, none⟩ = some (.int .i64 x.key) := by rw [cell_at HG0.out]; rfl
  clear hbA cK0 cS0 cS1
  go_wp2_with fail
  refine (done_any w2 x.key []).mono ?_
  rintro e w4 h4
  obtain ⟨cs, w5, rfl, hz, hst, hr, hold⟩ := gv_put (w := w) (F := F) (R := w.heap.size + 1) h4 HG1.out rfl (by simp) HB2.out (by omega) (by simp)
  clear h4
  go_wp2_with fail
  exact ret_tn rfl rfl hr.out.1 hz rfl hr.out.2
set_option maxRecDepth 100000 in
theorem next1_on {w : World} {F : List Nat} {b n k : Int} {x : Wy} {BK : Nat} {BS : Nat} (hs : SiteOk b n) (hx : WyOk n x) (hst0 : x.stop = true) (ha : wyAt x k = true) (hF : ∀ q ∈ F, q < w.heap.size) (hK : Bx F w BK 2 #[.int .i64 k]) (hS : Bx F w BS 56 #[.int .i64 b, .int .i64 n]) : Calls Try.prog 62 #[.agg #[.int .i64 x.cell, .int .i64 x.link, .bool x.stop, .int .i64 x.node, .int .i64 x.key], .pointer (some ⟨BK, 0, none⟩), .pointer (some ⟨BS, 0, none⟩)] w (Gv (readT b (nxtV x.node) (kbT b n)) F w) := by
  have HA : Hid (∀ w : World, Calls Try.prog 48 #[.agg #[.int .i64 x.cell, .int .i64 x.link, .bool true, .int .i64 x.node, .int .i64 x.key], .int .i64 k] w fun e w' => e = .returned (.bool true) ∧ Below w.heap.size w w') := fun w => by have := at_any w x k; rw [ha, wyC, hst0] at this; exact this
  have hd := hx.s hst0
  have hy : 0 ≤ x.node ∧ x.node ≤ 100 := by have := hs.2; omega
  have HK : Hid (∀ w : World, Calls Try.prog 39 #[.int .i64 x.node] w fun e w' => e = .returned (.int .i64 (nxtV x.node)) ∧ Below w.heap.size w w') := fun w => nextof_b w hy
  have HFL : Hid (∀ q ∈ F, q < w.heap.size) := hF
  have HBK : Hid (Bx F w BK 2 #[.int .i64 k]) := hK
  have cK0 := hK.cell 0 rfl
  have xK := hK.lt
  have HBS : Hid (Bx F w BS 56 #[.int .i64 b, .int .i64 n]) := hS
  have cS0 := hS.cell 0 rfl
  have cS1 := hS.cell 1 rfl
  have xS := hS.lt
  clear hF hK hS
  have HX : Hid (SiteOk b n ∧ 0 ≤ nxtV x.node ∧ nxtV x.node ≤ 100) := ⟨hs, by unfold nxtV keyV; omega, by have := hs.2; unfold nxtV keyV; omega⟩
  clear ha hs hx hd hy
  generalize nxtV x.node = y1 at *
  rw [hst0]
  go_enter Try.func62, Try.ntmps62
  go_wp2_with fail
  refine (HA.out _).mono ?_
  rintro e w2 ⟨rfl, hbA⟩
  have HB2 : Hid (Below w.heap.size w w2) := below_then (bl2 _ _ _) hbA
  have HG0 : Hid (w2.heap[w.heap.size]? = some (.cells #[.int .i64 x.cell, .int .i64 x.link, .bool true, .int .i64 x.node, .int .i64 x.key] 81 (0, 0))) := by rw [Hid, hbA.block (w.heap.size) (heap_lt (hp_past (hp_at (by simp))))]; exact hp_past (hp_at (by simp))
  have HG1 : Hid (w2.heap[w.heap.size + 1]? = some (.cells #[.int .i64 0, .int .i64 0, .int .i64 0, .int .i64 0, .nilFunc] 54 (0, 0))) := by rw [Hid, hbA.block (w.heap.size + 1) (heap_lt (hp_at (by simp)))]; exact hp_at (by simp)
  have eK0 := (HBK.out.wide in_nil HB2.out).cell 0 rfl
  have eS0 := (HBS.out.wide in_nil HB2.out).cell 0 rfl
  have eS1 := (HBS.out.wide in_nil HB2.out).cell 1 rfl
  have eY0 : w2.cell? ⟨w.heap.size, 0, none⟩ = some (.int .i64 x.cell) := by rw [cell_at HG0.out]; rfl
  have eY1 : w2.cell? ⟨w.heap.size, 1, none⟩ = some (.int .i64 x.link) := by rw [cell_at HG0.out]; rfl
  have eY2 : w2.cell? ⟨w.heap.size, 2, none⟩ = some (.bool true) := by rw [cell_at HG0.out]; rfl
  have eY3 : w2.cell? ⟨w.heap.size, 3, none⟩ = some (.int .i64 x.node) := by rw [cell_at HG0.out]; rfl
  have eY4 : w2.cell? ⟨w.heap.size, 4, none⟩ = some (.int .i64 x.key) := by rw [cell_at HG0.out]; rfl
  clear hbA cK0 cS0 cS1
  go_wp2_with fail
  have HR2 : Hid (∀ w3 : World, Below w2.heap.size w2 w3 → Calls Try.prog 35 #[.agg #[.int .i64 b, .int .i64 n], .int .i64 y1, .func (.func 36) #[.agg #[.int .i64 b, .int .i64 n]] #[]] w3 (Gv (readT b y1 (kbT b n)) [] w3)) := fun w3 hb => read_any HX.out.1 HX.out.2 (fv_mk (by simp) (ent Try.func36 (by kernel_rfl) rfl) (fun z _ w' _ => by simpa [encI] using kb_any w' HX.out.1 (by simp)))
  clear HX HA
  have HS : Hid (∀ w' : World, (∀ q, q < w2.heap.size → q ≠ w.heap.size + 1 → w'.heap[q]? = w2.heap[q]?) → w'.cell? ⟨BS, 0, none⟩ = some (.int .i64 b) ∧ w'.cell? ⟨BS, 1, none⟩ = some (.int .i64 n) ∧ w'.cell? ⟨w.heap.size, 0, none⟩ = some (.int .i64 x.cell) ∧ w'.cell? ⟨w.heap.size, 1, none⟩ = some (.int .i64 x.link) ∧ w'.cell? ⟨w.heap.size, 2, none⟩ = some (.bool true) ∧ w'.cell? ⟨w.heap.size, 3, none⟩ = some (.int .i64 x.node) ∧ w'.cell? ⟨w.heap.size, 4, none⟩ = some (.int .i64 x.key)) := fun w' hq => ⟨(by rw [cell_at ((hq _ (heap_lt (HBS.out.wide in_nil HB2.out).2) (by omega)).trans (HBS.out.wide in_nil HB2.out).2)]; rfl), (by rw [cell_at ((hq _ (heap_lt (HBS.out.wide in_nil HB2.out).2) (by omega)).trans (HBS.out.wide in_nil HB2.out).2)]; rfl), (by rw [cell_at ((hq _ (heap_lt HG0.out) (by omega)).trans HG0.out)]; rfl), (by rw [cell_at ((hq _ (heap_lt HG0.out) (by omega)).trans HG0.out)]; rfl), (by rw [cell_at ((hq _ (heap_lt HG0.out) (by omega)).trans HG0.out)]; rfl), (by rw [cell_at ((hq _ (heap_lt HG0.out) (by omega)).trans HG0.out)]; rfl), (by rw [cell_at ((hq _ (heap_lt HG0.out) (by omega)).trans HG0.out)]; rfl)⟩
  have hS2 : w2.cell? ⟨BS, 0, none⟩ = some (.int .i64 b) ∧ w2.cell? ⟨BS, 1, none⟩ = some (.int .i64 n) ∧ w2.cell? ⟨w.heap.size, 0, none⟩ = some (.int .i64 x.cell) ∧ w2.cell? ⟨w.heap.size, 1, none⟩ = some (.int .i64 x.link) ∧ w2.cell? ⟨w.heap.size, 2, none⟩ = some (.bool true) ∧ w2.cell? ⟨w.heap.size, 3, none⟩ = some (.int .i64 x.node) ∧ w2.cell? ⟨w.heap.size, 4, none⟩ = some (.int .i64 x.key) := HS.out w2 (fun _ _ _ => rfl)
  obtain ⟨s0, s1, s2, s3, s4, s5, s6⟩ := hS2
  have yS : BS < w2.heap.size := heap_lt (HBS.out.wide in_nil HB2.out).2
  have yY : w.heap.size < w2.heap.size := heap_lt HG0.out
  clear eS0 eS1 eK0 eY0 eY1 eY2 eY3 eY4
  go_region_held3 (fun w' => w'.cell? ⟨BS, 0, none⟩ = some (.int .i64 b) ∧ w'.cell? ⟨BS, 1, none⟩ = some (.int .i64 n) ∧ w'.cell? ⟨w.heap.size, 0, none⟩ = some (.int .i64 x.cell) ∧ w'.cell? ⟨w.heap.size, 1, none⟩ = some (.int .i64 x.link) ∧ w'.cell? ⟨w.heap.size, 2, none⟩ = some (.bool true) ∧ w'.cell? ⟨w.heap.size, 3, none⟩ = some (.int .i64 x.node) ∧ w'.cell? ⟨w.heap.size, 4, none⟩ = some (.int .i64 x.key)) (first | go_keep | exact hS | exact hS5) (first
    | (go_at_call 39; refine (HK.out _).mono ?_; rintro e w3 ⟨rfl, hb3⟩; have HB3 : Hid (Below w2.heap.size w2 w3) := below_then (bl_drew1 _) hb3; have hS : w3.cell? ⟨BS, 0, none⟩ = some (.int .i64 b) ∧ w3.cell? ⟨BS, 1, none⟩ = some (.int .i64 n) ∧ w3.cell? ⟨w.heap.size, 0, none⟩ = some (.int .i64 x.cell) ∧ w3.cell? ⟨w.heap.size, 1, none⟩ = some (.int .i64 x.link) ∧ w3.cell? ⟨w.heap.size, 2, none⟩ = some (.bool true) ∧ w3.cell? ⟨w.heap.size, 3, none⟩ = some (.int .i64 x.node) ∧ w3.cell? ⟨w.heap.size, 4, none⟩ = some (.int .i64 x.key) := HS.out w3 (fun q hq _ => HB3.out.block q hq); clear hb3)
    | (go_at_call 35; refine (HR2.out _ HB3.out).mono ?_; rintro e w4 h4; obtain ⟨cs, w5, rfl, hz, hst, hr, hold⟩ := gv_put (w := w) (F := F) (R := w.heap.size + 1) h4 (by rw [HB3.out.block _ (heap_lt HG1.out)]; exact HG1.out) rfl (by simp) (below_then HB2.out HB3.out) (by omega) (by simp); have hS : w4.cell? ⟨BS, 0, none⟩ = some (.int .i64 b) ∧ w4.cell? ⟨BS, 1, none⟩ = some (.int .i64 n) ∧ w4.cell? ⟨w.heap.size, 0, none⟩ = some (.int .i64 x.cell) ∧ w4.cell? ⟨w.heap.size, 1, none⟩ = some (.int .i64 x.link) ∧ w4.cell? ⟨w.heap.size, 2, none⟩ = some (.bool true) ∧ w4.cell? ⟨w.heap.size, 3, none⟩ = some (.int .i64 x.node) ∧ w4.cell? ⟨w.heap.size, 4, none⟩ = some (.int .i64 x.key) := HS.out w4 (fun q hq _ => ((gv_below h4).block q (Nat.lt_of_lt_of_le hq HB3.out.size)).trans (HB3.out.block q hq)); have hS5 : w5.cell? ⟨BS, 0, none⟩ = some (.int .i64 b) ∧ w5.cell? ⟨BS, 1, none⟩ = some (.int .i64 n) ∧ w5.cell? ⟨w.heap.size, 0, none⟩ = some (.int .i64 x.cell) ∧ w5.cell? ⟨w.heap.size, 1, none⟩ = some (.int .i64 x.link) ∧ w5.cell? ⟨w.heap.size, 2, none⟩ = some (.bool true) ∧ w5.cell? ⟨w.heap.size, 3, none⟩ = some (.int .i64 x.node) ∧ w5.cell? ⟨w.heap.size, 4, none⟩ = some (.int .i64 x.key) := HS.out w5 (fun q hq hqr => (hold.out q (Nat.lt_of_lt_of_le hq HB3.out.size) hqr).trans (HB3.out.block q hq)); clear h4))
  all_goals (go_wp2_with fail; exact ret_tn rfl rfl hr.out.1 hz rfl hr.out.2)
theorem add1_any {w : World} {F : List Nat} {b n k : Int} {x : Wy} {BK : Nat} {BS : Nat} (hs : SiteOk b n) (hx : WyOk n x) (hF : ∀ q ∈ F, q < w.heap.size) (hK : Bx F w BK 2 #[.int .i64 k]) (hS : Bx F w BS 56 #[.int .i64 b, .int .i64 n]) : Calls Try.prog 47 #[.agg #[.int .i64 x.cell, .int .i64 x.link, .bool x.stop, .int .i64 x.node, .int .i64 x.key], .pointer (some ⟨BK, 0, none⟩), .pointer (some ⟨BS, 0, none⟩)] w (Gv (addH b n k x) F w) := by
  unfold addH
  by_cases ha : wyAt x k = true
  · rw [if_pos ha]; exact add1_there ha hF hK hS
  · rw [if_neg ha]; exact add1_on hs hx (by simpa using ha) hF hK hS
set_option maxRecDepth 100000 in
theorem sadd_any {w : World} {F : List Nat} {b n k : Int}  (hs : SiteOk b n) (hF : ∀ q ∈ F, q < w.heap.size)  : Calls Try.prog 31 #[.agg #[.int .i64 b, .int .i64 n], .int .i64 k] w (Gv (goT b n k (addH b n k) n.toNat 0) F w) := by
  have HFL : Hid (∀ q ∈ F, q < w.heap.size) := hF
  clear hF
  go_enter Try.func31, Try.ntmps31
  go_wp2_with fail
  obtain ⟨w2, hw2⟩ : ∃ w2, w2 = (World.alloc (World.alloc (World.alloc w (.cells #[.int .i64 b, .int .i64 n] 56)) (.cells #[.int .i64 k] 2)) (.cells #[.int .i64 0, .int .i64 0, .int .i64 0, .int .i64 0, .nilFunc] 54)) := ⟨_, rfl⟩
  have HB2 : Hid (Below w.heap.size w w2) := by rw [hw2]; exact bl3 _ _ _ _
  have HG0 : Hid (w2.heap[w.heap.size]? = some (.cells #[.int .i64 b, .int .i64 n] 56 (0, 0))) := by rw [hw2]; exact hp_past (hp_past (hp_at (by simp)))
  have HG1 : Hid (w2.heap[w.heap.size + 1]? = some (.cells #[.int .i64 k] 2 (0, 0))) := by rw [hw2]; exact hp_past (hp_at (by simp))
  have HG2 : Hid (w2.heap[w.heap.size + 1 + 1]? = some (.cells #[.int .i64 0, .int .i64 0, .int .i64 0, .int .i64 0, .nilFunc] 54 (0, 0))) := by rw [hw2]; exact hp_at (by simp)
  rw [← hw2]
  clear hw2
  have HLO : Hid (∀ q ∈ (w.heap.size) :: (w.heap.size + 1) :: F, q < w2.heap.size) := lo_cons (heap_lt HG0.out) (lo_cons (heap_lt HG1.out) (lo_nil HFL.out HB2.out))
  have HCF : Hid (Fv encW (WyOk n) (addH b n k) ((w.heap.size) :: (w.heap.size + 1) :: F) w2 (.func (.func 47) #[] #[.pointer (some ⟨w.heap.size + 1, 0, none⟩), .pointer (some ⟨w.heap.size, 0, none⟩)])) := fv_mk HLO.out (ent Try.func47 (by kernel_rfl) rfl) (fun z hz w' hu => by simpa [encW, wyC] using add1_any hs hz (fun q hq => Nat.lt_of_lt_of_le (HLO.out q hq) hu.1) (Bx.un ⟨by simp, HG1.out⟩ hu) (Bx.un ⟨by simp, HG0.out⟩ hu))
  have HNW : Hid (∀ q ∈ (w.heap.size) :: (w.heap.size + 1) :: F, q ∈ F ∨ w.heap.size ≤ q) := nw_cons (by omega) (nw_cons (by omega) nw_nil)
  have HNI : Hid (w.heap.size + 1 + 1 ∉ (w.heap.size) :: (w.heap.size + 1) :: F) := ni_cons (by omega) (ni_cons (by omega) (ni_nil HFL.out (by omega)))
  refine (goto_any hs HCF.out HLO.out).mono ?_
  rintro e w4 h4
  obtain ⟨cs, w5, rfl, hz, hst, hr, hold⟩ := gv_put (w := w) (F := F) (R := w.heap.size + 1 + 1) h4 HG2.out rfl HNI.out HB2.out (by omega) HNW.out
  clear h4
  go_wp2_with fail
  exact ret_tn rfl rfl hr.out.1 hz rfl hr.out.2
theorem del1_any {w : World} {F : List Nat} {b n k : Int} {x : Wy} {BK : Nat} {BS : Nat} (hs : SiteOk b n) (hx : WyOk n x) (hF : ∀ q ∈ F, q < w.heap.size) (hK : Bx F w BK 2 #[.int .i64 k]) (hS : Bx F w BS 56 #[.int .i64 b, .int .i64 n]) : Calls Try.prog 56 #[.agg #[.int .i64 x.cell, .int .i64 x.link, .bool x.stop, .int .i64 x.node, .int .i64 x.key], .pointer (some ⟨BK, 0, none⟩), .pointer (some ⟨BS, 0, none⟩)] w (Gv (delH b k x) F w) := by
  unfold delH
  by_cases ha : wyAt x k = true
  · rw [if_pos ha]; exact del1_on hs hx ha hF hK hS
  · rw [if_neg ha]; exact del1_none (by simpa using ha) hF hK hS
set_option maxRecDepth 100000 in
theorem sdel_any {w : World} {F : List Nat} {b n k : Int}  (hs : SiteOk b n) (hF : ∀ q ∈ F, q < w.heap.size)  : Calls Try.prog 32 #[.agg #[.int .i64 b, .int .i64 n], .int .i64 k] w (Gv (goT b n k (delH b k) n.toNat 0) F w) := by
  have HFL : Hid (∀ q ∈ F, q < w.heap.size) := hF
  clear hF
  go_enter Try.func32, Try.ntmps32
  go_wp2_with fail
  obtain ⟨w2, hw2⟩ : ∃ w2, w2 = (World.alloc (World.alloc (World.alloc w (.cells #[.int .i64 b, .int .i64 n] 56)) (.cells #[.int .i64 k] 2)) (.cells #[.int .i64 0, .int .i64 0, .int .i64 0, .int .i64 0, .nilFunc] 54)) := ⟨_, rfl⟩
  have HB2 : Hid (Below w.heap.size w w2) := by rw [hw2]; exact bl3 _ _ _ _
  have HG0 : Hid (w2.heap[w.heap.size]? = some (.cells #[.int .i64 b, .int .i64 n] 56 (0, 0))) := by rw [hw2]; exact hp_past (hp_past (hp_at (by simp)))
  have HG1 : Hid (w2.heap[w.heap.size + 1]? = some (.cells #[.int .i64 k] 2 (0, 0))) := by rw [hw2]; exact hp_past (hp_at (by simp))
  have HG2 : Hid (w2.heap[w.heap.size + 1 + 1]? = some (.cells #[.int .i64 0, .int .i64 0, .int .i64 0, .int .i64 0, .nilFunc] 54 (0, 0))) := by rw [hw2]; exact hp_at (by simp)
  rw [← hw2]
  clear hw2
  have HLO : Hid (∀ q ∈ (w.heap.size) :: (w.heap.size + 1) :: F, q < w2.heap.size) := lo_cons (heap_lt HG0.out) (lo_cons (heap_lt HG1.out) (lo_nil HFL.out HB2.out))
  have HCF : Hid (Fv encW (WyOk n) (delH b k) ((w.heap.size) :: (w.heap.size + 1) :: F) w2 (.func (.func 56) #[] #[.pointer (some ⟨w.heap.size + 1, 0, none⟩), .pointer (some ⟨w.heap.size, 0, none⟩)])) := fv_mk HLO.out (ent Try.func56 (by kernel_rfl) rfl) (fun z hz w' hu => by simpa [encW, wyC] using del1_any hs hz (fun q hq => Nat.lt_of_lt_of_le (HLO.out q hq) hu.1) (Bx.un ⟨by simp, HG1.out⟩ hu) (Bx.un ⟨by simp, HG0.out⟩ hu))
  have HNW : Hid (∀ q ∈ (w.heap.size) :: (w.heap.size + 1) :: F, q ∈ F ∨ w.heap.size ≤ q) := nw_cons (by omega) (nw_cons (by omega) nw_nil)
  have HNI : Hid (w.heap.size + 1 + 1 ∉ (w.heap.size) :: (w.heap.size + 1) :: F) := ni_cons (by omega) (ni_cons (by omega) (ni_nil HFL.out (by omega)))
  refine (goto_any hs HCF.out HLO.out).mono ?_
  rintro e w4 h4
  obtain ⟨cs, w5, rfl, hz, hst, hr, hold⟩ := gv_put (w := w) (F := F) (R := w.heap.size + 1 + 1) h4 HG2.out rfl HNI.out HB2.out (by omega) HNW.out
  clear h4
  go_wp2_with fail
  exact ret_tn rfl rfl hr.out.1 hz rfl hr.out.2
theorem has1_any {w : World} {F : List Nat} {k : Int} {x : Wy} {BK : Nat}  (hF : ∀ q ∈ F, q < w.heap.size) (hK : Bx F w BK 2 #[.int .i64 k]) : Calls Try.prog 60 #[.agg #[.int .i64 x.cell, .int .i64 x.link, .bool x.stop, .int .i64 x.node, .int .i64 x.key], .pointer (some ⟨BK, 0, none⟩)] w (Gv (hasH k x) F w) := by
  unfold hasH
  by_cases ha : wyAt x k = true
  · rw [if_pos ha]; exact has1_yes ha hF hK
  · rw [if_neg ha]; exact has1_no (by simpa using ha) hF hK
set_option maxRecDepth 100000 in
theorem shas_any {w : World} {F : List Nat} {b n k : Int}  (hs : SiteOk b n) (hF : ∀ q ∈ F, q < w.heap.size)  : Calls Try.prog 33 #[.agg #[.int .i64 b, .int .i64 n], .int .i64 k] w (Gv (goT b n k (hasH k) n.toNat 0) F w) := by
  have HFL : Hid (∀ q ∈ F, q < w.heap.size) := hF
  clear hF
  go_enter Try.func33, Try.ntmps33
  go_wp2_with fail
  obtain ⟨w2, hw2⟩ : ∃ w2, w2 = (World.alloc (World.alloc (World.alloc w (.cells #[.int .i64 b, .int .i64 n] 56)) (.cells #[.int .i64 k] 2)) (.cells #[.int .i64 0, .int .i64 0, .int .i64 0, .int .i64 0, .nilFunc] 54)) := ⟨_, rfl⟩
  have HB2 : Hid (Below w.heap.size w w2) := by rw [hw2]; exact bl3 _ _ _ _
  have HG0 : Hid (w2.heap[w.heap.size]? = some (.cells #[.int .i64 b, .int .i64 n] 56 (0, 0))) := by rw [hw2]; exact hp_past (hp_past (hp_at (by simp)))
  have HG1 : Hid (w2.heap[w.heap.size + 1]? = some (.cells #[.int .i64 k] 2 (0, 0))) := by rw [hw2]; exact hp_past (hp_at (by simp))
  have HG2 : Hid (w2.heap[w.heap.size + 1 + 1]? = some (.cells #[.int .i64 0, .int .i64 0, .int .i64 0, .int .i64 0, .nilFunc] 54 (0, 0))) := by rw [hw2]; exact hp_at (by simp)
  rw [← hw2]
  clear hw2
  have HLO : Hid (∀ q ∈ (w.heap.size) :: (w.heap.size + 1) :: F, q < w2.heap.size) := lo_cons (heap_lt HG0.out) (lo_cons (heap_lt HG1.out) (lo_nil HFL.out HB2.out))
  have HCF : Hid (Fv encW (WyOk n) (hasH k) ((w.heap.size) :: (w.heap.size + 1) :: F) w2 (.func (.func 60) #[] #[.pointer (some ⟨w.heap.size + 1, 0, none⟩)])) := fv_mk HLO.out (ent Try.func60 (by kernel_rfl) rfl) (fun z hz w' hu => by simpa [encW, wyC] using has1_any (fun q hq => Nat.lt_of_lt_of_le (HLO.out q hq) hu.1) (Bx.un ⟨by simp, HG1.out⟩ hu))
  have HNW : Hid (∀ q ∈ (w.heap.size) :: (w.heap.size + 1) :: F, q ∈ F ∨ w.heap.size ≤ q) := nw_cons (by omega) (nw_cons (by omega) nw_nil)
  have HNI : Hid (w.heap.size + 1 + 1 ∉ (w.heap.size) :: (w.heap.size + 1) :: F) := ni_cons (by omega) (ni_cons (by omega) (ni_nil HFL.out (by omega)))
  refine (goto_any hs HCF.out HLO.out).mono ?_
  rintro e w4 h4
  obtain ⟨cs, w5, rfl, hz, hst, hr, hold⟩ := gv_put (w := w) (F := F) (R := w.heap.size + 1 + 1) h4 HG2.out rfl HNI.out HB2.out (by omega) HNW.out
  clear h4
  go_wp2_with fail
  exact ret_tn rfl rfl hr.out.1 hz rfl hr.out.2
theorem next1_any {w : World} {F : List Nat} {b n k : Int} {x : Wy} {BK : Nat} {BS : Nat} (hs : SiteOk b n) (hx : WyOk n x) (hF : ∀ q ∈ F, q < w.heap.size) (hK : Bx F w BK 2 #[.int .i64 k]) (hS : Bx F w BS 56 #[.int .i64 b, .int .i64 n]) : Calls Try.prog 62 #[.agg #[.int .i64 x.cell, .int .i64 x.link, .bool x.stop, .int .i64 x.node, .int .i64 x.key], .pointer (some ⟨BK, 0, none⟩), .pointer (some ⟨BS, 0, none⟩)] w (Gv (nextH b n k x) F w) := by
  unfold nextH
  by_cases h0 : x.stop = true
  · rw [if_pos h0]
    by_cases ha : wyAt x k = true
    · rw [if_pos ha]; exact next1_on hs hx h0 ha hF hK hS
    · rw [if_neg ha]; exact next1_key h0 (by simpa using ha) hF hK hS
  · rw [if_neg h0]; exact next1_none (by simpa using h0) hF hK hS
set_option maxRecDepth 100000 in
theorem snext_any {w : World} {F : List Nat} {b n k : Int}  (hs : SiteOk b n) (hF : ∀ q ∈ F, q < w.heap.size)  : Calls Try.prog 34 #[.agg #[.int .i64 b, .int .i64 n], .int .i64 k] w (Gv (goT b n k (nextH b n k) n.toNat 0) F w) := by
  have HFL : Hid (∀ q ∈ F, q < w.heap.size) := hF
  clear hF
  go_enter Try.func34, Try.ntmps34
  go_wp2_with fail
  obtain ⟨w2, hw2⟩ : ∃ w2, w2 = (World.alloc (World.alloc (World.alloc w (.cells #[.int .i64 b, .int .i64 n] 56)) (.cells #[.int .i64 k] 2)) (.cells #[.int .i64 0, .int .i64 0, .int .i64 0, .int .i64 0, .nilFunc] 54)) := ⟨_, rfl⟩
  have HB2 : Hid (Below w.heap.size w w2) := by rw [hw2]; exact bl3 _ _ _ _
  have HG0 : Hid (w2.heap[w.heap.size]? = some (.cells #[.int .i64 b, .int .i64 n] 56 (0, 0))) := by rw [hw2]; exact hp_past (hp_past (hp_at (by simp)))
  have HG1 : Hid (w2.heap[w.heap.size + 1]? = some (.cells #[.int .i64 k] 2 (0, 0))) := by rw [hw2]; exact hp_past (hp_at (by simp))
  have HG2 : Hid (w2.heap[w.heap.size + 1 + 1]? = some (.cells #[.int .i64 0, .int .i64 0, .int .i64 0, .int .i64 0, .nilFunc] 54 (0, 0))) := by rw [hw2]; exact hp_at (by simp)
  rw [← hw2]
  clear hw2
  have HLO : Hid (∀ q ∈ (w.heap.size) :: (w.heap.size + 1) :: F, q < w2.heap.size) := lo_cons (heap_lt HG0.out) (lo_cons (heap_lt HG1.out) (lo_nil HFL.out HB2.out))
  have HCF : Hid (Fv encW (WyOk n) (nextH b n k) ((w.heap.size) :: (w.heap.size + 1) :: F) w2 (.func (.func 62) #[] #[.pointer (some ⟨w.heap.size + 1, 0, none⟩), .pointer (some ⟨w.heap.size, 0, none⟩)])) := fv_mk HLO.out (ent Try.func62 (by kernel_rfl) rfl) (fun z hz w' hu => by simpa [encW, wyC] using next1_any hs hz (fun q hq => Nat.lt_of_lt_of_le (HLO.out q hq) hu.1) (Bx.un ⟨by simp, HG1.out⟩ hu) (Bx.un ⟨by simp, HG0.out⟩ hu))
  have HNW : Hid (∀ q ∈ (w.heap.size) :: (w.heap.size + 1) :: F, q ∈ F ∨ w.heap.size ≤ q) := nw_cons (by omega) (nw_cons (by omega) nw_nil)
  have HNI : Hid (w.heap.size + 1 + 1 ∉ (w.heap.size) :: (w.heap.size + 1) :: F) := ni_cons (by omega) (ni_cons (by omega) (ni_nil HFL.out (by omega)))
  refine (goto_any hs HCF.out HLO.out).mono ?_
  rintro e w4 h4
  obtain ⟨cs, w5, rfl, hz, hst, hr, hold⟩ := gv_put (w := w) (F := F) (R := w.heap.size + 1 + 1) h4 HG2.out rfl HNI.out HB2.out (by omega) HNW.out
  clear h4
  go_wp2_with fail
  exact ret_tn rfl rfl hr.out.1 hz rfl hr.out.2
end Go.Proofs.Ytaffkcliepfcmaa.Ch
