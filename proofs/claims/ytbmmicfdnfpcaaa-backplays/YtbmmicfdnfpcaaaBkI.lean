/- The program's machine of layer 11: goesOver. -/
import Derived.Test.YtbmmicfdnfpcaaaBkH
namespace Go.Proofs.Ytbmmicfdnfpcaaa
open Go.ChangeShapes Go.WideShapes Go.ChangeAt Go.RowKit
attribute [local go_sem ↓] Go.wp_at_zero Go.wp_at_succ

def lack (W : List Wt) (c : Nat) : Bool := W.any fun x => decide ((c : Int) ≤ x.c)
theorem goesB_lack (c r : Nat) (P : Bp) (b : Bk) : goesB c r P b = (decide (b.nx ≠ 0) && decide (r = P.s) && !lack P.W c) := by
  unfold goesB lack
  congr 1
  rw [Bool.eq_iff_iff]
  simp
theorem lack_nil (c : Nat) : lack [] c = false := rfl
theorem lack_at {W : List Wt} {c i : Nat} (hi : i < W.length) (h : (c : Int) ≤ (W.getD i noWt).c) : lack W c = true := by
  unfold lack
  rw [List.any_eq_true]
  exact ⟨W.getD i noWt, by rw [List.getD_eq_getElem?_getD, List.getElem?_eq_getElem hi]; simp, by simpa using h⟩
theorem lack_none {W : List Wt} {c : Nat} (h : ∀ i, i < W.length → ¬ (c : Int) ≤ (W.getD i noWt).c) : lack W c = false := by
  unfold lack
  rw [List.any_eq_false]
  intro x hx
  obtain ⟨i, hi, rfl⟩ := List.getElem_of_mem hx
  have := h i hi
  rw [List.getD_eq_getElem?_getD, List.getElem?_eq_getElem hi] at this
  simpa using this
set_option maxRecDepth 10000 in
theorem goes1_any (w : World) (xc xv : Int) (c B : Nat) (hB : w.cell? ⟨B, 0, none⟩ = some (.int .i64 (c : Int))) :
    Calls Try.prog 53 #[.agg #[.int .i64 xc, .int .i64 xv], .pointer (some ⟨B, 0, none⟩)] w fun e w' => e = .returned (.bool (decide ((c : Int) ≤ xc))) ∧ Below w.heap.size w w' := by
  have hx : B < w.heap.size := World.block_lt_of_cell? _ _ hB
  go_enter Try.func53, Try.ntmps53
  go_wp2
  go_ret
  exact ⟨by simp, below_a1 _ _⟩
set_option maxRecDepth 10000 in
set_option maxHeartbeats 1600000 in
theorem idxf_any {w : World} {base : Nat} {lv : Value} {W : List Wt} (h : w.ownsRow base 36 2 lv W.length (wtC W)) (hl : W.length ≤ 24) (c B : Nat) (hB : w.cell? ⟨B, 0, none⟩ = some (.int .i64 (c : Int))) :
    Calls Try.prog 68 #[lv, .func (.func 53) #[] #[.pointer (some ⟨B, 0, none⟩)]] w fun e w' => (∃ ix : Int, e = .returned (.int .i64 ix) ∧ decide (ix ≥ 0) = lack W c) ∧ Below w.heap.size w w' := by
  have hx : B < w.heap.size := World.block_lt_of_cell? _ _ hB
  have HG : Hid (∀ w' xc xv, Below w.heap.size w w' → Calls Try.prog 53 #[.agg #[.int .i64 xc, .int .i64 xv], .pointer (some ⟨B, 0, none⟩)] w' fun e w'' => e = .returned (.bool (decide ((c : Int) ≤ xc))) ∧ Below w.heap.size w w'') := fun w' xc xv k => (goes1_any w' xc xv c B ((k.cell (p := ⟨B, 0, none⟩) hx).trans hB)).mono fun _ _ q => ⟨q.1, below_then k q.2⟩
  have HLN : Hid ((∀ i, i < W.length → ¬ (c : Int) ≤ (W.getD i noWt).c) → lack W c = false) := lack_none
  have HLA : Hid (∀ i, i < W.length → (c : Int) ≤ (W.getD i noWt).c → lack W c = true) := fun i => lack_at
  have HC : Hid (∀ a cap, lv = .slice a W.length cap → ∀ w' i, Below w.heap.size w w' → i < W.length → ∃ g, a = some ⟨g, 0, none⟩ ∧ w'.cell? ⟨g, i * 2, none⟩ = some (.int .i64 (W.getD i noWt).c) ∧ w'.cell? ⟨g, i * 2 + 1, none⟩ = some (.int .i64 (W.getD i noWt).v)) := fun a cap e w' i k hi => by
    subst e
    obtain ⟨g, cap', e, _, hgl⟩ := h.form (by omega)
    simp at e
    obtain ⟨rfl, rfl⟩ := e
    exact ⟨g, rfl, (k.cell (p := ⟨g, i * 2, none⟩) hgl).trans (own_wr h i hi).1, (k.cell (p := ⟨g, i * 2 + 1, none⟩) hgl).trans (own_wr h i hi).2⟩
  obtain ⟨a, cap, rfl⟩ := own_slice h
  have HD : Hid (∀ w' i, Below w.heap.size w w' → i < W.length → ∃ g, a = some ⟨g, 0, none⟩ ∧ w'.cell? ⟨g, i * 2, none⟩ = some (.int .i64 (W.getD i noWt).c) ∧ w'.cell? ⟨g, i * 2 + 1, none⟩ = some (.int .i64 (W.getD i noWt).v)) := HC.out a cap rfl
  clear h hB HC
  generalize hn : W.length = n at *
  clear hn
  go_enter Try.func68, Try.ntmps68
  go_wp2
  go_loopw [5, 8] (fun _ iv wr => ∃ q : Nat, q ≤ n ∧ iv = .int .i64 q ∧ Below w.heap.size w wr ∧ ∀ i, i < q → ¬ (c : Int) ≤ (W.getD i noWt).c) (fun _ iv _ => n - (intOf iv).toNat)
  case atStart => exact ⟨0, by omega, rfl, Below.refl _ _, fun i hi => by omega⟩
  case round =>
    obtain ⟨q, hq, rfl, hb, hno⟩ := hrel
    have HB : Hid (Below w.heap.size w wr) := hb
    have HNO : Hid (∀ i, i < q → ¬ (c : Int) ≤ (W.getD i noWt).c) := hno
    clear hb hno
    by_cases hlt : q < n
    · have d1 : decide ((q : Int) < (n : Int)) = true := decide_eq_true (by omega)
      have hlt' : (q : Int) < (n : Int) := by omega
      obtain ⟨g, rfl, c0, c1⟩ := HD.out _ q HB.out hlt
      have HNX : Hid (¬ (c : Int) ≤ (W.getD q noWt).c → ∀ i, i < q + 1 → ¬ (c : Int) ≤ (W.getD i noWt).c) := fun hh i hi => by
        by_cases e : i = q
        · subst e; exact hh
        · exact HNO.out i (by omega)
      have HLQ : Hid ((c : Int) ≤ (W.getD q noWt).c → lack W c = true) := HLA.out q hlt
      generalize W.getD q noWt = x at *
      obtain ⟨xc, xv⟩ := x
      simp only at c0 c1 HNX HLQ
      have HGQ : Hid (Calls Try.prog 53 #[.agg #[.int .i64 xc, .int .i64 xv], .pointer (some ⟨B, 0, none⟩)] wr fun e w'' => e = .returned (.bool (decide ((c : Int) ≤ xc))) ∧ Below w.heap.size w w'') := HG.out wr xc xv HB.out
      by_cases hcx : (c : Int) ≤ xc
      · have d2 : decide ((c : Int) ≤ xc) = true := decide_eq_true hcx
        rw [d2] at HGQ
        go_wp2_with fail
        refine HGQ.out.mono ?_
        rintro e w' ⟨rfl, hb'⟩
        have HB' : Hid (Below w.heap.size w w') := hb'
        clear hb'
        go_wp2
        go_ret
        exact ⟨⟨_, rfl, by rw [HLQ.out hcx]; simp⟩, HB'.out⟩
      · have d2 : decide ((c : Int) ≤ xc) = false := decide_eq_false hcx
        rw [d2] at HGQ
        go_wp2_with fail
        refine HGQ.out.mono ?_
        rintro e w' ⟨rfl, hb'⟩
        have HB' : Hid (Below w.heap.size w w') := hb'
        clear hb'
        go_wp2
        go_roundw
        case rel => exact ⟨q + 1, by omega, by go_num, HB'.out, fun i hi => Int.not_le.mpr (HNX.out hcx i hi)⟩
        case measure => simp [intOf]; omega
    · obtain rfl : q = n := by omega
      have d1 : decide ((q : Int) < (q : Int)) = false := by simp
      go_wp2
      go_ret
      exact ⟨⟨-1, rfl, by rw [HLN.out HNO.out]; rfl⟩, HB.out⟩
set_option maxRecDepth 10000 in
theorem cont_any {w : World} {base : Nat} {lv : Value} {W : List Wt} (h : w.ownsRow base 36 2 lv W.length (wtC W)) (hl : W.length ≤ 24) (c B : Nat) (hB : w.cell? ⟨B, 0, none⟩ = some (.int .i64 (c : Int))) :
    Calls Try.prog 54 #[lv, .func (.func 53) #[] #[.pointer (some ⟨B, 0, none⟩)]] w fun e w' => e = .returned (.bool (lack W c)) ∧ Below w.heap.size w w' := by
  have HI : Hid (Calls Try.prog 68 #[lv, .func (.func 53) #[] #[.pointer (some ⟨B, 0, none⟩)]] w fun e w' => (∃ ix : Int, e = .returned (.int .i64 ix) ∧ decide (ix ≥ 0) = lack W c) ∧ Below w.heap.size w w') := idxf_any h hl c B hB
  obtain ⟨a, cap, rfl⟩ := own_slice h
  generalize W.length = n at *
  clear h hB
  go_enter Try.func54, Try.ntmps54
  go_wp2_with fail
  refine HI.out.mono ?_
  rintro e w1 ⟨⟨ix, rfl, hix⟩, hb1⟩
  have HX : Hid (decide (ix ≥ 0) = lack W c) := hix
  have HB : Hid (Below w.heap.size w w1) := hb1
  clear hix hb1
  go_wp2
  go_ret
  exact ⟨by rw [← HX.out]; rfl, HB.out⟩
end Go.Proofs.Ytbmmicfdnfpcaaa
