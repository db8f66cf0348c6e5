/- The document's Word and Peek. -/
import Derived.Test.YtbmmicfdnfpcaaaRefA
namespace Go.Proofs.Ytbmmicfdnfpcaaa
open Go.ChangeShapes Go.WideShapes Go.ChangeAt Go.RowKit

theorem take_snoc (L : List Ac) (q : Nat) (h : q < L.length) : L.take (q + 1) = L.take q ++ [L[q]] := by rw [List.take_add_one]; simp [h]

set_option maxRecDepth 10000 in
set_option maxHeartbeats 1600000 in
theorem rword_any {w : World} {base : Nat} {p : Value} {c r : Nat} {L : List Ac} {F : List Nat} (h : RefAt w base p c r L F) (hL : L.length ≤ 3298534883328) (a : Ad) :
    Calls Try.prog 55 #[p, .agg #[.int .i64 a.k, .int .i64 a.i, .int .i64 a.j]] w fun e w' => e = .returned (.int .i64 (wordOf L a)) ∧ Below w.heap.size w w' := by
  have HREF : Hid (RefAt w base p c r L F) := h
  obtain ⟨M, v, h⟩ := h
  obtain rfl := h.p
  have h2 : w.cell? ⟨M, 2, none⟩ = some v := by rw [cell_at h.m]; rfl
  have hM : M < w.heap.size := heap_lt h.m
  have HOWN : Hid (w.ownsRow base 92 8 v L.length (logC L)) := h.own
  obtain ⟨va, vc, rfl⟩ := own_slice h.own
  clear h
  obtain ⟨k, i, j⟩ := a
  have HTK : Hid (wordOf L ⟨k, i, j⟩ = wordOf (L.take L.length) ⟨k, i, j⟩) := by rw [Hid, List.take_length]
  have HZ : Hid (wordOf (L.take 0) ⟨k, i, j⟩ = if k = 2 then 1 else 0) := rfl
  have HSM : Hid (∀ (x : Ad) (w : World), Calls Try.prog 69 #[.agg #[.int .i64 x.k, .int .i64 x.i, .int .i64 x.j], .agg #[.int .i64 k, .int .i64 i, .int .i64 j]] w fun e w' => e = .returned (.bool (decide (x = ⟨k, i, j⟩))) ∧ Below w.heap.size w w') := fun x w => same_any x ⟨k, i, j⟩ w
  have HM : Hid (∀ n, L.length = n → L.length = n) := fun _ e => e
  generalize hn : L.length = n at *
  have HN : Hid (L.length = n) := hn
  clear hn HM
  show Calls Try.prog 55 #[.pointer (some ⟨M, 0, none⟩), .agg #[.int .i64 k, .int .i64 i, .int .i64 j]] w fun e w' => _
  go_enter Try.func55, Try.ntmps55
  go_wp2
  go_loopw [5] (fun iv wr => ∃ q : Nat, q ≤ n ∧ iv = .int .i64 ((q : Int) - 1) ∧ wordOf L ⟨k, i, j⟩ = wordOf (L.take q) ⟨k, i, j⟩ ∧ Below (w.alloc (.cells (adC ⟨k, i, j⟩) 46)).heap.size (w.alloc (.cells (adC ⟨k, i, j⟩) 46)) wr) (fun iv _ => (intOf iv + 1).toNat)
  case atStart => exact ⟨n, Nat.le_refl _, by go_num, HTK.out, Below.refl _ _⟩
  case round =>
    obtain ⟨q, hq, rfl, hw, hb⟩ := hrel
    have HW : Hid (wordOf L ⟨k, i, j⟩ = wordOf (L.take q) ⟨k, i, j⟩) := hw
    have HB : Hid (Below (w.alloc (.cells (adC ⟨k, i, j⟩) 46)).heap.size (w.alloc (.cells (adC ⟨k, i, j⟩) 46)) wr) := hb
    have HBW : Hid (Below w.heap.size w wr) := below_then (below_a1 _ _) hb
    obtain ⟨b0, b1, b2⟩ := box_cells (a := ⟨k, i, j⟩) hb
    clear hw hb
    have hc2 : wr.cell? ⟨M, 2, none⟩ = some (.slice va n vc) := cell_later HBW.out hM h2
    have hws : w.heap.size < wr.heap.size := by have := HB.out.size; simp at this; omega
    have hMs : M < wr.heap.size := by omega
    cases q with
    | zero =>
      have HE : Hid (wordOf L ⟨k, i, j⟩ = if k = 2 then 1 else 0) := HW.out.trans HZ.out
      have hz1 : ((0 : Nat) : Int) - 1 = -1 := rfl
      by_cases k2 : k = 2
      · subst k2
        have HE2 : Hid (wordOf L ⟨2, i, j⟩ = 1) := HE.out
        clear HE HZ HW
        go_wp2
        go_ret
        exact ⟨by rw [HE2.out]; rfl, HBW.out⟩
      · have HE2 : Hid (wordOf L ⟨k, i, j⟩ = 0) := by rw [Hid, HE.out, if_neg k2]
        have b : (k == 2) = false := by simpa using k2
        clear HE HZ HW k2
        go_wp2
        go_ret
        exact ⟨by rw [HE2.out]; rfl, HBW.out⟩
    | succ q =>
      have hz1 : ((q + 1 : Nat) : Int) - 1 = (q : Int) := by omega
      have hqn : q < n := by omega
      obtain ⟨g, cap, hform, hg1, hg2⟩ := HOWN.out.form (by omega)
      obtain ⟨rfl, _, rfl⟩ : va = some ⟨g, 0, none⟩ ∧ n = n ∧ vc = cap := by simpa using hform
      clear hform
      have hqL : q < L.length := by rw [HN.out]; exact hqn
      have hrow : Row8 wr ⟨g, q * 8, none⟩ (acC L[q]) := (own_row8 (by rw [HN.out]; exact HOWN.out) q hqL).later rfl HBW.out hg2
      have HS : Hid (wordOf (L.take (q + 1)) ⟨k, i, j⟩ = if hit L[q] ⟨k, i, j⟩ then L[q].v else wordOf (L.take q) ⟨k, i, j⟩) := by rw [Hid, take_snoc L q hqL, wordOf_snoc]
      have HSQ := HSM.out L[q].a
      rw [hz1]
      generalize L[q] = y at *
      obtain ⟨yt, yk, ⟨ya, yb, yc⟩, yo, yv, yy⟩ := y
      obtain ⟨d0, d1, d2, d3, d4, d5, d6, d7⟩ := row8_cells hrow rfl
      simp only [acC, List.getElem_toArray, List.getElem_cons_zero, List.getElem_cons_succ] at d0 d1 d2 d3 d4 d5 d6 d7
      clear hrow
      have HSR : Hid (∀ (w : World), Calls Try.prog 69 #[.agg #[.int .i64 ya, .int .i64 yb, .int .i64 yc], .agg #[.int .i64 k, .int .i64 i, .int .i64 j]] w fun e w' => e = .returned (.bool (decide ((⟨ya, yb, yc⟩ : Ad) = ⟨k, i, j⟩))) ∧ Below w.heap.size w w') := HSQ
      have hd : decide ((0 : Int) ≤ (q : Int)) = true := by simp
      have hx : (q : Int) < (n : Int) := by omega
      by_cases hy : (⟨ya, yb, yc⟩ : Ad) = ⟨k, i, j⟩
      · have HSR2 : Hid (∀ (w : World), Calls Try.prog 69 #[.agg #[.int .i64 ya, .int .i64 yb, .int .i64 yc], .agg #[.int .i64 k, .int .i64 i, .int .i64 j]] w fun e w' => e = .returned (.bool true) ∧ Below w.heap.size w w') := fun w => by have := HSR.out w; rwa [decide_eq_true hy] at this
        clear HSQ HSR
        have HS2 : Hid (wordOf L ⟨k, i, j⟩ = if (yk == 2 || yk == 3 && yy) then yv else wordOf (L.take q) ⟨k, i, j⟩) := by
          rw [Hid, HW.out, HS.out]; simp [hit, hy]
        clear HS HW hy
        go_wp2_with fail
        refine (HSR2.out _).mono ?_
        rintro e w5 ⟨rfl, hb5⟩
        have hc5 : w5.heap[wr.heap.size]? = some (.cells #[.int .i64 yt, .int .i64 yk, .int .i64 ya, .int .i64 yb, .int .i64 yc, .int .i64 yo, .int .i64 yv, .bool yy] 92) := by rw [hb5.block _ (by simp)]; exact heap_alloc_new _ _
        have e1 : w5.cell? ⟨wr.heap.size, 1, none⟩ = some (.int .i64 yk) := by rw [cell_at hc5]; rfl
        have e5 : w5.cell? ⟨wr.heap.size, 7, none⟩ = some (.bool yy) := by rw [cell_at hc5]; rfl
        have e4 : w5.cell? ⟨wr.heap.size, 6, none⟩ = some (.int .i64 yv) := by rw [cell_at hc5]; rfl
        have HB5 : Hid (Below (w.alloc (.cells (adC ⟨k, i, j⟩) 46)).heap.size (w.alloc (.cells (adC ⟨k, i, j⟩) 46)) w5) := below_then HB.out (below_then (below_a1 _ _) hb5)
        clear hb5 hc5 d0 d1 d2 d3 d4 d5 d6 d7
        by_cases y2 : yk = 2
        · subst y2
          go_wp2
          go_ret
          exact ⟨by rw [HS2.out]; rfl, below_then (below_a1 _ _) HB5.out⟩
        · have by2 : (yk == 2) = false := by simpa using y2
          by_cases y3 : yk = 3
          · subst y3
            clear by2 y2
            cases yy with
            | true =>
              go_wp2
              go_ret
              exact ⟨by rw [HS2.out]; rfl, below_then (below_a1 _ _) HB5.out⟩
            | false =>
              go_wp2
              go_roundw
              case rel => exact ⟨q, by omega, by go_num, by rw [HS2.out]; rfl, HB5.out⟩
              case measure => simp [intOf]
          · have by3 : (yk == 3) = false := by simpa using y3
            have HS3 : Hid (wordOf L ⟨k, i, j⟩ = wordOf (L.take q) ⟨k, i, j⟩) := by rw [Hid, HS2.out]; simp [by2, by3]
            clear y2 y3
            go_wp2
            go_roundw
            case rel => exact ⟨q, by omega, by go_num, HS3.out, HB5.out⟩
            case measure => simp [intOf]
      · have HSR2 : Hid (∀ (w : World), Calls Try.prog 69 #[.agg #[.int .i64 ya, .int .i64 yb, .int .i64 yc], .agg #[.int .i64 k, .int .i64 i, .int .i64 j]] w fun e w' => e = .returned (.bool false) ∧ Below w.heap.size w w') := fun w => by have := HSR.out w; rwa [decide_eq_false hy] at this
        clear HSQ HSR
        have HS2 : Hid (wordOf L ⟨k, i, j⟩ = wordOf (L.take q) ⟨k, i, j⟩) := by
          rw [Hid, HW.out, HS.out]; simp [hit, hy]
        clear HS HW hy
        go_wp2_with fail
        refine (HSR2.out _).mono ?_
        rintro e w5 ⟨rfl, hb5⟩
        have HB5 : Hid (Below (w.alloc (.cells (adC ⟨k, i, j⟩) 46)).heap.size (w.alloc (.cells (adC ⟨k, i, j⟩) 46)) w5) := below_then HB.out (below_then (below_a1 _ _) hb5)
        clear hb5 d0 d1 d2 d3 d4 d5 d6 d7
        go_wp2
        go_roundw
        case rel => exact ⟨q, by omega, by go_num, HS2.out, HB5.out⟩
        case measure => simp [intOf]
end Go.Proofs.Ytbmmicfdnfpcaaa
