/- Base and Cells: the program's. -/
import Derived.Test.YtceogkgnapdeiaaPcC
namespace Go.Proofs.Ytceogkgnapdeiaa.Pc
open Go.ChangeShapes Go.WideShapes Go.ChangeAt Go.RowKit
attribute [local go_sem ↓] Go.wp_at_zero Go.wp_at_succ

theorem sum_bd {R : List Rg} {p : Int} {j : Nat} (hp : 0 ≤ p ∧ p ≤ 64) (h8 : R.length ≤ 8) (hj : j < R.length) : wrap64 (p + sumV (R.take j) + szV (nthR R j)) = p + sumV (R.take (j + 1)) := by
  have h1 := sum_le (R.take (j + 1))
  have h2 : (R.take (j + 1)).length ≤ 8 := by simp; omega
  rw [sum_take hj] at h1 ⊢
  unfold wrap64
  omega
theorem behind_any {w : World} {v : Value} {R : List Rg} {p : Int} (h : Rl w v R) (hp : 0 ≤ p ∧ p ≤ 64) (h8 : R.length ≤ 8) : Calls Try.prog 12 #[.int .i64 p, v] w fun e w' => e = .returned (.int .i64 (p + sumV R)) ∧ Below w.heap.size w w' := by
  obtain ⟨a, cap, rfl, hlen, hcap, hcs, hl⟩ := h
  have HL : Hid (R.length = 0 ∨ ∃ x, a = some x ∧ x.block < w.heap.size ∧ ∀ i, i < R.length → w.cell? (x.add (i * 2)) = some (.int .i64 (nthR R i).1) ∧ w.cell? ⟨(x.add (i * 2)).block, (x.add (i * 2)).off + 1, none⟩ = some (.int .i64 (nthR R i).2)) := hl
  clear hl hcap hcs
  have HP : Hid (0 ≤ p ∧ p ≤ 64) := hp
  have H8 : Hid (R.length ≤ 8) := h8
  clear hp h8
  go_enter Try.func12, Try.ntmps12
  go_wp2_with fail
  go_loopw [5, 13] (fun cv iv wr => ∃ (j : Nat) (c : Int), j ≤ R.length ∧ iv = .int .i64 (j : Int) ∧ cv = .int .i64 c ∧ Hid (c = p + sumV (R.take j)) ∧ Below w.heap.size w wr) (fun _ iv _ => R.length - (intOf iv).toNat)
  case atStart => exact ⟨0, p, by omega, rfl, rfl, by simp [Hid, sumV], Below.refl _ _⟩
  case round =>
    obtain ⟨j, c, hj, rfl, rfl, HA, hbel⟩ := hrel
    have HB : Hid (Below w.heap.size w wr) := hbel
    clear hbel
    by_cases hlt : j < R.length
    · have hjd : decide ((j : Int) < (R.length : Int)) = true := by simp; omega
      obtain ⟨x, rfl, hxb, hxc⟩ := HL.out.resolve_left (by omega)
      obtain ⟨x1, x2⟩ := hxc j hlt
      have z1 : wr.cell? (x.add (j * 2)) = some (.int .i64 (nthR R j).1) := cell_later HB.out (by rw [add_block]; exact hxb) x1
      have z2 : wr.cell? ⟨(x.add (j * 2)).block, (x.add (j * 2)).off + 1, none⟩ = some (.int .i64 (nthR R j).2) := cell_later (a := ⟨(x.add (j * 2)).block, (x.add (j * 2)).off + 1, none⟩) HB.out (show (x.add (j * 2)).block < _ by rw [add_block]; exact hxb) x2
      have HI : Hid (∀ w : World, Calls Try.prog 18 #[regV (nthR R j)] w fun e w' => e = .returned (.tuple #[.int .i64 (szV (nthR R j)), .int .i64 (erV (nthR R j))]) ∧ Below w.heap.size w w') := fun w => size_any w _
      have HS : Hid (wrap64 (c + szV (nthR R j)) = p + sumV (R.take (j + 1))) := by
        rw [Hid, HA.out]
        exact sum_bd HP.out H8.out hlt
      have hw : wrap64 ((j : Int) + 1) = (j : Int) + 1 := wz hlt (by omega)
      have HM : Hid (R.length - (j + 1) < R.length - j) := mz _ _ hlt
      clear x1 x2 hxc HL HA
      generalize szV (nthR R j) = s at *
      generalize erV (nthR R j) = t at *
      generalize nthR R j = r at *
      obtain ⟨k, m⟩ := r
      obtain ⟨d, hd⟩ : ∃ d, wrap64 (c + s) = d := ⟨_, rfl⟩
      have HD : Hid (d = p + sumV (R.take (j + 1))) := by rw [Hid, ← hd, HS.out]
      clear HS
      unfold regV at HI
      dsimp only at *
      go_wp2_with fail
      refine (HI.out _).mono ?_
      rintro e w2 ⟨rfl, hb2⟩
      go_wp2_with fail
      go_roundw
      case rel => exact ⟨j + 1, d, hlt, by go_num, by rw [hd], HD, HB.out.trans ((below_then (below_a1 _ _) hb2).mono HB.out.size)⟩
      case measure => simpa [intOf] using HM.out
    · obtain rfl : j = R.length := by omega
      have HZ : Hid (c = p + sumV R) := by
        have := HA.out
        rw [List.take_length] at this
        exact this
      clear HA HL
      go_wp2_with fail
      go_ret
      exact ⟨by rw [← HZ.out]; rfl, HB.out⟩
def Two (x : Int × Int) (w : World) : Ending → World → Prop := fun e w' => e = .returned (.tuple #[.int .i64 x.1, .int .i64 x.2]) ∧ Below w.heap.size w w'
theorem cells_any {w : World} {v : Value} {c : Cf} (h : CfV w v c) : Calls Try.prog 6 #[v] w (Two (cellsV c) w) := by
  have HC : Hid (∀ w' : World, Below w.heap.size w w' → Calls Try.prog 11 #[v] w' fun e w'' => e = .returned (.int .i64 (chkV c)) ∧ Below w'.heap.size w' w'') := fun w' hb => check_any (h.later hb (Nat.le_refl _))
  obtain ⟨vr, rfl, hR⟩ := h
  cases hq : okC c with
  | false =>
    have e1 : chkV c = 13 := by unfold chkV; rw [hq]; rfl
    have e2 : cellsV c = (0, 13) := by unfold cellsV; rw [hq]; rfl
    rw [e1] at HC
    rw [e2]
    unfold Two
    clear e1 e2 hq hR
    obtain ⟨a, b, d, s, mu, t, R⟩ := c
    unfold cfA at *
    dsimp only at *
    go_enter Try.func6, Try.ntmps6
    go_wp2_with fail
    refine (HC.out _ (below_a1 _ _)).mono ?_
    rintro e w1 ⟨rfl, hb⟩
    go_wp2_with fail
    go_ret2
    exact ⟨rfl, below_then (below_a1 _ _) hb⟩
  | true =>
    have e1 : chkV c = 0 := by unfold chkV; rw [hq]; rfl
    have e2 : cellsV c = (c.raw + sumV c.R, 0) := by unfold cellsV; rw [hq]; rfl
    have hk := okC_raw hq
    have HH : Hid (∀ w' : World, Below w.heap.size w w' → Calls Try.prog 12 #[.int .i64 c.raw, vr] w' fun e w'' => e = .returned (.int .i64 (c.raw + sumV c.R)) ∧ Below w'.heap.size w' w'') := fun w' hb => behind_any (hR.later hb (Nat.le_refl _)) (by omega) hk.2.2
    rw [e1] at HC
    rw [e2]
    unfold Two
    clear e1 e2 hq hR hk
    generalize c.raw + sumV c.R = y at *
    obtain ⟨a, b, d, s, mu, t, R⟩ := c
    unfold cfA at *
    dsimp only at *
    go_enter Try.func6, Try.ntmps6
    go_wp2_with fail
    refine (HC.out _ (below_a1 _ _)).mono ?_
    rintro e w1 ⟨rfl, hb⟩
    have hr := row_nx hb
    have hk0 : w1.cell? ⟨w.heap.size, 0, none⟩ = some (.int .i64 a) := (cell_at hr 0).trans rfl
    have hk6 : w1.cell? ⟨w.heap.size, 6, none⟩ = some vr := (cell_at hr 6).trans rfl
    have HB : Hid (Below w.heap.size w w1) := below_then (below_a1 _ _) hb
    clear hr hb
    go_wp2_with fail
    refine (HH.out _ HB.out).mono ?_
    rintro e w2 ⟨rfl, hb2⟩
    go_wp2_with fail
    go_ret2
    exact ⟨rfl, HB.out.trans (hb2.mono HB.out.size)⟩
theorem base_any {w : World} {v : Value} {c : Cf} (h : CfV w v c) (i : Int) : Calls Try.prog 13 #[v, .int .i64 i] w (Two (baseV c i) w) := by
  have HC : Hid (∀ w' : World, Below w.heap.size w w' → Calls Try.prog 11 #[v] w' fun e w'' => e = .returned (.int .i64 (chkV c)) ∧ Below w'.heap.size w' w'') := fun w' hb => check_any (h.later hb (Nat.le_refl _))
  obtain ⟨vr, rfl, hR⟩ := h
  cases hq : okC c with
  | false =>
    have e1 : chkV c = 13 := by unfold chkV; rw [hq]; rfl
    have e2 : baseV c i = (0, 13) := by unfold baseV; rw [hq]; rfl
    rw [e1] at HC
    rw [e2]
    unfold Two
    clear e1 e2 hq hR
    obtain ⟨a, b, d, s, mu, t, R⟩ := c
    unfold cfA at *
    dsimp only at *
    go_enter Try.func13, Try.ntmps13
    go_wp2_with fail
    refine (HC.out _ (below_a1 _ _)).mono ?_
    rintro e w1 ⟨rfl, hb⟩
    go_wp2_with fail
    go_ret2
    exact ⟨rfl, below_then (below_a1 _ _) hb⟩
  | true =>
    have e1 : chkV c = 0 := by unfold chkV; rw [hq]; rfl
    rw [e1] at HC
    have hk := okC_raw hq
    have e2 : baseV c i = if 0 ≤ i ∧ i < c.R.length then (c.raw + sumV (c.R.take i.toNat), 0) else (0, 1) := by unfold baseV; rw [hq]; rfl
    rw [e2]
    clear e1 e2 hq
    have hR0 := hR
    obtain ⟨ar, cap, rfl, hlen, hcap, hcs, hl⟩ := hR0
    by_cases hi0 : 0 ≤ i
    · by_cases hi1 : i < c.R.length
      · rw [if_pos ⟨hi0, hi1⟩]
        obtain ⟨n, rfl⟩ : ∃ n : Nat, i = n := ⟨i.toNat, by omega⟩
        have hn : n < c.R.length := by omega
        obtain ⟨xa, rfl, _, _⟩ := hl.resolve_left (by omega)
        have HH : Hid (∀ w' : World, Below w.heap.size w w' → Calls Try.prog 12 #[.int .i64 c.raw, .slice (some xa) n cap] w' fun e w'' => e = .returned (.int .i64 (c.raw + sumV (c.R.take n))) ∧ Below w'.heap.size w' w'') := fun w' hb => behind_any ((hR.later hb (Nat.le_refl _)).take hn) (by omega) (by simp; omega)
        have hnc : (n : Int) ≤ cap := by omega
        have hnd : decide (c.R.length ≤ n) = false := by simp; omega
        have hnn : (decide ((n : Int) < 0) || decide (c.R.length ≤ n)) = false := by rw [hnd]; simp
        unfold Two
        rw [Int.toNat_natCast]
        clear hR hk hl hlen hcap hcs hi1 hn
        generalize c.raw + sumV (c.R.take n) = y at *
        obtain ⟨a, b, d, s, mu, t, R⟩ := c
        unfold cfA at *
        dsimp only at *
        go_enter Try.func13, Try.ntmps13
        go_wp2_with fail
        refine (HC.out _ (below_a1 _ _)).mono ?_
        rintro e w1 ⟨rfl, hb⟩
        have hr := row_nx hb
        have hk0 : w1.cell? ⟨w.heap.size, 0, none⟩ = some (.int .i64 a) := (cell_at hr 0).trans rfl
        have hk6 : w1.cell? ⟨w.heap.size, 6, none⟩ = some (.slice (some xa) R.length cap) := (cell_at hr 6).trans rfl
        have hlw : w.heap.size < w1.heap.size := heap_lt hr
        have HB : Hid (Below w.heap.size w w1) := below_then (below_a1 _ _) hb
        clear hr hb
        go_wp2_with fail
        go_region_held3 (fun w' => w'.cell? ⟨w.heap.size, 0, none⟩ = some (.int .i64 a) ∧ w'.cell? ⟨w.heap.size, 6, none⟩ = some (.slice (some xa) R.length cap)) (first | go_keep | exact hS) ((go_at_call 12; refine (HH.out _ HB.out.drew).mono ?_; rintro e w2 ⟨rfl, hb3⟩; have hb2 : Below w1.heap.size w1 w2 := ⟨hb3.os, hb3.tape, hb3.output, hb3.size, hb3.block⟩; have hS : w2.cell? ⟨w.heap.size, 0, none⟩ = some (.int .i64 a) ∧ w2.cell? ⟨w.heap.size, 6, none⟩ = some (.slice (some xa) R.length cap) := ⟨cell_later hb2 (a := ⟨w.heap.size, 0, none⟩) hlw hk0, cell_later hb2 (a := ⟨w.heap.size, 6, none⟩) hlw hk6⟩))
        go_wp2_with fail
        go_ret2
        exact ⟨rfl, HB.out.trans (hb2.mono HB.out.size)⟩
      · rw [if_neg (fun h => hi1 h.2)]
        have hdd : decide (((c.R.length : Nat) : Int) ≤ i) = true := by simp; omega
        have hd0 : decide (i < 0) = false := by simp; omega
        unfold Two
        clear hR hk hl hlen hcap hcs hi1 hi0
        obtain ⟨a, b, d, s, mu, t, R⟩ := c
        unfold cfA at *
        dsimp only at *
        go_enter Try.func13, Try.ntmps13
        go_wp2_with fail
        refine (HC.out _ (below_a1 _ _)).mono ?_
        rintro e w1 ⟨rfl, hb⟩
        have hr := row_nx hb
        have hk6 : w1.cell? ⟨w.heap.size, 6, none⟩ = some (.slice ar R.length cap) := (cell_at hr 6).trans rfl
        have HB : Hid (Below w.heap.size w w1) := below_then (below_a1 _ _) hb
        clear hr hb
        go_wp2_with fail
        go_ret2
        exact ⟨rfl, HB.out⟩
    · rw [if_neg (fun h => hi0 h.1)]
      have hd0 : decide (i < 0) = true := by simp; omega
      unfold Two
      clear hR hk hl hlen hcap hcs hi0
      obtain ⟨a, b, d, s, mu, t, R⟩ := c
      unfold cfA at *
      dsimp only at *
      go_enter Try.func13, Try.ntmps13
      go_wp2_with fail
      refine (HC.out _ (below_a1 _ _)).mono ?_
      rintro e w1 ⟨rfl, hb⟩
      have HB : Hid (Below w.heap.size w w1) := below_then (below_a1 _ _) hb
      clear hb
      go_wp2_with fail
      go_ret2
      exact ⟨rfl, HB.out⟩
end Go.Proofs.Ytceogkgnapdeiaa.Pc
