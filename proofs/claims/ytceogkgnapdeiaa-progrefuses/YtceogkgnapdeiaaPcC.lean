/- Check: the program's. -/
import Derived.Test.YtceogkgnapdeiaaPcB
namespace Go.Proofs.Ytceogkgnapdeiaa.Pc
open Go.ChangeShapes Go.WideShapes Go.ChangeAt Go.RowKit
attribute [local go_sem ↓] Go.wp_at_zero Go.wp_at_succ

def winB (n m : Int) : Bool := decide (1 ≤ n) && decide (n ≤ m)
theorem within_any (w : World) (n m : Int) : Calls Try.prog 25 #[.int .i64 n, .int .i64 m] w fun e w' => e = .returned (.bool (winB n m)) ∧ w' = w := by
  unfold winB
  cases h : decide (1 ≤ n) <;> cases h2 : decide (n ≤ m)
  all_goals
    go_enter Try.func25, Try.ntmps25
    go_wp2
    go_ret
    exact ⟨by simp, rfl⟩
theorem okN_parts (c : Cf) : okN c = (winB c.raw 64 && winB c.ring 16 && winB c.wrs 24 && (decide (1 ≤ c.st) && decide (c.st ≤ 1099511627776)) && winB c.tries 255) := by
  unfold okN winB
  simp only [Bool.and_assoc]
theorem arenum_any (w : World) (c : Cf) (vr : Value) : Calls Try.prog 16 #[.agg (cfA c vr)] w fun e w' => e = .returned (.bool (okN c)) ∧ Below w.heap.size w w' := by
  rw [okN_parts]
  have HA : Hid (∀ w : World, Calls Try.prog 25 #[.int .i64 c.raw, .int .i64 64] w fun e w' => e = .returned (.bool (winB c.raw 64)) ∧ w' = w) := fun w => within_any w _ _
  have HB : Hid (∀ w : World, Calls Try.prog 25 #[.int .i64 c.ring, .int .i64 16] w fun e w' => e = .returned (.bool (winB c.ring 16)) ∧ w' = w) := fun w => within_any w _ _
  have HC : Hid (∀ w : World, Calls Try.prog 25 #[.int .i64 c.wrs, .int .i64 24] w fun e w' => e = .returned (.bool (winB c.wrs 24)) ∧ w' = w) := fun w => within_any w _ _
  have HD : Hid (∀ w : World, Calls Try.prog 25 #[.int .i64 c.tries, .int .i64 255] w fun e w' => e = .returned (.bool (winB c.tries 255)) ∧ w' = w) := fun w => within_any w _ _
  generalize winB c.raw 64 = q1 at *
  generalize winB c.ring 16 = q2 at *
  generalize winB c.wrs 24 = q3 at *
  generalize winB c.tries 255 = q5 at *
  obtain ⟨a, b, d, s, mu, t, R⟩ := c
  unfold cfA
  dsimp only at *
  cases q1
  · go_enter Try.func16, Try.ntmps16
    go_wp2_with fail
    refine (HA.out _).mono ?_
    rintro e w1 ⟨rfl, rfl⟩
    go_wp2_with fail
    go_ret
    exact ⟨by simp, below_a1 _ _⟩
  · cases q2
    · go_enter Try.func16, Try.ntmps16
      go_wp2_with fail
      refine (HA.out _).mono ?_
      rintro e w1 ⟨rfl, rfl⟩
      go_wp2_with fail
      refine (HB.out _).mono ?_
      rintro e w1 ⟨rfl, rfl⟩
      go_wp2_with fail
      go_ret
      exact ⟨by simp, below_a1 _ _⟩
    · cases q3
      · go_enter Try.func16, Try.ntmps16
        go_wp2_with fail
        refine (HA.out _).mono ?_
        rintro e w1 ⟨rfl, rfl⟩
        go_wp2_with fail
        refine (HB.out _).mono ?_
        rintro e w1 ⟨rfl, rfl⟩
        go_wp2_with fail
        refine (HC.out _).mono ?_
        rintro e w1 ⟨rfl, rfl⟩
        go_wp2_with fail
        go_ret
        exact ⟨by simp, below_a1 _ _⟩
      · cases hq41 : decide (1 ≤ s)
        · go_enter Try.func16, Try.ntmps16
          go_wp2_with fail
          refine (HA.out _).mono ?_
          rintro e w1 ⟨rfl, rfl⟩
          go_wp2_with fail
          refine (HB.out _).mono ?_
          rintro e w1 ⟨rfl, rfl⟩
          go_wp2_with fail
          refine (HC.out _).mono ?_
          rintro e w1 ⟨rfl, rfl⟩
          go_wp2_with fail
          go_ret
          exact ⟨by simp, below_a1 _ _⟩
        · cases hq42 : decide (s ≤ 1099511627776)
          · go_enter Try.func16, Try.ntmps16
            go_wp2_with fail
            refine (HA.out _).mono ?_
            rintro e w1 ⟨rfl, rfl⟩
            go_wp2_with fail
            refine (HB.out _).mono ?_
            rintro e w1 ⟨rfl, rfl⟩
            go_wp2_with fail
            refine (HC.out _).mono ?_
            rintro e w1 ⟨rfl, rfl⟩
            go_wp2_with fail
            go_ret
            exact ⟨by simp, below_a1 _ _⟩
          · cases q5
            · go_enter Try.func16, Try.ntmps16
              go_wp2_with fail
              refine (HA.out _).mono ?_
              rintro e w1 ⟨rfl, rfl⟩
              go_wp2_with fail
              refine (HB.out _).mono ?_
              rintro e w1 ⟨rfl, rfl⟩
              go_wp2_with fail
              refine (HC.out _).mono ?_
              rintro e w1 ⟨rfl, rfl⟩
              go_wp2_with fail
              refine (HD.out _).mono ?_
              rintro e w1 ⟨rfl, rfl⟩
              go_wp2_with fail
              go_ret
              exact ⟨by simp, below_a1 _ _⟩
            · go_enter Try.func16, Try.ntmps16
              go_wp2_with fail
              refine (HA.out _).mono ?_
              rintro e w1 ⟨rfl, rfl⟩
              go_wp2_with fail
              refine (HB.out _).mono ?_
              rintro e w1 ⟨rfl, rfl⟩
              go_wp2_with fail
              refine (HC.out _).mono ?_
              rintro e w1 ⟨rfl, rfl⟩
              go_wp2_with fail
              refine (HD.out _).mono ?_
              rintro e w1 ⟨rfl, rfl⟩
              go_wp2_with fail
              go_ret
              exact ⟨by simp, below_a1 _ _⟩
theorem all_cut {R : List Rg} {j : Nat} (h : j < R.length) : (R.take (j + 1)).all okR = ((R.take j).all okR && okR (nthR R j)) := by
  have e : R.take (j + 1) = R.take j ++ [nthR R j] := by
    rw [List.take_add_one]
    simp [nthR, h]
  rw [e]
  simp
theorem all_no {R : List Rg} {j : Nat} (h : j < R.length) (hq : okR (nthR R j) = false) : R.all okR = false := by
  rw [Bool.eq_false_iff]
  intro hA
  rw [List.all_eq_true] at hA
  rw [hA _ (nthR_mem h)] at hq
  cases hq
theorem mz (n j : Nat) (h : j < n) : n - (j + 1) < n - j := by omega
theorem wz {j n : Nat} (h : j < n) (h8 : (n : Int) ≤ 17592186044416) : wrap64 ((j : Int) + 1) = (j : Int) + 1 := by unfold wrap64; omega
theorem areregs_any {w : World} {v : Value} {R : List Rg} (h : Rl w v R) : Calls Try.prog 17 #[v] w fun e w' => e = .returned (.bool (okL R)) ∧ Below w.heap.size w w' := by
  obtain ⟨a, cap, rfl, hlen, hcap, hcs, hl⟩ := h
  have HL : Hid (R.length = 0 ∨ ∃ x, a = some x ∧ x.block < w.heap.size ∧ ∀ i, i < R.length → w.cell? (x.add (i * 2)) = some (.int .i64 (nthR R i).1) ∧ w.cell? ⟨(x.add (i * 2)).block, (x.add (i * 2)).off + 1, none⟩ = some (.int .i64 (nthR R i).2)) := hl
  clear hl hcap hcs
  by_cases h8 : (R.length : Int) ≤ 8
  · have hle : ¬ (8 : Int) < R.length := by omega
    have HQ : Hid (okL R = R.all okR) := by unfold Hid okL; simp [h8]
    clear h8
    go_enter Try.func17, Try.ntmps17
    go_wp2_with fail
    go_loopw [10] (fun iv wr => ∃ j : Nat, j ≤ R.length ∧ iv = .int .i64 (j : Int) ∧ Hid ((R.take j).all okR = true) ∧ Below w.heap.size w wr) (fun iv _ => R.length - (intOf iv).toNat)
    case atStart => exact ⟨0, by omega, rfl, rfl, Below.refl _ _⟩
    case round =>
      obtain ⟨j, hj, rfl, HA, hbel⟩ := hrel
      have HB : Hid (Below w.heap.size w wr) := hbel
      clear hbel
      by_cases hlt : j < R.length
      · have hjd : decide ((j : Int) < (R.length : Int)) = true := by simp; omega
        obtain ⟨x, rfl, hxb, hxc⟩ := HL.out.resolve_left (by omega)
        obtain ⟨x1, x2⟩ := hxc j hlt
        have z1 : wr.cell? (x.add (j * 2)) = some (.int .i64 (nthR R j).1) := cell_later HB.out (by rw [add_block]; exact hxb) x1
        have z2 : wr.cell? ⟨(x.add (j * 2)).block, (x.add (j * 2)).off + 1, none⟩ = some (.int .i64 (nthR R j).2) := cell_later (a := ⟨(x.add (j * 2)).block, (x.add (j * 2)).off + 1, none⟩) HB.out (show (x.add (j * 2)).block < _ by rw [add_block]; exact hxb) x2
        have HI : Hid (∀ w : World, Calls Try.prog 26 #[regV (nthR R j)] w fun e w' => e = .returned (.bool (okR (nthR R j))) ∧ Below w.heap.size w w') := fun w => isreg_any w _
        have HN : Hid (okR (nthR R j) = false → R.all okR = false) := all_no hlt
        have HY : Hid ((R.take (j + 1)).all okR = ((R.take j).all okR && okR (nthR R j))) := all_cut hlt
        have hw : wrap64 ((j : Int) + 1) = (j : Int) + 1 := wz hlt (by omega)
        have HM : Hid (R.length - (j + 1) < R.length - j) := mz _ _ hlt
        obtain ⟨q, hq⟩ : ∃ q, okR (nthR R j) = q := ⟨_, rfl⟩
        rw [hq] at HI HN HY
        clear hq x1 x2 hxc hle HL
        generalize nthR R j = r at *
        obtain ⟨k, m⟩ := r
        unfold regV at HI
        dsimp only at *
        cases q with
        | false =>
          go_wp2_with fail
          refine (HI.out _).mono ?_
          rintro e w2 ⟨rfl, hb2⟩
          go_wp2_with fail
          go_ret
          exact ⟨by rw [HQ.out, HN.out trivial]; rfl, HB.out.trans ((below_then (below_a1 _ _) hb2).mono HB.out.size)⟩
        | true =>
          go_wp2_with fail
          refine (HI.out _).mono ?_
          rintro e w2 ⟨rfl, hb2⟩
          go_wp2_with fail
          go_roundw
          case rel => exact ⟨j + 1, hlt, by go_num, by rw [Hid, HY.out, HA.out]; rfl, HB.out.trans ((below_then (below_a1 _ _) hb2).mono HB.out.size)⟩
          case measure => simpa [intOf] using HM.out
      · obtain rfl : j = R.length := by omega
        have HZ : Hid (R.all okR = true) := by
          have := HA.out
          rw [List.take_length] at this
          exact this
        clear HA HL
        go_wp2_with fail
        go_ret
        exact ⟨by rw [HQ.out, HZ.out]; rfl, HB.out⟩
  · have h9 : (8 : Int) < R.length := by omega
    have HQ : Hid (okL R = false) := by unfold Hid okL; simp [h8]
    clear h8
    go_enter Try.func17, Try.ntmps17
    go_wp2_with fail
    go_ret
    exact ⟨by rw [HQ.out]; rfl, Below.refl _ _⟩
theorem check_any {w : World} {v : Value} {c : Cf} (h : CfV w v c) : Calls Try.prog 11 #[v] w fun e w' => e = .returned (.int .i64 (chkV c)) ∧ Below w.heap.size w w' := by
  obtain ⟨vr, rfl, hR⟩ := h
  have HA : Hid (∀ w : World, Calls Try.prog 16 #[.agg (cfA c vr)] w fun e w' => e = .returned (.bool (okN c)) ∧ Below w.heap.size w w') := fun w => arenum_any w c vr
  have HR : Hid (∀ w' : World, Below w.heap.size w w' → Calls Try.prog 17 #[vr] w' fun e w'' => e = .returned (.bool (okL c.R)) ∧ Below w'.heap.size w' w'') := fun w' hb => areregs_any (hR.later hb (Nat.le_refl _))
  have HV : Hid (chkV c = if okN c = true ∧ okL c.R = true then 0 else 13) := by
    unfold Hid chkV okC
    cases okN c <;> cases okL c.R <;> rfl
  generalize chkV c = y at *
  generalize okN c = q1 at *
  generalize okL c.R = q2 at *
  clear hR
  obtain ⟨a, b, d, s, mu, t, R⟩ := c
  unfold cfA at *
  dsimp only at *
  cases q1 with
  | false =>
    go_enter Try.func11, Try.ntmps11
    go_wp2_with fail
    refine (HA.out _).mono ?_
    rintro e w1 ⟨rfl, hb⟩
    go_wp2_with fail
    go_ret
    exact ⟨by rw [HV.out]; rfl, below_then (below_a1 _ _) hb⟩
  | true =>
    cases q2 with
    | false =>
      go_enter Try.func11, Try.ntmps11
      go_wp2_with fail
      refine (HA.out _).mono ?_
      rintro e w1 ⟨rfl, hb⟩
      have hr := row_nx hb
      have hk6 : w1.cell? ⟨w.heap.size, 6, none⟩ = some vr := (cell_at hr 6).trans rfl
      have HB : Hid (Below w.heap.size w w1) := below_then (below_a1 _ _) hb
      clear hr hb
      go_wp2_with fail
      refine (HR.out _ HB.out).mono ?_
      rintro e w2 ⟨rfl, hb2⟩
      go_wp2_with fail
      go_ret
      exact ⟨by rw [HV.out]; rfl, HB.out.trans (hb2.mono HB.out.size)⟩
    | true =>
      go_enter Try.func11, Try.ntmps11
      go_wp2_with fail
      refine (HA.out _).mono ?_
      rintro e w1 ⟨rfl, hb⟩
      have hr := row_nx hb
      have hk6 : w1.cell? ⟨w.heap.size, 6, none⟩ = some vr := (cell_at hr 6).trans rfl
      have HB : Hid (Below w.heap.size w w1) := below_then (below_a1 _ _) hb
      clear hr hb
      go_wp2_with fail
      refine (HR.out _ HB.out).mono ?_
      rintro e w2 ⟨rfl, hb2⟩
      go_wp2_with fail
      go_ret
      exact ⟨by rw [HV.out]; rfl, HB.out.trans (hb2.mono HB.out.size)⟩
end Go.Proofs.Ytceogkgnapdeiaa.Pc
