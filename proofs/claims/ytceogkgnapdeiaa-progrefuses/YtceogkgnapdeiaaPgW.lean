/- ProgRefuses, walked. -/
import Derived.Test.YtceogkgnapdeiaaPgR
import Derived.Test.YtceogkgnapdeiaaPcE
import Derived.Test.YtceogkgnapdeiaaTabD
namespace Go.Proofs.Ytceogkgnapdeiaa.Pg
open Go.ChangeShapes Go.WideShapes Go.ChangeAt Go.RowKit
attribute [local go_sem ↓] Go.wp_at_zero Go.wp_at_succ

theorem lnew_w (w : World) (m : Nat) (h1 : 1 ≤ m) (h24 : m ≤ 24) : Calls Try.prog 19 #[.int .i64 (m : Int)] w fun e w' => ∃ B, e = .returned (.tuple #[.pointer (some ⟨B, 0, none⟩), .int .i64 0]) ∧ Below w.heap.size w w' := by
  have HN : Hid (∀ w : World, Calls Try.prog 28 #[.int .i64 (m : Int)] w fun e w' => ∃ B, e = .returned (.tuple #[.pointer (some ⟨B, 0, none⟩), .int .i64 0]) ∧ w.heap.size ≤ B ∧ TabAt w' B (empty m) ∧ Below w.heap.size w w') := fun w => tnew_yes w m h1 h24
  clear h1 h24
  go_enter Try.func19, Try.ntmps19
  go_wp2_with fail
  refine (HN.out _).mono ?_
  rintro e w1 ⟨B, rfl, hB, ht, hb⟩
  clear hB ht
  go_wp2
  go_ret2
  exact ⟨_, rfl, below_then hb (below_a1 _ _)⟩
theorem cnew_w (w : World) (a s m n t : Int) (mu : Bool) (v : Value) (h : 1 ≤ s ∧ s ≤ 16 ∧ 1 ≤ m ∧ m ≤ 24 ∧ 1 ≤ n ∧ n ≤ 1099511627776) : Calls Try.prog 14 #[.agg #[.int .i64 a, .int .i64 s, .int .i64 m, .int .i64 n, .bool mu, .int .i64 t, v]] w fun e w' => ∃ B, e = .returned (.tuple #[.pointer (some ⟨B, 0, none⟩), .int .i64 0]) ∧ Below w.heap.size w w' := by
  obtain ⟨h1, h2, m1, m2, h3, h4⟩ := h
  obtain ⟨m, rfl⟩ : ∃ k : Nat, m = (k : Int) := ⟨m.toNat, by omega⟩
  have HLN : Hid (∀ w' : World, Calls Try.prog 19 #[.int .i64 (m : Int)] w' fun e w'' => ∃ B, e = .returned (.tuple #[.pointer (some ⟨B, 0, none⟩), .int .i64 0]) ∧ Below w'.heap.size w' w'') := fun w' => lnew_w w' m (by omega) (by omega)
  have d1 : decide (s < 1) = false := by simp; omega
  have d2 : decide ((16 : Int) < s) = false := by simp; omega
  have d3 : decide (n < 1) = false := by simp; omega
  have d4 : decide ((1099511627776 : Int) < n) = false := by simp; omega
  clear h1 h2 h3 h4 m1 m2
  go_enter Try.func14, Try.ntmps14
  go_wp2_with fail
  refine (HLN.out _).mono ?_
  rintro e w1 ⟨lg, rfl, hb1⟩
  have hr := row_next hb1
  obtain ⟨k0, k1, k2, k3, k4, k5, k6⟩ := cf7 hr
  have hW := heap_lt hr
  have HB1 : Hid (Below w.heap.size w w1) := below_next hb1
  clear hr hb1
  go_wp2
  go_ret2
  exact ⟨_, rfl, below_then HB1.out (below_then (below_a1 _ _) (below_a1 _ _))⟩
/-- A new try: nothing changes but the job and what is new. -/
theorem newTry_w {w : World} {X : Nat} {c : Pc.Cf} {rv av : Value} {y : Int} {code : ByteArray} (hX : w.heap[X]? = some (.cells (jobZ c rv y code av) 47 (0, 0))) (hc : Pc.okC c = true) : Calls Try.prog 9 #[.pointer (some ⟨X, 0, none⟩)] w fun e w' => e = .returned (.tuple #[]) ∧ Keep [X] w w' := by
  have HN : Hid (∀ w' : World, Calls Try.prog 14 #[.agg #[.int .i64 c.raw, .int .i64 c.ring, .int .i64 c.wrs, .int .i64 c.st, .bool c.multi, .int .i64 c.tries, .slice none 0 0]] w' fun e w'' => ∃ B, e = .returned (.tuple #[.pointer (some ⟨B, 0, none⟩), .int .i64 0]) ∧ Below w'.heap.size w' w'') := fun w' => by
    refine cnew_w w' _ _ _ _ _ _ _ ?_
    simp only [Pc.okC, Pc.okN, Bool.and_eq_true, decide_eq_true_eq] at hc
    omega
  have hl := heap_lt hX
  have HX : Hid (w.heap[X]? = some (.cells (jobZ c rv y code av) 47 (0, 0))) := hX
  have c0 : w.cell? ⟨X, 0, none⟩ = some (.int .i64 c.raw) := (cell_at hX 0).trans rfl
  have c1 : w.cell? ⟨X, 1, none⟩ = some (.int .i64 c.ring) := (cell_at hX 1).trans rfl
  have c2 : w.cell? ⟨X, 2, none⟩ = some (.int .i64 c.wrs) := (cell_at hX 2).trans rfl
  have c3 : w.cell? ⟨X, 3, none⟩ = some (.int .i64 c.st) := (cell_at hX 3).trans rfl
  have c4 : w.cell? ⟨X, 4, none⟩ = some (.bool c.multi) := (cell_at hX 4).trans rfl
  have c5 : w.cell? ⟨X, 5, none⟩ = some (.int .i64 c.tries) := (cell_at hX 5).trans rfl
  have c6 : w.cell? ⟨X, 6, none⟩ = some (.slice none 0 0) := (cell_at hX 6).trans rfl
  clear hX hc
  obtain ⟨a, b, d, s, mu, t, R⟩ := c
  dsimp only at *
  go_enter Try.func9, Try.ntmps9
  go_wp2_with fail
  refine (HN.out _).mono ?_
  rintro e w1 ⟨B, rfl, hb1⟩
  have hX1 := row_on HX.out hb1
  have hl1 := heap_lt hX1
  have q11 : w1.cell? ⟨X, 11, none⟩ = some (.int .i64 0) := (cell_at hX1 11).trans rfl
  have q12 : w1.cell? ⟨X, 12, none⟩ = some (.pointer none) := (cell_at hX1 12).trans rfl
  have q13 : w1.cell? ⟨X, 13, none⟩ = some (.bool false) := (cell_at hX1 13).trans rfl
  have q14 : w1.cell? ⟨X, 14, none⟩ = some (.int .i64 0) := (cell_at hX1 14).trans rfl
  have q15 : w1.cell? ⟨X, 15, none⟩ = some (.int .i64 0) := (cell_at hX1 15).trans rfl
  have q16 : w1.cell? ⟨X, 16, none⟩ = some (.slice none 0 0) := (cell_at hX1 16).trans rfl
  have q17 : w1.cell? ⟨X, 17, none⟩ = some (.slice none 0 0) := (cell_at hX1 17).trans rfl
  have q18 : w1.cell? ⟨X, 18, none⟩ = some (.slice none 0 0) := (cell_at hX1 18).trans rfl
  have q19 : w1.cell? ⟨X, 19, none⟩ = some (.int .i64 0) := (cell_at hX1 19).trans rfl
  have q20 : w1.cell? ⟨X, 20, none⟩ = some (.int .i64 0) := (cell_at hX1 20).trans rfl
  have q21 : w1.cell? ⟨X, 21, none⟩ = some (.int .i64 0) := (cell_at hX1 21).trans rfl
  have q22 : w1.cell? ⟨X, 22, none⟩ = some (.int .i64 0) := (cell_at hX1 22).trans rfl
  have q23 : w1.cell? ⟨X, 23, none⟩ = some (.nilIface) := (cell_at hX1 23).trans rfl
  have q24 : w1.cell? ⟨X, 24, none⟩ = some (.int .i64 0) := (cell_at hX1 24).trans rfl
  have HX1 : Hid (w1.heap[X]? = some (.cells (jobZ ⟨a, b, d, s, mu, t, R⟩ rv y code av) 47 (0, 0))) := hX1
  have HB1 : Hid (Keep [X] w w1) := Keep.of_below hb1 _
  have f := frozen_at hX1
  clear hX1 hb1 c0 c1 c2 c3 c4 c5 c6 HX HN
  go_wp2_with fail
  go_end0
  have k11 := HB1.out.setCell ⟨X, 11, none⟩ (.int .i64 1) (Or.inl (by simp))
  have k12 := k11.setCell ⟨X, 12, none⟩ (.pointer (some ⟨B, 0, none⟩)) (Or.inl (by simp))
  have k13 := k12.setCell ⟨X, 13, none⟩ (.bool false) (Or.inl (by simp))
  have k15 := (k13.setCell ⟨X, 14, none⟩ (.int .i64 0) (Or.inl (by simp))).setCell ⟨X, 15, none⟩ (.int .i64 0) (Or.inl (by simp))
  have k18 := ((k15.setCell ⟨X, 16, none⟩ (.slice none 0 0) (Or.inl (by simp))).setCell ⟨X, 17, none⟩ (.slice none 0 0) (Or.inl (by simp))).setCell ⟨X, 18, none⟩ (.slice none 0 0) (Or.inl (by simp))
  have k22 := (((k18.setCell ⟨X, 19, none⟩ (.int .i64 0) (Or.inl (by simp))).setCell ⟨X, 20, none⟩ (.int .i64 0) (Or.inl (by simp))).setCell ⟨X, 21, none⟩ (.int .i64 0) (Or.inl (by simp))).setCell ⟨X, 22, none⟩ (.int .i64 0) (Or.inl (by simp))
  exact ⟨rfl, (k22.setCell ⟨X, 23, none⟩ .nilIface (Or.inl (by simp))).setCell ⟨X, 24, none⟩ (.int .i64 0) (Or.inl (by simp))⟩
/-- What New answers, and no more. -/
theorem new_w {w : World} {v : Value} {c : Pc.Cf} (h : Pc.CfV w v c) (code : ByteArray) {va : Value} {l : List Int} (ha : Nl w va l) : Calls Try.prog 4 #[v, .string code, va] w fun e w' => ∃ x, e = .returned (.tuple #[.pointer x, .int .i64 (refV c code l)]) ∧ (x = none ↔ refV c code l ≠ 0) ∧ Below w.heap.size w w' := by
  unfold refV
  by_cases hc : Pc.okC c = true
  · rw [if_pos hc]
    by_cases hz : 512 < code.size ∨ 4 < l.length
    · rw [if_pos hz]
      refine (new_arg h code ha hc hz).mono ?_
      rintro e w' ⟨rfl, hb⟩
      exact ⟨none, rfl, by simp, hb⟩
    · rw [if_neg hz]
      refine (new_yes (T := fun _ w' => Below w.heap.size w w') h code ha hc (by omega) (by omega) ?_).mono ?_
      · intro w1 X rv av hX _ _ _ _ hx _ hb
        refine (newTry_w hx hc).mono ?_
        rintro e w2 ⟨rfl, hk⟩
        exact ⟨rfl, hb.trans (hk.below hb.size (by simpa using hX))⟩
      · rintro e w' ⟨X, rfl, hb⟩
        exact ⟨_, rfl, by simp, hb⟩
  · rw [if_neg hc]
    refine (new_cfg h code ha (by simpa using hc)).mono ?_
    rintro e w' ⟨rfl, hb⟩
    exact ⟨none, rfl, by simp, hb⟩
/-- What the document refuses. -/
theorem refuses_any {w : World} {v : Value} {c : Pc.Cf} (h : Pc.CfV w v c) (code : ByteArray) {va : Value} {l : List Int} (ha : Nl w va l) : Calls Try.prog 5 #[v, .string code, va] w fun e w' => e = .returned (.int .i64 (refV c code l)) ∧ Below w.heap.size w w' := by
  have HD : Hid (∀ w' : World, Below w.heap.size w w' → Calls Try.prog 10 #[v] w' fun e w'' => e = .returned (.int .i64 (Pc.chkV c)) ∧ Below w'.heap.size w' w'') := fun w' hb => Pc.rcheck_any (h.later hb (Nat.le_refl _))
  have HV : Hid (refV c code l = if Pc.chkV c = 0 then (if 512 < code.size ∨ 4 < l.length then 1 else 0) else 13) := by
    unfold refV Pc.chkV Hid
    by_cases hc : Pc.okC c = true <;> simp [hc]
  have hy : Pc.chkV c = 0 ∨ Pc.chkV c = 13 := by
    unfold Pc.chkV
    split <;> simp
  obtain ⟨vr, rfl, hR⟩ := h
  obtain ⟨aa, cap, rfl, hl, _⟩ := ha
  generalize refV c code l = z at *
  generalize Pc.chkV c = y at *
  clear hR hl
  generalize l.length = n at *
  obtain ⟨a, b, d, s, mu, t, R⟩ := c
  unfold Pc.cfA at *
  dsimp only at *
  rcases hy with rfl | rfl
  · rw [if_pos rfl] at HV
    by_cases h1 : 512 < code.size
    · have d1 : decide ((512 : Int) < (code.size : Int)) = true := by simp; omega
      have HZ : Hid (z = 1) := by rw [HV.out, if_pos (Or.inl h1)]; rfl
      clear HV
      go_enter Try.func5, Try.ntmps5
      go_wp2_with fail
      refine (HD.out _ (below_a1 _ _)).mono ?_
      rintro e w1 ⟨rfl, hb⟩
      go_wp2_with fail
      go_ret
      exact ⟨by rw [HZ.out]; rfl, below_then (below_a1 _ _) hb⟩
    · have d1 : decide ((512 : Int) < (code.size : Int)) = false := by simp; omega
      by_cases h2 : 4 < n
      · have d2 : decide ((4 : Int) < (n : Int)) = true := by simp; omega
        have HZ : Hid (z = 1) := by rw [HV.out, if_pos (Or.inr h2)]; rfl
        clear HV
        go_enter Try.func5, Try.ntmps5
        go_wp2_with fail
        refine (HD.out _ (below_a1 _ _)).mono ?_
        rintro e w1 ⟨rfl, hb⟩
        go_wp2_with fail
        go_ret
        exact ⟨by rw [HZ.out]; rfl, below_then (below_a1 _ _) hb⟩
      · have d2 : decide ((4 : Int) < (n : Int)) = false := by simp; omega
        have HZ : Hid (z = 0) := by rw [HV.out, if_neg (by omega)]; rfl
        clear HV
        go_enter Try.func5, Try.ntmps5
        go_wp2_with fail
        refine (HD.out _ (below_a1 _ _)).mono ?_
        rintro e w1 ⟨rfl, hb⟩
        go_wp2_with fail
        go_ret
        exact ⟨by rw [HZ.out]; rfl, below_then (below_a1 _ _) hb⟩
  · have HZ : Hid (z = 13) := by rw [HV.out]; rfl
    clear HV
    go_enter Try.func5, Try.ntmps5
    go_wp2_with fail
    refine (HD.out _ (below_a1 _ _)).mono ?_
    rintro e w1 ⟨rfl, hb⟩
    go_wp2_with fail
    go_ret
    exact ⟨by rw [HZ.out]; rfl, below_then (below_a1 _ _) hb⟩
theorem ref_cases (c : Pc.Cf) (code : ByteArray) (l : List Int) : refV c code l = 0 ∨ refV c code l = 1 ∨ refV c code l = 13 := by
  unfold refV
  split
  · split <;> simp
  · simp
/-- ProgRefuses. -/
theorem refuses_walk {w : World} {v : Value} {c : Pc.Cf} (h : Pc.CfV w v c) (code : ByteArray) {va : Value} {l : List Int} (ha : Nl w va l) : Calls Try.prog 3 #[v, .string code, va] w fun e w' => e = .returned (.bool true) ∧ Below w.heap.size w w' := by
  have HN : Hid (∀ w' : World, Below w.heap.size w w' → Calls Try.prog 4 #[v, .string code, va] w' fun e w'' => ∃ x, e = .returned (.tuple #[.pointer x, .int .i64 (refV c code l)]) ∧ (x = none ↔ refV c code l ≠ 0) ∧ Below w'.heap.size w' w'') := fun w' hb => new_w (h.later hb (Nat.le_refl _)) code (ha.later hb (Nat.le_refl _))
  have HD : Hid (∀ w' : World, Below w.heap.size w w' → Calls Try.prog 5 #[v, .string code, va] w' fun e w'' => e = .returned (.int .i64 (refV c code l)) ∧ Below w'.heap.size w' w'') := fun w' hb => refuses_any (h.later hb (Nat.le_refl _)) code (ha.later hb (Nat.le_refl _))
  have hz := ref_cases c code l
  obtain ⟨vr, rfl, hR⟩ := h
  obtain ⟨aa, cap, rfl, hl, _⟩ := ha
  generalize refV c code l = z at *
  clear hR hl
  generalize l.length = n at *
  obtain ⟨a, b, d, s, mu, t, R⟩ := c
  unfold Pc.cfA at *
  dsimp only at *
  rcases hz with rfl | rfl | rfl
  all_goals
    go_enter Try.func3, Try.ntmps3
    go_wp2_with fail
    refine (HN.out _ (below_a1 _ _)).mono ?_
    rintro e w1 ⟨x, rfl, hx, hb⟩
    obtain ⟨k0, k1, k2, k3, k4, k5, k6⟩ := cf7 (row_next hb)
    have HB : Hid (Below w.heap.size w w1) := below_next hb
    clear hb
    go_wp2_with fail
    refine (HD.out _ HB.out).mono ?_
    rintro e w2 ⟨rfl, hb2⟩
    have HB2 : Hid (Below w.heap.size w w2) := below_then HB.out hb2
    clear hb2 k0 k1 k2 k3 k4 k5 k6
    cases x with
    | none =>
      simp at hx
      all_goals
        go_wp2_with fail
        go_ret
        exact ⟨rfl, HB2.out⟩
    | some x =>
      simp at hx
      all_goals
        go_wp2_with fail
        go_ret
        exact ⟨rfl, HB2.out⟩
end Go.Proofs.Ytceogkgnapdeiaa.Pg
