/- carouselgrow: Act, but for publishing. -/
import Derived.Test.YtfbbcjlbelnfaaaGroC
import Derived.Test.YtfbbcjlbelnfaaaGroD
import Derived.Deep.Cut
import Derived.Deep.CutRange
import Derived.Deep.DeepCutAuto
import Derived.Deep.CutBlock
namespace Go.Proofs.Ytfbbcjlbelnfaaa
open Go.ChangeShapes Go.WideShapes Go.ChangeAt Go.RowKit
attribute [local go_sem ↓] Go.wp_at_zero Go.wp_at_succ

def layS (c : Nat) (s : GR × List Ac) : GR × List Ac := (layG s.1, layL c s.1 s.2)
def backS (c : Nat) (s : GR × List Ac) : GR × List Ac := (backG s.1, backL c s.1 s.2)
def endS (c : Nat) (s : GR × List Ac) : GR × List Ac := (endG s.1, endL c s.1 s.2)
def backsS (c : Nat) (s : GR × List Ac) : Nat → GR × List Ac
  | 0 => s
  | n + 1 => backS c (backsS c s n)
def openS (c : Nat) (s : GR × List Ac) : GR × List Ac := if s.1.done = s.1.laid then layS c s else s
def allS (c : Nat) (s : GR × List Ac) : GR × List Ac := if (openS c s).1.done < (openS c s).1.laid then endS c (backsS c (openS c s) 4) else openS c s
/-- A ring beside a memory under way: at most so many accesses more than L had. -/
def GW (w : World) (base : Nat) (p : Value) (c : Nat) (Gk : Nat) (F P : List Nat) (s : GR × List Ac) (w' : World) : Prop :=
  ∃ F' P', GM w' base p c s.2 F' Gk s.1 P' ∧ Next (F ++ P) (F' ++ P') w w' ∧ base ≤ w'.heap.size
theorem storeL_len8 (c r : Nat) (L : List Ac) (t : Int) (a : Ad) (z : Int) : (storeL c r L t a z).length ≤ L.length + 1 := by
  unfold storeL
  split <;> simp
theorem layS_len (c : Nat) (s : GR × List Ac) : (layS c s).2.length ≤ s.2.length + 9 := by
  unfold layS layL
  simp only
  split
  · have h1 := storeL_len8 c s.1.size (sigL c s.1.size s.2 (((s.1.laid : Int) + 1) % (s.1.size : Int)) (nextE s.1).s 8) (-1) ⟨2, ((s.1.laid : Int) + 1) % (s.1.size : Int), 0⟩ (2 * ((s.1.laid : Int) + 1))
    have h2 := sigL_len c s.1.size s.2 (((s.1.laid : Int) + 1) % (s.1.size : Int)) (nextE s.1).s 8
    omega
  · omega
theorem backS_len (c : Nat) (s : GR × List Ac) : (backS c s).2.length ≤ s.2.length + 1 := by
  unfold backS backL
  simp only
  split
  · exact storeL_len8 _ _ _ _ _ _
  · omega
theorem endS_len (c : Nat) (s : GR × List Ac) : (endS c s).2.length ≤ s.2.length + 1 := by
  unfold endS endL
  simp only
  split
  · exact storeL_len8 _ _ _ _ _ _
  · omega
theorem backsS_len (c : Nat) (s : GR × List Ac) (n : Nat) : (backsS c s n).2.length ≤ s.2.length + n := by
  induction n with
  | zero => simp [backsS]
  | succ n ih => have := backS_len c (backsS c s n); simp only [backsS]; omega
theorem openS_len (c : Nat) (s : GR × List Ac) : (openS c s).2.length ≤ s.2.length + 9 := by
  unfold openS
  split
  · exact layS_len c s
  · omega
theorem allS_len (c : Nat) (s : GR × List Ac) : (allS c s).2.length ≤ s.2.length + 14 := by
  unfold allS
  have h1 := openS_len c s
  split
  · have h2 := endS_len c (backsS c (openS c s) 4)
    have h3 := backsS_len c (openS c s) 4
    omega
  · omega
theorem gok_lay {g : GR} (h : GOk g) : GOk (layG g) := by
  unfold layG layOk
  split
  · next e => simp at e; exact ⟨h.s1, h.s16, by have := h.da; simp only; omega, by simp only; omega, h.len⟩
  · exact h
theorem gok_back {g : GR} (h : GOk g) : GOk (backG g) := by
  unfold backG
  split
  · exact ⟨h.s1, h.s16, h.da, by simp only [bump_len]; exact h.an, by simp only [bump_len]; exact h.len⟩
  · exact h
theorem gok_end {g : GR} (h : GOk g) : GOk (endG g) := by
  unfold endG endOk
  split
  · next e => simp at e; exact ⟨h.s1, h.s16, by simp only; omega, h.an, h.len⟩
  · exact h
theorem gok_backs {c : Nat} {s : GR × List Ac} (h : GOk s.1) (n : Nat) : GOk (backsS c s n).1 := by
  induction n with
  | zero => exact h
  | succ n ih => exact gok_back ih
theorem gok_open {c : Nat} {s : GR × List Ac} (h : GOk s.1) : GOk (openS c s).1 := by
  unfold openS
  split
  · exact gok_lay h
  · exact h
theorem gok_all {c : Nat} {s : GR × List Ac} (h : GOk s.1) : GOk (allS c s).1 := by
  unfold allS
  split
  · exact gok_end (gok_backs (gok_open h) 4)
  · exact gok_open h
theorem gw_lay {w w1 : World} {base : Nat} {p : Value} {c Gk : Nat} {F P : List Nat} {s : GR × List Ac} (h : GW w base p c Gk F P s w1) (hL : s.2.length < 3298534883000) (hk : GOk s.1) :
    Calls Try.prog 42 #[.pointer (some ⟨Gk, 0, none⟩), p] w1 fun e w' => e = .returned (.tuple #[]) ∧ GW w base p c Gk F P (layS c s) w' := by
  obtain ⟨F', P', h1, h2, h3⟩ := h
  refine (glay_any h1 h3 hL hk).mono ?_
  rintro e w' ⟨rfl, F2, P2, h4, h5⟩
  exact ⟨rfl, F2, P2, h4, h2.trans h5, Nat.le_trans h3 h5.1.size⟩
theorem gw_back {w w1 : World} {base : Nat} {p : Value} {c Gk : Nat} {F P : List Nat} {s : GR × List Ac} (h : GW w base p c Gk F P s w1) (hL : s.2.length < 3298534883328) (hk : GOk s.1) :
    Calls Try.prog 43 #[.pointer (some ⟨Gk, 0, none⟩), p] w1 fun e w' => e = .returned (.tuple #[]) ∧ GW w base p c Gk F P (backS c s) w' := by
  obtain ⟨F', P', h1, h2, h3⟩ := h
  refine (gback_any h1 h3 hL hk).mono ?_
  rintro e w' ⟨rfl, F2, P2, h4, h5⟩
  exact ⟨rfl, F2, P2, h4, h2.trans h5, Nat.le_trans h3 h5.1.size⟩
theorem gw_end {w w1 : World} {base : Nat} {p : Value} {c Gk : Nat} {F P : List Nat} {s : GR × List Ac} (h : GW w base p c Gk F P s w1) (hL : s.2.length < 3298534883328) (hk : GOk s.1) :
    Calls Try.prog 44 #[.pointer (some ⟨Gk, 0, none⟩), p] w1 fun e w' => e = .returned (.tuple #[]) ∧ GW w base p c Gk F P (endS c s) w' := by
  obtain ⟨F', P', h1, h2, h3⟩ := h
  refine (gend_any h1 h3 hL hk).mono ?_
  rintro e w' ⟨rfl, F2, P2, h4, h5⟩
  exact ⟨rfl, F2, P2, h4, h2.trans h5, Nat.le_trans h3 h5.1.size⟩
theorem GW.later {w w1 w2 : World} {base : Nat} {p : Value} {c Gk : Nat} {F P : List Nat} {s : GR × List Ac} (h : GW w base p c Gk F P s w1) (hb : Below w1.heap.size w1 w2) : GW w base p c Gk F P s w2 := by
  obtain ⟨F', P', h1, h2, h3⟩ := h
  exact ⟨F', P', h1.below hb, h2.trans (Next.of_below hb _), Nat.le_trans h3 hb.size⟩
theorem GW.cells {w w1 : World} {base : Nat} {p : Value} {c Gk : Nat} {F P : List Nat} {s : GR × List Ac} (h : GW w base p c Gk F P s w1) : w1.cell? ⟨Gk, 2, none⟩ = some (.int .i64 (s.1.laid : Int)) ∧ w1.cell? ⟨Gk, 3, none⟩ = some (.int .i64 (s.1.done : Int)) := by
  obtain ⟨F', P', h1, _⟩ := h
  obtain ⟨v, us, hg⟩ := h1.gr
  exact ⟨hg.cells.1.2.2.1, hg.cells.1.2.2.2⟩

set_option maxRecDepth 10000 in
set_option maxHeartbeats 3200000 in
theorem act_some {w : World} {base : Nat} {M : Nat} {c : Nat} {L : List Ac} {F : List Nat} {Gk : Nat} {g : GR} {P : List Nat} (h : GM w base (.pointer (some ⟨M, 0, none⟩)) c L F Gk g P) (hb : base ≤ w.heap.size) (hL : L.length < 3298534882000) (hk : GOk g) (kind : Int) (va : Value) (hkd : kind % 5 ≠ 0) :
    Calls Try.prog 21 #[.pointer (some ⟨Gk, 0, none⟩), .pointer (some ⟨M, 0, none⟩), .int .i64 kind, va] w fun e w' => e = .returned (.tuple #[]) ∧ GW w base (.pointer (some ⟨M, 0, none⟩)) c Gk F P (if kind % 5 = 1 then layS c (g, L) else if kind % 5 = 2 then backS c (g, L) else if kind % 5 = 3 then endS c (g, L) else allS c (g, L)) w' := by
  have HZ : Hid (Calls Try.prog 39 #[.pointer (some ⟨M, 0, none⟩)] w fun e w' => e = .returned (.tuple #[.int .i64 (c : Int), .int .i64 (g.size : Int)]) ∧ Below w.heap.size w w') := sizes_any h.mem
  have HW : Hid (GW w base (.pointer (some ⟨M, 0, none⟩)) c Gk F P (g, L) w) := ⟨F, P, h, Next.refl _ _, hb⟩
  have HP : Hid (∀ w, Calls Try.prog 20 #[.int .i64 kind, .int .i64 5] w fun e w' => e = .returned (.int .i64 (kind % 5)) ∧ w' = w) := fun w => gpick_any kind 5 (by decide) (by decide) w
  have hm1 := Int.emod_nonneg kind (show (5 : Int) ≠ 0 by decide)
  have hm2 := Int.emod_lt_of_pos kind (show (0 : Int) < 5 by decide)
  generalize kind % 5 = k at *
  clear h
  rcases (show k = 1 ∨ k = 2 ∨ k = 3 ∨ k = 4 by omega) with rfl | rfl | rfl | rfl
  · rw [if_pos rfl]
    go_enter Try.func21, Try.ntmps21
    go_wp2_with fail
    refine HZ.out.mono ?_
    rintro e y1 ⟨rfl, hb1⟩
    have HL1 := gw_lay (HW.out.later hb1) (by simp only; omega) hk
    have HL : Hid (Calls Try.prog 42 #[.pointer (some ⟨Gk, 0, none⟩), .pointer (some ⟨M, 0, none⟩)] y1 fun e w' => e = .returned (.tuple #[]) ∧ GW w base (.pointer (some ⟨M, 0, none⟩)) c Gk F P (layS c (g, L)) w') := HL1
    clear hb1 HL1
    go_wp2_with fail
    refine (HP.out _).mono ?_
    rintro e y2 ⟨rfl, rfl⟩
    go_wp2_with fail
    refine HL.out.mono ?_
    rintro e y3 ⟨rfl, h3⟩
    have H3 : Hid (GW w base (.pointer (some ⟨M, 0, none⟩)) c Gk F P (layS c (g, L)) y3) := h3
    clear h3
    go_wp2
    refine bodyPost_end (results_none rfl _ _ _) rfl ?_
    exact ⟨rfl, H3.out⟩
  · rw [if_neg (by decide), if_pos rfl]
    go_enter Try.func21, Try.ntmps21
    go_wp2_with fail
    refine HZ.out.mono ?_
    rintro e y1 ⟨rfl, hb1⟩
    have HL1 := gw_back (HW.out.later hb1) (by simp only; omega) hk
    have HL : Hid (Calls Try.prog 43 #[.pointer (some ⟨Gk, 0, none⟩), .pointer (some ⟨M, 0, none⟩)] y1 fun e w' => e = .returned (.tuple #[]) ∧ GW w base (.pointer (some ⟨M, 0, none⟩)) c Gk F P (backS c (g, L)) w') := HL1
    clear hb1 HL1
    go_wp2_with fail
    refine (HP.out _).mono ?_
    rintro e y2 ⟨rfl, rfl⟩
    go_wp2_with fail
    refine HL.out.mono ?_
    rintro e y3 ⟨rfl, h3⟩
    have H3 : Hid (GW w base (.pointer (some ⟨M, 0, none⟩)) c Gk F P (backS c (g, L)) y3) := h3
    clear h3
    go_wp2
    refine bodyPost_end (results_none rfl _ _ _) rfl ?_
    exact ⟨rfl, H3.out⟩
  · rw [if_neg (by decide), if_neg (by decide), if_pos rfl]
    go_enter Try.func21, Try.ntmps21
    go_wp2_with fail
    refine HZ.out.mono ?_
    rintro e y1 ⟨rfl, hb1⟩
    have HL1 := gw_end (HW.out.later hb1) (by simp only; omega) hk
    have HL : Hid (Calls Try.prog 44 #[.pointer (some ⟨Gk, 0, none⟩), .pointer (some ⟨M, 0, none⟩)] y1 fun e w' => e = .returned (.tuple #[]) ∧ GW w base (.pointer (some ⟨M, 0, none⟩)) c Gk F P (endS c (g, L)) w') := HL1
    clear hb1 HL1
    go_wp2_with fail
    refine (HP.out _).mono ?_
    rintro e y2 ⟨rfl, rfl⟩
    go_wp2_with fail
    refine HL.out.mono ?_
    rintro e y3 ⟨rfl, h3⟩
    have H3 : Hid (GW w base (.pointer (some ⟨M, 0, none⟩)) c Gk F P (endS c (g, L)) y3) := h3
    clear h3
    go_wp2
    refine bodyPost_end (results_none rfl _ _ _) rfl ?_
    exact ⟨rfl, H3.out⟩
  · rw [if_neg (by decide), if_neg (by decide), if_neg (by decide)]
    have HO : Hid (∀ y1, GW w base (.pointer (some ⟨M, 0, none⟩)) c Gk F P (g, L) y1 → g.done = g.laid → Calls Try.prog 42 #[.pointer (some ⟨Gk, 0, none⟩), (.pointer (some ⟨M, 0, none⟩))] y1 fun e w' => e = .returned (.tuple #[]) ∧ GW w base (.pointer (some ⟨M, 0, none⟩)) c Gk F P (openS c (g, L)) w') := fun y1 h1 hdl => by
      have := gw_lay h1 (by simp only; omega) hk
      unfold openS
      rw [if_pos hdl]
      exact this
    have HO2 : Hid (g.done ≠ g.laid → openS c (g, L) = (g, L)) := fun h => by unfold openS; rw [if_neg h]
    have hOL : (openS c (g, L)).2.length < 3298534882009 := by have := openS_len c (g, L); simp only at this; omega
    have HOK : Hid (GOk (openS c (g, L)).1) := gok_open hk
    have HAL : Hid (allS c (g, L) = if (openS c (g, L)).1.done < (openS c (g, L)).1.laid then endS c (backsS c (openS c (g, L)) 4) else openS c (g, L)) := rfl
    rw [HAL.out]
    generalize hso : openS c (g, L) = so at *
    have HBK : Hid (∀ y1 n, n < 4 → GW w base (.pointer (some ⟨M, 0, none⟩)) c Gk F P (backsS c so n) y1 → Calls Try.prog 43 #[.pointer (some ⟨Gk, 0, none⟩), (.pointer (some ⟨M, 0, none⟩))] y1 fun e w' => e = .returned (.tuple #[]) ∧ GW w base (.pointer (some ⟨M, 0, none⟩)) c Gk F P (backsS c so (n + 1)) w') := fun y1 n hn h1 => gw_back h1 (by have := backsS_len c so n; omega) (gok_backs HOK.out n)
    have HEN : Hid (∀ y1, GW w base (.pointer (some ⟨M, 0, none⟩)) c Gk F P (backsS c so 4) y1 → Calls Try.prog 44 #[.pointer (some ⟨Gk, 0, none⟩), (.pointer (some ⟨M, 0, none⟩))] y1 fun e w' => e = .returned (.tuple #[]) ∧ GW w base (.pointer (some ⟨M, 0, none⟩)) c Gk F P (endS c (backsS c so 4)) w') := fun y1 h1 => gw_end h1 (by have := backsS_len c so 4; omega) (gok_backs HOK.out 4)
    have HB0 : Hid (∀ y1, GW w base (.pointer (some ⟨M, 0, none⟩)) c Gk F P so y1 → GW w base (.pointer (some ⟨M, 0, none⟩)) c Gk F P (backsS c so 0) y1) := fun _ h => h
    by_cases hdl : g.done = g.laid
    · have dl : ((g.done : Int) == (g.laid : Int)) = true := by simp; omega
      by_cases hlt : so.1.done < so.1.laid
      · have d2 : decide ((so.1.done : Int) < (so.1.laid : Int)) = true := by simp; omega
        rw [if_pos hlt]
        go_enter Try.func21, Try.ntmps21
        go_wp2_with fail
        refine HZ.out.mono ?_
        rintro e y1 ⟨rfl, hb1⟩
        have HW1 : Hid (GW w base (.pointer (some ⟨M, 0, none⟩)) c Gk F P (g, L) y1) := HW.out.later hb1
        obtain ⟨k2, k3⟩ := HW1.out.cells
        simp only at k2 k3
        clear hb1
        go_wp2_with fail
        refine (HP.out _).mono ?_
        rintro e y2 ⟨rfl, rfl⟩
        go_wp2_with fail
        go_quiet (fail)
        have HW3 : Hid (GW w base (.pointer (some ⟨M, 0, none⟩)) c Gk F P (g, L) (y2.drewN nq)) := HW1.out.later (below_drawn (Below.refl _ _) _)
        clear k2 k3
        go_wp2_with fail
        refine (HO.out _ HW3.out hdl).mono ?_
        rintro e y4 ⟨rfl, h4⟩
        have HS : Hid (GW w base (.pointer (some ⟨M, 0, none⟩)) c Gk F P so y4) := h4
        clear h4
        obtain ⟨m2, m3⟩ := HS.out.cells
        go_wp2_with fail
        go_quiet (fail)
        go_wp2
        go_loopw [12] (fun iv wr => ∃ j : Nat, j ≤ 4 ∧ iv = .int .i64 j ∧ GW w base (.pointer (some ⟨M, 0, none⟩)) c Gk F P (backsS c so j) wr) (fun iv _ => 4 - (intOf iv).toNat)
        case atStart => exact ⟨0, by omega, rfl, HB0.out _ (HS.out.later (below_drawn (Below.refl _ _) _))⟩
        case round =>
          obtain ⟨j, hj, rfl, hw⟩ := hrel
          by_cases hj4 : j < 4
          · have d3 : decide ((j : Int) < 4) = true := by simp; omega
            have HC : Hid (Calls Try.prog 43 #[.pointer (some ⟨Gk, 0, none⟩), (.pointer (some ⟨M, 0, none⟩))] wr fun e w' => e = .returned (.tuple #[]) ∧ GW w base (.pointer (some ⟨M, 0, none⟩)) c Gk F P (backsS c so (j + 1)) w') := HBK.out wr j hj4 hw
            clear hw
            go_wp2_with fail
            refine HC.out.mono ?_
            rintro e y5 ⟨rfl, h5⟩
            have H5 : Hid (GW w base (.pointer (some ⟨M, 0, none⟩)) c Gk F P (backsS c so (j + 1)) y5) := h5
            clear h5
            go_wp2
            go_roundw
            case rel => exact ⟨j + 1, by omega, by go_num, H5.out⟩
            case measure => simp [intOf]; omega
          · obtain rfl : j = 4 := by omega
            have d3 : decide (((4 : Nat) : Int) < 4) = false := by simp
            have HC : Hid (Calls Try.prog 44 #[.pointer (some ⟨Gk, 0, none⟩), (.pointer (some ⟨M, 0, none⟩))] wr fun e w' => e = .returned (.tuple #[]) ∧ GW w base (.pointer (some ⟨M, 0, none⟩)) c Gk F P (endS c (backsS c so 4)) w') := HEN.out wr hw
            clear hw
            go_wp2_with fail
            refine HC.out.mono ?_
            rintro e y5 ⟨rfl, h5⟩
            have H5 : Hid (GW w base (.pointer (some ⟨M, 0, none⟩)) c Gk F P (endS c (backsS c so 4)) y5) := h5
            clear h5
            go_wp2
            refine bodyPost_end (results_none rfl _ _ _) rfl ?_
            exact ⟨rfl, H5.out⟩
      · have d2 : decide ((so.1.done : Int) < (so.1.laid : Int)) = false := by simp; omega
        rw [if_neg hlt]
        go_enter Try.func21, Try.ntmps21
        go_wp2_with fail
        refine HZ.out.mono ?_
        rintro e y1 ⟨rfl, hb1⟩
        have HW1 : Hid (GW w base (.pointer (some ⟨M, 0, none⟩)) c Gk F P (g, L) y1) := HW.out.later hb1
        obtain ⟨k2, k3⟩ := HW1.out.cells
        simp only at k2 k3
        clear hb1
        go_wp2_with fail
        refine (HP.out _).mono ?_
        rintro e y2 ⟨rfl, rfl⟩
        go_wp2_with fail
        go_quiet (fail)
        have HW3 : Hid (GW w base (.pointer (some ⟨M, 0, none⟩)) c Gk F P (g, L) (y2.drewN nq)) := HW1.out.later (below_drawn (Below.refl _ _) _)
        clear k2 k3
        go_wp2_with fail
        refine (HO.out _ HW3.out hdl).mono ?_
        rintro e y4 ⟨rfl, h4⟩
        have HS : Hid (GW w base (.pointer (some ⟨M, 0, none⟩)) c Gk F P so y4) := h4
        clear h4
        obtain ⟨m2, m3⟩ := HS.out.cells
        go_wp2_with fail
        go_quiet (fail)
        go_wp2
        refine bodyPost_end (results_none rfl _ _ _) rfl ?_
        exact ⟨rfl, HS.out.later (below_drawn (Below.refl _ _) _)⟩
    · have dl : ((g.done : Int) == (g.laid : Int)) = false := by simp; omega
      by_cases hlt : so.1.done < so.1.laid
      · have d2 : decide ((so.1.done : Int) < (so.1.laid : Int)) = true := by simp; omega
        rw [if_pos hlt]
        go_enter Try.func21, Try.ntmps21
        go_wp2_with fail
        refine HZ.out.mono ?_
        rintro e y1 ⟨rfl, hb1⟩
        have HW1 : Hid (GW w base (.pointer (some ⟨M, 0, none⟩)) c Gk F P (g, L) y1) := HW.out.later hb1
        obtain ⟨k2, k3⟩ := HW1.out.cells
        simp only at k2 k3
        clear hb1
        go_wp2_with fail
        refine (HP.out _).mono ?_
        rintro e y2 ⟨rfl, rfl⟩
        go_wp2_with fail
        go_quiet (fail)
        have HS : Hid (GW w base (.pointer (some ⟨M, 0, none⟩)) c Gk F P so (y2.drewN nq)) := by rw [HO2.out hdl]; exact HW1.out.later (below_drawn (Below.refl _ _) _)
        clear k2 k3
        generalize y2.drewN nq = y4 at *
        obtain ⟨m2, m3⟩ := HS.out.cells
        go_wp2_with fail
        go_quiet (fail)
        go_wp2
        go_loopw [12] (fun iv wr => ∃ j : Nat, j ≤ 4 ∧ iv = .int .i64 j ∧ GW w base (.pointer (some ⟨M, 0, none⟩)) c Gk F P (backsS c so j) wr) (fun iv _ => 4 - (intOf iv).toNat)
        case atStart => exact ⟨0, by omega, rfl, HB0.out _ (HS.out.later (below_drawn (Below.refl _ _) _))⟩
        case round =>
          obtain ⟨j, hj, rfl, hw⟩ := hrel
          by_cases hj4 : j < 4
          · have d3 : decide ((j : Int) < 4) = true := by simp; omega
            have HC : Hid (Calls Try.prog 43 #[.pointer (some ⟨Gk, 0, none⟩), (.pointer (some ⟨M, 0, none⟩))] wr fun e w' => e = .returned (.tuple #[]) ∧ GW w base (.pointer (some ⟨M, 0, none⟩)) c Gk F P (backsS c so (j + 1)) w') := HBK.out wr j hj4 hw
            clear hw
            go_wp2_with fail
            refine HC.out.mono ?_
            rintro e y5 ⟨rfl, h5⟩
            have H5 : Hid (GW w base (.pointer (some ⟨M, 0, none⟩)) c Gk F P (backsS c so (j + 1)) y5) := h5
            clear h5
            go_wp2
            go_roundw
            case rel => exact ⟨j + 1, by omega, by go_num, H5.out⟩
            case measure => simp [intOf]; omega
          · obtain rfl : j = 4 := by omega
            have d3 : decide (((4 : Nat) : Int) < 4) = false := by simp
            have HC : Hid (Calls Try.prog 44 #[.pointer (some ⟨Gk, 0, none⟩), (.pointer (some ⟨M, 0, none⟩))] wr fun e w' => e = .returned (.tuple #[]) ∧ GW w base (.pointer (some ⟨M, 0, none⟩)) c Gk F P (endS c (backsS c so 4)) w') := HEN.out wr hw
            clear hw
            go_wp2_with fail
            refine HC.out.mono ?_
            rintro e y5 ⟨rfl, h5⟩
            have H5 : Hid (GW w base (.pointer (some ⟨M, 0, none⟩)) c Gk F P (endS c (backsS c so 4)) y5) := h5
            clear h5
            go_wp2
            refine bodyPost_end (results_none rfl _ _ _) rfl ?_
            exact ⟨rfl, H5.out⟩
      · have d2 : decide ((so.1.done : Int) < (so.1.laid : Int)) = false := by simp; omega
        rw [if_neg hlt]
        go_enter Try.func21, Try.ntmps21
        go_wp2_with fail
        refine HZ.out.mono ?_
        rintro e y1 ⟨rfl, hb1⟩
        have HW1 : Hid (GW w base (.pointer (some ⟨M, 0, none⟩)) c Gk F P (g, L) y1) := HW.out.later hb1
        obtain ⟨k2, k3⟩ := HW1.out.cells
        simp only at k2 k3
        clear hb1
        go_wp2_with fail
        refine (HP.out _).mono ?_
        rintro e y2 ⟨rfl, rfl⟩
        go_wp2_with fail
        go_quiet (fail)
        have HS : Hid (GW w base (.pointer (some ⟨M, 0, none⟩)) c Gk F P so (y2.drewN nq)) := by rw [HO2.out hdl]; exact HW1.out.later (below_drawn (Below.refl _ _) _)
        clear k2 k3
        generalize y2.drewN nq = y4 at *
        obtain ⟨m2, m3⟩ := HS.out.cells
        go_wp2_with fail
        go_quiet (fail)
        go_wp2
        refine bodyPost_end (results_none rfl _ _ _) rfl ?_
        exact ⟨rfl, HS.out.later (below_drawn (Below.refl _ _) _)⟩
end Go.Proofs.Ytfbbcjlbelnfaaa
