/- The document's target. -/
import Derived.Test.YtimffcliomeaaaaDoorAsC
namespace Go.Proofs.YtimffcliomeaaaaDoor
open Go.ChangeShapes Go.WideShapes Go.ChangeAt Go.RowKit

def plcC (l : List (Int × Int)) (n : Nat) : List Value := (List.range n).map fun i => .int .i64 (pos l i : Int)
theorem plcC_len (l : List (Int × Int)) (n : Nat) : (plcC l n).length = n := by simp [plcC]
theorem plcC_get (l : List (Int × Int)) (n i : Nat) (h : i < n) : (plcC l n)[i]? = some (.int .i64 (pos l i : Int)) := by simp [plcC, h]
theorem plcC_succ (l : List (Int × Int)) (n : Nat) : plcC l (n + 1) = plcC l n ++ [.int .i64 (pos l n : Int)] := by simp [plcC, List.range_succ]
def ledZ (l : List (Int × Int)) (i : Nat) : Int := match led l i with | some k => (k : Int) | none => -1
theorem leads_any (c : Nat) (w : World) : Calls Tryd.prog 45 #[.int .i64 (c : Int)] w fun e w' => e = .returned (.bool (decide (c = 24 ∨ c = 25 ∨ c = 26))) ∧ w' = w := by
  by_cases h1 : c = 24
  · subst h1
    go_enter Tryd.func45, Tryd.ntmps45
    go_wp2
    go_ret
    exact ⟨rfl, rfl⟩
  · by_cases h2 : c = 25
    · subst h2
      go_enter Tryd.func45, Tryd.ntmps45
      go_wp2
      go_ret
      exact ⟨rfl, rfl⟩
    · by_cases h3 : c = 26
      · subst h3
        go_enter Tryd.func45, Tryd.ntmps45
        go_wp2
        go_ret
        exact ⟨rfl, rfl⟩
      · have e : decide (c = 24 ∨ c = 25 ∨ c = 26) = false := by simp; omega
        rw [e]
        have d1 : ((c : Int) == 24) = false := by simp; omega
        have d2 : ((c : Int) == 25) = false := by simp; omega
        have d3 : ((c : Int) == 26) = false := by simp; omega
        have f1 : ¬ (c : Int) = 24 := by omega
        have f2 : ¬ (c : Int) = 25 := by omega
        have f3 : ¬ (c : Int) = 26 := by omega
        generalize (c : Int) = ci at *
        go_enter Tryd.func45, Tryd.ntmps45
        go_wp2
        go_ret
        exact ⟨rfl, rfl⟩
/-- What the places say of a target. -/
theorem ledZ_end {s : ByteArray} {l : List (Int × Int)} (h : Prg s l) {i : Nat} {z : Int} (ht : tg l i = some z) (hz : z = (s.size : Int)) : ledZ l i = (s.size : Int) := by
  have hp : isPos l z = true := (isPos_iff l z).2 ⟨l.length, Nat.le_refl _, by rw [h.size]; exact hz.symm⟩
  unfold ledZ
  rw [led_of ht hp, hz, Int.toNat_natCast]
theorem ledZ_at {s : ByteArray} {l : List (Int × Int)} (_h : Prg s l) {i j : Nat} {z : Int} (ht : tg l i = some z) (hj : j ≤ l.length) (hz : (pos l j : Int) = z) : ledZ l i = (pos l j : Int) := by
  have hp : isPos l z = true := (isPos_iff l z).2 ⟨j, hj, hz⟩
  unfold ledZ
  rw [led_of ht hp, ← hz, Int.toNat_natCast]
theorem ledZ_no {s : ByteArray} {l : List (Int × Int)} (h : Prg s l) {i : Nat} {z : Int} (ht : tg l i = some z) (h1 : z ≠ (s.size : Int)) (h2 : ∀ k, k < l.length → (pos l k : Int) ≠ z) : ledZ l i = -1 := by
  have hp : isPos l z = false := by
    cases e : isPos l z with
    | false => rfl
    | true =>
      obtain ⟨k, hk, hkz⟩ := (isPos_iff l z).1 e
      rcases Nat.lt_or_eq_of_le hk with h3 | h3
      · exact absurd hkz (h2 k h3)
      · rw [h3, h.size] at hkz; exact absurd hkz.symm h1
  unfold ledZ
  rw [led_no ht hp]
theorem own_at {w : World} {base : Nat} {e : TypeId} {sz n : Nat} {v : Value} {xs : List Value} (h : w.ownsRow base e sz v n xs) (hn : 0 < n) : ∃ g cap, v = .slice (some ⟨g, 0, none⟩) n cap := by
  obtain ⟨_, h⟩ := h
  rcases h with ⟨_, rfl⟩ | ⟨g, cap, cur, rfl, _⟩
  · omega
  · exact ⟨g, cap, rfl⟩
theorem meas_i {n j : Nat} (h : j < n) : n - (intOf (Value.int IntKind.i64 ((j : Int) + 1))).toNat < n - (intOf (Value.int IntKind.i64 (j : Int))).toNat := by
  show n - ((j : Int) + 1).toNat < n - (j : Int).toNat
  omega
theorem rtarget_loop {s : ByteArray} {l : List (Int × Int)} (h : Prg s l) {i : Nat} (c x : Int) (p : Nat) {z : Int} (ht : tg l i = some z) {w : World} {base : Nat} {v : Value} (hv : w.ownsRow base 3 1 v l.length (plcC l l.length))
    (HL : Hid (∀ w, Calls Tryd.prog 45 #[.int .i64 c] w fun e w' => e = .returned (.bool true) ∧ w' = w))
    (hcz : (c = 26) ∧ z = x ∨ (¬ c = 26) ∧ wrap64 (x + (p : Int)) = x + (p : Int) ∧ wrap64 (x + (p : Int) + 3) = z) (_hz1 : -100000 ≤ z) (_hz2 : z ≤ 100000) :
    Calls Tryd.prog 28 #[.agg #[.int .i64 c, .int .i64 x], .int .i64 (p : Int), v, .int .i64 (s.size : Int)] w fun e w' => e = .returned (.int .i64 (ledZ l i)) ∧ Below w.heap.size w w' := by
  have HV : Hid (w.ownsRow base 3 1 v l.length (plcC l l.length)) := hv
  have HP : Hid (Prg s l) := h
  have HTG : Hid (tg l i = some z) := ht
  obtain ⟨va, vc, rfl⟩ := own_slice hv
  have hs5 := h.small
  have hl5 := h.len
  clear hv h ht
  by_cases hze : z = (s.size : Int)
  · have HZ : Hid (ledZ l i = (s.size : Int)) := ledZ_end HP.out HTG.out hze
    have hzb : (z == (s.size : Int)) = true := by simp [hze]
    rw [HZ.out]
    go_enter Tryd.func28, Tryd.ntmps28
    go_wp2_with fail
    refine (HL.out _).mono ?_
    rintro e w1 ⟨rfl, rfl⟩
    rcases hcz with ⟨hc, hzx⟩ | ⟨hc, hw1, hw2⟩
    · subst hc
      subst hzx
      go_wp2
      go_ret
      exact ⟨rfl, below_a1 _ _⟩
    · have hcb : (c == 26) = false := by simp [hc]
      go_wp2
      go_ret
      exact ⟨rfl, below_a1 _ _⟩
  · have hzb : (z == (s.size : Int)) = false := by simp [hze]
    go_enter Tryd.func28, Tryd.ntmps28
    go_wp2_with fail
    refine (HL.out _).mono ?_
    rintro e w1 ⟨rfl, rfl⟩
    rcases hcz with ⟨hc, hzx⟩ | ⟨hc, hw1, hw2⟩
    · subst hc
      subst hzx
      go_wp2
      go_loopw [11] (fun u wr => ∃ j : Nat, j ≤ l.length ∧ u = .int .i64 (j : Int) ∧ (∀ k, k < j → (pos l k : Int) ≠ z) ∧ Below w.heap.size w wr) (fun u _ => l.length - (intOf u).toNat)
      case atStart => exact ⟨0, by omega, rfl, fun k hk => by omega, below_a1 _ _⟩
      case round =>
        obtain ⟨j, hj, rfl, hno, hb⟩ := hrel
        have HN : Hid (∀ k, k < j → (pos l k : Int) ≠ z) := hno
        have HB : Hid (Below w.heap.size w wr) := hb
        clear hno hb
        by_cases hlt : j < l.length
        · have hd : decide ((j : Int) < (l.length : Int)) = true := by simp; omega
          obtain ⟨g, cap, hg⟩ := own_at HV.out (by omega)
          have hcell : wr.cell? ⟨g, j, none⟩ = some (.int .i64 (pos l j : Int)) := own_cells (own_keep (by rw [← hg]; exact HV.out) (Keep.of_below HB.out []) (by simp)) j _ (plcC_get l _ j hlt)
          have hpb := (HP.out.pos_le j (by omega)).1
          obtain ⟨rfl, rfl⟩ : va = some ⟨g, 0, none⟩ ∧ vc = cap := by simpa using hg
          have HJ : Hid (j < l.length) := hlt
          by_cases he : (pos l j : Int) = z
          · have HZ := ledZ_at HP.out HTG.out (by omega) he
            have HZ' : Hid (ledZ l i = (pos l j : Int)) := HZ
            have heb : ((pos l j : Int) == z) = true := by simp [he]
            have HE : Hid ((pos l j : Int) = z) := he
            clear HZ hg
            generalize (pos l j : Int) = pj at *
            go_wp2
            go_ret
            rw [HZ'.out, HE.out]
            exact ⟨rfl, HB.out⟩
          · have heb : ((pos l j : Int) == z) = false := by simp [he]
            have HE : Hid ((pos l j : Int) ≠ z) := he
            have HE2 : Hid (∀ k, k < j + 1 → (pos l k : Int) ≠ z) := fun k hk => by
              rcases Nat.lt_or_eq_of_le (Nat.lt_succ_iff.1 hk) with h3 | h3
              · exact HN.out k h3
              · rw [h3]; exact HE.out
            have hwj : wrap64 ((j : Int) + 1) = (j : Int) + 1 := by unfold wrap64; omega
            clear hg
            generalize (pos l j : Int) = pj at *
            go_wp2
            go_roundw
            case rel => exact ⟨j + 1, HJ.out, by go_num, HE2.out, HB.out⟩
            case measure => exact meas_i HJ.out
        · obtain rfl : j = l.length := by omega
          have hd : decide ((l.length : Int) < (l.length : Int)) = false := by simp
          have HZ : Hid (ledZ l i = -1) := ledZ_no HP.out HTG.out hze HN.out
          go_wp2
          go_ret
          rw [HZ.out]
          exact ⟨rfl, HB.out⟩
    · have hcb : (c == 26) = false := by simp [hc]
      go_wp2
      go_loopw [11] (fun u wr => ∃ j : Nat, j ≤ l.length ∧ u = .int .i64 (j : Int) ∧ (∀ k, k < j → (pos l k : Int) ≠ z) ∧ Below w.heap.size w wr) (fun u _ => l.length - (intOf u).toNat)
      case atStart => exact ⟨0, by omega, rfl, fun k hk => by omega, below_a1 _ _⟩
      case round =>
        obtain ⟨j, hj, rfl, hno, hb⟩ := hrel
        have HN : Hid (∀ k, k < j → (pos l k : Int) ≠ z) := hno
        have HB : Hid (Below w.heap.size w wr) := hb
        clear hno hb
        by_cases hlt : j < l.length
        · have hd : decide ((j : Int) < (l.length : Int)) = true := by simp; omega
          obtain ⟨g, cap, hg⟩ := own_at HV.out (by omega)
          have hcell : wr.cell? ⟨g, j, none⟩ = some (.int .i64 (pos l j : Int)) := own_cells (own_keep (by rw [← hg]; exact HV.out) (Keep.of_below HB.out []) (by simp)) j _ (plcC_get l _ j hlt)
          have hpb := (HP.out.pos_le j (by omega)).1
          obtain ⟨rfl, rfl⟩ : va = some ⟨g, 0, none⟩ ∧ vc = cap := by simpa using hg
          have HJ : Hid (j < l.length) := hlt
          by_cases he : (pos l j : Int) = z
          · have HZ := ledZ_at HP.out HTG.out (by omega) he
            have HZ' : Hid (ledZ l i = (pos l j : Int)) := HZ
            have heb : ((pos l j : Int) == z) = true := by simp [he]
            have HE : Hid ((pos l j : Int) = z) := he
            clear HZ hg
            generalize (pos l j : Int) = pj at *
            go_wp2
            go_ret
            rw [HZ'.out, HE.out]
            exact ⟨rfl, HB.out⟩
          · have heb : ((pos l j : Int) == z) = false := by simp [he]
            have HE : Hid ((pos l j : Int) ≠ z) := he
            have HE2 : Hid (∀ k, k < j + 1 → (pos l k : Int) ≠ z) := fun k hk => by
              rcases Nat.lt_or_eq_of_le (Nat.lt_succ_iff.1 hk) with h3 | h3
              · exact HN.out k h3
              · rw [h3]; exact HE.out
            have hwj : wrap64 ((j : Int) + 1) = (j : Int) + 1 := by unfold wrap64; omega
            clear hg
            generalize (pos l j : Int) = pj at *
            go_wp2
            go_roundw
            case rel => exact ⟨j + 1, HJ.out, by go_num, HE2.out, HB.out⟩
            case measure => exact meas_i HJ.out
        · obtain rfl : j = l.length := by omega
          have hd : decide ((l.length : Int) < (l.length : Int)) = false := by simp
          have HZ : Hid (ledZ l i = -1) := ledZ_no HP.out HTG.out hze HN.out
          go_wp2
          go_ret
          rw [HZ.out]
          exact ⟨rfl, HB.out⟩
/-- The document's target of the i-th instruction. -/
theorem rtarget_any {s : ByteArray} {l : List (Int × Int)} (h : Prg s l) (i : Nat) (hi : i < l.length) {w : World} {base : Nat} {v : Value} (hv : w.ownsRow base 3 1 v l.length (plcC l l.length)) :
    Calls Tryd.prog 28 #[.agg #[.int .i64 (cd l i : Int), .int .i64 (opd l i)], .int .i64 (pos l i : Int), v, .int .i64 (s.size : Int)] w fun e w' => e = .returned (.int .i64 (ledZ l i)) ∧ Below w.heap.size w w' := by
  obtain ⟨q1, q2, q3, q4⟩ := h.cd_ok i hi
  have hp := (h.pos_le i (by omega)).1
  have hs5 := h.small
  cases ht : tg l i with
  | none =>
    have hl : decide (cd l i = 24 ∨ cd l i = 25 ∨ cd l i = 26) = false := by
      unfold tg tgt at ht
      simp
      refine ⟨fun e => by simp [e] at ht, fun e => by simp [e] at ht, fun e => by simp [e] at ht⟩
    have HL : Hid (∀ w, Calls Tryd.prog 45 #[.int .i64 (cd l i : Int)] w fun e w' => e = .returned (.bool false) ∧ w' = w) := fun w => by
      have := leads_any (cd l i) w
      rw [hl] at this
      exact this
    have HZ : Hid (ledZ l i = -1) := by
      show _ = _
      unfold ledZ
      rw [led_none ht]
    rw [HZ.out]
    generalize (cd l i : Int) = c at *
    generalize opd l i = x at *
    clear ht hl hv
    go_enter Tryd.func28, Tryd.ntmps28
    go_wp2_with fail
    refine (HL.out _).mono ?_
    rintro e w1 ⟨rfl, rfl⟩
    go_wp2
    go_ret
    exact ⟨rfl, below_a1 _ _⟩
  | some z =>
    obtain ⟨hw, hc⟩ := led_wd (l := l) (i := i) (by rw [ht]; simp)
    have hps := pos_succ l i hi
    refine rtarget_loop h (cd l i) (opd l i) (pos l i) ht hv ?_ ?_ ?_ ?_
    · intro w
      have := leads_any (cd l i) w
      rw [show decide (cd l i = 24 ∨ cd l i = 25 ∨ cd l i = 26) = true by simp [hc]] at this
      exact this
    all_goals
      rw [hw] at hps
      unfold tg tgt at ht
      rw [hps] at ht
      rcases hc with hc | hc | hc <;> rw [hc] at ht q3 q4 <;> (try rw [hc]) <;> simp [loC, hiC] at ht q3 q4
    · right; refine ⟨by decide, ?_, ?_⟩ <;> unfold wrap64 <;> omega
    · right; refine ⟨by decide, ?_, ?_⟩ <;> unfold wrap64 <;> omega
    · left; exact ⟨rfl, ht.symm⟩
    all_goals omega
end Go.Proofs.YtimffcliomeaaaaDoor
