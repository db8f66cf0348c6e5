/- The program's find. -/
import Derived.Test.YtfpnpkpjkcmoaaaTabA
import Derived.WalkMore
namespace Go.Proofs.Ytfpnpkpjkcmoaaa
open Go.ChangeShapes Go.WideShapes Go.ChangeAt Go.RowKit

/-- Where a way is left. -/
structure Left (s : Tb) (c : Int) (d : Nat) (y : Bool) : Prop where
  lt : d < 2 ^ s.k
  before : ∀ e, e < d → s.P ((fst s.k c + e) % 2 ^ s.k) ≠ 0 ∧ (s.R.getD (s.P ((fst s.k c + e) % 2 ^ s.k) - 1) noWr).c ≠ c
  here : (y = false ∧ s.P ((fst s.k c + d) % 2 ^ s.k) = 0) ∨ (y = true ∧ s.P ((fst s.k c + d) % 2 ^ s.k) ≠ 0 ∧ (s.R.getD (s.P ((fst s.k c + d) % 2 ^ s.k) - 1) noWr).c = c)

theorem mod_step' (q i N : Nat) : ((q + i) % N + 1) % N = (q + (i + 1)) % N := by
  rw [Nat.mod_add_mod, Nat.add_assoc]
theorem TabAt.drewN {w : World} {B : Nat} {s : Tb} (h : TabAt w B s) (n : Nat) : TabAt (w.drewN n) B s := h

set_option maxRecDepth 10000 in
theorem find_any {w : World} {B : Nat} {s : Tb} (h : TabAt w B s) (hi : Inv s) (c : Int) : Calls Try.prog 43 #[.pointer (some ⟨B, 0, none⟩), .int .i64 c] w fun e w' => ∃ d y, e = .returned (.tuple #[.int .i64 (((fst s.k c + d) % 2 ^ s.k : Nat) : Int), .bool y]) ∧ Left s c d y ∧ w' = w := by
  have HS : Hid (Calls Try.prog 52 #[.pointer (some ⟨B, 0, none⟩)] w fun e w' => e = .returned (.int .i64 ((2 ^ s.k : Nat) : Int)) ∧ w' = w) := size_any h hi.k6.2
  have HF : Hid (Calls Try.prog 51 #[.pointer (some ⟨B, 0, none⟩), .int .i64 c] w fun e w' => e = .returned (.int .i64 (fst s.k c : Int)) ∧ w' = w) := first_any h hi.k6.2 c
  have HI : Hid (Inv s) := hi
  have HT : Hid (TabAt w B s) := h
  have hf := hi.fst c
  have h64 := hi.n64
  have hp := pw_pos s.k
  clear h hi
  generalize hN : 2 ^ s.k = N at *
  generalize hff : fst s.k c = f at *
  go_enter Try.func43, Try.ntmps43
  go_wp2
  go_step3
  go_wp2_with fail
  refine HF.out.mono ?_
  rintro e w1 ⟨rfl, rfl⟩
  go_wp2
  go_step3
  go_wp2_with fail
  refine HS.out.mono ?_
  rintro e w' ⟨rfl, rfl⟩
  go_wp2
  go_loopw [6, 7, 14] (fun sv yv iv wr => ∃ i : Nat, i ≤ N ∧ yv = .bool false ∧ iv = .int .i64 i ∧ sv = .int .i64 (((f + i) % N : Nat) : Int) ∧ (∀ e, e < i → s.P ((f + e) % N) ≠ 0 ∧ (s.R.getD (s.P ((f + e) % N) - 1) noWr).c ≠ c) ∧ wr = w') (fun _ _ iv _ => N - (intOf iv).toNat)
  case atStart => exact ⟨0, Nat.zero_le _, rfl, rfl, by rw [Nat.add_zero, Nat.mod_eq_of_lt hf], fun e he => absurd he (by omega), rfl⟩
  case round =>
    obtain ⟨i, hi, rfl, rfl, rfl, hbef, rfl⟩ := hrel
    have HBEF : Hid (∀ e, e < i → s.P ((f + e) % N) ≠ 0 ∧ (s.R.getD (s.P ((f + e) % N) - 1) noWr).c ≠ c) := hbef
    clear hbef
    by_cases hlt : i < N
    · have hd : decide ((i : Int) < (N : Int)) = true := by simp; omega
      have HQ : Hid (∃ q, (f + i) % N = q ∧ q < N) := ⟨_, rfl, Nat.mod_lt _ hp⟩
      obtain ⟨q, hq, hqN⟩ := HQ.out
      have HQ' : Hid ((f + i) % N = q) := hq
      rw [hq]
      clear hq HQ
      have hcp := HT.out.p q (by omega)
      have hlo := HI.out.lo q (by rw [hN]; exact hqN)
      have hl := HI.out.len
      have hm := HI.out.m24
      by_cases h0 : s.P q = 0
      · have HE : Hid (Left s c i false) := ⟨by rw [hN]; exact hlt, by rw [hN, hff]; exact HBEF.out, Or.inl ⟨rfl, by rw [hN, hff, HQ'.out]; exact h0⟩⟩
        rw [h0] at hcp
        clear hlo hl hm
        go_wp2
        rw [Exit.noGoto_ret]
        go_ret2
        exact ⟨i, false, by rw [HQ'.out]; rfl, HE.out, rfl⟩
      · obtain ⟨j, hj⟩ : ∃ j, s.P q = j + 1 := ⟨s.P q - 1, by omega⟩
        have hcc := HT.out.c j (by omega)
        by_cases hz : (s.R.getD j noWr).c = c
        · have HE : Hid (Left s c i true) := ⟨by rw [hN]; exact hlt, by rw [hN, hff]; exact HBEF.out, Or.inr ⟨rfl, by rw [hN, hff, HQ'.out]; exact ⟨h0, by rw [hj]; exact hz⟩⟩⟩
          rw [hz] at hcc
          rw [hj] at hcp
          have e0 : (((j + 1 : Nat) : Int) == 0) = false := by simp; omega
          go_wp2
          rw [Exit.noGoto_ret]
          go_ret2
          exact ⟨i, true, by rw [HQ'.out]; rfl, HE.out, rfl⟩
        · have HE : Hid (∀ e, e < i + 1 → s.P ((f + e) % N) ≠ 0 ∧ (s.R.getD (s.P ((f + e) % N) - 1) noWr).c ≠ c) := fun e he => by
            by_cases e1 : e < i
            · exact HBEF.out e e1
            · obtain rfl : e = i := by omega
              rw [HQ'.out]
              exact ⟨h0, by rw [hj]; exact hz⟩
          rw [hj] at hcp
          have e0 : (((j + 1 : Nat) : Int) == 0) = false := by simp; omega
          have e1 : ((s.R.getD j noWr).c == c) = false := by simpa using hz
          generalize (s.R.getD j noWr).c = z at *
          go_wp2_with fail
          refine HS.out.mono ?_
          rintro e w' ⟨rfl, rfl⟩
          go_wp2
          go_roundw
          case rel => exact ⟨i + 1, by omega, rfl, by go_num, by rw [← mod_step', HQ'.out]; go_num, HE.out, by first | rfl | trivial⟩
          case measure => simp [intOf]; omega
    · exfalso
      obtain ⟨d, hd, h0, _⟩ := HI.out.free f (by rw [hN]; exact hf)
      rw [hN] at hd h0
      exact (HBEF.out d (by omega)).1 h0

theorem Left.found {s : Tb} {c : Int} {d : Nat} (hi : Inv s) (h : Left s c d true) : ∃ i, at? s.R c = some i ∧ i < s.R.length ∧ s.P ((fst s.k c + d) % 2 ^ s.k) = i + 1 := by
  rcases h.here with ⟨h1, _⟩ | ⟨_, h1, h2⟩
  · cases h1
  · have hlo := hi.lo _ (Nat.mod_lt (fst s.k c + d) (pw_pos s.k))
    generalize s.P ((fst s.k c + d) % 2 ^ s.k) = z at *
    refine ⟨z - 1, hi.at_eq (by omega) ?_, by omega, by omega⟩
    have h3 : z - 1 < s.R.length := by omega
    simpa [h3] using h2
theorem Left.lost {s : Tb} {c : Int} {d : Nat} (hi : Inv s) (h : Left s c d false) : at? s.R c = none ∧ gap s.P (2 ^ s.k) (2 ^ s.k) (fst s.k c) = (fst s.k c + d) % 2 ^ s.k := by
  rcases h.here with ⟨_, h1⟩ | ⟨h1, _⟩
  · exact ⟨hi.none h1 h.before, gap_eq _ _ (pw_pos _) _ _ _ (hi.fst c) (Nat.le_of_lt h.lt) h1 (fun e he => (h.before e he).1)⟩
  · cases h1
end Go.Proofs.Ytfpnpkpjkcmoaaa
