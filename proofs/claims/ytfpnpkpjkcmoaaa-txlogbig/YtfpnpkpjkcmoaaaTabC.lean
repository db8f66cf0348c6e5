/- The program's Put and Get. -/
import Derived.Test.YtfpnpkpjkcmoaaaTabB
namespace Go.Proofs.Ytfpnpkpjkcmoaaa
open Go.ChangeShapes Go.WideShapes Go.ChangeAt Go.RowKit

/-- What Get tells. -/
def getV (s : Tb) (c : Int) : Int := match at? s.R c with | some i => (s.R.getD i noWr).v | none => 0
def getY (s : Tb) (c : Int) : Bool := (at? s.R c).isSome
theorem get_any {w : World} {B : Nat} {s : Tb} (h : TabAt w B s) (hi : Inv s) (c : Int) : Calls Try.prog 34 #[.pointer (some ⟨B, 0, none⟩), .int .i64 c] w fun e w' => e = .returned (.tuple #[.int .i64 (getV s c), .bool (getY s c)]) ∧ ∃ n, w' = w.drewN n := by
  have HF : Hid (Calls Try.prog 43 #[.pointer (some ⟨B, 0, none⟩), .int .i64 c] w fun e w' => ∃ d y, e = .returned (.tuple #[.int .i64 (((fst s.k c + d) % 2 ^ s.k : Nat) : Int), .bool y]) ∧ Left s c d y ∧ w' = w) := find_any h hi c
  have HI : Hid (Inv s) := hi
  have HT : Hid (TabAt w B s) := h
  have h64 := hi.n64
  have hl := hi.len
  have hm := hi.m24
  clear h hi
  go_enter Try.func34, Try.ntmps34
  go_wp2_with fail
  refine HF.out.mono ?_
  rintro e w1 ⟨d, y, rfl, hL, rfl⟩
  cases y with
  | false =>
    obtain ⟨h1, _⟩ := hL.lost HI.out
    have E1 : Hid (getV s c = 0) := by rw [Hid]; simp [getV, h1]
    have E2 : Hid (getY s c = false) := by rw [Hid]; simp [getY, h1]
    go_wp2
    go_ret2
    exact ⟨by rw [E1.out, E2.out]; rfl, 0, rfl⟩
  | true =>
    obtain ⟨i, h1, h2, h3⟩ := hL.found HI.out
    have hq : (fst s.k c + d) % 2 ^ s.k < 64 := Nat.lt_of_lt_of_le (Nat.mod_lt _ (pw_pos _)) h64
    have E1 : Hid (getV s c = (s.R.getD i noWr).v) := by rw [Hid]; simp [getV, h1]
    have E2 : Hid (getY s c = true) := by rw [Hid]; simp [getY, h1]
    have c1 := HT.out.p _ hq
    have c2 := HT.out.v i (by omega)
    rw [h3] at c1
    generalize (fst s.k c + d) % 2 ^ s.k = q at *
    generalize (s.R.getD i noWr).v = z at *
    clear hL
    go_wp2
    go_quiet (fail)
    go_wp2
    go_ret2
    exact ⟨by rw [E1.out, E2.out]; rfl, _, rfl⟩

theorem own_refl (B : Nat) (w : World) : Keep [B] w w := Keep.refl _ _
theorem put_any {w : World} {B : Nat} {s : Tb} (h : TabAt w B s) (hi : Inv s) (c v : Int) : Calls Try.prog 31 #[.pointer (some ⟨B, 0, none⟩), .int .i64 c, .int .i64 v] w fun e w' => e = .returned (.int .i64 (putE s c)) ∧ TabAt w' B (put s c v) ∧ Keep [B] w w' := by
  have HF : Hid (Calls Try.prog 43 #[.pointer (some ⟨B, 0, none⟩), .int .i64 c] w fun e w' => ∃ d y, e = .returned (.tuple #[.int .i64 (((fst s.k c + d) % 2 ^ s.k : Nat) : Int), .bool y]) ∧ Left s c d y ∧ w' = w) := find_any h hi c
  have HI : Hid (Inv s) := hi
  have HT : Hid (TabAt w B s) := h
  have h64 := hi.n64
  have hl := hi.len
  have hm := hi.m24
  clear h hi
  by_cases hc0 : c < 0
  · have hr : right c = false := by simp [right]; omega
    rw [(put_wrong v hr).1, (put_wrong v hr).2]
    go_enter Try.func31, Try.ntmps31
    go_wp2
    go_ret
    exact ⟨rfl, HT.out, Keep.refl _ _⟩
  by_cases hc1 : 1024 ≤ c
  · have hr : right c = false := by simp [right]; omega
    rw [(put_wrong v hr).1, (put_wrong v hr).2]
    have hd0 : decide (c < 0) = false := by simp; omega
    go_enter Try.func31, Try.ntmps31
    go_wp2
    go_ret
    exact ⟨rfl, HT.out, Keep.refl _ _⟩
  have hr : right c = true := by simp [right]; omega
  have hd0 : decide (c < 0) = false := by simp; omega
  have hd1 : decide (1024 ≤ c) = false := by simp; omega
  go_enter Try.func31, Try.ntmps31
  go_wp2_with fail
  refine HF.out.mono ?_
  rintro e w1 ⟨d, y, rfl, hL, rfl⟩
  have hq : (fst s.k c + d) % 2 ^ s.k < 64 := Nat.lt_of_lt_of_le (Nat.mod_lt _ (pw_pos _)) h64
  cases y with
  | true =>
    obtain ⟨i, h1, h2, h3⟩ := hL.found HI.out
    have c1 := HT.out.p _ hq
    have c2 := HT.out.v i (by omega)
    have f2 := frozen_at HT.out (3 + i * 2 + 1)
    rw [h3] at c1
    have HE : Hid (TabAt (w1.setCell ⟨B, 3 + i * 2 + 1, none⟩ (.int .i64 v)) B (put s c v)) := by
      obtain ⟨_, hc⟩ := at_some h1
      rw [Hid, (put_old v hr h1).1, TabAt, heap_set HT.out, tabC_old h2 (by omega) hc]
    have HP : Hid (putE s c = 0) := (put_old v hr h1).2
    generalize (fst s.k c + d) % 2 ^ s.k = q at *
    generalize (s.R.getD i noWr).v = z at *
    clear hL h1
    go_wp2
    go_region
    all_goals
      go_wp2
      go_ret
      exact ⟨by rw [HP.out]; rfl, HE.out, ((Keep.refl _ _).setCell _ _ (by simp)).drewN 1⟩
  | false =>
    obtain ⟨h1, h2⟩ := hL.lost HI.out
    have c1 := HT.out.n
    have c2 := HT.out.m
    by_cases hfull : s.m ≤ s.R.length
    · have HP : Hid (putE s c = 2) := (put_full v hr h1 hfull).2
      have HE : Hid (TabAt w1 B (put s c v)) := by rw [Hid, (put_full v hr h1 hfull).1]; exact HT.out
      have hd : decide ((s.m : Int) ≤ (s.R.length : Int)) = true := by simp; omega
      clear hL
      go_wp2
      go_quiet (fail)
      go_wp2
      go_ret
      exact ⟨by rw [HP.out]; rfl, HE.out, (Keep.refl _ _).drewN _⟩
    · have HP : Hid (putE s c = 0) := (put_new v hr h1 (by omega)).2
      have hd : decide ((s.m : Int) ≤ (s.R.length : Int)) = false := by simp; omega
      have hn24 : s.R.length < 24 := by omega
      have HE : Hid (∀ w2 : World, w2.heap[B]? = some (.cells (((((tabC s).setIfInBounds (3 + s.R.length * 2) (.int .i64 c)).setIfInBounds (3 + s.R.length * 2 + 1) (.int .i64 v)).setIfInBounds 2 (.int .i64 ((s.R.length : Int) + 1))).setIfInBounds (51 + (fst s.k c + d) % 2 ^ s.k) (.int .i64 ((s.R.length : Int) + 1))) 71 (0, 0)) → TabAt w2 B (put s c v)) := fun w2 h => by
        rw [(put_new v hr h1 (by omega)).1, h2, TabAt, h, tabC_new hn24 hq]
      have HB : Hid (w1.heap[B]? = some (.cells (tabC s) 71 (0, 0))) := HT.out
      have c3 := HT.out.c _ hn24
      have c4 := HT.out.v _ hn24
      have c5 := HT.out.p _ hq
      have f1 := frozen_at HT.out 2
      have f3 := frozen_at HT.out (3 + s.R.length * 2)
      have f4 := frozen_at HT.out (3 + s.R.length * 2 + 1)
      have f5 := frozen_at HT.out (51 + (fst s.k c + d) % 2 ^ s.k)
      generalize (fst s.k c + d) % 2 ^ s.k = q at *
      generalize (s.R.getD s.R.length noWr).v = z1 at *
      generalize (s.R.getD s.R.length noWr).c = z2 at *
      generalize s.R.length = n at *
      clear hL h1 h2
      go_wp2
      go_quiet (fail)
      go_wp2
      go_region
      all_goals
        go_wp2
        go_region
        all_goals
          go_wp2
          go_ret
          exact ⟨by rw [HP.out]; rfl, HE.out _ (heap_set (heap_set (heap_set (heap_set HB.out _ _) _ _) _ _) _ _), ((((((((Keep.refl [B] w1).drewN nq).setCell ⟨B, 3 + n * 2, none⟩ _ (by simp)).setCell ⟨B, 3 + n * 2 + 1, none⟩ _ (by simp)).drewN 1).setCell ⟨B, 2, none⟩ _ (by simp)).setCell ⟨B, 51 + q, none⟩ _ (by simp)).drewN 1)⟩
end Go.Proofs.Ytfpnpkpjkcmoaaa
