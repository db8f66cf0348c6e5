/- What the document's answer does with bits of signatures: Bit, Put, With, Has. -/
import Derived.Test.YtbmmicfdnfpcaaaSigB
namespace Go.Proofs.Ytbmmicfdnfpcaaa.Sg
open Go.ChangeShapes Go.WideShapes Go.ChangeAt Go.RowKit

theorem half (x j : Nat) : ((x / 2 ^ j : Nat) : Int) / 2 = ((x / 2 ^ (j + 1) : Nat) : Int) := by
  rw [Nat.pow_succ, ← Nat.div_div_eq_div_mul]
  omega

theorem rbit_any (s : List Nat) (hs : Ok s) (k : Nat) (hk : k < 512) (w : World) :
    Calls Try.prog 58 #[sv s, .int .i64 (k : Int)] w fun e w' => e = .returned (.bool (bit s k)) ∧ w' = w.alloc (.cells (sc s) 57) := by
  have hg := sc_get s (k / 64) (by rw [hs.1]; omega)
  have hz := sc_size s
  rw [hs.1] at hz
  have hx := hs.2 (k / 64)
  unfold sv bit
  generalize sc s = cs at *
  generalize s.getD (k / 64) 0 = x at *
  have hm : k % 64 < 64 := by omega
  have hke : (k : Int) % 64 = ((k % 64 : Nat) : Int) := by omega
  have hkm : (k : Int).tmod 64 = ((k % 64 : Nat) : Int) := by rw [Int.tmod_eq_emod_of_nonneg (by omega), hke]
  generalize k % 64 = m at *
  clear hs
  go_enter Try.func58, Try.ntmps58
  go_wp2
  go_loop [5, 6] (fun v i => ∃ j : Nat, j ≤ m ∧ i = .int .i64 j ∧ v = .int .u64 ((x / 2 ^ j : Nat) : Int)) (fun _ i => m - (intOf i).toNat)
  case atStart => exact ⟨0, Nat.zero_le _, rfl, by simp⟩
  case round =>
    obtain ⟨j, hj, rfl, rfl⟩ := hrel
    have HH : Hid (((x / 2 ^ j : Nat) : Int) / 2 = ((x / 2 ^ (j + 1) : Nat) : Int)) := half x j
    have HB : Hid (((x / 2 ^ j) % 2 == 1) = x.testBit j) := bit_div x j
    have hb : x / 2 ^ j ≤ 18446744073709551615 := by
      have := Nat.div_le_self x (2 ^ j)
      omega
    generalize x / 2 ^ j = y at *
    by_cases hlt : j < m
    · go_wp2
      go_round
      case rel => exact ⟨j + 1, by omega, by go_num, by rw [HH.out]⟩
      case measure => simp [intOf]; omega
    · have e : j = m := by omega
      subst e
      go_wp2
      go_ret
      refine ⟨?_, rfl⟩
      rw [← HB.out]
      have : ((y : Int) % 2 == 1) = (y % 2 == 1) := by
        rw [Bool.eq_iff_iff]
        simp
        omega
      simp [this]

theorem dbl (j : Nat) : (2 ^ j : Nat) + (2 ^ j : Nat) = 2 ^ (j + 1) := by rw [Nat.pow_succ]; omega

theorem rput_any (s : List Nat) (hs : Ok s) (k : Nat) (hk : k < 512) (w : World) :
    Calls Try.prog 50 #[sv s, .int .i64 (k : Int)] w fun e w' => e = .returned (sv (put s k)) ∧ Below w.heap.size w w' := by
  have HB : Hid (∀ w, Calls Try.prog 58 #[sv s, .int .i64 (k : Int)] w fun e w' => e = .returned (.bool (bit s k)) ∧ w' = w.alloc (.cells (sc s) 57)) := fun w => rbit_any s hs k hk w
  unfold sv at HB
  have hg := sc_get s (k / 64) (by rw [hs.1]; omega)
  have hz := sc_size s
  rw [hs.1] at hz
  have h1 := sc_one s
  unfold sv
  by_cases hb : bit s k = true
  · rw [put_had hs k hk hb]
    rw [hb] at HB
    generalize sc s = cs at *
    go_enter Try.func50, Try.ntmps50
    have hpk := pack8 cs hz
    have hst := fun (w : World) (o1 o3 : Obj) (old : Array Value) (ho : old.size = 8) => store_3_1 (P := Try.prog) w o1 o3 57 old cs ho hz h1
    go_wp2_with fail
    refine (HB.out _).mono ?_
    rintro e w' ⟨rfl, rfl⟩
    go_wp2
    exact ret_sig rfl rfl (row_3_1 _ _ _ _) hz rfl ⟨rfl, below_a3 _ _ _ _⟩
  · have hb' : bit s k = false := by simpa using hb
    have HP : Hid (sc (put s k) = (sc s).set! (k / 64) (.int .u64 ((s.getD (k / 64) 0 + 2 ^ (k % 64) : Nat) : Int))) := by
      rw [sc_set]
      unfold put
      rw [add_bit _ _ hb']
      rfl
    have hz' : (sc (put s k)).size = 8 := by rw [sc_size]; exact (ok_put hs k hk).1
    have h1' := sc_one (put s k)
    rw [hb'] at HB
    have hx := hs.2 (k / 64)
    have hx2 : s.getD (k / 64) 0 + 2 ^ (k % 64) < 18446744073709551616 := by
      rw [add_bit _ _ hb']
      exact or_lt64 _ _ hx (pow_lt64 _ (by omega))
    generalize sc (put s k) = cs' at *
    clear hb hb'
    generalize sc s = cs at *
    generalize s.getD (k / 64) 0 = x at *
    have hm : k % 64 < 64 := by omega
    have hke : (k : Int) % 64 = ((k % 64 : Nat) : Int) := by omega
    have hkm : (k : Int).tmod 64 = ((k % 64 : Nat) : Int) := by rw [Int.tmod_eq_emod_of_nonneg (by omega), hke]
    generalize k % 64 = m at *
    clear hs
    have hpk := pack8 cs hz
    go_enter Try.func50, Try.ntmps50
    go_wp2_with fail
    refine (HB.out _).mono ?_
    rintro e w' ⟨rfl, rfl⟩
    go_wp2
    go_loop [6, 7] (fun v i => ∃ j : Nat, j ≤ m ∧ i = .int .i64 j ∧ v = .int .u64 ((2 ^ j : Nat) : Int)) (fun _ i => m - (intOf i).toNat)
    case atStart => exact ⟨0, Nat.zero_le _, rfl, by simp⟩
    case round =>
      obtain ⟨j, hj, rfl, rfl⟩ := hrel
      by_cases hlt : j < m
      · have HD : Hid ((2 ^ j : Nat) + (2 ^ j : Nat) = 2 ^ (j + 1)) := dbl j
        have hd : 2 ^ j + 2 ^ j < 18446744073709551616 := by rw [HD.out]; exact pow_lt64 _ (by omega)
        generalize 2 ^ j = y at *
        go_wp2
        go_round
        case rel => exact ⟨j + 1, by omega, by go_num, by rw [← HD.out]; go_num⟩
        case measure => simp [intOf]; omega
      · have e : j = m := by omega
        subst e
        generalize 2 ^ j = y at *
        have hset : cs.setIfInBounds (k / 64) (Value.int .u64 ((x : Int) + (y : Int))) = cs' := by rw [HP.out]; simp
        have hpk' := pack8 cs' hz'
        have hst := fun (w : World) (o1 o3 : Obj) (old : Array Value) (ho : old.size = 8) => store_3_1 (P := Try.prog) w o1 o3 57 old cs' ho hz' h1'
        go_wp2
        exact ret_sig rfl rfl (row_3_1 _ _ _ _) hz' rfl ⟨rfl, below_a3 _ _ _ _⟩

theorem rwith_any (s : List Nat) (hs : Ok s) (c : Int) (w : World) :
    Calls Try.prog 28 #[sv s, .int .i64 c] w fun e w' => e = .returned (sv (put s (sigN c))) ∧ Below w.heap.size w w' := by
  have HP : Hid (∀ w, Calls Try.prog 50 #[sv s, .int .i64 (sigN c : Int)] w fun e w' => e = .returned (sv (put s (sigN c))) ∧ Below w.heap.size w w') := fun w => rput_any s hs _ (sigN_lt c) w
  have HS : Hid (∀ w, Calls Try.prog 49 #[.int .i64 c] w fun e w' => e = .returned (.int .i64 (sigN c : Int)) ∧ w' = w) := fun w => by
    have := rsighash_any c w
    rwa [sigN_cast] at this
  have hz' : (sc (put s (sigN c))).size = 8 := by rw [sc_size]; exact (ok_put hs _ (sigN_lt c)).1
  have h1' := sc_one (put s (sigN c))
  have hz := sc_size s
  rw [hs.1] at hz
  unfold sv at *
  have hpk := pack8 (sc s) hz
  generalize sc (put s (sigN c)) = cs' at *
  generalize sc s = cs at *
  clear hs
  go_enter Try.func28, Try.ntmps28
  go_wp2_with fail
  refine (HS.out _).mono ?_
  rintro e w' ⟨rfl, rfl⟩
  go_wp2_with fail
  refine (HP.out _).mono ?_
  rintro e w1 ⟨rfl, hb⟩
  have hr := (hb.block (w.heap.size + 1) (by simp)).trans (heap_alloc2_new _ _ _)
  have hst := store_row (P := Try.prog) hr rfl hz' h1'
  have HR : Hid (w1.heap[w.heap.size + 1]? = _) := hr
  have HB : Hid (Below w.heap.size w w1) := below_then (below_a2 _ _ _) hb
  clear hr hb
  go_wp2
  exact ret_sig rfl rfl (setRow_heap _ _ _ _ _ _ HR.out) hz' rfl ⟨rfl, below_setRow HB.out _ (by omega) _⟩
