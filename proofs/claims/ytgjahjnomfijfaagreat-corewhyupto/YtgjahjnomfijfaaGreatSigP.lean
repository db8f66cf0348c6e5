/- What the program does with bits of signatures: bitAt, With, Has, and the place of a word's lowest bit. -/
import Derived.Test.YtgjahjnomfijfaaGreatSigB
namespace Go.Proofs.YtgjahjnomfijfaaGreat.Sg
open Go.ChangeShapes Go.WideShapes Go.ChangeAt Go.RowKit
theorem bitAt_any (k : Nat) (hk : k < 512) (w : World) :
  Calls Tryz.prog 75 #[.int .i64 (k : Int)] w fun e w' => e = .returned (.tuple #[.int .i64 ((k / 64 : Nat) : Int), .int .u64 ((2 ^ (k % 64) : Nat) : Int)]) ∧ ∃ n, w' = w.drewN n := by
 have hm : k % 64 < 64 := by omega
 have hke : (k : Int) % 64 = ((k % 64 : Nat) : Int) := by omega
 have hkm : (k : Int).tmod 64 = ((k % 64 : Nat) : Int) := by rw [Int.tmod_eq_emod_of_nonneg (by omega), hke]
 have hp := pow_lt64 (k % 64) hm
 have HC : Hid (IntKind.u64.wrap ((2 : Int) ^ (k % 64)) = (2 : Int) ^ (k % 64)) := by
  rw [Hid, IntKind.wrap_u64]
  have : ((2 ^ (k % 64) : Nat) : Int) = (2 : Int) ^ (k % 64) := by simp
  have := two_pow_pos (k % 64)
  omega
 generalize k % 64 = m at *
 go_enter Tryz.func75, Tryz.ntmps75
 go_wp2
 go_quiet (fail)
 go_wp2
 go_ret2
 exact ⟨by simp [HC.out], nq, rfl⟩
theorem with_any (s : List Nat) (hs : Ok s) (c : Int) (w : World) :
  Calls Tryz.prog 65 #[sv s, .int .i64 c] w fun e w' => e = .returned (sv (put s (sigN c))) ∧ Below w.heap.size w w' := by
 have HP : Hid (∀ w, Calls Tryz.prog 75 #[.int .i64 (sigN c : Int)] w fun e w' => e = .returned (.tuple #[.int .i64 ((sigN c / 64 : Nat) : Int), .int .u64 ((2 ^ (sigN c % 64) : Nat) : Int)]) ∧ ∃ n, w' = w.drewN n) := fun w => bitAt_any _ (sigN_lt c) w
 have HS : Hid (∀ w, Calls Tryz.prog 76 #[.int .i64 c] w fun e w' => e = .returned (.int .i64 (sigN c : Int)) ∧ w' = w) := fun w => by
  have := sighash_any c w
  rwa [sigN_cast] at this
 have hlt := sigN_lt c
 generalize sigN c = k at *
 have hg := sc_get s (k / 64) (by rw [hs.1]; omega)
 have hz := sc_size s
 rw [hs.1] at hz
 have hz' : (sc (put s k)).size = 8 := by rw [sc_size]; exact (ok_put hs k hlt).1
 have h1' := sc_one (put s k)
 unfold sv
 have hset : (sc s).setIfInBounds (k / 64) (Value.int .u64 (bits .or .u64 ((s.getD (k / 64) 0 : Nat) : Int) ((2 ^ (k % 64) : Nat) : Int))) = sc (put s k) := by
  rw [bits_or_u64_nat _ _ (hs.2 _) (pow_lt64 _ (by omega))]
  have := sc_set s (k / 64) (s.getD (k / 64) 0 ||| 2 ^ (k % 64))
  simpa [put] using this
 generalize sc (put s k) = cs' at *
 generalize sc s = cs at *
 generalize s.getD (k / 64) 0 = x at *
 generalize 2 ^ (k % 64) = y at *
 clear hs
 have hpk := pack8 cs' hz'
 have hst := fun (w : World) (n : Nat) (o1 : Obj) (old : Array Value) (ho : old.size = 8) => store_d_2_1 (P := Tryz.prog) w n o1 51 old cs' ho hz' h1'
 have hdr : ∀ (W : World) (n : Nat) (a : Addr) (v : Value), (W.drewN n).setCell a v = (W.setCell a v).drewN n := fun _ _ _ _ => rfl
 go_enter Tryz.func65, Tryz.ntmps65
 go_wp2_with fail
 refine (HS.out _).mono ?_
 rintro e w' ⟨rfl, rfl⟩
 go_wp2_with fail
 refine (HP.out _).mono ?_
 rintro e w1 ⟨rfl, n, rfl⟩
 go_wp2
 exact ret_sig rfl rfl (show (World.drewN _ n).heap[_]? = _ from heap_alloc2_new w _ _) hz' rfl ⟨rfl, below_drawn (below_a2 _ _ _) n⟩
