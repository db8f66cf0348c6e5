/- The law TxlogOwns, walked. -/
import Derived.Test.YtfpnpkpjkcmoaaaLogL
import Derived.Test.YtfpnpkpjkcmoaaaOwn
namespace Go.Proofs.Ytfpnpkpjkcmoaaa
open Go.ChangeShapes Go.WideShapes Go.ChangeAt Go.RowKit

set_option maxRecDepth 100000 in
theorem lowns_no (w : World) (m : Int) (va : Option Addr) (n vcap : Nat) (h : ¬ (1 ≤ m ∧ m ≤ 24)) :
    Calls Try.prog 6 #[.int .i64 m, .slice va n vcap] w fun e w' => e = .returned (.bool true) ∧ Below w.heap.size w w' := by
  have HN : Hid (∀ w : World, Calls Try.prog 9 #[.int .i64 m] w fun e w' => e = .returned (.tuple #[.pointer none, .int .i64 1]) ∧ w' = w) := fun w => lnew_no w m h
  have HR : Hid (∀ w : World, Calls Try.prog 10 #[.int .i64 m] w fun e w' => e = .returned (.tuple #[.pointer none, .int .i64 1]) ∧ w' = w) := fun w => rlnew_no w m h
  clear h
  go_enter Try.func6, Try.ntmps6
  go_wp2_with fail
  refine (HN.out _).mono ?_
  rintro e w1 ⟨rfl, rfl⟩
  go_wp2_with fail
  refine (HR.out _).mono ?_
  rintro e w2 ⟨rfl, rfl⟩
  go_wp2
  go_ret
  exact ⟨rfl, Below.refl _ _⟩

set_option maxRecDepth 100000 in
set_option maxHeartbeats 1600000 in
theorem lowns_yes (w : World) (m : Nat) (h1 : 1 ≤ m) (h24 : m ≤ 24) (v : Value) (n : Nat) (f : Nat → Nat → Int) (hv : CLst w v 3 n f) :
    Calls Try.prog 6 #[.int .i64 (m : Int), v] w fun e w' => e = .returned (.bool true) ∧ Below w.heap.size w w' := by
  have HN : Hid (∀ w : World, Calls Try.prog 9 #[.int .i64 (m : Int)] w fun e w' => ∃ L B, e = .returned (.tuple #[.pointer (some ⟨L, 0, none⟩), .int .i64 0]) ∧ w.heap.size ≤ L ∧ w.heap.size ≤ B ∧ LogAt w' L B (empty m) Sg.nought ∧ Below w.heap.size w w') := fun w => lnew_yes w m h1 h24
  have HR : Hid (∀ w : World, Calls Try.prog 10 #[.int .i64 (m : Int)] w fun e w' => ∃ p G, e = .returned (.tuple #[p, .int .i64 0]) ∧ RLog w' w.heap.size p (empty m) [] G ∧ Below w.heap.size w w') := fun w => rlnew_yes w m h1 h24
  obtain ⟨va, vcap, rfl, hbig, hl⟩ := hv
  have HC : Hid (∀ i, i < n → ∃ x, va = some x ∧ x.block < w.heap.size ∧ ∀ j, j < 3 → w.cell? ((x.add (i * 3)).add j) = some (.int .i64 (f i j))) := by
    intro i hi
    rcases hl with h0 | ⟨x, hx, hxb, hcc⟩
    · exact absurd hi (by omega)
    · exact ⟨x, hx, hxb, hcc i hi⟩
  clear hl h1 h24
  go_enter Try.func6, Try.ntmps6
  go_wp2_with fail
  refine (HN.out _).mono ?_
  rintro e w1 ⟨L, B, rfl, hL, hB, ht, hb1⟩
  have HW1 : Hid (w.heap.size ≤ L ∧ w.heap.size ≤ B ∧ LogAt w1 L B (empty m) Sg.nought ∧ Below w.heap.size w w1) := ⟨hL, hB, ht, hb1⟩
  clear hL hB ht hb1
  go_wp2_with fail
  refine (HR.out _).mono ?_
  rintro e w2 ⟨q0, G2, rfl, hr, hb2⟩
  obtain ⟨Y, rfl⟩ := hr.ptr
  have HW2 : Hid (LWay w w2 L B (.pointer (some ⟨Y, 0, none⟩)) (empty m) [] G2) := LWay.make HW1.out.1 HW1.out.2.1 HW1.out.2.2.1 HW1.out.2.2.2 hr hb2
  clear hr hb2 HW1
  go_wp2
  go_loopw [9] (fun iv wr => ∃ i : Nat, i ≤ n ∧ iv = .int .i64 i ∧ ∃ s T G, LWay w wr L B (.pointer (some ⟨Y, 0, none⟩)) s T G) (fun iv _ => n - (intOf iv).toNat)
  case atStart => exact ⟨0, Nat.zero_le _, rfl, _, _, _, HW2.out⟩
  case round =>
    obtain ⟨i, hi, rfl, s, T, G, hway⟩ := hrel
    have HW : Hid (LWay w wr L B (.pointer (some ⟨Y, 0, none⟩)) s T G) := hway
    clear hway
    by_cases hlt : i < n
    · obtain ⟨x, rfl, hxb, hrow⟩ := HC.out i hlt
      obtain ⟨d0, d1, d2⟩ := CLst.three (w := wr) i (fun j hj => cell_later HW.out.bel (by rw [add_block, add_block]; exact hxb) (hrow j hj))
      clear hrow
      have hd : decide ((i : Int) < (n : Int)) = true := by simp; omega
      have hx1 : (i : Int) < (n : Int) := by omega
      have HDO : Hid (Calls Try.prog 11 #[.pointer (some ⟨L, 0, none⟩), .pointer (some ⟨Y, 0, none⟩), .agg #[.int .i64 (f i 0), .int .i64 (f i 1), .int .i64 (f i 2)]] wr fun e w' => e = .returned (.bool true) ∧ ∃ s' T' G', LDuo w' w.heap.size L B (.pointer (some ⟨Y, 0, none⟩)) s' T' G' ∧ Next (L :: B :: G) (L :: B :: G') wr w' ∧ s'.m = s.m) := lone_any HW.out.duo (f i 0) (f i 1) (f i 2)
      generalize f i 0 = z0 at *
      generalize f i 1 = z1 at *
      generalize f i 2 = z2 at *
      go_wp2_with fail
      refine HDO.out.mono ?_
      rintro e w7 ⟨rfl, s7, T7, G7, hd7, hn7, _⟩
      have HW7 : Hid (LWay w w7 L B (.pointer (some ⟨Y, 0, none⟩)) s7 T7 G7) := HW.out.next hd7 hn7
      clear hd7 hn7 d0 d1 d2
      go_wp2
      go_roundw
      case rel => exact ⟨i + 1, by omega, by go_num, s7, T7, G7, HW7.out⟩
      case measure => simp [intOf]; omega
    · obtain rfl : i = n := by omega
      clear hlt hi
      go_wp2_with fail
      refine (writes_any HW.out.duo.log).mono ?_
      rintro e y1 ⟨v1, rfl, ho1, hb1⟩
      obtain ⟨y0, hy0⟩ : ∃ y0, y0 = wr := ⟨_, rfl⟩
      rw [← hy0] at HW ho1 hb1
      clear hy0
      have HB1 : Hid (Below y0.heap.size y0 y1) := hb1
      have hl24 : s.R.length ≤ 24 := Nat.le_trans HW.out.duo.inv.len HW.out.duo.inv.m24
      obtain ⟨a1, c1, rfl⟩ := own_slice ho1
      have HS1 : Hid (SomeRow y1 y0.heap.size 39 2 (.slice a1 s.R.length c1) s.R.length) := ⟨_, ho1⟩
      clear ho1 hb1
      generalize s.R.length = nR at *
      go_wp2
      go_loopw [11] (fun iv wr => ∃ j : Nat, j ≤ nR ∧ iv = .int .i64 j ∧ SomeRow wr y0.heap.size 39 2 (.slice a1 nR c1) nR ∧ Below y0.heap.size y0 wr) (fun iv _ => nR - (intOf iv).toNat)
      case atStart => exact ⟨0, Nat.zero_le _, rfl, HS1.out, HB1.out⟩
      case round =>
        obtain ⟨j, hj, rfl, hs, hb⟩ := hrel
        have HS : Hid (SomeRow wr y0.heap.size 39 2 (.slice a1 nR c1) nR) := hs
        have HB : Hid (Below y0.heap.size y0 wr) := hb
        clear hb HS1 HB1
        by_cases hlt : j < nR
        · obtain ⟨xs, hx⟩ := hs
          obtain ⟨gg, cap, hform, hg1, hg2⟩ := hx.form (by omega)
          obtain ⟨rfl, _, rfl⟩ : a1 = some ⟨gg, 0, none⟩ ∧ nR = nR ∧ c1 = cap := by simpa using hform
          clear hform
          obtain ⟨⟨u0, d0⟩, f0⟩ := own_some hx (j * 2) (by omega)
          obtain ⟨⟨u1, d1⟩, f1⟩ := own_some hx (j * 2 + 1) (by omega)
          have hgl : y0.heap.size ≤ gg := (own_block hx gg rfl).1
          clear hx
          have hd : decide ((j : Int) < (nR : Int)) = true := by simp; omega
          have hx1 : (j : Int) < (nR : Int) := by omega
          go_wp2
          go_roundw
          case rel => exact ⟨j + 1, by omega, by go_num, (HS.out.set _ _).set _ _, (HB.out.setCell hgl _).setCell hgl _⟩
          case measure => simp [intOf]; omega
        · obtain rfl : j = nR := by omega
          clear hlt hj hs
          have HW5 : Hid (LWay w wr L B (.pointer (some ⟨Y, 0, none⟩)) s T G) := HW.out.later HB.out
          clear HS HB HW
          go_wp2_with fail
          refine (all_any HW5.out.duo).mono ?_
          rintro e w3 ⟨rfl, hb3⟩
          have HB : Hid (Below w.heap.size w w3) := below_then HW5.out.bel hb3
          clear hb3
          go_wp2
          go_ret
          exact ⟨rfl, HB.out⟩
end Go.Proofs.Ytfpnpkpjkcmoaaa
