/- The law TxlogClears, walked. -/
import Derived.Test.YtfpnpkpjkcmoaaaLogL
namespace Go.Proofs.Ytfpnpkpjkcmoaaa
open Go.ChangeShapes Go.WideShapes Go.ChangeAt Go.RowKit

set_option maxRecDepth 100000 in
theorem lclears_no (w : World) (m : Int) (va vb : Option Addr) (n n1 vcap vcap1 : Nat) (h : ¬ (1 ≤ m ∧ m ≤ 24)) :
    Calls Try.prog 7 #[.int .i64 m, .slice va n vcap, .slice vb n1 vcap1] w fun e w' => e = .returned (.bool true) ∧ Below w.heap.size w w' := by
  have HN : Hid (∀ w : World, Calls Try.prog 9 #[.int .i64 m] w fun e w' => e = .returned (.tuple #[.pointer none, .int .i64 1]) ∧ w' = w) := fun w => lnew_no w m h
  have HR : Hid (∀ w : World, Calls Try.prog 10 #[.int .i64 m] w fun e w' => e = .returned (.tuple #[.pointer none, .int .i64 1]) ∧ w' = w) := fun w => rlnew_no w m h
  clear h
  go_enter Try.func7, Try.ntmps7
  go_wp2_with fail
  refine (HN.out _).mono ?_
  rintro e w1 ⟨rfl, rfl⟩
  go_wp2_with fail
  refine (HR.out _).mono ?_
  rintro e w2 ⟨rfl, rfl⟩
  go_wp2
  go_ret
  exact ⟨rfl, Below.refl _ _⟩

set_option maxRecDepth 100000 in
set_option maxHeartbeats 1600000 in
theorem lclears_yes (w : World) (m : Nat) (h1 : 1 ≤ m) (h24 : m ≤ 24) (u : Value) (nu : Nat) (fu : Nat → Nat → Int) (hu : CLst w u 3 nu fu) (v : Value) (n : Nat) (f : Nat → Nat → Int) (hv : CLst w v 3 n f) :
    Calls Try.prog 7 #[.int .i64 (m : Int), u, v] w fun e w' => e = .returned (.bool true) ∧ Below w.heap.size w w' := by
  have HN : Hid (∀ w : World, Calls Try.prog 9 #[.int .i64 (m : Int)] w fun e w' => ∃ L B, e = .returned (.tuple #[.pointer (some ⟨L, 0, none⟩), .int .i64 0]) ∧ w.heap.size ≤ L ∧ w.heap.size ≤ B ∧ LogAt w' L B (empty m) Sg.nought ∧ Below w.heap.size w w') := fun w => lnew_yes w m h1 h24
  have HR : Hid (∀ w : World, Calls Try.prog 10 #[.int .i64 (m : Int)] w fun e w' => ∃ p G, e = .returned (.tuple #[p, .int .i64 0]) ∧ RLog w' w.heap.size p (empty m) [] G ∧ Below w.heap.size w w') := fun w => rlnew_yes w m h1 h24
  obtain ⟨ua, ucap, rfl, hbigu, hlu⟩ := hu
  obtain ⟨va, vcap, rfl, hbig, hl⟩ := hv
  have HCU : Hid (∀ i, i < nu → ∃ x, ua = some x ∧ x.block < w.heap.size ∧ ∀ j, j < 3 → w.cell? ((x.add (i * 3)).add j) = some (.int .i64 (fu i j))) := by
    intro i hi
    rcases hlu with h0 | ⟨x, hx, hxb, hcc⟩
    · exact absurd hi (by omega)
    · exact ⟨x, hx, hxb, hcc i hi⟩
  have HC : Hid (∀ i, i < n → ∃ x, va = some x ∧ x.block < w.heap.size ∧ ∀ j, j < 3 → w.cell? ((x.add (i * 3)).add j) = some (.int .i64 (f i j))) := by
    intro i hi
    rcases hl with h0 | ⟨x, hx, hxb, hcc⟩
    · exact absurd hi (by omega)
    · exact ⟨x, hx, hxb, hcc i hi⟩
  clear hl hlu h1 h24
  go_enter Try.func7, Try.ntmps7
  go_wp2_with fail
  refine (HN.out _).mono ?_
  rintro e w1 ⟨L, B, rfl, hL, hB, ht, hb1⟩
  have HW1 : Hid (w.heap.size ≤ L ∧ w.heap.size ≤ B ∧ LogAt w1 L B (empty m) Sg.nought ∧ Below w.heap.size w w1) := ⟨hL, hB, ht, hb1⟩
  clear hL hB ht hb1
  go_wp2_with fail
  refine (HR.out _).mono ?_
  rintro e w2 ⟨q0, G2, rfl, hr, hb2⟩
  obtain ⟨Y, rfl⟩ := hr.ptr
  have HW2 : Hid (LWay w w2 L B (.pointer (some ⟨Y, 0, none⟩)) (empty m) [] G2) := LWay.make HW1.out.1 HW1.out.2.1 HW1.out.2.2.1 HW1.out.2.2.2 hr hb2
  clear hr hb2 HW1
  go_wp2
  go_loopw [11] (fun iv wr => ∃ i : Nat, i ≤ nu ∧ iv = .int .i64 i ∧ ∃ s T G, LWay w wr L B (.pointer (some ⟨Y, 0, none⟩)) s T G ∧ s.m = m) (fun iv _ => nu - (intOf iv).toNat)
  case atStart => exact ⟨0, Nat.zero_le _, rfl, _, _, _, HW2.out, rfl⟩
  case round =>
    obtain ⟨i, hi, rfl, s, T, G, hway, hm⟩ := hrel
    have HW : Hid (LWay w wr L B (.pointer (some ⟨Y, 0, none⟩)) s T G) := hway
    clear hway
    by_cases hlt : i < nu
    · obtain ⟨x, rfl, hxb, hrow⟩ := HCU.out i hlt
      obtain ⟨d0, d1, d2⟩ := CLst.three (w := wr) i (fun j hj => cell_later HW.out.bel (by rw [add_block, add_block]; exact hxb) (hrow j hj))
      clear hrow
      have hd : decide ((i : Int) < (nu : Int)) = true := by simp; omega
      have hx1 : (i : Int) < (nu : Int) := by omega
      have HDO : Hid (Calls Try.prog 11 #[.pointer (some ⟨L, 0, none⟩), .pointer (some ⟨Y, 0, none⟩), .agg #[.int .i64 (fu i 0), .int .i64 (fu i 1), .int .i64 (fu i 2)]] wr fun e w' => e = .returned (.bool true) ∧ ∃ s' T' G', LDuo w' w.heap.size L B (.pointer (some ⟨Y, 0, none⟩)) s' T' G' ∧ Next (L :: B :: G) (L :: B :: G') wr w' ∧ s'.m = s.m) := lone_any HW.out.duo (fu i 0) (fu i 1) (fu i 2)
      generalize fu i 0 = z0 at *
      generalize fu i 1 = z1 at *
      generalize fu i 2 = z2 at *
      go_wp2_with fail
      refine HDO.out.mono ?_
      rintro e w7 ⟨rfl, s7, T7, G7, hd7, hn7, hm7⟩
      have HW7 : Hid (LWay w w7 L B (.pointer (some ⟨Y, 0, none⟩)) s7 T7 G7) := HW.out.next hd7 hn7
      clear hd7 hn7 d0 d1 d2
      go_wp2
      go_roundw
      case rel => exact ⟨i + 1, by omega, by go_num, s7, T7, G7, HW7.out, hm7.trans hm⟩
      case measure => simp [intOf]; omega
    · obtain rfl : i = nu := by omega
      clear hlt hi
      go_wp2_with fail
      refine (lclear_any HW.out.duo.log).mono ?_
      rintro e w4 ⟨rfl, ht4, hk4⟩
      have HW4 : Hid (w.heap.size ≤ L ∧ w.heap.size ≤ B ∧ LogAt w4 L B (empty m) Sg.nought ∧ Below w.heap.size w w4) := by
        rw [hm] at ht4
        exact ⟨HW.out.duo.lL, HW.out.duo.lB, ht4, HW.out.bel.trans (hk4.below HW.out.bel.size (fun b hb => by
          simp at hb
          rcases hb with rfl | rfl
          · exact HW.out.duo.lL
          · exact HW.out.duo.lB))⟩
      clear ht4 hk4 HW HW2
      go_wp2_with fail
      refine (HR.out _).mono ?_
      rintro e w6 ⟨q6, G6, rfl, hr, hb6⟩
      obtain ⟨Y, rfl⟩ := hr.ptr
      have HW6 : Hid (LWay w w6 L B (.pointer (some ⟨Y, 0, none⟩)) (empty m) [] G6) := LWay.make HW4.out.1 HW4.out.2.1 HW4.out.2.2.1 HW4.out.2.2.2 hr hb6
      clear hr hb6 HW4
      go_wp2
      go_loopw [14] (fun iv wr => ∃ j : Nat, j ≤ n ∧ iv = .int .i64 j ∧ ∃ s T G, LWay w wr L B (.pointer (some ⟨Y, 0, none⟩)) s T G) (fun iv _ => n - (intOf iv).toNat)
      case atStart => exact ⟨0, Nat.zero_le _, rfl, _, _, _, HW6.out⟩
      case round =>
        obtain ⟨j, hi, rfl, s, T, G, hway⟩ := hrel
        have HW : Hid (LWay w wr L B (.pointer (some ⟨Y, 0, none⟩)) s T G) := hway
        clear hway
        by_cases hlt : j < n
        · obtain ⟨x, rfl, hxb, hrow⟩ := HC.out j hlt
          obtain ⟨d0, d1, d2⟩ := CLst.three (w := wr) j (fun j hj => cell_later HW.out.bel (by rw [add_block, add_block]; exact hxb) (hrow j hj))
          clear hrow
          have hd : decide ((j : Int) < (n : Int)) = true := by simp; omega
          have hx1 : (j : Int) < (n : Int) := by omega
          have HDO : Hid (Calls Try.prog 11 #[.pointer (some ⟨L, 0, none⟩), .pointer (some ⟨Y, 0, none⟩), .agg #[.int .i64 (f j 0), .int .i64 (f j 1), .int .i64 (f j 2)]] wr fun e w' => e = .returned (.bool true) ∧ ∃ s' T' G', LDuo w' w.heap.size L B (.pointer (some ⟨Y, 0, none⟩)) s' T' G' ∧ Next (L :: B :: G) (L :: B :: G') wr w' ∧ s'.m = s.m) := lone_any HW.out.duo (f j 0) (f j 1) (f j 2)
          generalize f j 0 = z0 at *
          generalize f j 1 = z1 at *
          generalize f j 2 = z2 at *
          go_wp2_with fail
          refine HDO.out.mono ?_
          rintro e w7 ⟨rfl, s7, T7, G7, hd7, hn7, _⟩
          have HW7 : Hid (LWay w w7 L B (.pointer (some ⟨Y, 0, none⟩)) s7 T7 G7) := HW.out.next hd7 hn7
          clear hd7 hn7 d0 d1 d2
          go_wp2
          go_roundw
          case rel => exact ⟨j + 1, by omega, by go_num, s7, T7, G7, HW7.out⟩
          case measure => simp [intOf]; omega
        · obtain rfl : j = n := by omega
          clear hlt hi
          go_wp2_with fail
          refine (all_any HW.out.duo).mono ?_
          rintro e w3 ⟨rfl, hb3⟩
          have HB : Hid (Below w.heap.size w w3) := below_then HW.out.bel hb3
          clear hb3
          go_wp2
          go_ret
          exact ⟨rfl, HB.out⟩
end Go.Proofs.Ytfpnpkpjkcmoaaa
