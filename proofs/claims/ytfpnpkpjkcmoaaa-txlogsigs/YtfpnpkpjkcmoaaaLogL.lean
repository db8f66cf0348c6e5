/- The law TxlogPlays, walked. -/
import Derived.Test.YtfpnpkpjkcmoaaaLogH
import Derived.Test.YtfpnpkpjkcmoaaaTabK
namespace Go.Proofs.Ytfpnpkpjkcmoaaa
open Go.ChangeShapes Go.WideShapes Go.ChangeAt Go.RowKit

/-- Both logs under way, above what was there. -/
structure LWay (w0 w : World) (L B : Nat) (q : Value) (s : Tb) (T : List Int) (G : List Nat) : Prop where
  duo : LDuo w w0.heap.size L B q s T G
  bel : Below w0.heap.size w0 w
theorem LWay.next {w0 w w' : World} {L B : Nat} {q : Value} {s s' : Tb} {T T' : List Int} {G G' : List Nat} (h : LWay w0 w L B q s T G) (hd : LDuo w' w0.heap.size L B q s' T' G') (hn : Next (L :: B :: G) (L :: B :: G') w w') : LWay w0 w' L B q s' T' G' :=
  ⟨hd, h.bel.trans (hn.1.below h.bel.size (fun b hb => by
    simp only [List.mem_cons] at hb
    rcases hb with rfl | rfl | hb
    · exact h.duo.lL
    · exact h.duo.lB
    · exact (h.duo.ref.lt b hb).1))⟩
theorem LWay.later {w0 w w' : World} {L B : Nat} {q : Value} {s : Tb} {T : List Int} {G : List Nat} (h : LWay w0 w L B q s T G) (hb : Below w.heap.size w w') : LWay w0 w' L B q s T G := ⟨h.duo.below hb, below_then h.bel hb⟩
/-- Both are made, one behind the other. -/
theorem LWay.make {w0 w1 w2 : World} {L B m : Nat} {q : Value} {G : List Nat} (hL : w0.heap.size ≤ L) (hB : w0.heap.size ≤ B) (ht : LogAt w1 L B (empty m) Sg.nought) (hb1 : Below w0.heap.size w0 w1) (hr : RLog w2 w1.heap.size q (empty m) [] G) (hb2 : Below w1.heap.size w1 w2) : LWay w0 w2 L B q (empty m) [] G :=
  ⟨⟨ht.below hb2, hr.base hb1.size, Told.nil, fun hm => by have := (hr.lt L hm).1; have := heap_lt ht.log; omega, fun hm => by have := (hr.lt B hm).1; have := heap_lt ht.tab; omega, hL, hB, Nat.le_trans hb1.size hb2.size⟩, below_then hb1 hb2⟩

set_option maxRecDepth 100000 in
theorem lplays_no (w : World) (m : Int) (va : Option Addr) (n vcap : Nat) (h : ¬ (1 ≤ m ∧ m ≤ 24)) :
    Calls Try.prog 3 #[.int .i64 m, .slice va n vcap] w fun e w' => e = .returned (.bool true) ∧ Below w.heap.size w w' := by
  have HN : Hid (∀ w : World, Calls Try.prog 9 #[.int .i64 m] w fun e w' => e = .returned (.tuple #[.pointer none, .int .i64 1]) ∧ w' = w) := fun w => lnew_no w m h
  have HR : Hid (∀ w : World, Calls Try.prog 10 #[.int .i64 m] w fun e w' => e = .returned (.tuple #[.pointer none, .int .i64 1]) ∧ w' = w) := fun w => rlnew_no w m h
  clear h
  go_enter Try.func3, Try.ntmps3
  go_wp2_with fail
  refine (HN.out _).mono ?_
  rintro e w1 ⟨rfl, rfl⟩
  go_wp2_with fail
  refine (HR.out _).mono ?_
  rintro e w2 ⟨rfl, rfl⟩
  go_wp2
  go_ret
  exact ⟨rfl, Below.refl _ _⟩

set_option maxRecDepth 100000 in
set_option maxHeartbeats 1600000 in
theorem lplays_yes (w : World) (m : Nat) (h1 : 1 ≤ m) (h24 : m ≤ 24) (v : Value) (n : Nat) (f : Nat → Nat → Int) (hv : CLst w v 3 n f) :
    Calls Try.prog 3 #[.int .i64 (m : Int), v] w fun e w' => e = .returned (.bool true) ∧ Below w.heap.size w w' := by
  have HN : Hid (∀ w : World, Calls Try.prog 9 #[.int .i64 (m : Int)] w fun e w' => ∃ L B, e = .returned (.tuple #[.pointer (some ⟨L, 0, none⟩), .int .i64 0]) ∧ w.heap.size ≤ L ∧ w.heap.size ≤ B ∧ LogAt w' L B (empty m) Sg.nought ∧ Below w.heap.size w w') := fun w => lnew_yes w m h1 h24
  have HR : Hid (∀ w : World, Calls Try.prog 10 #[.int .i64 (m : Int)] w fun e w' => ∃ p G, e = .returned (.tuple #[p, .int .i64 0]) ∧ RLog w' w.heap.size p (empty m) [] G ∧ Below w.heap.size w w') := fun w => rlnew_yes w m h1 h24
  obtain ⟨va, vcap, rfl, hbig, hl⟩ := hv
  have HC : Hid (∀ i, i < n → ∃ x, va = some x ∧ x.block < w.heap.size ∧ ∀ j, j < 3 → w.cell? ((x.add (i * 3)).add j) = some (.int .i64 (f i j))) := by
    intro i hi
    rcases hl with h0 | ⟨x, hx, hxb, hcc⟩
    · exact absurd hi (by omega)
    · exact ⟨x, hx, hxb, hcc i hi⟩
  clear hl h1 h24
  go_enter Try.func3, Try.ntmps3
  go_wp2_with fail
  refine (HN.out _).mono ?_
  rintro e w1 ⟨L, B, rfl, hL, hB, ht, hb1⟩
  have HW1 : Hid (w.heap.size ≤ L ∧ w.heap.size ≤ B ∧ LogAt w1 L B (empty m) Sg.nought ∧ Below w.heap.size w w1) := ⟨hL, hB, ht, hb1⟩
  clear hL hB ht hb1
  go_wp2_with fail
  refine (HR.out _).mono ?_
  rintro e w2 ⟨q0, G2, rfl, hr, hb2⟩
  obtain ⟨Y, rfl⟩ := hr.ptr
  have HW2 : Hid (LWay w w2 L B (.pointer (some ⟨Y, 0, none⟩)) (empty m) [] G2) := LWay.make HW1.out.1 HW1.out.2.1 HW1.out.2.2.1 HW1.out.2.2.2 hr hb2
  clear hr hb2 HW1
  go_wp2
  go_loopw [9] (fun iv wr => ∃ i : Nat, i ≤ n ∧ iv = .int .i64 i ∧ ∃ s T G, LWay w wr L B (.pointer (some ⟨Y, 0, none⟩)) s T G) (fun iv _ => n - (intOf iv).toNat)
  case atStart => exact ⟨0, Nat.zero_le _, rfl, _, _, G2, HW2.out⟩
  case round =>
    obtain ⟨i, hi, rfl, s, T, G, hway⟩ := hrel
    have HW : Hid (LWay w wr L B (.pointer (some ⟨Y, 0, none⟩)) s T G) := hway
    clear hway
    by_cases hlt : i < n
    · obtain ⟨x, rfl, hxb, hrow⟩ := HC.out i hlt
      obtain ⟨d0, d1, d2⟩ := CLst.three (w := wr) i (fun j hj => cell_later HW.out.bel (by rw [add_block, add_block]; exact hxb) (hrow j hj))
      clear hrow
      have hd : decide ((i : Int) < (n : Int)) = true := by simp; omega
      have hx1 : (i : Int) < (n : Int) := by omega
      have HDO : Hid (Calls Try.prog 11 #[.pointer (some ⟨L, 0, none⟩), .pointer (some ⟨Y, 0, none⟩), .agg #[.int .i64 (f i 0), .int .i64 (f i 1), .int .i64 (f i 2)]] wr fun e w' => e = .returned (.bool true) ∧ ∃ s' T' G', LDuo w' w.heap.size L B (.pointer (some ⟨Y, 0, none⟩)) s' T' G' ∧ Next (L :: B :: G) (L :: B :: G') wr w' ∧ s'.m = s.m) := lone_any HW.out.duo (f i 0) (f i 1) (f i 2)
      generalize f i 0 = z0 at *
      generalize f i 1 = z1 at *
      generalize f i 2 = z2 at *
      go_wp2_with fail
      refine HDO.out.mono ?_
      rintro e w7 ⟨rfl, s7, T7, G7, hd7, hn7, _⟩
      have HW7 : Hid (LWay w w7 L B (.pointer (some ⟨Y, 0, none⟩)) s7 T7 G7) := HW.out.next hd7 hn7
      clear hd7 hn7 d0 d1 d2
      go_wp2
      go_roundw
      case rel => exact ⟨i + 1, by omega, by go_num, s7, T7, G7, HW7.out⟩
      case measure => simp [intOf]; omega
    · obtain rfl : i = n := by omega
      clear hlt hi
      go_wp2_with fail
      refine (all_any HW.out.duo).mono ?_
      rintro e w3 ⟨rfl, hb3⟩
      have HB : Hid (Below w.heap.size w w3) := below_then HW.out.bel hb3
      clear hb3
      go_wp2
      go_ret
      exact ⟨rfl, HB.out⟩
end Go.Proofs.Ytfpnpkpjkcmoaaa
