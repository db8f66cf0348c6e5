/- The law TableClears, walked. -/
import Derived.Test.YtpkbjdpoflipmaaTabL
namespace Go.Proofs.Ytpkbjdpoflipmaa
open Go.ChangeShapes Go.WideShapes Go.ChangeAt Go.RowKit

/-- The program's table alone, above what was there. -/
structure TOne (w0 w : World) (B m : Nat) (s : Tb) : Prop where
  tab : TabAt w B s
  inv : Inv s
  m : s.m = m
  lo : w0.heap.size ≤ B
  bel : Below w0.heap.size w0 w
theorem TOne.next {w0 w w' : World} {B m : Nat} {s s' : Tb} (h : TOne w0 w B m s) (ht : TabAt w' B s') (hi : Inv s') (hm : s'.m = s.m) (k : Keep [B] w w') : TOne w0 w' B m s' :=
  ⟨ht, hi, hm.trans h.m, h.lo, h.bel.trans (k.below h.bel.size (fun b hb => by simp at hb; rw [hb]; exact h.lo))⟩

set_option maxRecDepth 100000 in
theorem tclears_no (w : World) (m : Int) (va vb : Option Addr) (n n' vcap bcap : Nat) (h : ¬ (1 ≤ m ∧ m ≤ 24)) :
    Calls Try.prog 8 #[.int .i64 m, .slice va n vcap, .slice vb n' bcap] w fun e w' => e = .returned (.bool true) ∧ Below w.heap.size w w' := by
  have HN : Hid (∀ w : World, Calls Try.prog 9 #[.int .i64 m] w fun e w' => e = .returned (.tuple #[.pointer none, .int .i64 1]) ∧ w' = w) := fun w => tnew_no w m h
  by_cases h1 : m < 1
  · clear h
    go_enter Try.func8, Try.ntmps8
    go_wp2_with fail
    refine (HN.out _).mono ?_
    rintro e w1 ⟨rfl, rfl⟩
    go_wp2
    go_ret
    exact ⟨rfl, Below.refl _ _⟩
  · have h2 : 24 < m := by omega
    clear h
    go_enter Try.func8, Try.ntmps8
    go_wp2_with fail
    refine (HN.out _).mono ?_
    rintro e w1 ⟨rfl, rfl⟩
    go_wp2
    go_ret
    exact ⟨rfl, Below.refl _ _⟩

set_option maxRecDepth 100000 in
set_option maxHeartbeats 1600000 in
theorem tclears_yes (w : World) (m : Nat) (h1 : 1 ≤ m) (h24 : m ≤ 24) (u : Value) (nu : Nat) (fu : Nat → Nat → Int) (hu : CLst w u 2 nu fu) (v : Value) (n : Nat) (f : Nat → Nat → Int) (hv : CLst w v 3 n f) :
    Calls Try.prog 8 #[.int .i64 (m : Int), u, v] w fun e w' => e = .returned (.bool true) ∧ Below w.heap.size w w' := by
  have HN : Hid (∀ w : World, Calls Try.prog 9 #[.int .i64 (m : Int)] w fun e w' => ∃ B, e = .returned (.tuple #[.pointer (some ⟨B, 0, none⟩), .int .i64 0]) ∧ w.heap.size ≤ B ∧ TabAt w' B (empty m) ∧ Below w.heap.size w w') := fun w => tnew_yes w m h1 h24
  have HR : Hid (∀ w : World, Calls Try.prog 10 #[.int .i64 (m : Int)] w fun e w' => ∃ p G, e = .returned (.tuple #[p, .int .i64 0]) ∧ RTab w' w.heap.size p (empty m) G ∧ Below w.heap.size w w') := fun w => rnew_yes w m h1 h24
  have HM : Hid (1 ≤ m ∧ m ≤ 24) := ⟨h1, h24⟩
  obtain ⟨ua, ucap, rfl, hbigu, hlu⟩ := hu
  obtain ⟨va, vcap, rfl, hbig, hl⟩ := hv
  have HCU : Hid (∀ i, i < nu → ∃ x, ua = some x ∧ x.block < w.heap.size ∧ ∀ j, j < 2 → w.cell? ((x.add (i * 2)).add j) = some (.int .i64 (fu i j))) := by
    intro i hi
    rcases hlu with h0 | ⟨x, hx, hxb, hcc⟩
    · exact absurd hi (by omega)
    · exact ⟨x, hx, hxb, hcc i hi⟩
  have HC : Hid (∀ i, i < n → ∃ x, va = some x ∧ x.block < w.heap.size ∧ ∀ j, j < 3 → w.cell? ((x.add (i * 3)).add j) = some (.int .i64 (f i j))) := by
    intro i hi
    rcases hl with h0 | ⟨x, hx, hxb, hcc⟩
    · exact absurd hi (by omega)
    · exact ⟨x, hx, hxb, hcc i hi⟩
  clear hl hlu h1 h24
  go_enter Try.func8, Try.ntmps8
  go_wp2_with fail
  refine (HN.out _).mono ?_
  rintro e w1 ⟨B, rfl, hB, ht, hb1⟩
  have HW1 : Hid (TOne w w1 B m (empty m)) := ⟨ht, empty_inv HM.out.1 HM.out.2, rfl, hB, hb1⟩
  clear hB ht hb1
  go_wp2
  go_loopw [9] (fun iv wr => ∃ i : Nat, i ≤ nu ∧ iv = .int .i64 i ∧ ∃ s, TOne w wr B m s) (fun iv _ => nu - (intOf iv).toNat)
  case atStart => exact ⟨0, Nat.zero_le _, rfl, _, HW1.out⟩
  case round =>
    obtain ⟨i, hi, rfl, s, hone⟩ := hrel
    have HW : Hid (TOne w wr B m s) := hone
    clear hone
    by_cases hlt : i < nu
    · obtain ⟨x, rfl, hxb, hrow⟩ := HCU.out i hlt
      obtain ⟨d0, d1⟩ := CLst.two (w := wr) i (fun j hj => cell_later HW.out.bel (by rw [add_block, add_block]; exact hxb) (hrow j hj))
      clear hrow
      have hd : decide ((i : Int) < (nu : Int)) = true := by simp; omega
      have hx1 : (i : Int) < (nu : Int) := by omega
      have HPU : Hid (Calls Try.prog 18 #[.pointer (some ⟨B, 0, none⟩), .int .i64 (fu i 0), .int .i64 (fu i 1)] wr.drew fun e w' => e = .returned (.int .i64 (putE s (fu i 0))) ∧ TabAt w' B (put s (fu i 0) (fu i 1)) ∧ Keep [B] wr.drew w') := put_any (w := wr.drew) HW.out.tab HW.out.inv _ _
      have HNX : Hid (∀ w', TabAt w' B (put s (fu i 0) (fu i 1)) → Keep [B] wr.drew w' → TOne w w' B m (put s (fu i 0) (fu i 1))) := fun w' ht hk => HW.out.next ht (put_inv HW.out.inv _ _) (put_keeps _ _ _).1 (((Keep.refl [B] wr).drewN 1).trans hk (fun b hb => Or.inl hb))
      generalize fu i 0 = z0 at *
      generalize fu i 1 = z1 at *
      go_wp2
      go_region_with ((go_at_call 18; refine HPU.out.mono ?_; rintro e w2 ⟨rfl, ht, hk⟩))
      all_goals
        have HN2 : Hid (TOne w w2 B m (put s z0 z1)) := HNX.out _ ht hk
        clear ht hk
        go_wp2
        go_roundw
        case rel => exact ⟨i + 1, by omega, by go_num, _, HN2.out⟩
        case measure => simp [intOf]; omega
    · obtain rfl : i = nu := by omega
      clear hlt hi
      go_wp2_with fail
      refine (clear_any HW.out.tab HW.out.inv).mono ?_
      rintro e w2 ⟨rfl, ht, hk⟩
      have HW2 : Hid (TOne w w2 B m (empty m)) := by
        rw [HW.out.m] at ht
        exact HW.out.next ht (empty_inv HM.out.1 HM.out.2) HW.out.m.symm hk
      clear ht hk
      go_wp2_with fail
      refine (HR.out _).mono ?_
      rintro e w3 ⟨q0, G2, rfl, hr, hb2⟩
      obtain ⟨X, rfl⟩ := hr.ptr
      have HW3 : Hid (TWay w w3 B (.pointer (some ⟨X, 0, none⟩)) (empty m) G2) := TWay.make HM.out.1 HM.out.2 HW2.out.lo HW2.out.tab HW2.out.bel hr hb2
      clear hr hb2 HW2
      go_wp2
      go_loopw [12] (fun iv wr => ∃ i : Nat, i ≤ n ∧ iv = .int .i64 i ∧ ∃ s G, TWay w wr B (.pointer (some ⟨X, 0, none⟩)) s G) (fun iv _ => n - (intOf iv).toNat)
      case atStart => exact ⟨0, Nat.zero_le _, rfl, _, _, HW3.out⟩
      case round =>
        obtain ⟨j, hj, rfl, s, G, hway⟩ := hrel
        have HW : Hid (TWay w wr B (.pointer (some ⟨X, 0, none⟩)) s G) := hway
        clear hway
        by_cases hlt : j < n
        · obtain ⟨x, rfl, hxb, hrow⟩ := HC.out j hlt
          obtain ⟨d0, d1, d2⟩ := CLst.three (w := wr) j (fun k hk => cell_later HW.out.bel (by rw [add_block, add_block]; exact hxb) (hrow k hk))
          clear hrow
          have hd : decide ((j : Int) < (n : Int)) = true := by simp; omega
          have hx1 : (j : Int) < (n : Int) := by omega
          have HDO : Hid (Calls Try.prog 11 #[.pointer (some ⟨B, 0, none⟩), .pointer (some ⟨X, 0, none⟩), .agg #[.int .i64 (f j 0), .int .i64 (f j 1), .int .i64 (f j 2)]] wr fun e w' => e = .returned (.bool true) ∧ ∃ s' G', TDuo w' w.heap.size B (.pointer (some ⟨X, 0, none⟩)) s' G' ∧ Next (B :: G) (B :: G') wr w' ∧ s'.m = s.m) := one_any HW.out.duo (f j 0) (f j 1) (f j 2)
          generalize f j 0 = z0 at *
          generalize f j 1 = z1 at *
          generalize f j 2 = z2 at *
          go_wp2_with fail
          refine HDO.out.mono ?_
          rintro e w7 ⟨rfl, s7, G7, hd7, hn7, _⟩
          have HW7 : Hid (TWay w w7 B (.pointer (some ⟨X, 0, none⟩)) s7 G7) := HW.out.next hd7 hn7
          clear hd7 hn7 d0 d1 d2
          go_wp2
          go_roundw
          case rel => exact ⟨j + 1, by omega, by go_num, s7, G7, HW7.out⟩
          case measure => simp [intOf]; omega
        · obtain rfl : j = n := by omega
          clear hlt hj
          go_wp2_with fail
          refine (slots_any HW.out.duo.tab HW.out.duo.inv).mono ?_
          rintro e w1b ⟨v1, rfl, ho1, hb1⟩
          have HAb : Hid (TWay w w1b B (.pointer (some ⟨X, 0, none⟩)) s G) := HW.out.later hb1
          have HOb : Hid (∃ b, w1b.ownsRow b 3 1 v1 (2 ^ s.k) (slotsC s)) := ⟨_, ho1⟩
          obtain ⟨a1b, c1b, rfl⟩ := own_slice ho1
          clear ho1 hb1
          go_wp2_with fail
          refine (rslots_any HAb.out.duo.ref HAb.out.duo.inv).mono ?_
          rintro e w2b ⟨v2, rfl, ho2, hb2⟩
          have HBb : Hid (TWay w w2b B (.pointer (some ⟨X, 0, none⟩)) s G) := HAb.out.later hb2
          have HCb : Hid (Calls Try.prog 15 #[.slice a1b (2 ^ s.k) c1b, v2] w2b fun e w' => e = .returned (.bool true) ∧ ∃ n, w' = w2b.drewN n) := by
            obtain ⟨b, hb⟩ := HOb.out
            exact samei_any _ (f := slotV s) (fun q hq => slotsC_get s q hq) (own_keep hb (Keep.of_below hb2 []) (fun _ _ => by simp)) ho2 (by have := HAb.out.duo.inv.n64; have := HAb.out.duo.inv.n64; omega)
          obtain ⟨a2b, c2b, rfl⟩ := own_slice ho2
          clear ho2 hb2
          go_wp2_with fail
          refine HCb.out.mono ?_
          rintro e w3b ⟨rfl, nd, hw3⟩
          have HEb : Hid (TWay w w3b B (.pointer (some ⟨X, 0, none⟩)) s G) := by rw [hw3]; exact HBb.out.later (below_drawn (Below.refl _ _) _)
          clear hw3 HCb HOb HAb HBb
          go_wp2
          go_ret
          exact ⟨rfl, HEb.out.bel⟩
end Go.Proofs.Ytpkbjdpoflipmaa
