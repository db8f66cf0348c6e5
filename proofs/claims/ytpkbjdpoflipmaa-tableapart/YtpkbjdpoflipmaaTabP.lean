/- The law TableApart, walked. -/
import Derived.Test.YtpkbjdpoflipmaaTabL
namespace Go.Proofs.Ytpkbjdpoflipmaa
open Go.ChangeShapes Go.WideShapes Go.ChangeAt Go.RowKit

theorem TDuo.lt {w : World} {base B : Nat} {q : Value} {s : Tb} {G : List Nat} (h : TDuo w base B q s G) : ∀ b ∈ B :: G, base ≤ b ∧ b < w.heap.size := fun b hb => by
  simp only [List.mem_cons] at hb
  rcases hb with rfl | hb
  · exact ⟨h.lo, heap_lt h.tab⟩
  · exact h.ref.lt b hb
theorem TDuo.keep {w w' : World} {base B : Nat} {q : Value} {s : Tb} {F G : List Nat} (h : TDuo w base B q s G) (k : Keep F w w') (hd : ∀ b ∈ B :: G, b ∉ F) : TDuo w' base B q s G :=
  ⟨h.tab.keep k (hd B (by simp)), h.ref.keep k (fun b hb => hd b (by simp [hb])), h.inv, h.apart, h.lo, Nat.le_trans h.size k.size⟩
/-- Two tables, and the document's, apart from one another. -/
structure TTwo (w0 w : World) (B1 B2 : Nat) (q1 q2 : Value) (s1 s2 : Tb) (G1 G2 : List Nat) : Prop where
  one : TDuo w w0.heap.size B1 q1 s1 G1
  two : TDuo w w0.heap.size B2 q2 s2 G2
  apart : ∀ b ∈ B1 :: G1, b ∉ B2 :: G2
  bel : Below w0.heap.size w0 w
theorem TTwo.swap {w0 w : World} {B1 B2 : Nat} {q1 q2 : Value} {s1 s2 : Tb} {G1 G2 : List Nat} (h : TTwo w0 w B1 B2 q1 q2 s1 s2 G1 G2) : TTwo w0 w B2 B1 q2 q1 s2 s1 G2 G1 :=
  ⟨h.two, h.one, fun b hb hm => h.apart b hm hb, h.bel⟩
theorem TTwo.next {w0 w w' : World} {B1 B2 : Nat} {q1 q2 : Value} {s1 s2 s' : Tb} {G1 G2 G' : List Nat} (h : TTwo w0 w B1 B2 q1 q2 s1 s2 G1 G2) (hd : TDuo w' w0.heap.size B1 q1 s' G') (hn : Next (B1 :: G1) (B1 :: G') w w') : TTwo w0 w' B1 B2 q1 q2 s' s2 G' G2 :=
  ⟨hd, h.two.keep hn.1 (fun b hb hm => h.apart b hm hb), fun b hb hm => by
    rcases hn.2 b hb with e | e
    · exact h.apart b e hm
    · have := (h.two.lt b hm).2; omega, h.bel.trans (hn.1.below h.bel.size (fun b hb => (h.one.lt b hb).1))⟩
theorem TTwo.later {w0 w w' : World} {B1 B2 : Nat} {q1 q2 : Value} {s1 s2 : Tb} {G1 G2 : List Nat} (h : TTwo w0 w B1 B2 q1 q2 s1 s2 G1 G2) (hb : Below w.heap.size w w') : TTwo w0 w' B1 B2 q1 q2 s1 s2 G1 G2 :=
  ⟨h.one.below hb, h.two.below hb, h.apart, below_then h.bel hb⟩

set_option maxRecDepth 100000 in
theorem tapart_no1 (w : World) (m o : Int) (va : Option Addr) (n vcap : Nat) (h : ¬ (1 ≤ m ∧ m ≤ 24)) (ho : ¬ (1 ≤ o ∧ o ≤ 24)) :
    Calls Try.prog 7 #[.int .i64 m, .slice va n vcap, .int .i64 o] w fun e w' => e = .returned (.bool true) ∧ Below w.heap.size w w' := by
  have HN : Hid (∀ w : World, Calls Try.prog 9 #[.int .i64 m] w fun e w' => e = .returned (.tuple #[.pointer none, .int .i64 1]) ∧ w' = w) := fun w => tnew_no w m h
  have HO : Hid (∀ w : World, Calls Try.prog 9 #[.int .i64 o] w fun e w' => e = .returned (.tuple #[.pointer none, .int .i64 1]) ∧ w' = w) := fun w => tnew_no w o ho
  clear h ho
  go_enter Try.func7, Try.ntmps7
  go_wp2_with fail
  refine (HN.out _).mono ?_
  rintro e w1 ⟨rfl, rfl⟩
  go_wp2_with fail
  refine (HO.out _).mono ?_
  rintro e w2 ⟨rfl, rfl⟩
  go_wp2
  go_ret
  exact ⟨rfl, Below.refl _ _⟩
set_option maxRecDepth 100000 in
theorem tapart_no2 (w : World) (m : Int) (o : Nat) (va : Option Addr) (n vcap : Nat) (h : ¬ (1 ≤ m ∧ m ≤ 24)) (ho : 1 ≤ o ∧ o ≤ 24) :
    Calls Try.prog 7 #[.int .i64 m, .slice va n vcap, .int .i64 (o : Int)] w fun e w' => e = .returned (.bool true) ∧ Below w.heap.size w w' := by
  have HN : Hid (∀ w : World, Calls Try.prog 9 #[.int .i64 m] w fun e w' => e = .returned (.tuple #[.pointer none, .int .i64 1]) ∧ w' = w) := fun w => tnew_no w m h
  have HO : Hid (∀ w : World, Calls Try.prog 9 #[.int .i64 (o : Int)] w fun e w' => ∃ B, e = .returned (.tuple #[.pointer (some ⟨B, 0, none⟩), .int .i64 0]) ∧ w.heap.size ≤ B ∧ TabAt w' B (empty o) ∧ Below w.heap.size w w') := fun w => tnew_yes w o ho.1 ho.2
  clear h ho
  go_enter Try.func7, Try.ntmps7
  go_wp2_with fail
  refine (HN.out _).mono ?_
  rintro e w1 ⟨rfl, rfl⟩
  go_wp2_with fail
  refine (HO.out _).mono ?_
  rintro e w2 ⟨B, rfl, _, _, hb⟩
  have HB : Hid (Below w1.heap.size w1 w2) := hb
  clear hb
  go_wp2
  go_ret
  exact ⟨rfl, HB.out⟩
set_option maxRecDepth 100000 in
theorem tapart_no3 (w : World) (m : Nat) (o : Int) (va : Option Addr) (n vcap : Nat) (h : 1 ≤ m ∧ m ≤ 24) (ho : ¬ (1 ≤ o ∧ o ≤ 24)) :
    Calls Try.prog 7 #[.int .i64 (m : Int), .slice va n vcap, .int .i64 o] w fun e w' => e = .returned (.bool true) ∧ Below w.heap.size w w' := by
  have HN : Hid (∀ w : World, Calls Try.prog 9 #[.int .i64 (m : Int)] w fun e w' => ∃ B, e = .returned (.tuple #[.pointer (some ⟨B, 0, none⟩), .int .i64 0]) ∧ w.heap.size ≤ B ∧ TabAt w' B (empty m) ∧ Below w.heap.size w w') := fun w => tnew_yes w m h.1 h.2
  have HO : Hid (∀ w : World, Calls Try.prog 9 #[.int .i64 o] w fun e w' => e = .returned (.tuple #[.pointer none, .int .i64 1]) ∧ w' = w) := fun w => tnew_no w o ho
  clear h ho
  go_enter Try.func7, Try.ntmps7
  go_wp2_with fail
  refine (HN.out _).mono ?_
  rintro e w1 ⟨B, rfl, _, _, hb⟩
  have HB : Hid (Below w.heap.size w w1) := hb
  clear hb
  go_wp2_with fail
  refine (HO.out _).mono ?_
  rintro e w2 ⟨rfl, rfl⟩
  go_wp2
  go_ret
  exact ⟨rfl, HB.out⟩

set_option maxRecDepth 100000 in
set_option maxHeartbeats 3200000 in
theorem tapart_yes (w : World) (m o : Nat) (hm : 1 ≤ m ∧ m ≤ 24) (ho : 1 ≤ o ∧ o ≤ 24) (v : Value) (n : Nat) (f : Nat → Nat → Int) (hv : CLst w v 3 n f) :
    Calls Try.prog 7 #[.int .i64 (m : Int), v, .int .i64 (o : Int)] w fun e w' => e = .returned (.bool true) ∧ Below w.heap.size w w' := by
  have HN : Hid (∀ (w : World) (m : Nat), 1 ≤ m ∧ m ≤ 24 → Calls Try.prog 9 #[.int .i64 (m : Int)] w fun e w' => ∃ B, e = .returned (.tuple #[.pointer (some ⟨B, 0, none⟩), .int .i64 0]) ∧ w.heap.size ≤ B ∧ TabAt w' B (empty m) ∧ Below w.heap.size w w') := fun w m h => tnew_yes w m h.1 h.2
  have HR : Hid (∀ (w : World) (m : Nat), 1 ≤ m ∧ m ≤ 24 → Calls Try.prog 10 #[.int .i64 (m : Int)] w fun e w' => ∃ p G, e = .returned (.tuple #[p, .int .i64 0]) ∧ RTab w' w.heap.size p (empty m) G ∧ Below w.heap.size w w') := fun w m h => rnew_yes w m h.1 h.2
  have HM : Hid (1 ≤ m ∧ m ≤ 24) := hm
  have HMO : Hid (1 ≤ o ∧ o ≤ 24) := ho
  obtain ⟨va, vcap, rfl, hbig, hl⟩ := hv
  have HC : Hid (∀ i, i < n → ∃ x, va = some x ∧ x.block < w.heap.size ∧ ∀ j, j < 3 → w.cell? ((x.add (i * 3)).add j) = some (.int .i64 (f i j))) := by
    intro i hi
    rcases hl with h0 | ⟨x, hx, hxb, hcc⟩
    · exact absurd hi (by omega)
    · exact ⟨x, hx, hxb, hcc i hi⟩
  clear hl hm ho
  go_enter Try.func7, Try.ntmps7
  go_wp2_with fail
  refine (HN.out _ _ HM.out).mono ?_
  rintro e w1 ⟨B1, rfl, hB1, ht1, hb1⟩
  have HW1 : Hid (w.heap.size ≤ B1 ∧ TabAt w1 B1 (empty m) ∧ Below w.heap.size w w1) := ⟨hB1, ht1, hb1⟩
  clear hB1 ht1 hb1
  go_wp2_with fail
  refine (HN.out _ _ HMO.out).mono ?_
  rintro e w2 ⟨B2, rfl, hB2, ht2, hb2⟩
  have HW2 : Hid (w1.heap.size ≤ B2 ∧ TabAt w2 B2 (empty o) ∧ Below w1.heap.size w1 w2) := ⟨hB2, ht2, hb2⟩
  clear hB2 ht2 hb2
  go_wp2_with fail
  refine (HR.out _ _ HM.out).mono ?_
  rintro e w3 ⟨q1, G1, rfl, hr1, hb3⟩
  obtain ⟨X1, rfl⟩ := hr1.ptr
  have HW3 : Hid (RTab w3 w2.heap.size (.pointer (some ⟨X1, 0, none⟩)) (empty m) G1 ∧ Below w2.heap.size w2 w3) := ⟨hr1, hb3⟩
  clear hr1 hb3
  go_wp2_with fail
  refine (HR.out _ _ HMO.out).mono ?_
  rintro e w4 ⟨q2, G2, rfl, hr2, hb4⟩
  obtain ⟨X2, rfl⟩ := hr2.ptr
  have HW4 : Hid (TTwo w w4 B1 B2 (.pointer (some ⟨X1, 0, none⟩)) (.pointer (some ⟨X2, 0, none⟩)) (empty m) (empty o) G1 G2) := by
    obtain ⟨a1, a2, a3⟩ := HW1.out
    obtain ⟨b1, b2, b3⟩ := HW2.out
    obtain ⟨c1, c2⟩ := HW3.out
    have l1 := heap_lt a2
    have l2 := heap_lt b2
    have z1 := a3.size
    have z2 := b3.size
    have z3 := c2.size
    have z4 := hb4.size
    refine ⟨⟨((a2.below b3).below c2).below hb4, (c1.below hb4).base (by omega), empty_inv HM.out.1 HM.out.2, fun hm => ?_, a1, by omega⟩, ⟨(b2.below c2).below hb4, hr2.base (by omega), empty_inv HMO.out.1 HMO.out.2, fun hm => ?_, by omega, by omega⟩, fun b hb hm => ?_, below_then (below_then (below_then a3 b3) c2) hb4⟩
    · have := (c1.lt _ hm).1; omega
    · have := (hr2.lt _ hm).1; omega
    · simp only [List.mem_cons] at hb hm
      rcases hb with rfl | hb
      · rcases hm with e | hm
        · omega
        · have := (hr2.lt _ hm).1; omega
      · have k1 := c1.lt _ hb
        rcases hm with rfl | hm
        · omega
        · have := (hr2.lt _ hm).1; omega
  clear hr2 hb4 HW1 HW2 HW3
  go_wp2
  go_loopw [15] (fun iv wr => ∃ i : Nat, i ≤ n ∧ iv = .int .i64 i ∧ ∃ s1 s2 G1 G2, TTwo w wr B1 B2 (.pointer (some ⟨X1, 0, none⟩)) (.pointer (some ⟨X2, 0, none⟩)) s1 s2 G1 G2) (fun iv _ => n - (intOf iv).toNat)
  case atStart => exact ⟨0, Nat.zero_le _, rfl, _, _, _, _, HW4.out⟩
  case round =>
    obtain ⟨j, hj, rfl, s1, s2, G1, G2, hway⟩ := hrel
    have HW : Hid (TTwo w wr B1 B2 (.pointer (some ⟨X1, 0, none⟩)) (.pointer (some ⟨X2, 0, none⟩)) s1 s2 G1 G2) := hway
    clear hway HW4
    by_cases hlt : j < n
    · obtain ⟨x, rfl, hxb, hrow⟩ := HC.out j hlt
      obtain ⟨d0, d1, d2⟩ := CLst.three (w := wr) j (fun k hk => cell_later HW.out.bel (by rw [add_block, add_block]; exact hxb) (hrow k hk))
      clear hrow
      have hd : decide ((j : Int) < (n : Int)) = true := by simp; omega
      have hx1 : (j : Int) < (n : Int) := by omega
      by_cases h3 : (j : Int) % 3 = 1
      · have he : ((j : Int) % 3 == 1) = true := by simp; omega
        have HDO : Hid (Calls Try.prog 11 #[.pointer (some ⟨B2, 0, none⟩), .pointer (some ⟨X2, 0, none⟩), .agg #[.int .i64 (f j 0), .int .i64 (f j 1), .int .i64 (f j 2)]] wr fun e w' => e = .returned (.bool true) ∧ ∃ s' G', TDuo w' w.heap.size B2 (.pointer (some ⟨X2, 0, none⟩)) s' G' ∧ Next (B2 :: G2) (B2 :: G') wr w' ∧ s'.m = s2.m) := one_any HW.out.two (f j 0) (f j 1) (f j 2)
        generalize f j 0 = z0 at *
        generalize f j 1 = z1 at *
        generalize f j 2 = z2 at *
        go_wp2_with fail
        refine HDO.out.mono ?_
        rintro e w7 ⟨rfl, s7, G7, hd7, hn7, _⟩
        have HW7 : Hid (TTwo w w7 B1 B2 (.pointer (some ⟨X1, 0, none⟩)) (.pointer (some ⟨X2, 0, none⟩)) s1 s7 G1 G7) := (HW.out.swap.next hd7 hn7).swap
        clear hd7 hn7 d0 d1 d2
        go_wp2
        go_roundw
        case rel => exact ⟨j + 1, by omega, by go_num, s1, s7, G1, G7, HW7.out⟩
        case measure => simp [intOf]; omega
      · have he : ((j : Int) % 3 == 1) = false := by simp; omega
        have HDO : Hid (Calls Try.prog 11 #[.pointer (some ⟨B1, 0, none⟩), .pointer (some ⟨X1, 0, none⟩), .agg #[.int .i64 (f j 0), .int .i64 (f j 1), .int .i64 (f j 2)]] wr fun e w' => e = .returned (.bool true) ∧ ∃ s' G', TDuo w' w.heap.size B1 (.pointer (some ⟨X1, 0, none⟩)) s' G' ∧ Next (B1 :: G1) (B1 :: G') wr w' ∧ s'.m = s1.m) := one_any HW.out.one (f j 0) (f j 1) (f j 2)
        generalize f j 0 = z0 at *
        generalize f j 1 = z1 at *
        generalize f j 2 = z2 at *
        go_wp2_with fail
        refine HDO.out.mono ?_
        rintro e w7 ⟨rfl, s7, G7, hd7, hn7, _⟩
        have HW7 : Hid (TTwo w w7 B1 B2 (.pointer (some ⟨X1, 0, none⟩)) (.pointer (some ⟨X2, 0, none⟩)) s7 s2 G7 G2) := HW.out.next hd7 hn7
        clear hd7 hn7 d0 d1 d2
        go_wp2
        go_roundw
        case rel => exact ⟨j + 1, by omega, by go_num, s7, s2, G7, G2, HW7.out⟩
        case measure => simp [intOf]; omega
    · obtain rfl : j = n := by omega
      clear hlt hj
      go_wp2_with fail
      refine (list_any HW.out.one.tab HW.out.one.inv).mono ?_
      rintro e w1a ⟨v1, rfl, ho1, hb1⟩
      have HAa : Hid (TTwo w w1a B1 B2 (.pointer (some ⟨X1, 0, none⟩)) (.pointer (some ⟨X2, 0, none⟩)) s1 s2 G1 G2) := HW.out.later hb1
      have HOa : Hid (∃ b, w1a.ownsRow b 41 2 v1 s1.R.length (rowsC s1.R)) := ⟨_, ho1⟩
      obtain ⟨a1a, c1a, rfl⟩ := own_slice ho1
      clear ho1 hb1
      go_wp2_with fail
      refine (rlist_any HAa.out.one.ref HAa.out.one.inv).mono ?_
      rintro e w2a ⟨v2, rfl, ho2, hb2⟩
      have HBa : Hid (TTwo w w2a B1 B2 (.pointer (some ⟨X1, 0, none⟩)) (.pointer (some ⟨X2, 0, none⟩)) s1 s2 G1 G2) := HAa.out.later hb2
      have HCa : Hid (Calls Try.prog 12 #[.slice a1a s1.R.length c1a, v2] w2a fun e w' => e = .returned (.bool true) ∧ ∃ n, w' = w2a.drewN n) := by
        obtain ⟨b, hb⟩ := HOa.out
        exact samew_any _ (own_keep hb (Keep.of_below hb2 []) (fun _ _ => by simp)) ho2 (by have := Nat.le_trans HAa.out.one.inv.len HAa.out.one.inv.m24; omega)
      obtain ⟨a2a, c2a, rfl⟩ := own_slice ho2
      clear ho2 hb2
      go_wp2_with fail
      refine HCa.out.mono ?_
      rintro e w3a ⟨rfl, nd, hw3⟩
      have HEa : Hid (TTwo w w3a B1 B2 (.pointer (some ⟨X1, 0, none⟩)) (.pointer (some ⟨X2, 0, none⟩)) s1 s2 G1 G2) := by rw [hw3]; exact HBa.out.later (below_drawn (Below.refl _ _) _)
      clear hw3 HCa HOa HAa HBa
      go_wp2_with fail
      refine (list_any HEa.out.two.tab HEa.out.two.inv).mono ?_
      rintro e w1b ⟨v1, rfl, ho1, hb1⟩
      have HAb : Hid (TTwo w w1b B1 B2 (.pointer (some ⟨X1, 0, none⟩)) (.pointer (some ⟨X2, 0, none⟩)) s1 s2 G1 G2) := HEa.out.later hb1
      have HOb : Hid (∃ b, w1b.ownsRow b 41 2 v1 s2.R.length (rowsC s2.R)) := ⟨_, ho1⟩
      obtain ⟨a1b, c1b, rfl⟩ := own_slice ho1
      clear ho1 hb1
      go_wp2_with fail
      refine (rlist_any HAb.out.two.ref HAb.out.two.inv).mono ?_
      rintro e w2b ⟨v2, rfl, ho2, hb2⟩
      have HBb : Hid (TTwo w w2b B1 B2 (.pointer (some ⟨X1, 0, none⟩)) (.pointer (some ⟨X2, 0, none⟩)) s1 s2 G1 G2) := HAb.out.later hb2
      have HCb : Hid (Calls Try.prog 12 #[.slice a1b s2.R.length c1b, v2] w2b fun e w' => e = .returned (.bool true) ∧ ∃ n, w' = w2b.drewN n) := by
        obtain ⟨b, hb⟩ := HOb.out
        exact samew_any _ (own_keep hb (Keep.of_below hb2 []) (fun _ _ => by simp)) ho2 (by have := Nat.le_trans HAb.out.two.inv.len HAb.out.two.inv.m24; omega)
      obtain ⟨a2b, c2b, rfl⟩ := own_slice ho2
      clear ho2 hb2
      go_wp2_with fail
      refine HCb.out.mono ?_
      rintro e w3b ⟨rfl, nd, hw3⟩
      have HEb : Hid (TTwo w w3b B1 B2 (.pointer (some ⟨X1, 0, none⟩)) (.pointer (some ⟨X2, 0, none⟩)) s1 s2 G1 G2) := by rw [hw3]; exact HBb.out.later (below_drawn (Below.refl _ _) _)
      clear hw3 HCb HOb HAb HBb
      go_wp2
      go_ret
      exact ⟨rfl, HEb.out.bel⟩
end Go.Proofs.Ytpkbjdpoflipmaa
