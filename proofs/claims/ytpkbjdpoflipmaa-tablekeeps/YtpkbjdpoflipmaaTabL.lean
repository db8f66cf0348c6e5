/- The law TablePlays, walked. -/
import Derived.Test.YtpkbjdpoflipmaaTabK
namespace Go.Proofs.Ytpkbjdpoflipmaa
open Go.ChangeShapes Go.WideShapes Go.ChangeAt Go.RowKit

/-- Both tables under way, above what was there. -/
structure TWay (w0 w : World) (B : Nat) (q : Value) (s : Tb) (G : List Nat) : Prop where
  duo : TDuo w w0.heap.size B q s G
  bel : Below w0.heap.size w0 w
theorem TWay.next {w0 w w' : World} {B : Nat} {q : Value} {s s' : Tb} {G G' : List Nat} (h : TWay w0 w B q s G) (hd : TDuo w' w0.heap.size B q s' G') (hn : Next (B :: G) (B :: G') w w') : TWay w0 w' B q s' G' :=
  ⟨hd, h.bel.trans (hn.1.below h.bel.size (fun b hb => by
    simp only [List.mem_cons] at hb
    rcases hb with rfl | hb
    · exact h.duo.lo
    · exact (h.duo.ref.lt b hb).1))⟩
theorem TWay.later {w0 w w' : World} {B : Nat} {q : Value} {s : Tb} {G : List Nat} (h : TWay w0 w B q s G) (hb : Below w.heap.size w w') : TWay w0 w' B q s G := ⟨h.duo.below hb, below_then h.bel hb⟩
/-- Both are made, one behind the other. -/
theorem TWay.make {w0 w1 w2 : World} {B m : Nat} {q : Value} {G : List Nat} (h1 : 1 ≤ m) (h24 : m ≤ 24) (hB : w0.heap.size ≤ B) (ht : TabAt w1 B (empty m)) (hb1 : Below w0.heap.size w0 w1) (hr : RTab w2 w1.heap.size q (empty m) G) (hb2 : Below w1.heap.size w1 w2) : TWay w0 w2 B q (empty m) G :=
  ⟨⟨ht.below hb2, hr.base hb1.size, empty_inv h1 h24, fun hm => by have := (hr.lt B hm).1; have := heap_lt ht; omega, hB, Nat.le_trans hb1.size hb2.size⟩, below_then hb1 hb2⟩

set_option maxRecDepth 100000 in
theorem tplays_no (w : World) (m : Int) (va : Option Addr) (n vcap : Nat) (h : ¬ (1 ≤ m ∧ m ≤ 24)) :
    Calls Try.prog 3 #[.int .i64 m, .slice va n vcap] w fun e w' => e = .returned (.bool true) ∧ Below w.heap.size w w' := by
  have HN : Hid (∀ w : World, Calls Try.prog 9 #[.int .i64 m] w fun e w' => e = .returned (.tuple #[.pointer none, .int .i64 1]) ∧ w' = w) := fun w => tnew_no w m h
  have HR : Hid (∀ w : World, Calls Try.prog 10 #[.int .i64 m] w fun e w' => e = .returned (.tuple #[.pointer none, .int .i64 1]) ∧ w' = w) := fun w => rnew_no w m h
  clear h
  go_enter Try.func3, Try.ntmps3
  go_wp2_with fail
  refine (HN.out _).mono ?_
  rintro e w1 ⟨rfl, rfl⟩
  go_wp2_with fail
  refine (HR.out _).mono ?_
  rintro e w2 ⟨rfl, rfl⟩
  go_wp2
  go_ret
  exact ⟨rfl, Below.refl _ _⟩

set_option maxRecDepth 100000 in
set_option maxHeartbeats 1600000 in
theorem tplays_yes (w : World) (m : Nat) (h1 : 1 ≤ m) (h24 : m ≤ 24) (v : Value) (n : Nat) (f : Nat → Nat → Int) (hv : CLst w v 3 n f) :
    Calls Try.prog 3 #[.int .i64 (m : Int), v] w fun e w' => e = .returned (.bool true) ∧ Below w.heap.size w w' := by
  have HN : Hid (∀ w : World, Calls Try.prog 9 #[.int .i64 (m : Int)] w fun e w' => ∃ B, e = .returned (.tuple #[.pointer (some ⟨B, 0, none⟩), .int .i64 0]) ∧ w.heap.size ≤ B ∧ TabAt w' B (empty m) ∧ Below w.heap.size w w') := fun w => tnew_yes w m h1 h24
  have HR : Hid (∀ w : World, Calls Try.prog 10 #[.int .i64 (m : Int)] w fun e w' => ∃ p G, e = .returned (.tuple #[p, .int .i64 0]) ∧ RTab w' w.heap.size p (empty m) G ∧ Below w.heap.size w w') := fun w => rnew_yes w m h1 h24
  have HM : Hid (1 ≤ m ∧ m ≤ 24) := ⟨h1, h24⟩
  obtain ⟨va, vcap, rfl, hbig, hl⟩ := hv
  have HC : Hid (∀ i, i < n → ∃ x, va = some x ∧ x.block < w.heap.size ∧ ∀ j, j < 3 → w.cell? ((x.add (i * 3)).add j) = some (.int .i64 (f i j))) := by
    intro i hi
    rcases hl with h0 | ⟨x, hx, hxb, hcc⟩
    · exact absurd hi (by omega)
    · exact ⟨x, hx, hxb, hcc i hi⟩
  clear hl h1 h24
  go_enter Try.func3, Try.ntmps3
  go_wp2_with fail
  refine (HN.out _).mono ?_
  rintro e w1 ⟨B, rfl, hB, ht, hb1⟩
  have HW1 : Hid (w.heap.size ≤ B ∧ TabAt w1 B (empty m) ∧ Below w.heap.size w w1) := ⟨hB, ht, hb1⟩
  clear hB ht hb1
  go_wp2_with fail
  refine (HR.out _).mono ?_
  rintro e w2 ⟨q0, G2, rfl, hr, hb2⟩
  obtain ⟨X, rfl⟩ := hr.ptr
  have HW2 : Hid (TWay w w2 B (.pointer (some ⟨X, 0, none⟩)) (empty m) G2) := TWay.make HM.out.1 HM.out.2 HW1.out.1 HW1.out.2.1 HW1.out.2.2 hr hb2
  clear hr hb2 HW1
  go_wp2
  go_loopw [9] (fun iv wr => ∃ i : Nat, i ≤ n ∧ iv = .int .i64 i ∧ ∃ s G, TWay w wr B (.pointer (some ⟨X, 0, none⟩)) s G) (fun iv _ => n - (intOf iv).toNat)
  case atStart => exact ⟨0, Nat.zero_le _, rfl, _, G2, HW2.out⟩
  case round =>
    obtain ⟨i, hi, rfl, s, G, hway⟩ := hrel
    have HW : Hid (TWay w wr B (.pointer (some ⟨X, 0, none⟩)) s G) := hway
    clear hway
    by_cases hlt : i < n
    · obtain ⟨x, rfl, hxb, hrow⟩ := HC.out i hlt
      obtain ⟨d0, d1, d2⟩ := CLst.three (w := wr) i (fun j hj => cell_later HW.out.bel (by rw [add_block, add_block]; exact hxb) (hrow j hj))
      clear hrow
      have hd : decide ((i : Int) < (n : Int)) = true := by simp; omega
      have hx1 : (i : Int) < (n : Int) := by omega
      have HDO := one_any HW.out.duo (f i 0) (f i 1) (f i 2)
      have HDO' : Hid (Calls Try.prog 11 #[.pointer (some ⟨B, 0, none⟩), .pointer (some ⟨X, 0, none⟩), .agg #[.int .i64 (f i 0), .int .i64 (f i 1), .int .i64 (f i 2)]] wr fun e w' => e = .returned (.bool true) ∧ ∃ s' G', TDuo w' w.heap.size B (.pointer (some ⟨X, 0, none⟩)) s' G' ∧ Next (B :: G) (B :: G') wr w' ∧ s'.m = s.m) := HDO
      clear HDO
      generalize f i 0 = z0 at *
      generalize f i 1 = z1 at *
      generalize f i 2 = z2 at *
      go_wp2_with fail
      refine HDO'.out.mono ?_
      rintro e w7 ⟨rfl, s7, G7, hd7, hn7, _⟩
      have HW7 : Hid (TWay w w7 B (.pointer (some ⟨X, 0, none⟩)) s7 G7) := HW.out.next hd7 hn7
      clear hd7 hn7 d0 d1 d2
      go_wp2
      go_roundw
      case rel => exact ⟨i + 1, by omega, by go_num, s7, G7, HW7.out⟩
      case measure => simp [intOf]; omega
    · obtain rfl : i = n := by omega
      clear hlt hi
      go_wp2_with fail
      refine (list_any HW.out.duo.tab HW.out.duo.inv).mono ?_
      rintro e w1a ⟨v1, rfl, ho1, hb1⟩
      have HAa : Hid (TWay w w1a B (.pointer (some ⟨X, 0, none⟩)) s G) := HW.out.later hb1
      have HOa : Hid (∃ b, w1a.ownsRow b 41 2 v1 s.R.length (rowsC s.R)) := ⟨_, ho1⟩
      obtain ⟨a1a, c1a, rfl⟩ := own_slice ho1
      clear ho1 hb1
      go_wp2_with fail
      refine (rlist_any HAa.out.duo.ref HAa.out.duo.inv).mono ?_
      rintro e w2a ⟨v2, rfl, ho2, hb2⟩
      have HBa : Hid (TWay w w2a B (.pointer (some ⟨X, 0, none⟩)) s G) := HAa.out.later hb2
      have HCa : Hid (Calls Try.prog 12 #[.slice a1a s.R.length c1a, v2] w2a fun e w' => e = .returned (.bool true) ∧ ∃ n, w' = w2a.drewN n) := by
        obtain ⟨b, hb⟩ := HOa.out
        exact samew_any _ (own_keep hb (Keep.of_below hb2 []) (fun _ _ => by simp)) ho2 (by have := Nat.le_trans HAa.out.duo.inv.len HAa.out.duo.inv.m24; omega)
      obtain ⟨a2a, c2a, rfl⟩ := own_slice ho2
      clear ho2 hb2
      go_wp2_with fail
      refine HCa.out.mono ?_
      rintro e w3a ⟨rfl, nd, hw3⟩
      have HEa : Hid (TWay w w3a B (.pointer (some ⟨X, 0, none⟩)) s G) := by rw [hw3]; exact HBa.out.later (below_drawn (Below.refl _ _) _)
      clear hw3 HCa HOa HAa HBa
      go_wp2_with fail
      refine (slots_any HEa.out.duo.tab HEa.out.duo.inv).mono ?_
      rintro e w1b ⟨v1, rfl, ho1, hb1⟩
      have HAb : Hid (TWay w w1b B (.pointer (some ⟨X, 0, none⟩)) s G) := HEa.out.later hb1
      have HOb : Hid (∃ b, w1b.ownsRow b 3 1 v1 (2 ^ s.k) (slotsC s)) := ⟨_, ho1⟩
      obtain ⟨a1b, c1b, rfl⟩ := own_slice ho1
      clear ho1 hb1
      go_wp2_with fail
      refine (rslots_any HAb.out.duo.ref HAb.out.duo.inv).mono ?_
      rintro e w2b ⟨v2, rfl, ho2, hb2⟩
      have HBb : Hid (TWay w w2b B (.pointer (some ⟨X, 0, none⟩)) s G) := HAb.out.later hb2
      have HCb : Hid (Calls Try.prog 15 #[.slice a1b (2 ^ s.k) c1b, v2] w2b fun e w' => e = .returned (.bool true) ∧ ∃ n, w' = w2b.drewN n) := by
        obtain ⟨b, hb⟩ := HOb.out
        exact samei_any _ (f := slotV s) (fun q hq => slotsC_get s q hq) (own_keep hb (Keep.of_below hb2 []) (fun _ _ => by simp)) ho2 (by have := HAb.out.duo.inv.n64; have := HAb.out.duo.inv.n64; omega)
      obtain ⟨a2b, c2b, rfl⟩ := own_slice ho2
      clear ho2 hb2
      go_wp2_with fail
      refine HCb.out.mono ?_
      rintro e w3b ⟨rfl, nd, hw3⟩
      have HEb : Hid (TWay w w3b B (.pointer (some ⟨X, 0, none⟩)) s G) := by rw [hw3]; exact HBb.out.later (below_drawn (Below.refl _ _) _)
      clear hw3 HCb HOb HAb HBb
      go_wp2
      go_ret
      exact ⟨rfl, HEb.out.bel⟩
end Go.Proofs.Ytpkbjdpoflipmaa
