/- The law MemPlays, walked. -/
import Derived.Test.YtbfhhignhbamnaaMemJ
namespace Go.Proofs.Ytbfhhignhbamnaa
open Go.ChangeShapes Go.WideShapes Go.ChangeAt Go.RowKit

set_option maxRecDepth 100000 in
set_option maxHeartbeats 1600000 in
theorem plays_no (w : World) (c r : Int) (va : Option Addr) (n vcap : Nat) (h : ¬ (1 ≤ c ∧ c ≤ 1024 ∧ 1 ≤ r ∧ r ≤ 16)) :
    Calls Try.prog 3 #[.int .i64 c, .int .i64 r, .slice va n vcap] w fun e w' => e = .returned (.bool true) ∧ Below w.heap.size w w' := by
  have HS : Hid (∀ w : World, Calls Try.prog 6 #[] w fun e w' => e = .returned (.bool true) ∧ Below w.heap.size w w') := shown_any
  have HT : Hid (∀ w : World, Calls Try.prog 8 #[.int .i64 c, .int .i64 r] w fun e w' => e = .returned (.bool false) ∧ w' = w) := fun w => by
    have h' : takes c r = false := by simp [takes]; omega
    rw [← h']; exact takes_any c r w
  have HN : Hid (∀ w : World, Calls Try.prog 7 #[.int .i64 c, .int .i64 r] w fun e w' => e = .returned (.tuple #[.pointer none, .int .i64 1]) ∧ w' = w) := fun w => new_no w c r h
  clear h
  go_enter Try.func3, Try.ntmps3
  go_wp2_with fail
  refine (HS.out _).mono ?_
  rintro e w1 ⟨rfl, hb1⟩
  have HB : Hid (Below w.heap.size w w1) := hb1
  clear hb1
  go_wp2_with fail
  refine (HN.out _).mono ?_
  rintro e w2 ⟨rfl, rfl⟩
  go_wp2_with fail
  refine (HT.out _).mono ?_
  rintro e w3 ⟨rfl, rfl⟩
  go_wp2
  go_ret
  exact ⟨rfl, HB.out⟩

theorem refAt_base {w : World} {base base' : Nat} {p : Value} {c r : Nat} {L : List Ac} {F : List Nat} (h : RefAt w base p c r L F) (hb : base' ≤ base) : RefAt w base' p c r L F := by
  obtain ⟨R, v, h⟩ := h
  exact ⟨R, v, h.p, h.m, own_base h.own hb, h.F, by have := h.bR; omega⟩
/-- Both memories under way, above what was there. -/
structure Way (w0 w : World) (base : Nat) (p q : Value) (c r : Nat) (L : List Ac) (F G : List Nat) : Prop where
  duo : Duo w base p q c r L L F G
  bel : Below w0.heap.size w0 w
  lo : w0.heap.size ≤ base
  size : base ≤ w.heap.size
theorem Way.next {w0 w w' : World} {base : Nat} {p q : Value} {c r : Nat} {L L' : List Ac} {F G F' G' : List Nat} (h : Way w0 w base p q c r L F G) (hd : Duo w' base p q c r L' L' F' G') (hn : Next (F ++ G) (F' ++ G') w w') : Way w0 w' base p q c r L' F' G' :=
  ⟨hd, h.bel.trans (hn.below h.bel.size (fun b hb => by
    have hb1 := h.lo
    rcases List.mem_append.1 hb with h1 | h1
    · have := (h.duo.mem.lt b h1).1; omega
    · have := (h.duo.ref.lt b h1).1; omega)), h.lo, Nat.le_trans h.size hn.1.size⟩
theorem Way.later {w0 w w' : World} {base : Nat} {p q : Value} {c r : Nat} {L : List Ac} {F G : List Nat} (h : Way w0 w base p q c r L F G) (hb : Below w.heap.size w w') : Way w0 w' base p q c r L F G :=
  ⟨h.duo.below hb, below_then h.bel hb, h.lo, Nat.le_trans h.size hb.size⟩

set_option maxRecDepth 100000 in
set_option maxHeartbeats 3200000 in
theorem plays_yes (w : World) (c r : Nat) (hc : 1 ≤ c ∧ c ≤ 1024) (hr : 1 ≤ r ∧ r ≤ 16) (v : Value) (S : List Tk) (hv : ALst w v S) :
    Calls Try.prog 3 #[.int .i64 (c : Int), .int .i64 (r : Int), v] w fun e w' => e = .returned (.bool true) ∧ Below w.heap.size w w' := by
  have HS : Hid (∀ w : World, Calls Try.prog 6 #[] w fun e w' => e = .returned (.bool true) ∧ Below w.heap.size w w') := shown_any
  have HT : Hid (∀ w : World, Calls Try.prog 8 #[.int .i64 (c : Int), .int .i64 (r : Int)] w fun e w' => e = .returned (.bool true) ∧ w' = w) := fun w => by
    have h : takes (c : Int) (r : Int) = true := by simp [takes]; omega
    rw [← h]; exact takes_any c r w
  have HN : Hid (∀ w : World, Calls Try.prog 7 #[.int .i64 (c : Int), .int .i64 (r : Int)] w fun e w' => ∃ p F, e = .returned (.tuple #[p, .int .i64 0]) ∧ p ≠ .pointer none ∧ MemAt w' w.heap.size p c r [] F ∧ Below w.heap.size w w') := fun w => new_yes w c r hc hr
  have HZ : Hid (∀ (w : World) base p L F, MemAt w base p c r L F → Calls Try.prog 9 #[p] w fun e w' => e = .returned (.tuple #[.int .i64 (c : Int), .int .i64 (r : Int)]) ∧ Below w.heap.size w w') := fun w base p L F h => sizes_any h
  have HR : Hid (∀ w : World, Calls Try.prog 10 #[.int .i64 (c : Int), .int .i64 (r : Int)] w fun e w' => ∃ p G, e = .returned p ∧ RefAt w' w.heap.size p c r [] G ∧ Below w.heap.size w w') := rnew_any c r
  obtain ⟨va, vcap, rfl, hbig, hl⟩ := hv
  have HC : Hid (∀ q, q < S.length → ∃ x, va = some x ∧ x.block < w.heap.size ∧ Row8 w (x.add (q * 8)) (tkC (S.getD q noTk))) := by
    intro q hq
    rcases hl with rfl | ⟨x, hx, hxb, hcc⟩
    · exact absurd hq (by simp)
    · exact ⟨x, hx, hxb, hcc q hq⟩
  clear hl
  have HLN : Hid (∀ q, (logOf c r S q).length ≤ q) := logOf_len c r S
  have HGD : Hid (∀ q, Good c r (logOf c r S q)) := good_logOf c r S
  have HSU : Hid (∀ q, q < S.length → logOf c r S (q + 1) = stepL c r (logOf c r S q) (S.getD q noTk)) := logOf_succ c r S
  have HCR : Hid (c < 1000000 ∧ r < 1000000) := ⟨by omega, by omega⟩
  generalize hn : S.length = n at *
  clear hn
  go_enter Try.func3, Try.ntmps3
  go_wp2_with fail
  refine (HS.out _).mono ?_
  rintro e w1 ⟨rfl, hb1⟩
  have HB1 : Hid (Below w.heap.size w w1) := hb1
  clear hb1
  go_wp2_with fail
  refine (HN.out _).mono ?_
  rintro e w3 ⟨p, F3, rfl, _, hm, hb3⟩
  obtain ⟨M, rfl⟩ := hm.ptr
  have HM3 : Hid (MemAt w3 w1.heap.size (.pointer (some ⟨M, 0, none⟩)) c r [] F3) := hm
  have HB3 : Hid (Below w1.heap.size w1 w3) := hb3
  clear hm hb3
  go_wp2_with fail
  refine (HT.out _).mono ?_
  rintro e w4 ⟨rfl, rfl⟩
  have hc0 : ((c : Int) != (c : Int)) = false := by simp
  have hr0 : ((r : Int) != (r : Int)) = false := by simp
  go_wp2_with fail
  refine (HZ.out _ _ _ _ _ HM3.out).mono ?_
  rintro e w5 ⟨rfl, hb5⟩
  have HM5 : Hid (MemAt w5 w1.heap.size (.pointer (some ⟨M, 0, none⟩)) c r [] F3) := HM3.out.below hb5
  have HB5 : Hid (Below w1.heap.size w1 w5) := below_then HB3.out hb5
  clear hb5 HM3 HB3
  go_wp2_with fail
  refine (HR.out _).mono ?_
  rintro e w6 ⟨q0, G6, rfl, hr6, hb6⟩
  obtain ⟨R, rfl⟩ := hr6.ptr
  have HW6 : Hid (Way w w6 w1.heap.size (.pointer (some ⟨M, 0, none⟩)) (.pointer (some ⟨R, 0, none⟩)) c r [] F3 G6) :=
    ⟨⟨HM5.out.below hb6, refAt_base hr6 HB5.out.size, fun b hb hg => by have := (HM5.out.lt b hb).2; have := (hr6.lt b hg).1; omega⟩, below_then HB1.out (below_then HB5.out hb6), HB1.out.size, Nat.le_trans HB5.out.size hb6.size⟩
  clear hr6 hb6 HM5 HB5
  generalize hbs : w1.heap.size = bs at *
  clear hbs
  go_wp2
  go_loopw [14] (fun iv wr => ∃ q : Nat, q ≤ n ∧ iv = .int .i64 q ∧ ∃ F G, Way w wr bs (.pointer (some ⟨M, 0, none⟩)) (.pointer (some ⟨R, 0, none⟩)) c r (logOf c r S q) F G) (fun iv _ => n - (intOf iv).toNat)
  case atStart => exact ⟨0, Nat.zero_le _, rfl, F3, G6, HW6.out⟩
  case round =>
    obtain ⟨q, hq, rfl, F, G, hway⟩ := hrel
    have HW : Hid (Way w wr bs (.pointer (some ⟨M, 0, none⟩)) (.pointer (some ⟨R, 0, none⟩)) c r (logOf c r S q) F G) := hway
    clear hway
    by_cases hlt : q < n
    · obtain ⟨x, rfl, hxb, hrow⟩ := HC.out q hlt
      have hrow2 := hrow.later rfl HW.out.bel (by rw [add_block]; exact hxb)
      have hL : (logOf c r S q).length < 2199023255552 := by have := HLN.out q; omega
      have HDO : Hid (Calls Try.prog 11 #[.pointer (some ⟨M, 0, none⟩), .pointer (some ⟨R, 0, none⟩), .agg (tkC (S.getD q noTk))] wr fun e w' => e = .returned (.bool true) ∧ ∃ F' G', Duo w' bs (.pointer (some ⟨M, 0, none⟩)) (.pointer (some ⟨R, 0, none⟩)) c r (logOf c r S (q + 1)) (logOf c r S (q + 1)) F' G' ∧ Next (F ++ G) (F' ++ G') wr w') := by
        rw [Hid, HSU.out q hlt]
        exact does_any HW.out.duo HW.out.size hL (HGD.out q) _
      generalize S.getD q noTk = tkx at hrow2 HDO
      obtain ⟨tk, tt, ⟨ak, ai, aj⟩, to, tv, tn⟩ := tkx
      obtain ⟨d0, d1, d2, d3, d4, d5, d6, d7⟩ := row8_cells hrow2 rfl
      simp only [tkC, List.getElem_toArray, List.getElem_cons_zero, List.getElem_cons_succ] at d0 d1 d2 d3 d4 d5 d6 d7 HDO
      clear hrow2 hrow
      have hd : decide ((q : Int) < (n : Int)) = true := by simp; omega
      have hx1 : (q : Int) < (n : Int) := by omega
      go_wp2_with fail
      refine HDO.out.mono ?_
      rintro e w7 ⟨rfl, F7, G7, hd7, hn7⟩
      have HW7 : Hid (Way w w7 bs (.pointer (some ⟨M, 0, none⟩)) (.pointer (some ⟨R, 0, none⟩)) c r (logOf c r S (q + 1)) F7 G7) := HW.out.next hd7 hn7
      clear hd7 hn7 d0 d1 d2 d3 d4 d5 d6 d7
      go_wp2
      go_roundw
      case rel => exact ⟨q + 1, by omega, by go_num, F7, G7, HW7.out⟩
      case measure => simp [intOf]; omega
    · obtain rfl : q = n := by omega
      clear hlt hq
      have hL : (logOf c r S q).length < 2199023255552 := by have := HLN.out q; omega
      have HG := HGD.out q
      have HLG : Hid (∀ (w : World) F G, MemAt w bs (.pointer (some ⟨M, 0, none⟩)) c r (logOf c r S q) F → RefAt w bs (.pointer (some ⟨R, 0, none⟩)) c r (logOf c r S q) G → Calls Try.prog 12 #[.pointer (some ⟨M, 0, none⟩), .pointer (some ⟨R, 0, none⟩), .int .i64 0] w fun e w' => e = .returned (.bool true) ∧ Below w.heap.size w w') := fun w F G h1 h2 => logs_any h1 h2 hL 0
      have HTO : Hid (∀ (w : World) F G, MemAt w bs (.pointer (some ⟨M, 0, none⟩)) c r (logOf c r S q) F → RefAt w bs (.pointer (some ⟨R, 0, none⟩)) c r (logOf c r S q) G → Calls Try.prog 13 #[.pointer (some ⟨M, 0, none⟩), .pointer (some ⟨R, 0, none⟩)] w fun e w' => e = .returned (.bool true) ∧ Below w.heap.size w w') := fun w F G h1 h2 => ltouched_any h1 h2 hL HG HCR.out.1 HCR.out.2 HG
      clear HG
      go_wp2_with fail
      refine (HLG.out _ _ _ HW.out.duo.mem HW.out.duo.ref).mono ?_
      rintro e w8 ⟨rfl, hb8⟩
      have HW8 : Hid (Way w w8 bs (.pointer (some ⟨M, 0, none⟩)) (.pointer (some ⟨R, 0, none⟩)) c r (logOf c r S q) F G) := HW.out.later hb8
      clear hb8
      go_wp2_with fail
      refine (HTO.out _ _ _ HW8.out.duo.mem HW8.out.duo.ref).mono ?_
      rintro e w9 ⟨rfl, hb9⟩
      have HW9 : Hid (Way w w9 bs (.pointer (some ⟨M, 0, none⟩)) (.pointer (some ⟨R, 0, none⟩)) c r (logOf c r S q) F G) := HW8.out.later hb9
      clear hb9
      go_wp2
      go_ret
      exact ⟨rfl, HW9.out.bel⟩
end Go.Proofs.Ytbfhhignhbamnaa
