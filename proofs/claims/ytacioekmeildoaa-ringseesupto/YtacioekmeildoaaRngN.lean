/- The law RingSees, walked. -/
import Derived.Test.YtacioekmeildoaaRngL
import Derived.Test.YtacioekmeildoaaRngB
namespace Go.Proofs.Ytacioekmeildoaa
open Go.ChangeShapes Go.WideShapes Go.ChangeAt Go.RowKit

set_option maxRecDepth 100000 in
set_option maxHeartbeats 1600000 in
theorem ringSees_no (w : World) (c r : Int) (va : Option Addr) (n vcap : Nat) (h : ¬ (1 ≤ c ∧ c ≤ 1024 ∧ 1 ≤ r ∧ r ≤ 16)) :
    Calls Try.prog 5 #[.int .i64 c, .int .i64 r, .slice va n vcap] w fun e w' => e = .returned (.bool true) ∧ Below w.heap.size w w' := by
  have HT : Hid (∀ w : World, Calls Try.prog 16 #[.int .i64 c, .int .i64 r] w fun e w' => e = .returned (.bool false) ∧ w' = w) := fun w => by
    have h' : takes c r = false := by simp [takes]; omega
    rw [← h']; exact takes_any c r w
  clear h
  go_enter Try.func5, Try.ntmps5
  go_wp2_with fail
  refine (ringShown_any _).mono ?_
  rintro e wx ⟨rfl, hx⟩
  rw [hx]
  clear hx wx
  go_wp2_with fail
  refine (HT.out _).mono ?_
  rintro e wx ⟨rfl, hx⟩
  rw [hx]
  clear hx wx
  go_wp2
  go_ret
  exact ⟨rfl, Below.refl _ _⟩

theorem Way.drew {w0 w : World} {base : Nat} {p q : Value} {c r : Nat} {L : List Ac} {F G : List Nat} (h : Way w0 w base p q c r L F G) : Way w0 w.drew base p q c r L F G := h.later ⟨rfl, rfl, rfl, Nat.le_refl _, fun _ _ => rfl⟩
/-- The program's memory is an access ahead of the document's. -/
structure Way1 (w0 w : World) (base : Nat) (p q : Value) (c r : Nat) (L K : List Ac) (F G : List Nat) : Prop where
  duo : Duo w base p q c r L K F G
  bel : Below w0.heap.size w0 w
  lo : w0.heap.size ≤ base
  size : base ≤ w.heap.size
theorem Way.mem {w0 w w' : World} {base : Nat} {p q : Value} {c r : Nat} {L L' : List Ac} {F F' G : List Nat} (h : Way w0 w base p q c r L F G) (hm : MemAt w' base p c r L' F') (hn : Next F F' w w') : Way1 w0 w' base p q c r L' L F' G :=
  ⟨h.duo.onMem hm hn, h.bel.trans (hn.below h.bel.size (fun b hb => by have := (h.duo.mem.lt b hb).1; have := h.lo; omega)), h.lo, Nat.le_trans h.size hn.1.size⟩
theorem Way1.ref {w0 w w' : World} {base : Nat} {p q : Value} {c r : Nat} {L K : List Ac} {F G G' : List Nat} (h : Way1 w0 w base p q c r L K F G) (hm : RefAt w' base q c r L G') (hn : Next G G' w w') : Way w0 w' base p q c r L F G' :=
  ⟨h.duo.onRef hm hn, h.bel.trans (hn.below h.bel.size (fun b hb => by have := (h.duo.ref.lt b hb).1; have := h.lo; omega)), h.lo, Nat.le_trans h.size hn.1.size⟩
theorem Way1.drew {w0 w : World} {base : Nat} {p q : Value} {c r : Nat} {L K : List Ac} {F G : List Nat} (h : Way1 w0 w base p q c r L K F G) : Way1 w0 w.drew base p q c r L K F G :=
  ⟨h.duo.below ⟨rfl, rfl, rfl, Nat.le_refl _, fun _ _ => rfl⟩, below_drawn h.bel 1, h.lo, h.size⟩

set_option maxRecDepth 100000 in
set_option maxHeartbeats 6400000 in
theorem ringSees_yes (w : World) (c r : Nat) (hc : 1 ≤ c ∧ c ≤ 1024) (hr : 1 ≤ r ∧ r ≤ 16) (v : Value) (S : List Pt) (hv : PLst w v S) (hS : S.length ≤ 1048576) :
    Calls Try.prog 5 #[.int .i64 (c : Int), .int .i64 (r : Int), v] w fun e w' => e = .returned (.bool true) ∧ Below w.heap.size w w' := by
  have HT : Hid (∀ w : World, Calls Try.prog 16 #[.int .i64 (c : Int), .int .i64 (r : Int)] w fun e w' => e = .returned (.bool true) ∧ w' = w) := fun w => by
    have h : takes (c : Int) (r : Int) = true := by simp [takes]; omega
    rw [← h]; exact takes_any c r w
  have HN : Hid (∀ w : World, Calls Try.prog 17 #[.int .i64 (c : Int), .int .i64 (r : Int)] w fun e w' => ∃ p F, e = .returned (.tuple #[p, .int .i64 0]) ∧ p ≠ .pointer none ∧ MemAt w' w.heap.size p c r [] F ∧ Below w.heap.size w w') := fun w => new_yes w c r hc hr
  have HR : Hid (∀ w : World, Calls Try.prog 18 #[.int .i64 (c : Int), .int .i64 (r : Int)] w fun e w' => ∃ p G, e = .returned p ∧ RefAt w' w.heap.size p c r [] G ∧ Below w.heap.size w w') := rnew_any c r
  obtain ⟨va, vcap, rfl, hfit, hl⟩ := hv
  have HC : Hid (∀ q, q < S.length → ∃ x, va = some x ∧ x.block < w.heap.size ∧ Row4 w (x.add (q * 4)) (S.getD q noPt)) := by
    intro q hq
    rcases hl with rfl | ⟨x, hx, hxb, hcc⟩
    · exact absurd hq (by simp)
    · exact ⟨x, hx, hxb, hcc q hq⟩
  clear hl
  have HLN : Hid (∀ q, (logP c r S q).length ≤ q) := logP_len c r S
  have HBD : Hid (∀ q, Bd (wordOf (logP c r S q))) := logP_bd c r S hfit
  have HSU : Hid (∀ q, q < S.length → logP c r S (q + 1) = storeL c r (logP c r S q) 0 (S.getD q noPt).a (S.getD q noPt).v) := logP_succ c r S
  have HSE : Hid (∀ (w : World) (q : Nat) bs p u F G, q ≤ S.length → MemAt w bs p c r (logP c r S q) F → RefAt w bs u c r (logP c r S q) G → Calls Try.prog 21 #[p, u] w fun e w' => e = .returned (.bool true) ∧ Below w.heap.size w w') := fun w q bs p u F G hq h1 h2 => sees_any h1 h2 hr.1 hr.2 (by have := logP_len c r S q; omega) (logP_bd c r S hfit q)
  clear hfit
  generalize hn : S.length = n at *
  clear hn
  go_enter Try.func5, Try.ntmps5
  go_wp2_with fail
  refine (ringShown_any _).mono ?_
  rintro e wx ⟨rfl, hx⟩
  rw [hx]
  clear hx wx
  go_wp2_with fail
  refine (HT.out _).mono ?_
  rintro e wx ⟨rfl, hx⟩
  rw [hx]
  clear hx wx
  go_wp2_with fail
  refine (HN.out _).mono ?_
  rintro e w3 ⟨p, F3, rfl, _, hm, hb3⟩
  obtain ⟨M, rfl⟩ := hm.ptr
  have HM3 : Hid (MemAt w3 w.heap.size (.pointer (some ⟨M, 0, none⟩)) c r [] F3) := hm
  have HB3 : Hid (Below w.heap.size w w3) := hb3
  clear hm hb3
  go_wp2_with fail
  refine (HR.out _).mono ?_
  rintro e w6 ⟨q0, G6, rfl, hr6, hb6⟩
  obtain ⟨R, rfl⟩ := hr6.ptr
  have HW6 : Hid (Way w w6 w.heap.size (.pointer (some ⟨M, 0, none⟩)) (.pointer (some ⟨R, 0, none⟩)) c r [] F3 G6) :=
    ⟨⟨HM3.out.below hb6, refAt_base hr6 HB3.out.size, fun b hb hg => by have := (HM3.out.lt b hb).2; have := (hr6.lt b hg).1; omega⟩, below_then HB3.out hb6, Nat.le_refl _, Nat.le_trans HB3.out.size hb6.size⟩
  clear hr6 hb6 HM3 HB3
  obtain ⟨bs, hbs⟩ : ∃ bs, bs = w.heap.size := ⟨_, rfl⟩
  rw [← hbs] at HW6
  clear hbs
  go_wp2
  go_loopw [12] (fun iv wr => ∃ q : Nat, q ≤ n ∧ iv = .int .i64 q ∧ ∃ F G, Way w wr bs (.pointer (some ⟨M, 0, none⟩)) (.pointer (some ⟨R, 0, none⟩)) c r (logP c r S q) F G) (fun iv _ => n - (intOf iv).toNat)
  case atStart => exact ⟨0, Nat.zero_le _, rfl, F3, G6, HW6.out⟩
  case round =>
    obtain ⟨q, hq, rfl, F, G, hway⟩ := hrel
    have HW : Hid (Way w wr bs (.pointer (some ⟨M, 0, none⟩)) (.pointer (some ⟨R, 0, none⟩)) c r (logP c r S q) F G) := hway
    clear hway
    by_cases hlt : q < n
    · obtain ⟨x, rfl, hxb, hrow⟩ := HC.out q hlt
      have hrow2 := hrow.later HW.out.bel (by rw [add_block]; exact hxb)
      have hL : (logP c r S q).length < 2199023255552 := by have := HLN.out q; omega
      have HST : Hid (Calls Try.prog 19 #[.pointer (some ⟨M, 0, none⟩), .int .i64 0, .agg (adC (S.getD q noPt).a), .int .i64 (S.getD q noPt).v] wr.drew fun e w' => e = .returned (.int .i64 (if isAd c r (S.getD q noPt).a then 0 else 1)) ∧ ∃ F', Way1 w w' bs (.pointer (some ⟨M, 0, none⟩)) (.pointer (some ⟨R, 0, none⟩)) c r (logP c r S (q + 1)) (logP c r S q) F' G) := by
        refine (store_any HW.out.drew.duo.mem HW.out.drew.size hL 0 (S.getD q noPt).a (S.getD q noPt).v).mono ?_
        rintro e w' ⟨rfl, F', hm, hn⟩
        rw [← HSU.out q hlt] at hm
        exact ⟨rfl, F', HW.out.drew.mem hm hn⟩
      have HRS : Hid (∀ w' F', Way1 w w' bs (.pointer (some ⟨M, 0, none⟩)) (.pointer (some ⟨R, 0, none⟩)) c r (logP c r S (q + 1)) (logP c r S q) F' G → Calls Try.prog 20 #[.pointer (some ⟨R, 0, none⟩), .int .i64 0, .agg (adC (S.getD q noPt).a), .int .i64 (S.getD q noPt).v] w'.drew fun e w'' => e = .returned (.int .i64 (if isAd c r (S.getD q noPt).a then 0 else 1)) ∧ ∃ G', Way w w'' bs (.pointer (some ⟨M, 0, none⟩)) (.pointer (some ⟨R, 0, none⟩)) c r (logP c r S (q + 1)) F' G') := fun w' F' h1 => by
        refine (rstore_any h1.drew.duo.ref h1.drew.size hL 0 (S.getD q noPt).a (S.getD q noPt).v).mono ?_
        rintro e w'' ⟨rfl, G', hm, hn⟩
        rw [← HSU.out q hlt] at hm
        exact ⟨rfl, G', h1.drew.ref hm hn⟩
      have HSE2 : Hid (∀ w' F' G', Way w w' bs (.pointer (some ⟨M, 0, none⟩)) (.pointer (some ⟨R, 0, none⟩)) c r (logP c r S (q + 1)) F' G' → Calls Try.prog 21 #[.pointer (some ⟨M, 0, none⟩), .pointer (some ⟨R, 0, none⟩)] w' fun e w'' => e = .returned (.bool true) ∧ Below w'.heap.size w' w'') := fun w' F' G' h1 => HSE.out w' (q + 1) bs _ _ F' G' (by omega) h1.duo.mem h1.duo.ref
      have HR4 : Hid (∀ w', Below w.heap.size w w' → Row4 w' (x.add (q * 4)) (S.getD q noPt)) := fun w' hb => hrow.later hb (by rw [add_block]; exact hxb)
      generalize (if isAd c r (S.getD q noPt).a = true then (0 : Int) else 1) = ea at *
      generalize S.getD q noPt = ptx at hrow2 HST HRS HR4
      obtain ⟨⟨ak, ai, aj⟩, pv⟩ := ptx
      obtain ⟨d0, d1, d2, d3⟩ := hrow2
      rw [add_pos' _ _ (by decide)] at d1 d2 d3
      simp only [adC] at HST HRS
      clear hrow hL
      have hd : decide ((q : Int) < (n : Int)) = true := by simp; omega
      have hx1 : (q : Int) < (n : Int) := by omega
      go_wp2_with fail
      go_region_with ((go_at_call 19; refine HST.out.mono ?_; rintro e w7 ⟨rfl, F7, hw7⟩))
      all_goals
        have HW7 : Hid (Way1 w w7 bs (.pointer (some ⟨M, 0, none⟩)) (.pointer (some ⟨R, 0, none⟩)) c r (logP c r S (q + 1)) (logP c r S q) F7 G) := hw7
        have HRS7 : Hid (Calls Try.prog 20 #[.pointer (some ⟨R, 0, none⟩), .int .i64 0, .agg #[.int .i64 ak, .int .i64 ai, .int .i64 aj], .int .i64 pv] w7.drew fun e w'' => e = .returned (.int .i64 ea) ∧ ∃ G', Way w w'' bs (.pointer (some ⟨M, 0, none⟩)) (.pointer (some ⟨R, 0, none⟩)) c r (logP c r S (q + 1)) F7 G') := HRS.out w7 F7 hw7
        obtain ⟨b0, b1, b2, b3⟩ := HR4.out w7 hw7.bel
        rw [add_pos' _ _ (by decide)] at b1 b2 b3
        clear hw7 d0 d1 d2 d3 HST
        go_wp2_with fail
        go_region_with ((go_at_call 20; refine HRS7.out.mono ?_; rintro e w8 ⟨rfl, G8, hw8⟩))
      all_goals
        have HW8 : Hid (Way w w8 bs (.pointer (some ⟨M, 0, none⟩)) (.pointer (some ⟨R, 0, none⟩)) c r (logP c r S (q + 1)) F7 G8) := hw8
        clear hw8 b0 b1 b2 b3 HRS7 HRS HR4
        go_wp2_with fail
        refine (HSE2.out _ _ _ HW8.out).mono ?_
        rintro e w9 ⟨rfl, hb9⟩
        have HW9 : Hid (Way w w9 bs (.pointer (some ⟨M, 0, none⟩)) (.pointer (some ⟨R, 0, none⟩)) c r (logP c r S (q + 1)) F7 G8) := HW8.out.later hb9
        clear hb9
        go_wp2
        go_roundw
        case rel => exact ⟨q + 1, by omega, by go_num, F7, G8, HW9.out⟩
        case measure => simp [intOf]; omega
    · obtain rfl : q = n := by omega
      clear hlt hq
      have HSE2 : Hid (∀ w' F' G', Way w w' bs (.pointer (some ⟨M, 0, none⟩)) (.pointer (some ⟨R, 0, none⟩)) c r (logP c r S q) F' G' → Calls Try.prog 21 #[.pointer (some ⟨M, 0, none⟩), .pointer (some ⟨R, 0, none⟩)] w' fun e w'' => e = .returned (.bool true) ∧ Below w'.heap.size w' w'') := fun w' F' G' h1 => HSE.out w' q bs _ _ F' G' (Nat.le_refl _) h1.duo.mem h1.duo.ref
      have HCO : Hid (∀ w' F' G', Way w w' bs (.pointer (some ⟨M, 0, none⟩)) (.pointer (some ⟨R, 0, none⟩)) c r (logP c r S q) F' G' → Calls Try.prog 22 #[.pointer (some ⟨M, 0, none⟩)] w' fun e w'' => e = .returned (.int .i64 ((logP c r S q).length : Int)) ∧ w'' = w') := fun w' F' G' h1 => count_any h1.duo.mem
      generalize logP c r S q = Lq at *
      go_wp2_with fail
      refine (HSE2.out _ _ _ HW.out).mono ?_
      rintro e w8 ⟨rfl, hb8⟩
      have HW8 : Hid (Way w w8 bs (.pointer (some ⟨M, 0, none⟩)) (.pointer (some ⟨R, 0, none⟩)) c r Lq F G) := HW.out.later hb8
      clear hb8
      go_wp2_with fail
      refine (HCO.out _ _ _ HW8.out).mono ?_
      rintro e wx ⟨rfl, hx⟩
      rw [hx]
      clear hx wx
      obtain ⟨ra, rcap, hrc⟩ := HW8.out.duo.ref.count
      go_wp2
      go_ret
      exact ⟨by simp, HW8.out.bel⟩
end Go.Proofs.Ytacioekmeildoaa
