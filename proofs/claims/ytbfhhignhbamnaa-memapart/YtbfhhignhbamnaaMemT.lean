/- The law MemTells, walked. -/
import Derived.Test.YtbfhhignhbamnaaMemI
namespace Go.Proofs.Ytbfhhignhbamnaa
open Go.ChangeShapes Go.WideShapes Go.ChangeAt Go.RowKit

set_option maxRecDepth 100000 in
set_option maxHeartbeats 1600000 in
theorem tells_no (w : World) (c r : Int) (va : Option Addr) (n vcap : Nat) (k i j : Int) (h : takes c r = false) :
    Calls Try.prog 4 #[.agg #[.int .i64 c, .int .i64 r, .slice va n vcap, .int .i64 k, .int .i64 i, .int .i64 j]] w fun e w' => e = .returned (.bool true) ∧ Below w.heap.size w w' := by
  have HS : Hid (∀ w : World, Calls Try.prog 6 #[] w fun e w' => e = .returned (.bool true) ∧ Below w.heap.size w w') := shown_any
  have HT : Hid (∀ w : World, Calls Try.prog 8 #[.int .i64 c, .int .i64 r] w fun e w' => e = .returned (.bool false) ∧ w' = w) := fun w => by rw [← h]; exact takes_any c r w
  clear h
  go_enter Try.func4, Try.ntmps4
  go_wp2_with fail
  refine (HS.out _).mono ?_
  rintro e w1 ⟨rfl, hb1⟩
  have HB : Hid (Below w.heap.size w w1) := below_then (below_alloc (below_a1 _ _) _) hb1
  clear hb1
  go_wp2_with fail
  refine (HT.out _).mono ?_
  rintro e w2 ⟨rfl, rfl⟩
  go_wp2
  go_ret
  exact ⟨rfl, HB.out⟩

theorem stepL_1 (c r : Nat) (L : List Ac) (t : Int) (a : Ad) (o v n : Int) : stepL c r L ⟨1, t, a, o, v, n⟩ = loadL c r L t a := by simp [stepL]
theorem stepL_2 (c r : Nat) (L : List Ac) (t : Int) (a : Ad) (o v n : Int) : stepL c r L ⟨2, t, a, o, v, n⟩ = storeL c r L t a v := by simp [stepL]
theorem stepL_3 (c r : Nat) (L : List Ac) (t : Int) (a : Ad) (o v n : Int) : stepL c r L ⟨3, t, a, o, v, n⟩ = swapL c r L t a o v := by simp [stepL]
theorem stepL_else (c r : Nat) (L : List Ac) (k t : Int) (a : Ad) (o v n : Int) (h1 : k ≠ 1) (h2 : k ≠ 2) (h3 : k ≠ 3) : stepL c r L ⟨k, t, a, o, v, n⟩ = L := by simp [stepL, h1, h2, h3]

set_option maxRecDepth 100000 in
set_option maxHeartbeats 3200000 in
theorem tells_yes (w : World) (c r : Nat) (hc : 1 ≤ c ∧ c ≤ 1024) (hr : 1 ≤ r ∧ r ≤ 16) (v : Value) (S : List Tk) (hv : ALst w v S) (k i j : Int) :
    Calls Try.prog 4 #[.agg #[.int .i64 (c : Int), .int .i64 (r : Int), v, .int .i64 k, .int .i64 i, .int .i64 j]] w fun e w' => e = .returned (.bool true) ∧ Below w.heap.size w w' := by
  have HS : Hid (∀ w : World, Calls Try.prog 6 #[] w fun e w' => e = .returned (.bool true) ∧ Below w.heap.size w w') := shown_any
  have HT : Hid (∀ w : World, Calls Try.prog 8 #[.int .i64 (c : Int), .int .i64 (r : Int)] w fun e w' => e = .returned (.bool true) ∧ w' = w) := fun w => by
    have h : takes (c : Int) (r : Int) = true := by simp [takes]; omega
    rw [← h]; exact takes_any c r w
  have HN : Hid (∀ w : World, Calls Try.prog 7 #[.int .i64 (c : Int), .int .i64 (r : Int)] w fun e w' => ∃ p F, e = .returned (.tuple #[p, .int .i64 0]) ∧ p ≠ .pointer none ∧ MemAt w' w.heap.size p c r [] F ∧ Below w.heap.size w w') := fun w => new_yes w c r hc hr
  have HP : Hid (∀ (w : World) base p L F, MemAt w base p c r L F → Calls Try.prog 14 #[p, .agg #[.int .i64 k, .int .i64 i, .int .i64 j]] w fun e w' => e = .returned (.tuple #[.int .i64 (if isAd c r ⟨k, i, j⟩ then wordOf L ⟨k, i, j⟩ else 0), .int .i64 (if isAd c r ⟨k, i, j⟩ then 0 else 1)]) ∧ Below w.heap.size w w') := fun w base p L F h => peek_any h ⟨k, i, j⟩
  obtain ⟨va, vcap, rfl, hbig, hl⟩ := hv
  have HC : Hid (∀ q, q < S.length → ∃ x, va = some x ∧ x.block < w.heap.size ∧ Row8 w (x.add (q * 8)) (tkC (S.getD q noTk))) := by
    intro q hq
    rcases hl with rfl | ⟨x, hx, hxb, hcc⟩
    · exact absurd hq (by simp)
    · exact ⟨x, hx, hxb, hcc q hq⟩
  clear hl
  have HLN : Hid (∀ q, (logOf c r S q).length ≤ q) := logOf_len c r S
  have HGD : Hid (Good c r (logOf c r S S.length)) := good_logOf c r S S.length
  have HSU : Hid (∀ q, q < S.length → logOf c r S (q + 1) = stepL c r (logOf c r S q) (S.getD q noTk)) := logOf_succ c r S
  generalize hn : S.length = n at *
  clear hn
  go_enter Try.func4, Try.ntmps4
  go_wp2_with fail
  refine (HS.out _).mono ?_
  rintro e w1 ⟨rfl, hb1⟩
  have HB1 : Hid (Below w.heap.size w w1) := below_then (below_alloc (below_a1 _ _) _) hb1
  have HX1 : Hid (w1.heap[w.heap.size + 1]? = some (.cells (adC ⟨k, i, j⟩) 35)) := by
    rw [Hid, hb1.block _ (by simp)]; exact heap_alloc2_new _ _ _
  clear hb1
  go_wp2_with fail
  refine (HT.out _).mono ?_
  rintro e w2 ⟨rfl, rfl⟩
  go_wp2_with fail
  refine (HN.out _).mono ?_
  rintro e w3 ⟨p, F3, rfl, _, hm, hb3⟩
  obtain ⟨M, rfl⟩ := hm.ptr
  have HX3 : Hid (Boxed w2 w3 (.pointer (some ⟨M, 0, none⟩)) c r [] F3 (w.heap.size + 1) ⟨k, i, j⟩) :=
    ⟨hm, by rw [hb3.block _ (heap_lt HX1.out)]; exact HX1.out, fun e => by have := (hm.lt _ e).1; have := heap_lt HX1.out; omega, hb3⟩
  clear hm hb3
  obtain ⟨c0, c1, c2⟩ := HX3.out.cells
  go_wp2_with fail
  refine (HP.out _ _ _ _ _ HX3.out.mem).mono ?_
  rintro e w4 ⟨rfl, hb4⟩
  have HX4 : Hid (Boxed w2 w4 (.pointer (some ⟨M, 0, none⟩)) c r [] F3 (w.heap.size + 1) ⟨k, i, j⟩) := HX3.out.later hb4
  clear hb4 HX3 c0 c1 c2
  have HZ0 : Hid (∀ L, (if isAd c r ⟨k, i, j⟩ then wordOf [] ⟨k, i, j⟩ else 0) = wd c r L ⟨k, i, j⟩ 0) := fun L => (wd_zero c r L _).symm
  generalize (if isAd c r ⟨k, i, j⟩ then wordOf [] ⟨k, i, j⟩ else 0) = z0 at *
  generalize (if isAd c r ⟨k, i, j⟩ then (0 : Int) else 1) = f0 at *
  go_wp2
  go_loopw [13] (fun iv wr => ∃ q : Nat, q ≤ n ∧ iv = .int .i64 q ∧ ∃ F, Boxed w2 wr (.pointer (some ⟨M, 0, none⟩)) c r (logOf c r S q) F (w.heap.size + 1) ⟨k, i, j⟩) (fun iv _ => n - (intOf iv).toNat)
  case atStart => exact ⟨0, Nat.zero_le _, rfl, F3, HX4.out⟩
  case round =>
    obtain ⟨q, hq, rfl, F, hbx⟩ := hrel
    have HX : Hid (Boxed w2 wr (.pointer (some ⟨M, 0, none⟩)) c r (logOf c r S q) F (w.heap.size + 1) ⟨k, i, j⟩) := hbx
    clear hbx
    by_cases hlt : q < n
    · obtain ⟨x, rfl, hxb, hrow⟩ := HC.out q hlt
      have HBW : Hid (Below w.heap.size w wr) := HB1.out.trans (HX.out.bel.mono HB1.out.size)
      have hrow2 := hrow.later rfl HBW.out (by rw [add_block]; exact hxb)
      have hL : (logOf c r S q).length < 2199023255552 := by have := HLN.out q; omega
      have HSQ := HSU.out q hlt
      have HBA : Hid (∀ o, Boxed w2 (wr.alloc o) (.pointer (some ⟨M, 0, none⟩)) c r (logOf c r S q) F (w.heap.size + 1) ⟨k, i, j⟩) := fun o => HX.out.later (below_a1 _ _)
      generalize logOf c r S q = L at *
      generalize hLq : logOf c r S (q + 1) = L' at *
      have HLQ : Hid (logOf c r S (q + 1) = L') := hLq
      clear hLq hrow
      generalize S.getD q noTk = tkx at HSQ hrow2
      obtain ⟨tk, tt, ⟨ak, ai, aj⟩, to, tv, tn⟩ := tkx
      obtain ⟨d0, d1, d2, d3, d4, d5, d6, d7⟩ := row8_cells hrow2 rfl
      simp only [tkC, List.getElem_toArray, List.getElem_cons_zero, List.getElem_cons_succ] at d0 d1 d2 d3 d4 d5 d6 d7
      clear hrow2
      have hd : decide ((q : Int) < (n : Int)) = true := by simp; omega
      have HLD : Hid (∀ (w : World) base p F, MemAt w base p c r L F → base ≤ w.heap.size → Calls Try.prog 15 #[p, .int .i64 tt, .agg #[.int .i64 ak, .int .i64 ai, .int .i64 aj]] w fun e w' => e = .returned (.tuple #[.int .i64 (if isAd c r ⟨ak, ai, aj⟩ then wordOf L ⟨ak, ai, aj⟩ else 0), .int .i64 (if isAd c r ⟨ak, ai, aj⟩ then 0 else 1)]) ∧ ∃ F', MemAt w' base p c r (loadL c r L tt ⟨ak, ai, aj⟩) F' ∧ Next F F' w w') := fun w base p F h hb => load_any h hb hL tt ⟨ak, ai, aj⟩
      have HST : Hid (∀ (w : World) base p F, MemAt w base p c r L F → base ≤ w.heap.size → Calls Try.prog 16 #[p, .int .i64 tt, .agg #[.int .i64 ak, .int .i64 ai, .int .i64 aj], .int .i64 tv] w fun e w' => e = .returned (.int .i64 (if isAd c r ⟨ak, ai, aj⟩ then 0 else 1)) ∧ ∃ F', MemAt w' base p c r (storeL c r L tt ⟨ak, ai, aj⟩ tv) F' ∧ Next F F' w w') := fun w base p F h hb => store_any h hb hL tt ⟨ak, ai, aj⟩ tv
      have HSW : Hid (∀ (w : World) base p F, MemAt w base p c r L F → base ≤ w.heap.size → Calls Try.prog 17 #[p, .int .i64 tt, .agg #[.int .i64 ak, .int .i64 ai, .int .i64 aj], .int .i64 to, .int .i64 tv] w fun e w' => e = .returned (.tuple #[.bool (isAd c r ⟨ak, ai, aj⟩ && wordOf L ⟨ak, ai, aj⟩ == to), .int .i64 (if isAd c r ⟨ak, ai, aj⟩ then 0 else 1)]) ∧ ∃ F', MemAt w' base p c r (swapL c r L tt ⟨ak, ai, aj⟩ to tv) F' ∧ Next F F' w w') := fun w base p F h hb => swap_any h hb hL tt ⟨ak, ai, aj⟩ to tv
      have HPK : Hid (∀ (w : World) base p F, MemAt w base p c r L F → Calls Try.prog 14 #[p, .agg #[.int .i64 ak, .int .i64 ai, .int .i64 aj]] w fun e w' => e = .returned (.tuple #[.int .i64 (if isAd c r ⟨ak, ai, aj⟩ then wordOf L ⟨ak, ai, aj⟩ else 0), .int .i64 (if isAd c r ⟨ak, ai, aj⟩ then 0 else 1)]) ∧ Below w.heap.size w w') := fun w base p F h => peek_any h ⟨ak, ai, aj⟩
      by_cases k1 : tk = 1
      · subst k1
        rw [stepL_1] at HSQ
        have HE : Hid (loadL c r L tt ⟨ak, ai, aj⟩ = logOf c r S (q + 1)) := by rw [Hid, HLQ.out, HSQ]
        clear HSQ HLQ HST HSW HPK
        generalize loadL c r L tt ⟨ak, ai, aj⟩ = LL at *
        generalize (if isAd c r ⟨ak, ai, aj⟩ then wordOf L ⟨ak, ai, aj⟩ else 0) = y1 at *
        generalize (if isAd c r ⟨ak, ai, aj⟩ then (0 : Int) else 1) = y2 at *
        go_wp2_with fail
        refine (HLD.out _ _ _ _ (HBA.out _).mem (HBA.out _).bel.size).mono ?_
        rintro e w5 ⟨rfl, F5, hm5, hn5⟩
        have HX5 : Hid (Boxed w2 w5 (.pointer (some ⟨M, 0, none⟩)) c r LL F5 (w.heap.size + 1) ⟨k, i, j⟩) := (HBA.out _).next hm5 hn5
        clear hm5 hn5 d0 d1 d2 d3 d4 d5 d6 d7
        go_wp2
        go_roundw
        case rel => exact ⟨q + 1, by omega, by go_num, F5, by rw [← HE.out]; exact HX5.out⟩
        case measure => simp [intOf]; omega
      by_cases k2 : tk = 2
      · subst k2
        rw [stepL_2] at HSQ
        have HE : Hid (storeL c r L tt ⟨ak, ai, aj⟩ tv = logOf c r S (q + 1)) := by rw [Hid, HLQ.out, HSQ]
        clear HSQ HLQ HLD HSW HPK k1
        generalize storeL c r L tt ⟨ak, ai, aj⟩ tv = LL at *
        generalize (if isAd c r ⟨ak, ai, aj⟩ then (0 : Int) else 1) = y2 at *
        go_wp2_with fail
        refine (HST.out _ _ _ _ (HBA.out _).mem (HBA.out _).bel.size).mono ?_
        rintro e w5 ⟨rfl, F5, hm5, hn5⟩
        have HX5 : Hid (Boxed w2 w5 (.pointer (some ⟨M, 0, none⟩)) c r LL F5 (w.heap.size + 1) ⟨k, i, j⟩) := (HBA.out _).next hm5 hn5
        clear hm5 hn5 d0 d1 d2 d3 d4 d5 d6 d7
        go_wp2
        go_roundw
        case rel => exact ⟨q + 1, by omega, by go_num, F5, by rw [← HE.out]; exact HX5.out⟩
        case measure => simp [intOf]; omega
      by_cases k3 : tk = 3
      · subst k3
        rw [stepL_3] at HSQ
        have HE : Hid (swapL c r L tt ⟨ak, ai, aj⟩ to tv = logOf c r S (q + 1)) := by rw [Hid, HLQ.out, HSQ]
        clear HSQ HLQ HLD HST HPK k1 k2
        generalize swapL c r L tt ⟨ak, ai, aj⟩ to tv = LL at *
        generalize (isAd c r ⟨ak, ai, aj⟩ && wordOf L ⟨ak, ai, aj⟩ == to) = y1 at *
        generalize (if isAd c r ⟨ak, ai, aj⟩ then (0 : Int) else 1) = y2 at *
        go_wp2_with fail
        refine (HSW.out _ _ _ _ (HBA.out _).mem (HBA.out _).bel.size).mono ?_
        rintro e w5 ⟨rfl, F5, hm5, hn5⟩
        have HX5 : Hid (Boxed w2 w5 (.pointer (some ⟨M, 0, none⟩)) c r LL F5 (w.heap.size + 1) ⟨k, i, j⟩) := (HBA.out _).next hm5 hn5
        clear hm5 hn5 d0 d1 d2 d3 d4 d5 d6 d7
        go_wp2
        go_roundw
        case rel => exact ⟨q + 1, by omega, by go_num, F5, by rw [← HE.out]; exact HX5.out⟩
        case measure => simp [intOf]; omega
      rw [stepL_else _ _ _ _ _ _ _ _ _ k1 k2 k3] at HSQ
      have HE : Hid (L = logOf c r S (q + 1)) := by rw [Hid, HLQ.out, HSQ]
      clear HSQ HLQ HLD HST HSW
      have b1 : (tk == 1) = false := by simpa using k1
      have b2 : (tk == 2) = false := by simpa using k2
      have b3 : (tk == 3) = false := by simpa using k3
      by_cases k4 : tk = 4
      · subst k4
        clear b1 b2 b3 k1 k2 k3
        generalize (if isAd c r ⟨ak, ai, aj⟩ then wordOf L ⟨ak, ai, aj⟩ else 0) = y1 at *
        generalize (if isAd c r ⟨ak, ai, aj⟩ then (0 : Int) else 1) = y2 at *
        go_wp2_with fail
        refine (HPK.out _ _ _ _ (HBA.out _).mem).mono ?_
        rintro e w5 ⟨rfl, hb5⟩
        have HX5 : Hid (Boxed w2 w5 (.pointer (some ⟨M, 0, none⟩)) c r L F (w.heap.size + 1) ⟨k, i, j⟩) := (HBA.out _).later hb5
        clear hb5 d0 d1 d2 d3 d4 d5 d6 d7
        go_wp2
        go_roundw
        case rel => exact ⟨q + 1, by omega, by go_num, F, by rw [← HE.out]; exact HX5.out⟩
        case measure => simp [intOf]; omega
      · have b4 : (tk == 4) = false := by simpa using k4
        clear k1 k2 k3 k4 HPK
        go_wp2
        go_roundw
        case rel => exact ⟨q + 1, by omega, by go_num, F, by rw [← HE.out]; exact HBA.out _⟩
        case measure => simp [intOf]; omega
    · obtain rfl : q = n := by omega
      clear hlt hq
      have HLG : Hid (∀ (w : World) base p F, MemAt w base p c r (logOf c r S q) F → Calls Try.prog 18 #[p, .int .i64 (-1)] w fun e w' => ∃ v, e = .returned v ∧ w'.ownsRow w.heap.size 52 8 v (logOf c r S q).length (logC (logOf c r S q)) ∧ Below w.heap.size w w') := fun w base p F h => log_any h (by have := HLN.out q; omega) (-1)
      have HCT : Hid (∀ (w : World) base p F, MemAt w base p c r (logOf c r S q) F → Calls Try.prog 19 #[p] w fun e w' => e = .returned (.int .i64 ((logOf c r S q).length : Int)) ∧ w' = w) := fun w base p F h => count_any h
      have hlen : (logOf c r S q).length ≤ 2199023255488 := by have := HLN.out q; omega
      generalize logOf c r S q = L at *
      have HZ := HZ0.out L
      subst HZ
      clear HZ0
      go_wp2_with fail
      refine (HLG.out _ _ _ _ HX.out.mem).mono ?_
      rintro e w5 ⟨lv, rfl, hown, hb5⟩
      obtain ⟨la, lc, rfl⟩ := own_slice hown
      have HOW : Hid (w5.ownsRow wr.heap.size 52 8 (.slice la L.length lc) L.length (logC L)) := hown
      have HX5 : Hid (Boxed w2 w5 (.pointer (some ⟨M, 0, none⟩)) c r L F (w.heap.size + 1) ⟨k, i, j⟩) := HX.out.later hb5
      clear hown hb5
      generalize hm : L.length = m at *
      have HM : Hid (L.length = m) := hm
      clear hm
      go_wp2
      obtain ⟨x6, rfl⟩ : ∃ x6, x6 = wr := ⟨_, rfl⟩
      go_loopw [16, 17] (fun wv iv wq => ∃ q2 : Nat, q2 ≤ m ∧ iv = .int .i64 q2 ∧ wv = .int .i64 (wd c r L ⟨k, i, j⟩ q2) ∧ wq.ownsRow x6.heap.size 52 8 (.slice la m lc) m (logC L) ∧ Boxed w2 wq (.pointer (some ⟨M, 0, none⟩)) c r L F (w.heap.size + 1) ⟨k, i, j⟩) (fun _ iv _ => m - (intOf iv).toNat)
      case atStart => exact ⟨0, Nat.zero_le _, rfl, rfl, HOW.out, HX5.out⟩
      case round =>
        obtain ⟨q2, hq2, rfl, rfl, how, hbx⟩ := hrel
        have HO : Hid (wr.ownsRow x6.heap.size 52 8 (.slice la m lc) m (logC L)) := how
        have HXQ : Hid (Boxed w2 wr (.pointer (some ⟨M, 0, none⟩)) c r L F (w.heap.size + 1) ⟨k, i, j⟩) := hbx
        clear how hbx
        by_cases hlt : q2 < m
        · obtain ⟨g, cap, hform, hg1, hg2⟩ := HO.out.form (by omega)
          obtain ⟨rfl, _, rfl⟩ : la = some ⟨g, 0, none⟩ ∧ m = m ∧ lc = cap := by simpa using hform
          clear hform
          have hqL : q2 < L.length := by rw [HM.out]; exact hlt
          have hrow : Row8 wr ⟨g, q2 * 8, none⟩ (acC L[q2]) := own_row8 (by rw [HM.out]; exact HO.out) q2 hqL
          have HG := HGD.out q2 hqL
          have HW1 : Hid (L[q2].a ≠ ⟨k, i, j⟩ → wd c r L ⟨k, i, j⟩ (q2 + 1) = wd c r L ⟨k, i, j⟩ q2) := fun h => wd_other hqL h
          have HW2 : Hid (L[q2].a = ⟨k, i, j⟩ → (wd c r L ⟨k, i, j⟩ (q2 + 1) = if (L[q2].k == 2 || L[q2].k == 3 && L[q2].y) then L[q2].v else wd c r L ⟨k, i, j⟩ q2) ∧ (L[q2].k = 1 → L[q2].v = wd c r L ⟨k, i, j⟩ q2) ∧ (L[q2].k = 3 → L[q2].y = (wd c r L ⟨k, i, j⟩ q2 == L[q2].o)) ∧ (L[q2].k = 1 ∨ L[q2].k = 2 ∨ L[q2].k = 3)) := fun h => ⟨wd_same hqL h HGD.out, by rw [wd_in hqL h HGD.out]; exact HG.2.1, by rw [wd_in hqL h HGD.out]; exact HG.2.2.1, HG.2.2.2⟩
          clear HG
          generalize L[q2] = y at *
          obtain ⟨yt, yk, ⟨ya, yb, yc⟩, yo, yv, yy⟩ := y
          obtain ⟨d0, d1, d2, d3, d4, d5, d6, d7⟩ := row8_cells hrow rfl
          simp only [acC, List.getElem_toArray, List.getElem_cons_zero, List.getElem_cons_succ] at d0 d1 d2 d3 d4 d5 d6 d7
          clear hrow
          obtain ⟨c0, c1, c2⟩ := HXQ.out.cells
          have hBl : w.heap.size + 1 < wr.heap.size := heap_lt HXQ.out.box
          have hd : decide ((q2 : Int) < (m : Int)) = true := by simp; omega
          generalize wd c r L ⟨k, i, j⟩ q2 = z at *
          generalize hz' : wd c r L ⟨k, i, j⟩ (q2 + 1) = z' at *
          have HZ' : Hid (wd c r L ⟨k, i, j⟩ (q2 + 1) = z') := hz'
          clear hz'
          have HNE : Hid (¬ (ya = k ∧ yb = i ∧ yc = j) → z' = z) := fun h => HW1.out (fun e => h (by simpa using e))
          have HEQ : Hid (ya = k ∧ yb = i ∧ yc = j → (z' = if (yk == 2 || yk == 3 && yy) then yv else z) ∧ (yk = 1 → yv = z) ∧ (yk = 3 → yy = (z == yo)) ∧ (yk = 1 ∨ yk = 2 ∨ yk = 3)) := fun h => HW2.out (by simpa using h)
          clear HW1 HW2
          by_cases e1 : ya = k
          · by_cases e2 : yb = i
            · by_cases e3 : yc = j
              · obtain ⟨E1, E2, E3, E4⟩ := HEQ.out ⟨e1, e2, e3⟩
                clear HNE HEQ
                subst e1 e2 e3
                rcases E4 with rfl | rfl | rfl
                · obtain rfl := E2 rfl
                  have HE : Hid (z' = yv) := by rw [Hid, E1]; rfl
                  clear E1 E2 E3
                  go_wp2
                  go_roundw
                  case rel => exact ⟨q2 + 1, by omega, by go_num, by rw [HZ'.out, HE.out], own_keep HO.out ((Keep.refl [] _).alloc _) (fun _ _ => by simp), HXQ.out.later (below_a1 _ _)⟩
                  case measure => simp [intOf]; omega
                · have HE : Hid (z' = yv) := by rw [Hid, E1]; rfl
                  clear E1 E2 E3
                  go_wp2
                  go_roundw
                  case rel => exact ⟨q2 + 1, by omega, by go_num, by rw [HZ'.out, HE.out], own_keep HO.out ((Keep.refl [] _).alloc _) (fun _ _ => by simp), HXQ.out.later (below_a1 _ _)⟩
                  case measure => simp [intOf]; omega
                · have hy := E3 rfl
                  by_cases ez : z = yo
                  · subst ez
                    have hy2 : yy = true := by rw [hy]; simp
                    subst hy2
                    have HE : Hid (z' = yv) := by rw [Hid, E1]; rfl
                    clear E1 E2 E3 hy
                    go_wp2
                    go_roundw
                    case rel => exact ⟨q2 + 1, by omega, by go_num, by rw [HZ'.out, HE.out], own_keep HO.out ((Keep.refl [] _).alloc _) (fun _ _ => by simp), HXQ.out.later (below_a1 _ _)⟩
                    case measure => simp [intOf]; omega
                  · have hy2 : yy = false := by rw [hy]; simpa using ez
                    subst hy2
                    have HE : Hid (z' = z) := by rw [Hid, E1]; rfl
                    have ez2 : (yo == z) = false := by simpa using (fun e => ez e.symm)
                    clear E1 E2 E3 hy ez
                    go_wp2
                    go_roundw
                    case rel => exact ⟨q2 + 1, by omega, by go_num, by rw [HZ'.out, HE.out], own_keep HO.out ((Keep.refl [] _).alloc _) (fun _ _ => by simp), HXQ.out.later (below_a1 _ _)⟩
                    case measure => simp [intOf]; omega
              · have HE : Hid (z' = z) := HNE.out (fun h => e3 h.2.2)
                clear HNE HEQ
                subst e1 e2
                go_wp2
                go_roundw
                case rel => exact ⟨q2 + 1, by omega, by go_num, by rw [HZ'.out, HE.out], own_keep HO.out ((Keep.refl [] _).alloc _) (fun _ _ => by simp), HXQ.out.later (below_a1 _ _)⟩
                case measure => simp [intOf]; omega
            · have HE : Hid (z' = z) := HNE.out (fun h => e2 h.2.1)
              clear HNE HEQ
              subst e1
              go_wp2
              go_roundw
              case rel => exact ⟨q2 + 1, by omega, by go_num, by rw [HZ'.out, HE.out], own_keep HO.out ((Keep.refl [] _).alloc _) (fun _ _ => by simp), HXQ.out.later (below_a1 _ _)⟩
              case measure => simp [intOf]; omega
          · have HE : Hid (z' = z) := HNE.out (fun h => e1 h.1)
            clear HNE HEQ
            go_wp2
            go_roundw
            case rel => exact ⟨q2 + 1, by omega, by go_num, by rw [HZ'.out, HE.out], own_keep HO.out ((Keep.refl [] _).alloc _) (fun _ _ => by simp), HXQ.out.later (below_a1 _ _)⟩
            case measure => simp [intOf]; omega
        · obtain rfl : q2 = m := by omega
          clear hlt hq2
          obtain ⟨c0, c1, c2⟩ := HXQ.out.cells
          have HE : Hid ((if isAd c r ⟨k, i, j⟩ then wordOf L ⟨k, i, j⟩ else 0) = wd c r L ⟨k, i, j⟩ q2) := by rw [Hid, ← HM.out, wd_all]
          have HPL : Hid (∀ (w : World) base p F, MemAt w base p c r L F → Calls Try.prog 14 #[p, .agg #[.int .i64 k, .int .i64 i, .int .i64 j]] w fun e w' => e = .returned (.tuple #[.int .i64 (wd c r L ⟨k, i, j⟩ q2), .int .i64 f0]) ∧ Below w.heap.size w w') := fun w base p F h => by
            have := HP.out w base p L F h
            rwa [HE.out] at this
          clear HE
          generalize wd c r L ⟨k, i, j⟩ q2 = z at *
          go_wp2_with fail
          refine (HPL.out _ _ _ _ HXQ.out.mem).mono ?_
          rintro e w8 ⟨rfl, hb8⟩
          have HX8 : Hid (Boxed w2 w8 (.pointer (some ⟨M, 0, none⟩)) c r L F (w.heap.size + 1) ⟨k, i, j⟩) := HXQ.out.later hb8
          clear hb8 c0 c1 c2
          go_wp2_with fail
          refine (HCT.out _ _ _ _ HX8.out.mem).mono ?_
          rintro e w9 ⟨rfl, rfl⟩
          go_wp2
          go_ret
          exact ⟨by simp, HB1.out.trans (HX8.out.bel.mono HB1.out.size)⟩
end Go.Proofs.Ytbfhhignhbamnaa
