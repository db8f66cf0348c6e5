/- CheckPlays walked. -/
import Derived.Test.YtemdgknfedaaiaaChkP
import Derived.Test.YtemdgknfedaaiaaRefE
import Derived.Test.YtemdgknfedaaiaaChkW
namespace Go.Proofs.Ytemdgknfedaaiaa
open Go.ChangeShapes Go.WideShapes Go.ChangeAt Go.RowKit
attribute [local go_sem ↓] Go.wp_at_zero Go.wp_at_succ

theorem kbw_new {w0 w1 w2 w5 w6 : World} {p q : Value} {c r : Nat} {P : Cp} {F G : List Nat} (hb : Below w0.heap.size w0 w1) (hx : KAt w2 (w1.heap.size + 1) P (ckNew P)) (hb2 : Below w1.heap.size w1 w2) (hm : MemAt w5 w2.heap.size p c r [] F) (hb5 : Below w2.heap.size w2 w5) (hr : RefAt w6 w5.heap.size q c r [] G) (hb6 : Below w5.heap.size w5 w6) :
    KBW w0 (w6.alloc (.cells (rmC P (.slice none 0 0)) 42)) w1.heap.size p q c r [] [] (w1.heap.size + 1) w6.heap.size P (ckNew P) [] [] := by
  have h12 := hb2.size
  have h25 := hb5.size
  have h56 := hb6.size
  have hX := heap_lt hx
  have ba := below_a1 w6 (.cells (rmC P (.slice none 0 0)) 42)
  refine ⟨⟨F, G, [w6.heap.size], ⟨((memAt_low hm hb2.size).below hb6).below ba, ((hx.below hb5 hX).below hb6 (by omega)).below ba (by omega), fun e => by have := (hm.lt _ e).1; omega, by omega⟩, ⟨(refAt_base hr (by omega)).below ba, ⟨.slice none 0 0, heap_alloc_new _ _, World.ownsRow_nil _ _ _ _, rfl, by omega⟩, fun z hz hg => by
      simp at hz
      subst hz
      have := (hr.lt _ hg).2
      omega⟩, fun z hz hd => ?_, fun z hz => by simp at hz, fun z hz => by simp at hz⟩, below_then (below_then (below_then (below_then hb hb2) hb5) hb6) ba, hb.size, by simp; omega⟩
  rcases List.mem_append.1 hd with h1 | h1
  · simp at h1
    rcases List.mem_cons.1 hz with h2 | h2
    · omega
    · have := (hm.lt _ h2).2; omega
  · have h3 := (hr.lt _ h1).1
    rcases List.mem_cons.1 hz with h2 | h2
    · omega
    · have := (hm.lt _ h2).2; omega
theorem ansKK_ne (r : Nat) (P : Cp) (b : Ck) (L : List Ac) : (ansKK r P b L != 0) = goesK r P b := by
  unfold ansKK
  by_cases h : goesK r P b = true
  · rw [if_pos h, h]
    unfold kindK kindV
    split
    · rfl
    · split
      · rfl
      · split <;> rfl
  · rw [if_neg h, show goesK r P b = false by simpa using h]; rfl
theorem cnew_no' (w : World) (s z : Int) (cs : Array Value) (last : Bool) (h : ¬ (1 ≤ s ∧ s ≤ 16 ∧ 0 ≤ z)) : Calls Try.prog 8 #[.int .i64 s, .int .i64 z, .agg cs, .bool last] w fun e w' => e = .returned (.tuple #[.pointer none, .int .i64 1]) ∧ Below w.heap.size w w' := by
  by_cases h1 : s < 1
  · have d1 : decide (s < 1) = true := decide_eq_true h1
    clear h h1
    go_enter Try.func8, Try.ntmps8
    go_wp2
    go_ret2
    exact ⟨rfl, below_a1 _ _⟩
  · have d1 : decide (s < 1) = false := decide_eq_false h1
    by_cases h2 : 16 < s
    · have d2 : decide (16 < s) = true := decide_eq_true h2
      clear h h1 h2
      go_enter Try.func8, Try.ntmps8
      go_wp2
      go_ret2
      exact ⟨rfl, below_a1 _ _⟩
    · have d2 : decide (16 < s) = false := decide_eq_false h2
      have d3 : decide (z < 0) = true := decide_eq_true (by omega)
      clear h h1 h2
      go_enter Try.func8, Try.ntmps8
      go_wp2
      go_ret2
      exact ⟨rfl, below_a1 _ _⟩
/-- Both under way, behind i acts. -/
structure KPl (w wr : World) (bs : Nat) (p q : Value) (X Y : Nat) (P : Cp) (i : Nat) (L : List Ac) (l : List Int) : Prop where
  way : KBW w wr bs p q 3 P.s L L X Y P (runK P l) l []
  lk : LKk P l
  gd : Gd L
  len : L.length ≤ i
set_option maxRecDepth 100000 in
theorem kplays_no (w : World) (s z : Int) (rd : List Nat) (last : Bool) (a : Option Addr) (n cap : Nat) (h : takesK s z = false) : Calls Try.prog 3 #[.agg (whyC s z rd last (.slice a n cap))] w fun e w' => e = .returned (.bool true) ∧ Below w.heap.size w w' := by
  have HS : Hid (∀ w, Calls Try.prog 7 #[] w fun e w' => e = .returned (.bool true) ∧ Below w.heap.size w w') := cshown_any
  have HT : Hid (∀ w, Calls Try.prog 9 #[.int .i64 s, .int .i64 z] w fun e w' => e = .returned (.bool false) ∧ w' = w) := by rw [← h]; exact ctakes_any s z
  have HB : Hid (∀ (w : World) (cs : Array Value), Calls Try.prog 8 #[.int .i64 s, .int .i64 z, .agg cs, .bool last] w fun e w' => e = .returned (.tuple #[.pointer none, .int .i64 1]) ∧ Below w.heap.size w w') := fun w cs => cnew_no' w s z cs last (by unfold takesK at h; simp only [Bool.and_eq_false_iff, decide_eq_false_iff_not] at h; omega)
  clear h
  unfold whyC rdV
  generalize rd.getD 0 0 = m0 at *
  generalize rd.getD 1 0 = m1 at *
  generalize rd.getD 2 0 = m2 at *
  generalize rd.getD 3 0 = m3 at *
  generalize rd.getD 4 0 = m4 at *
  generalize rd.getD 5 0 = m5 at *
  generalize rd.getD 6 0 = m6 at *
  generalize rd.getD 7 0 = m7 at *
  go_enter Try.func3, Try.ntmps3
  go_wp2_with fail
  refine (HS.out _).mono ?_
  rintro e y1 ⟨rfl, hb1⟩
  have HR1 : Hid (y1.heap[w.heap.size + 1]? = some (.cells #[.int .u64 ((m0 : Nat) : Int), .int .u64 ((m1 : Nat) : Int), .int .u64 ((m2 : Nat) : Int), .int .u64 ((m3 : Nat) : Int), .int .u64 ((m4 : Nat) : Int), .int .u64 ((m5 : Nat) : Int), .int .u64 ((m6 : Nat) : Int), .int .u64 ((m7 : Nat) : Int)] 24 (0, 0))) := row_on (heap_alloc2_new _ _ _) hb1
  have HB1 : Hid (Below w.heap.size w y1) := below_then (below_alloc (below_a1 _ _) _) hb1
  clear hb1
  obtain ⟨r0, r1, r2, r3, r4, r5, r6, r7⟩ := cells8 HR1.out
  go_wp2_with fail
  refine (HB.out _ _).mono ?_
  rintro e y2 ⟨rfl, hb2⟩
  have HB2 : Hid (Below w.heap.size w y2) := below_then HB1.out hb2
  clear hb2 r0 r1 r2 r3 r4 r5 r6 r7
  go_wp2_with fail
  refine (HT.out _).mono ?_
  rintro e y3 ⟨rfl, rfl⟩
  go_wp2
  go_ret
  exact ⟨rfl, HB2.out⟩
set_option maxRecDepth 100000 in
set_option maxHeartbeats 6400000 in
theorem kplays_yes (w : World) {P : Cp} (hp : POk P) (v : Value) (S : List At) (hv : BLst w v S) :
    Calls Try.prog 3 #[.agg (whyC P.s P.z P.rd P.last v)] w fun e w' => e = .returned (.bool true) ∧ Below w.heap.size w w' := by
  have HS : Hid (∀ w : World, Calls Try.prog 7 #[] w fun e w' => e = .returned (.bool true) ∧ Below w.heap.size w w') := cshown_any
  have HT : Hid (∀ w : World, Calls Try.prog 9 #[.int .i64 (P.s : Int), .int .i64 P.z] w fun e w' => e = .returned (.bool true) ∧ w' = w) := fun w => by
    have e : takesK P.s P.z = true := by unfold takesK; have := hp.s1; have := hp.s16; have := hp.z0; simp; omega
    rw [← e]; exact ctakes_any P.s P.z w
  have HN : Hid (∀ w : World, Calls Try.prog 10 #[.int .i64 3, .int .i64 (P.s : Int)] w fun e w' => ∃ p F, e = .returned (.tuple #[p, .int .i64 0]) ∧ p ≠ .pointer none ∧ MemAt w' w.heap.size p 3 P.s [] F ∧ Below w.heap.size w w') := fun w => new_yes w 3 P.s (by decide) ⟨hp.s1, hp.s16⟩
  have HR : Hid (∀ w : World, Calls Try.prog 11 #[.int .i64 3, .int .i64 (P.s : Int)] w fun e w' => ∃ p G, e = .returned p ∧ RefAt w' w.heap.size p 3 P.s [] G ∧ Below w.heap.size w w') := rnew_any 3 P.s
  have HB : Hid (∀ w : World, Calls Try.prog 8 #[.int .i64 (P.s : Int), .int .i64 P.z, .agg #[rdV P.rd 0, rdV P.rd 1, rdV P.rd 2, rdV P.rd 3, rdV P.rd 4, rdV P.rd 5, rdV P.rd 6, rdV P.rd 7], .bool P.last] w fun e w' => e = .returned (.tuple #[.pointer (some ⟨w.heap.size + 1, 0, none⟩), .int .i64 0]) ∧ KAt w' (w.heap.size + 1) P (ckNew P) ∧ Below w.heap.size w w') := fun w => by
    rw [rd_cells hp.rd.1]; exact cnew_yes w hp
  have HRM : Hid (∀ v, rmC P v = #[.int .i64 (P.s : Int), .int .i64 P.z, rdV P.rd 0, rdV P.rd 1, rdV P.rd 2, rdV P.rd 3, rdV P.rd 4, rdV P.rd 5, rdV P.rd 6, rdV P.rd 7, .bool P.last, v]) := fun _ => rfl
  obtain ⟨va, vcap, rfl, hbig, hfit, hl⟩ := hv
  have HC : Hid (∀ q, q < S.length → ∃ x, va = some x ∧ x.block < w.heap.size ∧ Row6 w (x.add (q * 6)) (S.getD q noAt)) := by
    intro q hq
    rcases hl with rfl | ⟨x, hx, hxb, hcc⟩
    · exact absurd hq (by simp)
    · exact ⟨x, hx, hxb, hcc q hq⟩
  have HF : Hid (∀ i, i < S.length → W64 (S.getD i noAt).v) := hfit
  have HPK : Hid (POk P) := hp
  clear hl hfit hp
  generalize hn : S.length = n at *
  clear hn
  unfold whyC
  unfold rdV at HB HRM ⊢
  generalize P.rd.getD 0 0 = m0 at *
  generalize P.rd.getD 1 0 = m1 at *
  generalize P.rd.getD 2 0 = m2 at *
  generalize P.rd.getD 3 0 = m3 at *
  generalize P.rd.getD 4 0 = m4 at *
  generalize P.rd.getD 5 0 = m5 at *
  generalize P.rd.getD 6 0 = m6 at *
  generalize P.rd.getD 7 0 = m7 at *
  go_enter Try.func3, Try.ntmps3
  go_wp2_with fail
  refine (HS.out _).mono ?_
  rintro e y1 ⟨rfl, hb1⟩
  have HR1 : Hid (y1.heap[w.heap.size + 1]? = some (.cells #[.int .u64 ((m0 : Nat) : Int), .int .u64 ((m1 : Nat) : Int), .int .u64 ((m2 : Nat) : Int), .int .u64 ((m3 : Nat) : Int), .int .u64 ((m4 : Nat) : Int), .int .u64 ((m5 : Nat) : Int), .int .u64 ((m6 : Nat) : Int), .int .u64 ((m7 : Nat) : Int)] 24 (0, 0))) := row_on (heap_alloc2_new _ _ _) hb1
  have HB1 : Hid (Below w.heap.size w y1) := below_then (below_alloc (below_a1 _ _) _) hb1
  clear hb1
  obtain ⟨r0, r1, r2, r3, r4, r5, r6, r7⟩ := cells8 HR1.out
  go_wp2_with fail
  refine (HB.out _).mono ?_
  rintro e y2 ⟨rfl, hx2, hb2⟩
  have HX2 : Hid (KAt y2 (y1.heap.size + 1) P (ckNew P) ∧ Below y1.heap.size y1 y2) := ⟨hx2, hb2⟩
  have HR2 : Hid (y2.heap[w.heap.size + 1]? = some (.cells #[.int .u64 ((m0 : Nat) : Int), .int .u64 ((m1 : Nat) : Int), .int .u64 ((m2 : Nat) : Int), .int .u64 ((m3 : Nat) : Int), .int .u64 ((m4 : Nat) : Int), .int .u64 ((m5 : Nat) : Int), .int .u64 ((m6 : Nat) : Int), .int .u64 ((m7 : Nat) : Int)] 24 (0, 0))) := row_on HR1.out hb2
  clear hx2 hb2 r0 r1 r2 r3 r4 r5 r6 r7
  go_wp2_with fail
  refine (HT.out _).mono ?_
  rintro e y3 ⟨rfl, rfl⟩
  go_wp2_with fail
  refine (HN.out _).mono ?_
  rintro e y5 ⟨p, F5, rfl, _, hm5, hb5⟩
  obtain ⟨M, rfl⟩ := hm5.ptr
  have HM5 : Hid (MemAt y5 y3.heap.size (.pointer (some ⟨M, 0, none⟩)) 3 P.s [] F5 ∧ Below y3.heap.size y3 y5) := ⟨hm5, hb5⟩
  have HR5 : Hid (y5.heap[w.heap.size + 1]? = some (.cells #[.int .u64 ((m0 : Nat) : Int), .int .u64 ((m1 : Nat) : Int), .int .u64 ((m2 : Nat) : Int), .int .u64 ((m3 : Nat) : Int), .int .u64 ((m4 : Nat) : Int), .int .u64 ((m5 : Nat) : Int), .int .u64 ((m6 : Nat) : Int), .int .u64 ((m7 : Nat) : Int)] 24 (0, 0))) := row_on HR2.out hb5
  clear hm5 hb5
  go_wp2_with fail
  refine (HR.out _).mono ?_
  rintro e y6 ⟨q0, G6, rfl, hr6, hb6⟩
  obtain ⟨R, rfl⟩ := hr6.ptr
  have HR6 : Hid (RefAt y6 y5.heap.size (.pointer (some ⟨R, 0, none⟩)) 3 P.s [] G6 ∧ Below y5.heap.size y5 y6) := ⟨hr6, hb6⟩
  obtain ⟨r0, r1, r2, r3, r4, r5, r6, r7⟩ := cells8 (row_on HR5.out hb6)
  clear hr6 hb6
  have HP6 : Hid (KPl w (y6.alloc (.cells (rmC P (.slice none 0 0)) 42)) y1.heap.size (.pointer (some ⟨M, 0, none⟩)) (.pointer (some ⟨R, 0, none⟩)) (y1.heap.size + 1) y6.heap.size P 0 [] []) := ⟨kbw_new HB1.out HX2.out.1 HX2.out.2 HM5.out.1 HM5.out.2 HR6.out.1 HR6.out.2, lkk_nil HPK.out, gd_nil, Nat.le_refl _⟩
  rw [HRM.out] at HP6
  go_wp2
  clear HM5 HR6 HX2 HB HT HN HR HR1 HR2 HR5 r0 r1 r2 r3 r4 r5 r6 r7
  generalize y1.heap.size + 1 = X at *
  generalize y1.heap.size = bs at *
  generalize y6.heap.size = Y at *
  go_loopw [16] (fun iv wr => ∃ (q : Nat) (L : List Ac) (l : List Int), q ≤ n ∧ iv = .int .i64 q ∧ KPl w wr bs (.pointer (some ⟨M, 0, none⟩)) (.pointer (some ⟨R, 0, none⟩)) X Y P q L l) (fun iv _ => n - (intOf iv).toNat)
  case atStart => exact ⟨0, [], [], Nat.zero_le _, rfl, HP6.out⟩
  case round =>
    obtain ⟨q, L, l, hq, rfl, he⟩ := hrel
    have HE : Hid (KPl w wr bs (.pointer (some ⟨M, 0, none⟩)) (.pointer (some ⟨R, 0, none⟩)) X Y P q L l) := he
    have hL : L.length < 3298534883328 := by have := he.len; omega
    clear he HP6
    by_cases hlt : q < n
    · obtain ⟨x, rfl, hxb, hrow⟩ := HC.out q hlt
      have hrow2 := hrow.later HE.out.way.bel (by rw [add_block]; exact hxb)
      have HR6w : Hid (∀ w', Below w.heap.size w w' → Row6 w' (x.add (q * 6)) (S.getD q noAt)) := fun w' hb => hrow.later hb (by rw [add_block]; exact hxb)
      have hfit := HF.out q hlt
      have d1 : decide ((q : Int) < (n : Int)) = true := by simp; omega
      have hx1 : (q : Int) < (n : Int) := by omega
      clear hrow
      generalize S.getD q noAt = atx at hrow2 hfit HR6w
      obtain ⟨ak, at', ⟨ka, ai, aj⟩, av⟩ := atx
      obtain ⟨c0, c1, c2, c3, c4, c5⟩ := hrow2
      rw [add_pos' _ _ (by decide)] at c1 c2 c3 c4 c5
      simp only at c0 c1 c2 c3 c4 c5 hfit
      by_cases hk1 : ak = 1
      · subst hk1
        have HST : Hid (Calls Try.prog 12 #[(.pointer (some ⟨M, 0, none⟩)), .int .i64 (-1), .agg #[.int .i64 ka, .int .i64 ai, .int .i64 aj], .int .i64 av] wr.drew fun e w' => e = .returned (.int .i64 (if isAd 3 P.s ⟨ka, ai, aj⟩ then 0 else 1)) ∧ KBW w w' bs (.pointer (some ⟨M, 0, none⟩)) (.pointer (some ⟨R, 0, none⟩)) 3 P.s (storeL 3 P.s L (-1) ⟨ka, ai, aj⟩ av) L X Y P (runK P l) l []) := kbw_pstore (HE.out.way.later (below_drawn (Below.refl _ _) 1)) hL (-1) ⟨ka, ai, aj⟩ av
        have HRS : Hid (∀ w', KBW w w' bs (.pointer (some ⟨M, 0, none⟩)) (.pointer (some ⟨R, 0, none⟩)) 3 P.s (storeL 3 P.s L (-1) ⟨ka, ai, aj⟩ av) L X Y P (runK P l) l [] → Calls Try.prog 13 #[(.pointer (some ⟨R, 0, none⟩)), .int .i64 (-1), .agg #[.int .i64 ka, .int .i64 ai, .int .i64 aj], .int .i64 av] w'.drew fun e w'' => e = .returned (.int .i64 (if isAd 3 P.s ⟨ka, ai, aj⟩ then 0 else 1)) ∧ KBW w w'' bs (.pointer (some ⟨M, 0, none⟩)) (.pointer (some ⟨R, 0, none⟩)) 3 P.s (storeL 3 P.s L (-1) ⟨ka, ai, aj⟩ av) (storeL 3 P.s L (-1) ⟨ka, ai, aj⟩ av) X Y P (runK P l) l []) := fun w' h => kbw_dstore (h.later (below_drawn (Below.refl _ _) 1)) hL (-1) ⟨ka, ai, aj⟩ av
        have HLEN2 : Hid ((storeL 3 P.s L (-1) ⟨ka, ai, aj⟩ av).length ≤ q + 1) := by have h1 := storeL_len1 3 P.s L (-1) ⟨ka, ai, aj⟩ av; have h2 := HE.out.len; rw [Hid]; omega
        have HBD2 : Hid (Gd (storeL 3 P.s L (-1) ⟨ka, ai, aj⟩ av)) := gd_store HE.out.gd hfit
        generalize storeL 3 P.s L (-1) ⟨ka, ai, aj⟩ av = L' at *
        generalize (if isAd 3 P.s ⟨ka, ai, aj⟩ = true then (0 : Int) else 1) = ea at *
        go_wp2_with fail
        go_region_with ((go_at_call 12; refine HST.out.mono ?_; rintro e y7 ⟨rfl, h7⟩))
        all_goals
          have HRS7 : Hid (Calls Try.prog 13 #[(.pointer (some ⟨R, 0, none⟩)), .int .i64 (-1), .agg #[.int .i64 ka, .int .i64 ai, .int .i64 aj], .int .i64 av] y7.drew fun e w'' => e = .returned (.int .i64 ea) ∧ KBW w w'' bs (.pointer (some ⟨M, 0, none⟩)) (.pointer (some ⟨R, 0, none⟩)) 3 P.s L' L' X Y P (runK P l) l []) := HRS.out _ h7
          obtain ⟨e0, e1, e2, e3, e4, e5⟩ := HR6w.out y7 h7.bel
          rw [add_pos' _ _ (by decide)] at e1 e2 e3 e4 e5
          simp only at e0 e1 e2 e3 e4 e5
          clear h7 c0 c1 c2 c3 c4 c5
          go_wp2_with fail
          go_region_with ((go_at_call 13; refine HRS7.out.mono ?_; rintro e y8 ⟨rfl, h8⟩))
        all_goals
          have HW8 : Hid (KBW w y8 bs (.pointer (some ⟨M, 0, none⟩)) (.pointer (some ⟨R, 0, none⟩)) 3 P.s L' L' X Y P (runK P l) l []) := h8
          clear h8 e0 e1 e2 e3 e4 e5
          go_wp2
          go_roundw
          case rel => exact ⟨q + 1, L', l, by omega, by go_num, HW8.out, HE.out.lk, HBD2.out, HLEN2.out⟩
          case measure => simp [intOf]; omega
      · have dk1 : decide (ak = 1) = false := by simpa using hk1
        by_cases hk2 : ak = 2
        · subst hk2
          clear hk1
          have HT : Hid (∀ w' Rr, KBW w w' bs (.pointer (some ⟨M, 0, none⟩)) (.pointer (some ⟨R, 0, none⟩)) 3 P.s L L X Y P (runK P l) l Rr → Calls Try.prog 14 #[.pointer (some ⟨X, 0, none⟩), (.pointer (some ⟨M, 0, none⟩)), .int .i64 at'] w' fun e w'' => e = .returned (.agg #[.int .i64 (ansKK P.s P (runK P l) L), .int .i64 (errKK P.s P (runK P l) L), .int .i64 0, .bool (goesK P.s P (runK P l))]) ∧ KBW w w'' bs (.pointer (some ⟨M, 0, none⟩)) (.pointer (some ⟨R, 0, none⟩)) 3 P.s (nextKL 3 P.s P (runK P l) L at') L X Y P (nextK P.s P (runK P l) L) l Rr) := fun w' Rr h => kbw_pstep h hL HE.out.lk.all HE.out.gd at'
          have HD : Hid (∀ w' Rr, KBW w w' bs (.pointer (some ⟨M, 0, none⟩)) (.pointer (some ⟨R, 0, none⟩)) 3 P.s (nextKL 3 P.s P (runK P l) L at') L X Y P (nextK P.s P (runK P l) L) l Rr → Calls Try.prog 15 #[.pointer (some ⟨Y, 0, none⟩), (.pointer (some ⟨R, 0, none⟩)), .int .i64 at'] w' fun e w'' => e = .returned (.tuple #[.int .i64 (ansKK P.s P (runK P l) L), .int .i64 (errKK P.s P (runK P l) L)]) ∧ KBW w w'' bs (.pointer (some ⟨M, 0, none⟩)) (.pointer (some ⟨R, 0, none⟩)) 3 P.s (nextKL 3 P.s P (runK P l) L at') (nextKL 3 P.s P (runK P l) L at') X Y P (runK P (nextKI P.s P (runK P l) L l)) (nextKI P.s P (runK P l) L l) Rr) := fun w' Rr h => by
            have := kbw_dstep h hL HE.out.lk HPK.out HE.out.gd at'
            rw [(lkk_next HE.out.lk HE.out.gd).2]
            exact this
          have HLK2 : Hid (LKk P (nextKI P.s P (runK P l) L l)) := (lkk_next HE.out.lk HE.out.gd).1
          have HBD2 : Hid (Gd (nextKL 3 P.s P (runK P l) L at')) := gd_next HE.out.gd
          have HLEN2 : Hid ((nextKL 3 P.s P (runK P l) L at').length ≤ q + 1) := by have h1 := nextKL_len 3 P.s P (runK P l) L at'; have h2 := HE.out.len; rw [Hid]; omega
          have hkk := ansKK_ne P.s P (runK P l) L
          generalize nextKL 3 P.s P (runK P l) L at' = L' at *
          generalize nextKI P.s P (runK P l) L l = l' at *
          generalize nextK P.s P (runK P l) L = b' at *
          generalize ansKK P.s P (runK P l) L = kk at *
          generalize errKK P.s P (runK P l) L = ee at *
          generalize goesK P.s P (runK P l) = gg at *
          have HBLO : Hid (w.heap.size ≤ wr.heap.size) := HE.out.way.bel.size
          go_wp2_with fail
          refine (HT.out _ [] HE.out.way).mono ?_
          rintro e y7 ⟨rfl, h7⟩
          have HW7 : Hid (KBW w (y7.alloc (.cells #[.int .i64 kk, .int .i64 ee, .int .i64 0, .bool gg] 50)) bs (.pointer (some ⟨M, 0, none⟩)) (.pointer (some ⟨R, 0, none⟩)) 3 P.s L' L X Y P b' l [(y7.heap.size, ansOE kk ee gg)]) := h7.more _
          obtain ⟨e0, e1, e2, e3, e4, e5⟩ := HR6w.out _ HW7.out.bel
          rw [add_pos' _ _ (by decide)] at e1 e2 e3 e4 e5
          simp only at e0 e1 e2 e3 e4 e5
          clear h7 c0 c1 c2 c3 c4 c5
          go_wp2_with fail
          refine (HD.out _ _ HW7.out).mono ?_
          rintro e y8 ⟨rfl, h8⟩
          have HW8 : Hid (KBW w y8 bs (.pointer (some ⟨M, 0, none⟩)) (.pointer (some ⟨R, 0, none⟩)) 3 P.s L' L' X Y P (runK P l') l' []) := h8.less (fun z hz => by simp at hz)
          obtain ⟨a0, a1, a2, a3⟩ := ansE_cells (k := kk) (e := ee) (y := gg) (h8.row (B := y7.heap.size) (o := ansOE kk ee gg) (by simp))
          clear h8 HW7 e0 e1 e2 e3 e4 e5
          have hee : (kk != kk) = false := by simp
          have hee2 : (ee != ee) = false := by simp
          have hgg : (gg != gg) = false := by simp
          go_wp2
          go_roundw
          case rel => exact ⟨q + 1, L', l', by omega, by go_num, HW8.out, HLK2.out, HBD2.out, HLEN2.out⟩
          case measure => simp [intOf]; omega
        · have dk2 : decide (ak = 2) = false := by simpa using hk2
          by_cases hk3 : ak = 3
          · subst hk3
            clear hk1 hk2
            have HSA : Hid (∀ w', KBW w w' bs (.pointer (some ⟨M, 0, none⟩)) (.pointer (some ⟨R, 0, none⟩)) 3 P.s L L X Y P (runK P l) l [] → Calls Try.prog 16 #[.pointer (some ⟨X, 0, none⟩), .pointer (some ⟨Y, 0, none⟩)] w' fun e w'' => e = .returned (.bool true) ∧ KBW w w'' bs (.pointer (some ⟨M, 0, none⟩)) (.pointer (some ⟨R, 0, none⟩)) 3 P.s L L X Y P (runK P l) l []) := fun w' h => kbw_starts h HE.out.lk HPK.out
            go_wp2_with fail
            refine (HSA.out _ HE.out.way).mono ?_
            rintro e y7 ⟨rfl, h7⟩
            have HW7 : Hid (KBW w y7 bs (.pointer (some ⟨M, 0, none⟩)) (.pointer (some ⟨R, 0, none⟩)) 3 P.s L L X Y P (runK P l) l []) := h7
            clear h7
            go_wp2
            go_roundw
            case rel => exact ⟨q + 1, L, l, by omega, by go_num, HW7.out, HE.out.lk, HE.out.gd, by have := HE.out.len; omega⟩
            case measure => simp [intOf]; omega
          · have dk3 : decide (ak = 3) = false := by simpa using hk3
            go_wp2
            go_roundw
            case rel => exact ⟨q + 1, L, l, by omega, by go_num, HE.out.way, HE.out.lk, HE.out.gd, by have := HE.out.len; omega⟩
            case measure => simp [intOf]; omega
    · obtain rfl : q = n := by omega
      have hd : decide ((q : Int) < (q : Int)) = false := by simp
      have HSA : Hid (∀ w', KBW w w' bs (.pointer (some ⟨M, 0, none⟩)) (.pointer (some ⟨R, 0, none⟩)) 3 P.s L L X Y P (runK P l) l [] → Calls Try.prog 16 #[.pointer (some ⟨X, 0, none⟩), .pointer (some ⟨Y, 0, none⟩)] w' fun e w'' => e = .returned (.bool true) ∧ KBW w w'' bs (.pointer (some ⟨M, 0, none⟩)) (.pointer (some ⟨R, 0, none⟩)) 3 P.s L L X Y P (runK P l) l []) := fun w' h => kbw_starts h HE.out.lk HPK.out
      go_wp2_with fail
      refine (HSA.out _ HE.out.way).mono ?_
      rintro e y7 ⟨rfl, h7⟩
      have HW7 : Hid (KBW w y7 bs (.pointer (some ⟨M, 0, none⟩)) (.pointer (some ⟨R, 0, none⟩)) 3 P.s L L X Y P (runK P l) l []) := h7
      obtain ⟨F7, D7, G7, ha7⟩ := h7.all
      obtain ⟨ra, rc, hrl⟩ := ha7.ds.ref.count
      have hRl : R < y7.heap.size := World.block_lt_of_cell? _ _ hrl
      have HLG : Hid (∀ w', Below y7.heap.size y7 w' → Calls Try.prog 18 #[(.pointer (some ⟨M, 0, none⟩)), .int .i64 0] w' fun e w'' => ∃ v, e = .returned v ∧ LLst w'' v L ∧ Below w'.heap.size w' w'') := fun w' hb => by
        refine (log_any (ha7.ps.mem.below hb) (by omega) 0).mono ?_
        rintro e w'' ⟨v, rfl, ho, hb2⟩
        exact ⟨v, rfl, own_llst ho (by have : (L.drop (0 : Int).toNat).length = L.length := rfl; omega), hb2⟩
      have HRL : Hid (∀ w', Below y7.heap.size y7 w' → LLst w' (.slice ra L.length rc) L) := fun w' hb => by
        obtain ⟨R', v, hq⟩ := ha7.ds.ref.below hb
        obtain rfl : R = R' := by simpa using hq.p
        have hv : w'.cell? ⟨R, 2, none⟩ = some v := by rw [cell_at hq.m]; rfl
        rw [cell_later hb hRl hrl] at hv
        obtain rfl : Value.slice ra L.length rc = v := by simpa using hv
        exact own_llst hq.own (by omega)
      generalize L.length = nL at HLG HRL hrl
      have HBY : Hid (Below w.heap.size w y7) := h7.bel
      clear h7 ha7
      go_wp2_with fail
      go_region_with ((first | (go_at_call 18; refine (HLG.out _ (below_drawn (Below.refl _ _) 1)).mono ?_; rintro e y9 ⟨v9, rfl, hl9, hb9⟩; obtain ⟨va9, vc9, rfl, _⟩ := id hl9; have hr9 := cell_later (below_then (below_drawn (Below.refl _ _) 1) hb9) hRl hrl) | (go_at_call 17; refine (accesses_same _ _ _ L hl9 (HRL.out _ (below_then (below_drawn (Below.refl _ _) 1) hb9))).mono ?_; rintro e y10 ⟨rfl, n10, rfl⟩)))
      all_goals
        have HBE : Hid (Below w.heap.size w (y9.drewN n10)) := below_drawn (below_then HBY.out (below_then (below_drawn (Below.refl _ _) 1) hb9)) n10
        clear hl9 hb9
        go_wp2
        go_ret
        exact ⟨rfl, HBE.out⟩
end Go.Proofs.Ytemdgknfedaaiaa
