/- BeginPlays walked. -/
import Derived.Test.YtcckdjmbjghbdaaBegP
import Derived.Test.YtcckdjmbjghbdaaRefE
namespace Go.Proofs.Ytcckdjmbjghbdaa
open Go.ChangeShapes Go.WideShapes Go.ChangeAt Go.RowKit
attribute [local go_sem ↓] Go.wp_at_zero Go.wp_at_succ

set_option maxRecDepth 100000 in
theorem bplays_no (w : World) (z r : Int) (a : Option Addr) (n cap : Nat) (h : ¬ (1 ≤ z ∧ z ≤ 16)) :
    Calls Try.prog 3 #[.int .i64 z, .int .i64 r, .slice a n cap] w fun e w' => e = .returned (.bool true) ∧ Below w.heap.size w w' := by
  have HS : Hid (∀ w : World, Calls Try.prog 6 #[] w fun e w' => e = .returned (.bool true) ∧ Below w.heap.size w w') := bshown_any
  have HB : Hid (∀ w : World, Calls Try.prog 7 #[.int .i64 z] w fun e w' => e = .returned (.tuple #[.pointer none, .int .i64 1]) ∧ Below w.heap.size w w') := fun w => bnew_no w z h
  have HT : Hid (∀ w : World, Calls Try.prog 8 #[.int .i64 z] w fun e w' => e = .returned (.bool false) ∧ w' = w) := fun w => by
    have e : decide (1 ≤ z ∧ z ≤ 16) = false := by simpa using h
    rw [← e]; exact takes7_any z w
  clear h
  go_enter Try.func3, Try.ntmps3
  go_wp2_with fail
  refine (HS.out _).mono ?_
  rintro e y1 ⟨rfl, hb1⟩
  have HB1 : Hid (Below w.heap.size w y1) := hb1
  clear hb1
  go_wp2_with fail
  refine (HB.out _).mono ?_
  rintro e y2 ⟨rfl, hb2⟩
  have HB2 : Hid (Below w.heap.size w y2) := below_then HB1.out hb2
  clear hb2
  go_wp2_with fail
  refine (HT.out _).mono ?_
  rintro e y3 ⟨rfl, rfl⟩
  go_wp2
  go_ret
  exact ⟨rfl, HB2.out⟩

set_option maxRecDepth 100000 in
theorem bplays_may (w : World) (s : Nat) (hs1 : 1 ≤ s) (hs16 : s ≤ 16) (r : Int) (a : Option Addr) (n cap : Nat) (h : takes 3 r = false) :
    Calls Try.prog 3 #[.int .i64 (s : Int), .int .i64 r, .slice a n cap] w fun e w' => e = .returned (.bool true) ∧ Below w.heap.size w w' := by
  have HS : Hid (∀ w : World, Calls Try.prog 6 #[] w fun e w' => e = .returned (.bool true) ∧ Below w.heap.size w w') := bshown_any
  have HB : Hid (∀ w : World, Calls Try.prog 7 #[.int .i64 (s : Int)] w fun e w' => e = .returned (.tuple #[.pointer (some ⟨w.heap.size, 0, none⟩), .int .i64 0]) ∧ BAt w' w.heap.size s bgNew ∧ Below w.heap.size w w') := fun w => bnew_yes w s hs1 hs16
  have HT : Hid (∀ w : World, Calls Try.prog 8 #[.int .i64 (s : Int)] w fun e w' => e = .returned (.bool true) ∧ w' = w) := fun w => by
    have e : decide (1 ≤ (s : Int) ∧ (s : Int) ≤ 16) = true := by simp; omega
    rw [← e]; exact takes7_any s w
  have HT3 : Hid (∀ w : World, Calls Try.prog 9 #[.int .i64 3, .int .i64 r] w fun e w' => e = .returned (.bool false) ∧ w' = w) := fun w => by rw [← h]; exact takes_any 3 r w
  clear h
  go_enter Try.func3, Try.ntmps3
  go_wp2_with fail
  refine (HS.out _).mono ?_
  rintro e y1 ⟨rfl, hb1⟩
  have HB1 : Hid (Below w.heap.size w y1) := hb1
  clear hb1
  go_wp2_with fail
  refine (HB.out _).mono ?_
  rintro e y2 ⟨rfl, _, hb2⟩
  have HB2 : Hid (Below w.heap.size w y2) := below_then HB1.out hb2
  clear hb2
  go_wp2_with fail
  refine (HT.out _).mono ?_
  rintro e y3 ⟨rfl, rfl⟩
  go_wp2_with fail
  refine (HT3.out _).mono ?_
  rintro e y4 ⟨rfl, rfl⟩
  go_wp2
  go_ret
  exact ⟨rfl, HB2.out⟩

theorem memAt_base' {w : World} {base base' : Nat} {p : Value} {c r : Nat} {L : List Ac} {F : List Nat} (h : MemAt w base p c r L F) (hb : base' ≤ base) : MemAt w base' p c r L F := by
  obtain ⟨M, H, S, C, v, h⟩ := h
  exact ⟨M, H, S, C, v, h.p, h.m, own_base h.own hb, h.F, by have := h.bM; omega, by have := h.bH; omega, by have := h.bS; omega, by have := h.bC; omega, h.c, h.r⟩
theorem bway_new {w0 w1 w2 w5 w6 : World} {p q : Value} {c r s : Nat} {F G : List Nat} (hb : Below w0.heap.size w0 w1) (hx : BAt w2 w1.heap.size s bgNew) (hb2 : Below w1.heap.size w1 w2) (hm : MemAt w5 w2.heap.size p c r [] F) (hb5 : Below w2.heap.size w2 w5) (hr : RefAt w6 w5.heap.size q c r [] G) (hb6 : Below w5.heap.size w5 w6) :
    BWay w0 (w6.alloc (.cells #[.int .i64 (s : Int), .slice none 0 0] 38)) w1.heap.size p q c r [] [] w1.heap.size w6.heap.size s bgNew [] [] := by
  have h12 := hb2.size
  have h25 := hb5.size
  have h56 := hb6.size
  have hX := heap_lt hx
  have ba := below_a1 w6 (.cells #[.int .i64 (s : Int), .slice none 0 0] 38)
  refine ⟨⟨F, G, [w6.heap.size], ⟨((memAt_base' hm hb2.size).below hb6).below ba, ((hx.below hb5 hX).below hb6 (by omega)).below ba (by omega), fun e => by have := (hm.lt _ e).1; omega, Nat.le_refl _⟩, ⟨(refAt_base hr (by omega)).below ba, rb_new w6 _ s (by omega), fun z hz hg => by
      simp at hz
      subst hz
      have := (hr.lt _ hg).2
      omega⟩, fun z hz hd => ?_, fun z hz => by simp at hz, fun z hz => by simp at hz⟩, below_then (below_then (below_then (below_then hb hb2) hb5) hb6) ba, hb.size, by simp; omega⟩
  rcases List.mem_append.1 hd with h1 | h1
  · simp at h1
    rcases List.mem_cons.1 hz with h2 | h2
    · omega
    · have := (hm.lt _ h2).2; omega
  · have h3 := (hr.lt _ h1).1
    rcases List.mem_cons.1 hz with h2 | h2
    · omega
    · have := (hm.lt _ h2).2; omega
theorem BWay.lay4 {w0 w : World} {base : Nat} {p q : Value} {c r : Nat} {L K : List Ac} {X Y s : Nat} {b : Bg} {l : List Int} {B : Nat} {k0 : Int} {y0 : Bool} (hw : BWay w0 w base p q c r L K X Y s b l [(B, ansO k0 y0)]) (hB : w0.heap.size ≤ B) (k : Int) (y : Bool) : BWay w0 (laid4 w B k y) base p q c r L K X Y s b l [(B, ansO k y)] := by
  obtain ⟨F, D, G, h⟩ := hw.all
  have hm : (B, ansO k0 y0) ∈ [(B, ansO k0 y0)] := by simp
  have hr := ans_set (cs := #[.int .i64 k0, .int .i64 0, .int .i64 0, .bool y0]) rfl (hw.row hm) k y
  have o1 := (h.kp _ hm).2
  have o2 := (h.kd _ hm).2
  refine ⟨⟨F, D, G, h.ps.keep (keepB k y) (fun z hz e => by simp at e; exact o1 (e ▸ hz)), h.ds.keep (keepB k y) (fun z hz e => by simp at e; exact o2 (e ▸ hz)), h.apart, fun z hz => ?_, fun z hz => ?_⟩, below4 hw.bel hB k y, hw.lo, Nat.le_trans hw.size (keepB (w := w) (B := B) k y).size⟩
  · simp at hz; subst hz; exact ⟨hr, o1⟩
  · simp at hz; subst hz; exact ⟨hr, o2⟩
theorem ansK_ne (r s : Nat) (b : Bg) (L : List Ac) : (ansK r s b L != 0) = goesB r s b := by
  unfold ansK
  by_cases h : goesB r s b = true
  · rw [if_pos h, h]; split <;> rfl
  · rw [if_neg h, show goesB r s b = false by simpa using h]; rfl

/-- Both under way, behind q acts. -/
structure Plays_ (w wr : World) (bs : Nat) (p q : Value) (r X Y s i : Nat) (L : List Ac) (b : Bg) (l : List Int) : Prop where
  way : BWay w wr bs p q 3 r L L X Y s b l []
  ok : BOk s b
  lok : LOk s b l
  bd : Bd7 (wordOf L)
  len : L.length ≤ i

set_option maxRecDepth 100000 in
set_option maxHeartbeats 6400000 in
theorem bplays_yes (w : World) (s r : Nat) (hs1 : 1 ≤ s) (hs16 : s ≤ 16) (hr1 : 1 ≤ r) (hr16 : r ≤ 16) (v : Value) (S : List At) (hv : BLst w v S) :
    Calls Try.prog 3 #[.int .i64 (s : Int), .int .i64 (r : Int), v] w fun e w' => e = .returned (.bool true) ∧ Below w.heap.size w w' := by
  have HS : Hid (∀ w : World, Calls Try.prog 6 #[] w fun e w' => e = .returned (.bool true) ∧ Below w.heap.size w w') := bshown_any
  have HB : Hid (∀ w : World, Calls Try.prog 7 #[.int .i64 (s : Int)] w fun e w' => e = .returned (.tuple #[.pointer (some ⟨w.heap.size, 0, none⟩), .int .i64 0]) ∧ BAt w' w.heap.size s bgNew ∧ Below w.heap.size w w') := fun w => bnew_yes w s hs1 hs16
  have HT : Hid (∀ w : World, Calls Try.prog 8 #[.int .i64 (s : Int)] w fun e w' => e = .returned (.bool true) ∧ w' = w) := fun w => by
    have e : decide (1 ≤ (s : Int) ∧ (s : Int) ≤ 16) = true := by simp; omega
    rw [← e]; exact takes7_any s w
  have HT3 : Hid (∀ w : World, Calls Try.prog 9 #[.int .i64 3, .int .i64 (r : Int)] w fun e w' => e = .returned (.bool true) ∧ w' = w) := fun w => by
    have h : takes 3 (r : Int) = true := by simp [takes]; omega
    rw [← h]; exact takes_any 3 r w
  have HN : Hid (∀ w : World, Calls Try.prog 10 #[.int .i64 3, .int .i64 (r : Int)] w fun e w' => ∃ p F, e = .returned (.tuple #[p, .int .i64 0]) ∧ p ≠ .pointer none ∧ MemAt w' w.heap.size p 3 r [] F ∧ Below w.heap.size w w') := fun w => new_yes w 3 r (by decide) ⟨hr1, hr16⟩
  have HR : Hid (∀ w : World, Calls Try.prog 11 #[.int .i64 3, .int .i64 (r : Int)] w fun e w' => ∃ p G, e = .returned p ∧ RefAt w' w.heap.size p 3 r [] G ∧ Below w.heap.size w w') := rnew_any 3 r
  obtain ⟨va, vcap, rfl, hbig, hfit, hl⟩ := hv
  have HC : Hid (∀ q, q < S.length → ∃ x, va = some x ∧ x.block < w.heap.size ∧ Row6 w (x.add (q * 6)) (S.getD q noAt)) := by
    intro q hq
    rcases hl with rfl | ⟨x, hx, hxb, hcc⟩
    · exact absurd hq (by simp)
    · exact ⟨x, hx, hxb, hcc q hq⟩
  have HF : Hid (∀ i, i < S.length → W64 (S.getD i noAt).v) := hfit
  clear hl hfit
  generalize hn : S.length = n at *
  clear hn
  go_enter Try.func3, Try.ntmps3
  go_wp2_with fail
  refine (HS.out _).mono ?_
  rintro e y1 ⟨rfl, hb1⟩
  have HB1 : Hid (Below w.heap.size w y1) := hb1
  clear hb1
  go_wp2_with fail
  refine (HB.out _).mono ?_
  rintro e y2 ⟨rfl, hx2, hb2⟩
  have HX2 : Hid (BAt y2 y1.heap.size s bgNew ∧ Below y1.heap.size y1 y2) := ⟨hx2, hb2⟩
  clear hx2 hb2
  go_wp2_with fail
  refine (HT.out _).mono ?_
  rintro e y3 ⟨rfl, rfl⟩
  go_wp2_with fail
  refine (HT3.out _).mono ?_
  rintro e y4 ⟨rfl, rfl⟩
  go_wp2_with fail
  refine (HN.out _).mono ?_
  rintro e y5 ⟨p, F5, rfl, _, hm5, hb5⟩
  obtain ⟨M, rfl⟩ := hm5.ptr
  have HM5 : Hid (MemAt y5 y4.heap.size (.pointer (some ⟨M, 0, none⟩)) 3 r [] F5 ∧ Below y4.heap.size y4 y5) := ⟨hm5, hb5⟩
  clear hm5 hb5
  go_wp2_with fail
  refine (HR.out _).mono ?_
  rintro e y6 ⟨q0, G6, rfl, hr6, hb6⟩
  obtain ⟨R, rfl⟩ := hr6.ptr
  have HR6 : Hid (RefAt y6 y5.heap.size (.pointer (some ⟨R, 0, none⟩)) 3 r [] G6 ∧ Below y5.heap.size y5 y6) := ⟨hr6, hb6⟩
  clear hr6 hb6
  have HW6 : Hid (BWay w (y6.alloc (.cells #[.int .i64 (s : Int), .slice none 0 0] 38)) y1.heap.size (.pointer (some ⟨M, 0, none⟩)) (.pointer (some ⟨R, 0, none⟩)) 3 r [] [] y1.heap.size y6.heap.size s bgNew [] []) := bway_new HB1.out HX2.out.1 HX2.out.2 HM5.out.1 HM5.out.2 HR6.out.1 HR6.out.2
  go_wp2
  have HP6 : Hid (Plays_ w (y6.alloc (.cells #[.int .i64 (s : Int), .slice none 0 0] 38)) y1.heap.size (.pointer (some ⟨M, 0, none⟩)) (.pointer (some ⟨R, 0, none⟩)) r y1.heap.size y6.heap.size s 0 [] bgNew []) := ⟨HW6.out, bok_new hs1 hs16, lok_new hs1 hs16, bd7_nil, Nat.le_refl _⟩
  clear HW6 HM5 HR6 HX2 HB HT HT3 HN HR
  generalize y1.heap.size = bs at *
  generalize y6.heap.size = Y at *
  go_loopw [16] (fun iv wr => ∃ (q : Nat) (L : List Ac) (b : Bg) (l : List Int), q ≤ n ∧ iv = .int .i64 q ∧ Plays_ w wr bs (.pointer (some ⟨M, 0, none⟩)) (.pointer (some ⟨R, 0, none⟩)) r bs Y s q L b l) (fun iv _ => n - (intOf iv).toNat)
  case atStart => exact ⟨0, [], bgNew, [], Nat.zero_le _, rfl, HP6.out⟩
  case round =>
    obtain ⟨q, L, b, l, hq, rfl, he⟩ := hrel
    have HE : Hid (Plays_ w wr bs (.pointer (some ⟨M, 0, none⟩)) (.pointer (some ⟨R, 0, none⟩)) r bs Y s q L b l) := he
    have hL : L.length < 3298534883328 := by have := he.len; omega
    clear he HP6
    by_cases hlt : q < n
    · obtain ⟨x, rfl, hxb, hrow⟩ := HC.out q hlt
      have hrow2 := hrow.later HE.out.way.bel (by rw [add_block]; exact hxb)
      have HR6w : Hid (∀ w', Below w.heap.size w w' → Row6 w' (x.add (q * 6)) (S.getD q noAt)) := fun w' hb => hrow.later hb (by rw [add_block]; exact hxb)
      have hfit := HF.out q hlt
      have d1 : decide ((q : Int) < (n : Int)) = true := by simp; omega
      have hx1 : (q : Int) < (n : Int) := by omega
      clear hrow
      generalize S.getD q noAt = atx at hrow2 hfit HR6w
      obtain ⟨ak, at', ⟨ka, ai, aj⟩, av⟩ := atx
      obtain ⟨c0, c1, c2, c3, c4, c5⟩ := hrow2
      rw [add_pos' _ _ (by decide)] at c1 c2 c3 c4 c5
      simp only at c0 c1 c2 c3 c4 c5 hfit
      by_cases hk1 : ak = 1
      · subst hk1
        have HST : Hid (Calls Try.prog 12 #[(.pointer (some ⟨M, 0, none⟩)), .int .i64 (-1), .agg #[.int .i64 ka, .int .i64 ai, .int .i64 aj], .int .i64 av] wr.drew fun e w' => e = .returned (.int .i64 (if isAd 3 r ⟨ka, ai, aj⟩ then 0 else 1)) ∧ BWay w w' bs (.pointer (some ⟨M, 0, none⟩)) (.pointer (some ⟨R, 0, none⟩)) 3 r (storeL 3 r L (-1) ⟨ka, ai, aj⟩ av) L bs Y s b l []) := bway_pstore (HE.out.way.later (below_drawn (Below.refl _ _) 1)) hL (-1) ⟨ka, ai, aj⟩ av
        have HRS : Hid (∀ w', BWay w w' bs (.pointer (some ⟨M, 0, none⟩)) (.pointer (some ⟨R, 0, none⟩)) 3 r (storeL 3 r L (-1) ⟨ka, ai, aj⟩ av) L bs Y s b l [] → Calls Try.prog 13 #[(.pointer (some ⟨R, 0, none⟩)), .int .i64 (-1), .agg #[.int .i64 ka, .int .i64 ai, .int .i64 aj], .int .i64 av] w'.drew fun e w'' => e = .returned (.int .i64 (if isAd 3 r ⟨ka, ai, aj⟩ then 0 else 1)) ∧ BWay w w'' bs (.pointer (some ⟨M, 0, none⟩)) (.pointer (some ⟨R, 0, none⟩)) 3 r (storeL 3 r L (-1) ⟨ka, ai, aj⟩ av) (storeL 3 r L (-1) ⟨ka, ai, aj⟩ av) bs Y s b l []) := fun w' h => bway_dstore (h.later (below_drawn (Below.refl _ _) 1)) hL (-1) ⟨ka, ai, aj⟩ av
        have HLEN2 : Hid ((storeL 3 r L (-1) ⟨ka, ai, aj⟩ av).length ≤ q + 1) := by have h1 := storeL_len7 3 r L (-1) ⟨ka, ai, aj⟩ av; have h2 := HE.out.len; rw [Hid]; omega
        have HBD2 : Hid (Bd7 (wordOf (storeL 3 r L (-1) ⟨ka, ai, aj⟩ av))) := bd7_store HE.out.bd hfit
        generalize storeL 3 r L (-1) ⟨ka, ai, aj⟩ av = L' at *
        generalize (if isAd 3 r ⟨ka, ai, aj⟩ = true then (0 : Int) else 1) = ea at *
        go_wp2_with fail
        go_region_with ((go_at_call 12; refine HST.out.mono ?_; rintro e y7 ⟨rfl, h7⟩))
        all_goals
          have HRS7 : Hid (Calls Try.prog 13 #[(.pointer (some ⟨R, 0, none⟩)), .int .i64 (-1), .agg #[.int .i64 ka, .int .i64 ai, .int .i64 aj], .int .i64 av] y7.drew fun e w'' => e = .returned (.int .i64 ea) ∧ BWay w w'' bs (.pointer (some ⟨M, 0, none⟩)) (.pointer (some ⟨R, 0, none⟩)) 3 r L' L' bs Y s b l []) := HRS.out _ h7
          obtain ⟨e0, e1, e2, e3, e4, e5⟩ := HR6w.out y7 h7.bel
          rw [add_pos' _ _ (by decide)] at e1 e2 e3 e4 e5
          simp only at e0 e1 e2 e3 e4 e5
          clear h7 c0 c1 c2 c3 c4 c5
          go_wp2_with fail
          go_region_with ((go_at_call 13; refine HRS7.out.mono ?_; rintro e y8 ⟨rfl, h8⟩))
        all_goals
          have HW8 : Hid (BWay w y8 bs (.pointer (some ⟨M, 0, none⟩)) (.pointer (some ⟨R, 0, none⟩)) 3 r L' L' bs Y s b l []) := h8
          clear h8 e0 e1 e2 e3 e4 e5
          go_wp2
          go_roundw
          case rel => exact ⟨q + 1, L', b, l, by omega, by go_num, HW8.out, HE.out.ok, HE.out.lok, HBD2.out, HLEN2.out⟩
          case measure => simp [intOf]; omega
      · have dk1 : decide (ak = 1) = false := by simpa using hk1
        by_cases hk2 : ak = 2
        · subst hk2
          clear hk1
          have HT : Hid (∀ w' Rr, BWay w w' bs (.pointer (some ⟨M, 0, none⟩)) (.pointer (some ⟨R, 0, none⟩)) 3 r L L bs Y s b l Rr → Calls Try.prog 14 #[.pointer (some ⟨bs, 0, none⟩), (.pointer (some ⟨M, 0, none⟩)), .int .i64 at'] w' fun e w'' => e = .returned (.agg #[.int .i64 (ansK r s b L), .int .i64 0, .int .i64 0, .bool (goesB r s b)]) ∧ BWay w w'' bs (.pointer (some ⟨M, 0, none⟩)) (.pointer (some ⟨R, 0, none⟩)) 3 r (nextL 3 r s b L at') L bs Y s (nextB r s b L) l Rr) := fun w' Rr h => bway_pstep h hL HE.out.ok at'
          have HD : Hid (∀ w' Rr, BWay w w' bs (.pointer (some ⟨M, 0, none⟩)) (.pointer (some ⟨R, 0, none⟩)) 3 r (nextL 3 r s b L at') L bs Y s (nextB r s b L) l Rr → Calls Try.prog 15 #[.pointer (some ⟨Y, 0, none⟩), (.pointer (some ⟨R, 0, none⟩)), .int .i64 at'] w' fun e w'' => e = .returned (.int .i64 (ansK r s b L)) ∧ BWay w w'' bs (.pointer (some ⟨M, 0, none⟩)) (.pointer (some ⟨R, 0, none⟩)) 3 r (nextL 3 r s b L at') (nextL 3 r s b L at') bs Y s (nextB r s b L) (nextI r s b L l) Rr) := fun w' Rr h => bway_dstep h hL HE.out.ok HE.out.lok (HE.out.bd _) at'
          have HOK2 : Hid (BOk s (nextB r s b L)) := bok_next HE.out.ok (HE.out.bd _)
          have HLK2 : Hid (LOk s (nextB r s b L) (nextI r s b L l)) := lok_next HE.out.lok (HE.out.bd _)
          have HBD2 : Hid (Bd7 (wordOf (nextL 3 r s b L at'))) := bd7_next HE.out.bd
          have HLEN2 : Hid ((nextL 3 r s b L at').length ≤ q + 1) := by have h1 := nextL_len 3 r s b L at'; have h2 := HE.out.len; rw [Hid]; omega
          have hkk := ansK_ne r s b L
          generalize nextL 3 r s b L at' = L' at *
          generalize nextI r s b L l = l' at *
          generalize nextB r s b L = b' at *
          generalize ansK r s b L = kk at *
          generalize goesB r s b = gg at *
          have HBLO : Hid (w.heap.size ≤ wr.heap.size) := HE.out.way.bel.size
          go_wp2_with fail
          refine (HT.out _ [] HE.out.way).mono ?_
          rintro e y7 ⟨rfl, h7⟩
          have HW7 : Hid (BWay w (y7.alloc (.cells #[.int .i64 kk, .int .i64 0, .int .i64 0, .bool gg] 46)) bs (.pointer (some ⟨M, 0, none⟩)) (.pointer (some ⟨R, 0, none⟩)) 3 r L' L bs Y s b' l [(y7.heap.size, ansO kk gg)]) := h7.more _
          obtain ⟨e0, e1, e2, e3, e4, e5⟩ := HR6w.out _ HW7.out.bel
          rw [add_pos' _ _ (by decide)] at e1 e2 e3 e4 e5
          simp only at e0 e1 e2 e3 e4 e5
          clear h7 c0 c1 c2 c3 c4 c5
          go_wp2_with fail
          refine (HD.out _ _ HW7.out).mono ?_
          rintro e y8 ⟨rfl, h8⟩
          have HW8 : Hid (BWay w y8 bs (.pointer (some ⟨M, 0, none⟩)) (.pointer (some ⟨R, 0, none⟩)) 3 r L' L' bs Y s b' l' []) := h8.less (fun z hz => by simp at hz)
          obtain ⟨⟨a0, a1, a2, a3⟩, _⟩ := ans_cells (k := kk) (y := gg) (h8.row (B := y7.heap.size) (o := ansO kk gg) (by simp))
          clear h8 HW7 e0 e1 e2 e3 e4 e5
          have hee : (kk != kk) = false := by simp
          have hgg : (gg != gg) = false := by simp
          go_wp2
          go_roundw
          case rel => exact ⟨q + 1, L', b', l', by omega, by go_num, HW8.out, HOK2.out, HLK2.out, HBD2.out, HLEN2.out⟩
          case measure => simp [intOf]; omega
        · have dk2 : decide (ak = 2) = false := by simpa using hk2
          by_cases hk3 : ak = 3
          · subst hk3
            clear hk1 hk2
            have HSA : Hid (∀ w', BWay w w' bs (.pointer (some ⟨M, 0, none⟩)) (.pointer (some ⟨R, 0, none⟩)) 3 r L L bs Y s b l [] → Calls Try.prog 16 #[.pointer (some ⟨bs, 0, none⟩), .pointer (some ⟨Y, 0, none⟩)] w' fun e w'' => e = .returned (.bool true) ∧ BWay w w'' bs (.pointer (some ⟨M, 0, none⟩)) (.pointer (some ⟨R, 0, none⟩)) 3 r L L bs Y s b l []) := fun w' h => bway_starts h HE.out.lok
            go_wp2_with fail
            refine (HSA.out _ HE.out.way).mono ?_
            rintro e y7 ⟨rfl, h7⟩
            have HW7 : Hid (BWay w y7 bs (.pointer (some ⟨M, 0, none⟩)) (.pointer (some ⟨R, 0, none⟩)) 3 r L L bs Y s b l []) := h7
            clear h7
            go_wp2
            go_roundw
            case rel => exact ⟨q + 1, L, b, l, by omega, by go_num, HW7.out, HE.out.ok, HE.out.lok, HE.out.bd, by have := HE.out.len; omega⟩
            case measure => simp [intOf]; omega
          · have dk3 : decide (ak = 3) = false := by simpa using hk3
            go_wp2
            go_roundw
            case rel => exact ⟨q + 1, L, b, l, by omega, by go_num, HE.out.way, HE.out.ok, HE.out.lok, HE.out.bd, by have := HE.out.len; omega⟩
            case measure => simp [intOf]; omega
    · obtain rfl : q = n := by omega
      have hd : decide ((q : Int) < (q : Int)) = false := by simp
      have HSA : Hid (∀ w', BWay w w' bs (.pointer (some ⟨M, 0, none⟩)) (.pointer (some ⟨R, 0, none⟩)) 3 r L L bs Y s b l [] → Calls Try.prog 16 #[.pointer (some ⟨bs, 0, none⟩), .pointer (some ⟨Y, 0, none⟩)] w' fun e w'' => e = .returned (.bool true) ∧ BWay w w'' bs (.pointer (some ⟨M, 0, none⟩)) (.pointer (some ⟨R, 0, none⟩)) 3 r L L bs Y s b l []) := fun w' h => bway_starts h HE.out.lok
      go_wp2_with fail
      refine (HSA.out _ HE.out.way).mono ?_
      rintro e y7 ⟨rfl, h7⟩
      have HW7 : Hid (BWay w y7 bs (.pointer (some ⟨M, 0, none⟩)) (.pointer (some ⟨R, 0, none⟩)) 3 r L L bs Y s b l []) := h7
      obtain ⟨F7, D7, G7, ha7⟩ := h7.all
      obtain ⟨ra, rc, hrl⟩ := ha7.ds.ref.count
      have hRl : R < y7.heap.size := World.block_lt_of_cell? _ _ hrl
      have HLG : Hid (∀ w', Below y7.heap.size y7 w' → Calls Try.prog 18 #[(.pointer (some ⟨M, 0, none⟩)), .int .i64 0] w' fun e w'' => ∃ v, e = .returned v ∧ LLst w'' v L ∧ Below w'.heap.size w' w'') := fun w' hb => by
        refine (log_any (ha7.ps.mem.below hb) (by omega) 0).mono ?_
        rintro e w'' ⟨v, rfl, ho, hb2⟩
        exact ⟨v, rfl, own_llst ho (by have : (L.drop (0 : Int).toNat).length = L.length := rfl; omega), hb2⟩
      have HRL : Hid (∀ w', Below y7.heap.size y7 w' → LLst w' (.slice ra L.length rc) L) := fun w' hb => by
        obtain ⟨R', v, hq⟩ := ha7.ds.ref.below hb
        obtain rfl : R = R' := by simpa using hq.p
        have hv : w'.cell? ⟨R, 2, none⟩ = some v := by rw [cell_at hq.m]; rfl
        rw [cell_later hb hRl hrl] at hv
        obtain rfl : Value.slice ra L.length rc = v := by simpa using hv
        exact own_llst hq.own (by omega)
      generalize L.length = nL at HLG HRL hrl
      have HBY : Hid (Below w.heap.size w y7) := h7.bel
      clear h7 ha7
      go_wp2_with fail
      go_region_with ((first | (go_at_call 18; refine (HLG.out _ (below_drawn (Below.refl _ _) 1)).mono ?_; rintro e y9 ⟨v9, rfl, hl9, hb9⟩; obtain ⟨va9, vc9, rfl, _⟩ := id hl9; have hr9 := cell_later (below_then (below_drawn (Below.refl _ _) 1) hb9) hRl hrl) | (go_at_call 17; refine (accesses_same _ _ _ L hl9 (HRL.out _ (below_then (below_drawn (Below.refl _ _) 1) hb9))).mono ?_; rintro e y10 ⟨rfl, n10, rfl⟩)))
      all_goals
        have HBE : Hid (Below w.heap.size w (y9.drewN n10)) := below_drawn (below_then HBY.out (below_then (below_drawn (Below.refl _ _) 1) hb9)) n10
        clear hl9 hb9
        go_wp2
        go_ret
        exact ⟨rfl, HBE.out⟩

theorem bplays_walk (w : World) (z r : Int) (v : Value) (S : List At) (hv : BLst w v S) :
    Calls Try.prog 3 #[.int .i64 z, .int .i64 r, v] w fun e w' => e = .returned (.bool true) ∧ Below w.heap.size w w' := by
  by_cases hz : 1 ≤ z ∧ z ≤ 16
  · obtain ⟨s, rfl⟩ := Int.eq_ofNat_of_zero_le (show 0 ≤ z by omega)
    by_cases hr : 1 ≤ r ∧ r ≤ 16
    · obtain ⟨k, rfl⟩ := Int.eq_ofNat_of_zero_le (show 0 ≤ r by omega)
      exact bplays_yes w s k (by omega) (by omega) (by omega) (by omega) v S hv
    · obtain ⟨x, cap, rfl, _⟩ := hv
      exact bplays_may w s (by omega) (by omega) r x S.length cap (by simp [takes]; omega)
  · obtain ⟨x, cap, rfl, _⟩ := hv
    exact bplays_no w z r x S.length cap hz
end Go.Proofs.Ytcckdjmbjghbdaa
