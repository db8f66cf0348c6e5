/- BeginEnds walked. -/
import Derived.Test.YtcckdjmbjghbdaaBegL
namespace Go.Proofs.Ytcckdjmbjghbdaa
open Go.ChangeShapes Go.WideShapes Go.ChangeAt Go.RowKit
attribute [local go_sem ↓] Go.wp_at_zero Go.wp_at_succ

theorem pick7_any (x n : Int) (h0 : 0 < n) (h1 : n ≤ 1024) (w : World) : Calls Try.prog 19 #[.int .i64 x, .int .i64 n] w fun e w' => e = .returned (.int .i64 (x % n)) ∧ w' = w := by
  by_cases ht : x.tmod n < 0
  · have ⟨_, _, e⟩ := tmod_low x n (by omega) ht
    have hm1 := Int.emod_nonneg x (show n ≠ 0 by omega)
    have hm2 := Int.emod_lt_of_pos x (show 0 < n by omega)
    have HE : Hid (wrap64 (x.tmod n + n) = x % n) := by unfold wrap64; rw [Hid, e]; omega
    have hd : decide (x.tmod n < 0) = true := decide_eq_true ht
    have hz : ¬ n = 0 := by omega
    rw [← HE.out]
    clear e hm1 hm2 HE ht h0 h1
    go_enter Try.func19, Try.ntmps19
    go_wp2
    go_ret
    exact ⟨rfl, rfl⟩
  · have e := tmod_high x n (by omega) (by omega)
    have hd : decide (x.tmod n < 0) = false := decide_eq_false ht
    have hz : ¬ n = 0 := by omega
    rw [← e]
    clear e ht h0 h1
    go_enter Try.func19, Try.ntmps19
    go_wp2
    go_ret
    exact ⟨rfl, rfl⟩
theorem memAt_base {w : World} {base base' : Nat} {p : Value} {c r : Nat} {L : List Ac} {F : List Nat} (h : MemAt w base p c r L F) (hb : base' ≤ base) : MemAt w base' p c r L F := by
  obtain ⟨M, H, S, C, v, h⟩ := h
  exact ⟨M, H, S, C, v, h.p, h.m, own_base h.own hb, h.F, by have := h.bM; omega, by have := h.bH; omega, by have := h.bS; omega, by have := h.bC; omega, h.c, h.r⟩
/-- A machine, and then a memory, that are new. -/
theorem pway_new2 {w0 w1 w2 w3 : World} {p : Value} {c r : Nat} {F : List Nat} {s : Nat} (hb : Below w0.heap.size w0 w1) (hx : BAt w2 w1.heap.size s bgNew) (hb2 : Below w1.heap.size w1 w2) (hm : MemAt w3 w2.heap.size p c r [] F) (hb3 : Below w2.heap.size w2 w3) : PWay w0 w3 w1.heap.size p c r [] w1.heap.size s bgNew [] :=
  ⟨⟨F, ⟨memAt_base hm hb2.size, hx.below hb3 (heap_lt hx), fun e => by have := (hm.lt _ e).1; have := heap_lt hx; omega, Nat.le_refl _⟩, fun z hz => by simp at hz⟩, below_then (below_then hb hb2) hb3, hb.size, Nat.le_trans hb2.size hb3.size⟩

/-- How many steps there were. -/
def Stepped (_s k : Nat) (b : Bg) : Prop := (b.st = 0 ∧ k = 0) ∨ (b.st = 1 ∧ 1 ≤ k ∧ b.stamp = b.seen - ((k : Int) - 1))
theorem stepped_le {s k : Nat} {b : Bg} (h : Stepped s k b) (hk : BOk s b) : k ≤ s := by
  have := hk.s1
  rcases h with ⟨_, rfl⟩ | ⟨h1, h2, h3⟩
  · omega
  · rcases hk.c with ⟨c, _⟩ | ⟨_, _, _, c, _⟩ | ⟨c, _⟩
    · omega
    · omega
    · omega
theorem stepped_next {s k : Nat} {b : Bg} {v : Int} (h : Stepped s k b) (_hk : BOk s b) (hn : (stepV s b v).st ≠ 2) : Stepped s (k + 1) (stepV s b v) := by
  rcases h with ⟨h1, rfl⟩ | ⟨h1, h2, h3⟩
  · unfold stepV seeV at hn ⊢
    rw [if_pos h1] at hn ⊢
    by_cases e : v < 1
    · rw [if_pos e] at hn; exact absurd rfl hn
    · rw [if_neg e]; exact Or.inr ⟨rfl, by omega, by simp⟩
  · unfold stepV lookV at hn ⊢
    rw [if_neg (by omega), if_pos h1] at hn ⊢
    by_cases e : overV v b.stamp = true
    · rw [if_pos e] at hn; exact absurd rfl hn
    · rw [if_neg e] at hn ⊢
      by_cases e2 : b.stamp - 1 < 1 ∨ b.stamp - 1 = b.seen - (s : Int)
      · rw [if_pos e2] at hn; exact absurd rfl hn
      · rw [if_neg e2]; exact Or.inr ⟨rfl, by omega, by simp only; omega⟩
theorem stepped_go {s k : Nat} {b : Bg} (h : Stepped s k b) : b.st ≠ 2 := by rcases h with ⟨h, _⟩ | ⟨h, _⟩ <;> omega
/-- Both under way, behind q acts and k steps. -/
structure Ends (w wr : World) (bs : Nat) (p : Value) (X s q k : Nat) (L : List Ac) (b : Bg) : Prop where
  way : PWay w wr bs p 1 s L X s b []
  ok : BOk s b
  bd : Bd7 (wordOf L)
  len : L.length ≤ q
  st : Stepped s k b

set_option maxRecDepth 100000 in
set_option maxHeartbeats 3200000 in
theorem ends_walk (w : World) (raw : Int) (v : Value) (S : List At) (hv : BLst w v S) :
    Calls Try.prog 4 #[.int .i64 raw, v] w fun e w' => e = .returned (.bool true) ∧ Below w.heap.size w w' := by
  have HS : Hid (∀ w : World, Calls Try.prog 6 #[] w fun e w' => e = .returned (.bool true) ∧ Below w.heap.size w w') := bshown_any
  obtain ⟨s, hs1, hs16, hse⟩ : ∃ s : Nat, 1 ≤ s ∧ s ≤ 16 ∧ raw % 16 = (s : Int) - 1 := ⟨(raw % 16 + 1).toNat, by omega, by omega, by omega⟩
  have HP : Hid (∀ w : World, Calls Try.prog 19 #[.int .i64 raw, .int .i64 16] w fun e w' => e = .returned (.int .i64 ((s : Int) - 1)) ∧ w' = w) := fun w => by rw [← hse]; exact pick7_any raw 16 (by decide) (by decide) w
  have HN : Hid (∀ w : World, Calls Try.prog 10 #[.int .i64 1, .int .i64 (s : Int)] w fun e w' => ∃ p F, e = .returned (.tuple #[p, .int .i64 0]) ∧ p ≠ .pointer none ∧ MemAt w' w.heap.size p 1 s [] F ∧ Below w.heap.size w w') := fun w => new_yes w 1 s (by decide) ⟨hs1, hs16⟩
  have HB : Hid (∀ w : World, Calls Try.prog 7 #[.int .i64 (s : Int)] w fun e w' => e = .returned (.tuple #[.pointer (some ⟨w.heap.size, 0, none⟩), .int .i64 0]) ∧ BAt w' w.heap.size s bgNew ∧ Below w.heap.size w w') := fun w => bnew_yes w s hs1 hs16
  obtain ⟨va, vcap, rfl, hbig, hfit, hl⟩ := hv
  have HC : Hid (∀ q, q < S.length → ∃ x, va = some x ∧ x.block < w.heap.size ∧ Row6 w (x.add (q * 6)) (S.getD q noAt)) := by
    intro q hq
    rcases hl with rfl | ⟨x, hx, hxb, hcc⟩
    · exact absurd hq (by simp)
    · exact ⟨x, hx, hxb, hcc q hq⟩
  have HF : Hid (∀ i, i < S.length → W64 (S.getD i noAt).v) := hfit
  clear hl hfit hse
  generalize hn : S.length = n at *
  clear hn
  have w1 : wrap64 (1 + ((s : Int) - 1)) = (s : Int) := by unfold wrap64; omega
  have w1b : 1 + ((s : Int) - 1) = (s : Int) := by omega
  go_enter Try.func4, Try.ntmps4
  go_wp2_with fail
  refine (HS.out _).mono ?_
  rintro e y1 ⟨rfl, hb1⟩
  have HB1 : Hid (Below w.heap.size w y1) := hb1
  clear hb1
  go_wp2_with fail
  refine (HP.out _).mono ?_
  rintro e y2 ⟨rfl, rfl⟩
  go_wp2_with fail
  refine (HB.out _).mono ?_
  rintro e y3 ⟨rfl, hx3, hb3⟩
  have HX3 : Hid (BAt y3 y2.heap.size s bgNew ∧ Below y2.heap.size y2 y3) := ⟨hx3, hb3⟩
  clear hx3 hb3
  go_wp2_with fail
  refine (HN.out _).mono ?_
  rintro e y4 ⟨p, F4, rfl, _, hm4, hb4⟩
  obtain ⟨M, rfl⟩ := hm4.ptr
  have HE4 : Hid (Ends w y4 y2.heap.size (.pointer (some ⟨M, 0, none⟩)) y2.heap.size s 0 0 [] bgNew) :=
    ⟨pway_new2 HB1.out HX3.out.1 HX3.out.2 hm4 hb4, bok_new hs1 hs16, bd7_nil, Nat.le_refl _, Or.inl ⟨rfl, rfl⟩⟩
  clear hm4 hb4 HX3
  generalize y2.heap.size = bs at HE4 ⊢
  go_wp2
  go_loopw [11, 12] (fun sv iv wr => ∃ (q k : Nat) (L : List Ac) (b : Bg), sv = .int .i64 k ∧ iv = .int .i64 q ∧ q ≤ n + k ∧ Ends w wr bs (.pointer (some ⟨M, 0, none⟩)) bs s q k L b) (fun sv iv _ => (n - (intOf iv).toNat) + (s + 1 - (intOf sv).toNat))
  case atStart => exact ⟨0, 0, [], bgNew, rfl, rfl, by omega, HE4.out⟩
  case round =>
    obtain ⟨q, k, L, b, rfl, rfl, hq, he⟩ := hrel
    have HE : Hid (Ends w wr bs (.pointer (some ⟨M, 0, none⟩)) bs s q k L b) := he
    have hk : k ≤ s := stepped_le he.st he.ok
    have hL : L.length < 3298534883328 := by have := he.len; omega
    have HGO : Hid (goesB s s b = true) := by have := stepped_go he.st; simp [Hid, goesB, this]
    clear he HE4
    have d0 : decide ((k : Int) ≤ (s : Int)) = true := by simp; omega
    by_cases hlt : q < n
    · obtain ⟨x, rfl, hxb, hrow⟩ := HC.out q hlt
      have hrow2 := hrow.later HE.out.way.bel (by rw [add_block]; exact hxb)
      have hfit := HF.out q hlt
      have d1 : decide ((q : Int) < (n : Int)) = true := by simp; omega
      have hx1 : (q : Int) < (n : Int) := by omega
      generalize S.getD q noAt = atx at hrow2 hfit hrow
      obtain ⟨ak, at', ⟨ka, ai, aj⟩, av⟩ := atx
      obtain ⟨c0, c1, c2, c3, c4, c5⟩ := hrow2
      rw [add_pos' _ _ (by decide)] at c1 c2 c3 c4 c5
      simp only at c0 c1 c2 c3 c4 c5 hfit
      clear hrow
      by_cases hk1 : ak = 1
      · subst hk1
        have HST : Hid (Calls Try.prog 12 #[(.pointer (some ⟨M, 0, none⟩)), .int .i64 (-1), .agg #[.int .i64 ka, .int .i64 ai, .int .i64 aj], .int .i64 av] wr.drew fun e w' => e = .returned (.int .i64 (if isAd 1 s ⟨ka, ai, aj⟩ then 0 else 1)) ∧ PWay w w' bs (.pointer (some ⟨M, 0, none⟩)) 1 s (storeL 1 s L (-1) ⟨ka, ai, aj⟩ av) bs s b []) := pway_store (HE.out.way.later (below_drawn (Below.refl _ _) 1)) hL (-1) ⟨ka, ai, aj⟩ av
        have HLEN2 : Hid ((storeL 1 s L (-1) ⟨ka, ai, aj⟩ av).length ≤ q + 1) := by have h1 := storeL_len7 1 s L (-1) ⟨ka, ai, aj⟩ av; have h2 := HE.out.len; rw [Hid]; omega
        have HBD2 : Hid (Bd7 (wordOf (storeL 1 s L (-1) ⟨ka, ai, aj⟩ av))) := bd7_store HE.out.bd hfit
        generalize storeL 1 s L (-1) ⟨ka, ai, aj⟩ av = L' at *
        generalize (if isAd 1 s ⟨ka, ai, aj⟩ = true then (0 : Int) else 1) = ea at *
        go_wp2_with fail
        go_region_with ((go_at_call 12; refine HST.out.mono ?_; rintro e y6 ⟨rfl, h6⟩))
        all_goals
          have HW6 : Hid (PWay w y6 bs (.pointer (some ⟨M, 0, none⟩)) 1 s L' bs s b []) := h6
          clear h6 c0 c1 c2 c3 c4 c5
          go_wp2
          go_roundw
          case rel => exact ⟨q + 1, k, L', b, rfl, by go_num, by omega, HW6.out, HE.out.ok, HBD2.out, HLEN2.out, HE.out.st⟩
          case measure => simp [intOf]; omega
      · have dk : decide (ak = 1) = false := by simpa using hk1
        have HOK2 : Hid (BOk s (stepV s b (wordOf L (adV s b)))) := bok_step HE.out.ok (HE.out.bd _)
        have HBD2 : Hid (Bd7 (wordOf (nextL 1 s s b L 1))) := bd7_next HE.out.bd
        have HLEN2 : Hid ((nextL 1 s s b L 1).length ≤ q + 1) := by have h1 := nextL_len 1 s s b L 1; have h2 := HE.out.len; rw [Hid]; omega
        have HST2 : (stepV s b (wordOf L (adV s b))).st ≠ 2 → Hid (Stepped s (k + 1) (stepV s b (wordOf L (adV s b)))) := fun h => stepped_next HE.out.st HE.out.ok h
        have hL' : (nextL 1 s s b L 1).length < 3298534883328 := by have h1 := HLEN2.out; omega
        have HT : Hid (Calls Try.prog 14 #[.pointer (some ⟨bs, 0, none⟩), (.pointer (some ⟨M, 0, none⟩)), .int .i64 1] wr fun e w' => e = .returned (.agg #[.int .i64 (if (stepV s b (wordOf L (adV s b))).st = 2 then 3 else 2), .int .i64 0, .int .i64 0, .bool true]) ∧ PWay w w' bs (.pointer (some ⟨M, 0, none⟩)) 1 s (nextL 1 s s b L 1) bs s (stepV s b (wordOf L (adV s b))) []) := by
          have := pway_step HE.out.way hL HE.out.ok 1
          unfold ansK nextB at this
          rw [if_pos HGO.out, if_pos HGO.out, HGO.out] at this
          exact this
        generalize stepV s b (wordOf L (adV s b)) = b' at *
        generalize nextL 1 s s b L 1 = L' at *
        obtain ⟨st', seen, stamp⟩ := b'
        by_cases e2s : st' = 2
        · subst e2s
          replace HT : Hid (Calls Try.prog 14 #[.pointer (some ⟨bs, 0, none⟩), (.pointer (some ⟨M, 0, none⟩)), .int .i64 1] wr fun e w' => e = .returned (.agg #[.int .i64 3, .int .i64 0, .int .i64 0, .bool true]) ∧ PWay w w' bs (.pointer (some ⟨M, 0, none⟩)) 1 s L' bs s ⟨2, seen, stamp⟩ []) := HT.out
          obtain ⟨hst0, hsts, hw1, hw2⟩ : 0 ≤ stamp ∧ (stamp ≤ seen ∨ seen < 0) ∧ -9223372036854775808 ≤ seen ∧ seen ≤ 9223372036854775807 := by
            rcases HOK2.out.c with ⟨c, _⟩ | ⟨c, _⟩ | ⟨_, c⟩
            · simp at c
            · simp at c
            · exact c
          have e5 : decide (stamp ≥ 0) = true := by simpa using hst0
          clear HST2
          go_wp2_with fail
          refine HT.out.mono ?_
          rintro e y6 ⟨rfl, h6⟩
          have HW6 : Hid (PWay w (y6.alloc (.cells #[.int .i64 3, .int .i64 0, .int .i64 0, .bool true] 46)) bs (.pointer (some ⟨M, 0, none⟩)) 1 s L' bs s ⟨2, seen, stamp⟩ [(y6.heap.size, ansO 3 true)]) := h6.more _
          have HTS : Hid (Calls Try.prog 20 #[.pointer (some ⟨bs, 0, none⟩)] (y6.alloc (.cells #[.int .i64 3, .int .i64 0, .int .i64 0, .bool true] 46)) fun e w' => e = .returned (.tuple #[.int .i64 stamp, .int .i64 seen, .bool true]) ∧ PWay w w' bs (.pointer (some ⟨M, 0, none⟩)) 1 s L' bs s ⟨2, seen, stamp⟩ [(y6.heap.size, ansO 3 true)]) := by have := pway_start HW6.out; exact this
          clear h6
          go_wp2_with fail
          refine HTS.out.mono ?_
          rintro e y7 ⟨rfl, h7⟩
          have HW7 : Hid (PWay w y7 bs (.pointer (some ⟨M, 0, none⟩)) 1 s L' bs s ⟨2, seen, stamp⟩ []) := h7.less (fun z hz => by simp at hz)
          obtain ⟨⟨a0, _, _, _⟩, _⟩ := ans_cells (k := 3) (y := true) (h7.row (B := y6.heap.size) (o := ansO 3 true) (by simp))
          clear h7 HW6 HTS
          have HTN : Hid (Calls Try.prog 14 #[.pointer (some ⟨bs, 0, none⟩), (.pointer (some ⟨M, 0, none⟩)), .int .i64 1] y7 fun e w' => e = .returned (.agg #[.int .i64 0, .int .i64 0, .int .i64 0, .bool false]) ∧ PWay w w' bs (.pointer (some ⟨M, 0, none⟩)) 1 s L' bs s ⟨2, seen, stamp⟩ []) := by
            have := pway_step HW7.out hL' HOK2.out 1
            unfold ansK nextB nextL at this
            rw [if_neg (by simp [goesB]), if_neg (by simp [goesB]), if_neg (by simp [goesB]), show goesB s s ⟨2, seen, stamp⟩ = false by simp [goesB]] at this
            exact this
          by_cases hks : k + 1 ≤ s
          · have e1 : decide ((k : Int) + 1 ≤ (s : Int)) = true := by simp; omega
            have e2 : decide ((k : Int) + 1 > (s : Int)) = false := by simp; omega
            by_cases hsn : stamp > seen
            · have e3 : decide (stamp > seen) = true := by simpa using hsn
              have e4 : decide (seen ≥ 0) = false := by simp; omega
              go_wp2_with fail
              refine HTN.out.mono ?_
              rintro e y8 ⟨rfl, h8⟩
              have HB8 : Hid (Below w.heap.size w y8) := h8.bel
              clear h8
              go_wp2
              go_ret
              exact ⟨rfl, below_alloc HB8.out _⟩
            · have e3 : decide (stamp > seen) = false := by simpa using hsn
              go_wp2_with fail
              refine HTN.out.mono ?_
              rintro e y8 ⟨rfl, h8⟩
              have HB8 : Hid (Below w.heap.size w y8) := h8.bel
              clear h8
              go_wp2
              go_ret
              exact ⟨rfl, below_alloc HB8.out _⟩
          · have e1 : decide ((k : Int) + 1 ≤ (s : Int)) = false := by simp; omega
            have e2 : decide ((k : Int) + 1 > (s : Int)) = true := by simp; omega
            by_cases hsn : stamp > seen
            · have e3 : decide (stamp > seen) = true := by simpa using hsn
              have e4 : decide (seen ≥ 0) = false := by simp; omega
              go_wp2_with fail
              refine HTN.out.mono ?_
              rintro e y8 ⟨rfl, h8⟩
              have HB8 : Hid (Below w.heap.size w y8) := h8.bel
              clear h8
              go_wp2
              go_ret
              exact ⟨rfl, below_alloc HB8.out _⟩
            · have e3 : decide (stamp > seen) = false := by simpa using hsn
              go_wp2_with fail
              refine HTN.out.mono ?_
              rintro e y8 ⟨rfl, h8⟩
              have HB8 : Hid (Below w.heap.size w y8) := h8.bel
              clear h8
              go_wp2
              go_ret
              exact ⟨rfl, below_alloc HB8.out _⟩
        · replace HT : Hid (Calls Try.prog 14 #[.pointer (some ⟨bs, 0, none⟩), (.pointer (some ⟨M, 0, none⟩)), .int .i64 1] wr fun e w' => e = .returned (.agg #[.int .i64 2, .int .i64 0, .int .i64 0, .bool true]) ∧ PWay w w' bs (.pointer (some ⟨M, 0, none⟩)) 1 s L' bs s ⟨st', seen, stamp⟩ []) := by
            have := HT.out
            simp only at this
            rw [if_neg e2s] at this
            exact this
          replace HST2 : Hid (Stepped s (k + 1) ⟨st', seen, stamp⟩) := HST2 e2s
          go_wp2_with fail
          refine HT.out.mono ?_
          rintro e y6 ⟨rfl, h6⟩
          have HW6 : Hid (PWay w (y6.alloc (.cells #[.int .i64 2, .int .i64 0, .int .i64 0, .bool true] 46)) bs (.pointer (some ⟨M, 0, none⟩)) 1 s L' bs s ⟨st', seen, stamp⟩ [(y6.heap.size, ansO 2 true)]) := h6.more _
          have HTS : Hid (Calls Try.prog 20 #[.pointer (some ⟨bs, 0, none⟩)] (y6.alloc (.cells #[.int .i64 2, .int .i64 0, .int .i64 0, .bool true] 46)) fun e w' => e = .returned (.tuple #[.int .i64 0, .int .i64 0, .bool false]) ∧ PWay w w' bs (.pointer (some ⟨M, 0, none⟩)) 1 s L' bs s ⟨st', seen, stamp⟩ [(y6.heap.size, ansO 2 true)]) := by have := pway_start HW6.out; simp only at this; rw [if_neg e2s, if_neg e2s, show decide (st' = 2) = false by simpa using e2s] at this; exact this
          clear h6
          go_wp2_with fail
          refine HTS.out.mono ?_
          rintro e y7 ⟨rfl, h7⟩
          have HW7 : Hid (PWay w y7 bs (.pointer (some ⟨M, 0, none⟩)) 1 s L' bs s ⟨st', seen, stamp⟩ []) := h7.less (fun z hz => by simp at hz)
          obtain ⟨⟨a0, _, _, _⟩, _⟩ := ans_cells (k := 2) (y := true) (h7.row (B := y6.heap.size) (o := ansO 2 true) (by simp))
          clear h7 HW6 HTS
          have hks : k + 1 ≤ s := stepped_le HST2.out HOK2.out
          have e1 : decide ((k : Int) + 1 ≤ (s : Int)) = true := by simp; omega
          have e2 : decide ((k : Int) + 1 > (s : Int)) = false := by simp; omega
          go_wp2
          go_roundw
          case rel => exact ⟨q + 1, k + 1, L', ⟨st', seen, stamp⟩, by go_num, by go_num, by omega, HW7.out, HOK2.out, HBD2.out, HLEN2.out, HST2.out⟩
          case measure => simp [intOf]; omega
    · have d1 : decide ((q : Int) < (n : Int)) = false := by simp; omega
      have HOK2 : Hid (BOk s (stepV s b (wordOf L (adV s b)))) := bok_step HE.out.ok (HE.out.bd _)
      have HBD2 : Hid (Bd7 (wordOf (nextL 1 s s b L 1))) := bd7_next HE.out.bd
      have HLEN2 : Hid ((nextL 1 s s b L 1).length ≤ q + 1) := by have h1 := nextL_len 1 s s b L 1; have h2 := HE.out.len; rw [Hid]; omega
      have HST2 : (stepV s b (wordOf L (adV s b))).st ≠ 2 → Hid (Stepped s (k + 1) (stepV s b (wordOf L (adV s b)))) := fun h => stepped_next HE.out.st HE.out.ok h
      have hL' : (nextL 1 s s b L 1).length < 3298534883328 := by have h1 := HLEN2.out; omega
      have HT : Hid (Calls Try.prog 14 #[.pointer (some ⟨bs, 0, none⟩), (.pointer (some ⟨M, 0, none⟩)), .int .i64 1] wr fun e w' => e = .returned (.agg #[.int .i64 (if (stepV s b (wordOf L (adV s b))).st = 2 then 3 else 2), .int .i64 0, .int .i64 0, .bool true]) ∧ PWay w w' bs (.pointer (some ⟨M, 0, none⟩)) 1 s (nextL 1 s s b L 1) bs s (stepV s b (wordOf L (adV s b))) []) := by
        have := pway_step HE.out.way hL HE.out.ok 1
        unfold ansK nextB at this
        rw [if_pos HGO.out, if_pos HGO.out, HGO.out] at this
        exact this
      generalize stepV s b (wordOf L (adV s b)) = b' at *
      generalize nextL 1 s s b L 1 = L' at *
      obtain ⟨st', seen, stamp⟩ := b'
      by_cases e2s : st' = 2
      · subst e2s
        replace HT : Hid (Calls Try.prog 14 #[.pointer (some ⟨bs, 0, none⟩), (.pointer (some ⟨M, 0, none⟩)), .int .i64 1] wr fun e w' => e = .returned (.agg #[.int .i64 3, .int .i64 0, .int .i64 0, .bool true]) ∧ PWay w w' bs (.pointer (some ⟨M, 0, none⟩)) 1 s L' bs s ⟨2, seen, stamp⟩ []) := HT.out
        obtain ⟨hst0, hsts, hw1, hw2⟩ : 0 ≤ stamp ∧ (stamp ≤ seen ∨ seen < 0) ∧ -9223372036854775808 ≤ seen ∧ seen ≤ 9223372036854775807 := by
          rcases HOK2.out.c with ⟨c, _⟩ | ⟨c, _⟩ | ⟨_, c⟩
          · simp at c
          · simp at c
          · exact c
        have e5 : decide (stamp ≥ 0) = true := by simpa using hst0
        clear HST2
        go_wp2_with fail
        refine HT.out.mono ?_
        rintro e y6 ⟨rfl, h6⟩
        have HW6 : Hid (PWay w (y6.alloc (.cells #[.int .i64 3, .int .i64 0, .int .i64 0, .bool true] 46)) bs (.pointer (some ⟨M, 0, none⟩)) 1 s L' bs s ⟨2, seen, stamp⟩ [(y6.heap.size, ansO 3 true)]) := h6.more _
        have HTS : Hid (Calls Try.prog 20 #[.pointer (some ⟨bs, 0, none⟩)] (y6.alloc (.cells #[.int .i64 3, .int .i64 0, .int .i64 0, .bool true] 46)) fun e w' => e = .returned (.tuple #[.int .i64 stamp, .int .i64 seen, .bool true]) ∧ PWay w w' bs (.pointer (some ⟨M, 0, none⟩)) 1 s L' bs s ⟨2, seen, stamp⟩ [(y6.heap.size, ansO 3 true)]) := by have := pway_start HW6.out; exact this
        clear h6
        go_wp2_with fail
        refine HTS.out.mono ?_
        rintro e y7 ⟨rfl, h7⟩
        have HW7 : Hid (PWay w y7 bs (.pointer (some ⟨M, 0, none⟩)) 1 s L' bs s ⟨2, seen, stamp⟩ []) := h7.less (fun z hz => by simp at hz)
        obtain ⟨⟨a0, _, _, _⟩, _⟩ := ans_cells (k := 3) (y := true) (h7.row (B := y6.heap.size) (o := ansO 3 true) (by simp))
        clear h7 HW6 HTS
        have HTN : Hid (Calls Try.prog 14 #[.pointer (some ⟨bs, 0, none⟩), (.pointer (some ⟨M, 0, none⟩)), .int .i64 1] y7 fun e w' => e = .returned (.agg #[.int .i64 0, .int .i64 0, .int .i64 0, .bool false]) ∧ PWay w w' bs (.pointer (some ⟨M, 0, none⟩)) 1 s L' bs s ⟨2, seen, stamp⟩ []) := by
          have := pway_step HW7.out hL' HOK2.out 1
          unfold ansK nextB nextL at this
          rw [if_neg (by simp [goesB]), if_neg (by simp [goesB]), if_neg (by simp [goesB]), show goesB s s ⟨2, seen, stamp⟩ = false by simp [goesB]] at this
          exact this
        by_cases hks : k + 1 ≤ s
        · have e1 : decide ((k : Int) + 1 ≤ (s : Int)) = true := by simp; omega
          have e2 : decide ((k : Int) + 1 > (s : Int)) = false := by simp; omega
          by_cases hsn : stamp > seen
          · have e3 : decide (stamp > seen) = true := by simpa using hsn
            have e4 : decide (seen ≥ 0) = false := by simp; omega
            go_wp2_with fail
            refine HTN.out.mono ?_
            rintro e y8 ⟨rfl, h8⟩
            have HB8 : Hid (Below w.heap.size w y8) := h8.bel
            clear h8
            go_wp2
            go_ret
            exact ⟨rfl, below_alloc HB8.out _⟩
          · have e3 : decide (stamp > seen) = false := by simpa using hsn
            go_wp2_with fail
            refine HTN.out.mono ?_
            rintro e y8 ⟨rfl, h8⟩
            have HB8 : Hid (Below w.heap.size w y8) := h8.bel
            clear h8
            go_wp2
            go_ret
            exact ⟨rfl, below_alloc HB8.out _⟩
        · have e1 : decide ((k : Int) + 1 ≤ (s : Int)) = false := by simp; omega
          have e2 : decide ((k : Int) + 1 > (s : Int)) = true := by simp; omega
          by_cases hsn : stamp > seen
          · have e3 : decide (stamp > seen) = true := by simpa using hsn
            have e4 : decide (seen ≥ 0) = false := by simp; omega
            go_wp2_with fail
            refine HTN.out.mono ?_
            rintro e y8 ⟨rfl, h8⟩
            have HB8 : Hid (Below w.heap.size w y8) := h8.bel
            clear h8
            go_wp2
            go_ret
            exact ⟨rfl, below_alloc HB8.out _⟩
          · have e3 : decide (stamp > seen) = false := by simpa using hsn
            go_wp2_with fail
            refine HTN.out.mono ?_
            rintro e y8 ⟨rfl, h8⟩
            have HB8 : Hid (Below w.heap.size w y8) := h8.bel
            clear h8
            go_wp2
            go_ret
            exact ⟨rfl, below_alloc HB8.out _⟩
      · replace HT : Hid (Calls Try.prog 14 #[.pointer (some ⟨bs, 0, none⟩), (.pointer (some ⟨M, 0, none⟩)), .int .i64 1] wr fun e w' => e = .returned (.agg #[.int .i64 2, .int .i64 0, .int .i64 0, .bool true]) ∧ PWay w w' bs (.pointer (some ⟨M, 0, none⟩)) 1 s L' bs s ⟨st', seen, stamp⟩ []) := by
          have := HT.out
          simp only at this
          rw [if_neg e2s] at this
          exact this
        replace HST2 : Hid (Stepped s (k + 1) ⟨st', seen, stamp⟩) := HST2 e2s
        go_wp2_with fail
        refine HT.out.mono ?_
        rintro e y6 ⟨rfl, h6⟩
        have HW6 : Hid (PWay w (y6.alloc (.cells #[.int .i64 2, .int .i64 0, .int .i64 0, .bool true] 46)) bs (.pointer (some ⟨M, 0, none⟩)) 1 s L' bs s ⟨st', seen, stamp⟩ [(y6.heap.size, ansO 2 true)]) := h6.more _
        have HTS : Hid (Calls Try.prog 20 #[.pointer (some ⟨bs, 0, none⟩)] (y6.alloc (.cells #[.int .i64 2, .int .i64 0, .int .i64 0, .bool true] 46)) fun e w' => e = .returned (.tuple #[.int .i64 0, .int .i64 0, .bool false]) ∧ PWay w w' bs (.pointer (some ⟨M, 0, none⟩)) 1 s L' bs s ⟨st', seen, stamp⟩ [(y6.heap.size, ansO 2 true)]) := by have := pway_start HW6.out; simp only at this; rw [if_neg e2s, if_neg e2s, show decide (st' = 2) = false by simpa using e2s] at this; exact this
        clear h6
        go_wp2_with fail
        refine HTS.out.mono ?_
        rintro e y7 ⟨rfl, h7⟩
        have HW7 : Hid (PWay w y7 bs (.pointer (some ⟨M, 0, none⟩)) 1 s L' bs s ⟨st', seen, stamp⟩ []) := h7.less (fun z hz => by simp at hz)
        obtain ⟨⟨a0, _, _, _⟩, _⟩ := ans_cells (k := 2) (y := true) (h7.row (B := y6.heap.size) (o := ansO 2 true) (by simp))
        clear h7 HW6 HTS
        have hks : k + 1 ≤ s := stepped_le HST2.out HOK2.out
        have e1 : decide ((k : Int) + 1 ≤ (s : Int)) = true := by simp; omega
        have e2 : decide ((k : Int) + 1 > (s : Int)) = false := by simp; omega
        go_wp2
        go_roundw
        case rel => exact ⟨q + 1, k + 1, L', ⟨st', seen, stamp⟩, by go_num, by go_num, by omega, HW7.out, HOK2.out, HBD2.out, HLEN2.out, HST2.out⟩
        case measure => simp [intOf]; omega
end Go.Proofs.Ytcckdjmbjghbdaa
