/- FetchPlays walked. -/
import Derived.Test.YtcbcjliekbphmaaFtQ
import Derived.Test.YtcbcjliekbphmaaRefE
import Derived.Test.YtcbcjliekbphmaaActL
import Derived.Test.YtcbcjliekbphmaaFcW
namespace Go.Proofs.Ytcbcjliekbphmaa
open Go.ChangeShapes Go.WideShapes Go.ChangeAt Go.RowKit
attribute [local go_sem ↓] Go.wp_at_zero Go.wp_at_succ

def playC (s z : Int) (rd : List Nat) (cell cs rg : Int) (v : Value) : Array Value := #[.int .i64 s, .int .i64 z, rdV rd 0, rdV rd 1, rdV rd 2, rdV rd 3, rdV rd 4, rdV rd 5, rdV rd 6, rdV rd 7, .int .i64 cell, .int .i64 cs, .int .i64 rg, v]
theorem fbw_new {w0 w1 w2 w5 w6 w7 : World} {p q : Value} {c r : Nat} {P : Cp} {X Y : Nat} {F G : List Nat} (hb : Below w0.heap.size w0 w1) (hX0 : w1.heap.size ≤ X) (hx : KAt w2 X P (ckNew P)) (hb2 : Below w1.heap.size w1 w2) (hm : MemAt w5 w2.heap.size p c r [] F) (hb5 : Below w2.heap.size w2 w5) (hr : RefAt w6 w5.heap.size q c r [] G) (hb6 : Below w5.heap.size w5 w6) (hY0 : w6.heap.size ≤ Y) (hy : w7.heap[Y]? = some (.cells (rmC P (.slice none 0 0)) 101 (0, 0))) (hb7 : Below w6.heap.size w6 w7) :
    KBW w0 w7 w1.heap.size p q c r [] [] X Y P (ckNew P) P [] [] := by
  have h12 := hb2.size
  have h25 := hb5.size
  have h56 := hb6.size
  have h67 := hb7.size
  have hX := heap_lt hx
  refine ⟨⟨F, G, [Y], ⟨((memAt_low hm hb2.size).below hb6).below hb7, ((hx.below hb5 hX).below hb6 (by omega)).below hb7 (by omega), fun e => by have := (hm.lt _ e).1; omega, by omega⟩, ⟨(refAt_base hr (by omega)).below hb7, ⟨.slice none 0 0, hy, World.ownsRow_nil _ _ _ _, rfl, by omega⟩, fun z hz hg => by
      simp at hz
      subst hz
      have := (hr.lt _ hg).2
      omega⟩, fun z hz hd => ?_, fun z hz => by simp at hz, fun z hz => by simp at hz⟩, below_then (below_then (below_then (below_then hb hb2) hb5) hb6) hb7, hb.size, by omega⟩
  rcases List.mem_append.1 hd with h1 | h1
  · simp at h1
    rcases List.mem_cons.1 hz with h2 | h2
    · omega
    · have := (hm.lt _ h2).2; omega
  · have h3 := (hr.lt _ h1).1
    rcases List.mem_cons.1 hz with h2 | h2
    · omega
    · have := (hm.lt _ h2).2; omega
structure FPl (w wr : World) (bs : Nat) (p q : Value) (c r : Nat) (X Y : Nat) (P : Cp) (i : Nat) (L : List Ac) (l : List Int) : Prop where
  way : KBW w wr bs p q c r L L X Y P (runK P l) P l []
  lk : LKk P l
  gd : Gd L
  len : L.length ≤ i
  cell : 0 ≤ P.cell
  un : P.read = false → l = []
set_option maxRecDepth 100000 in
set_option maxHeartbeats 3200000 in
theorem fplays_no (w : World) (s z : Int) (rd : List Nat) (cell cs rg : Int) (a : Option Addr) (n cap : Nat) (hr : Sg.Ok rd) (h : takesF s z cell = false) : Calls Try.prog 3 #[.agg (playC s z rd cell cs rg (.slice a n cap))] w fun e w' => e = .returned (.bool true) ∧ Below w.heap.size w w' := by
  have HS : Hid (∀ w, Calls Try.prog 6 #[] w fun e w' => e = .returned (.bool true) ∧ Below w.heap.size w w') := fshown_any
  have HT : Hid (∀ w, Calls Try.prog 8 #[.int .i64 s, .int .i64 z, .int .i64 cell] w fun e w' => e = .returned (.bool false) ∧ w' = w) := by rw [← h]; exact takes9_any s z cell
  have HB : Hid (∀ (w : World), Calls Try.prog 7 #[.int .i64 s, .int .i64 z, .agg #[rdV rd 0, rdV rd 1, rdV rd 2, rdV rd 3, rdV rd 4, rdV rd 5, rdV rd 6, rdV rd 7], .int .i64 cell] w fun e w' => e = .returned (.tuple #[.pointer none, .int .i64 1]) ∧ Below w.heap.size w w') := fun w => fnew_no w s z rd cell hr (by unfold takesF takesK at h; simp only [Bool.and_eq_false_iff, decide_eq_false_iff_not] at h; omega)
  clear h hr
  unfold playC
  unfold rdV at *
  generalize rd.getD 0 0 = m0 at *
  generalize rd.getD 1 0 = m1 at *
  generalize rd.getD 2 0 = m2 at *
  generalize rd.getD 3 0 = m3 at *
  generalize rd.getD 4 0 = m4 at *
  generalize rd.getD 5 0 = m5 at *
  generalize rd.getD 6 0 = m6 at *
  generalize rd.getD 7 0 = m7 at *
  go_enter Try.func3, Try.ntmps3
  go_wp2_with fail
  refine (HS.out _).mono ?_
  rintro e y1 ⟨rfl, hb1⟩
  have HR1 : Hid (y1.heap[w.heap.size + 1]? = some (.cells #[.int .u64 ((m0 : Nat) : Int), .int .u64 ((m1 : Nat) : Int), .int .u64 ((m2 : Nat) : Int), .int .u64 ((m3 : Nat) : Int), .int .u64 ((m4 : Nat) : Int), .int .u64 ((m5 : Nat) : Int), .int .u64 ((m6 : Nat) : Int), .int .u64 ((m7 : Nat) : Int)] 24 (0, 0))) := row_on (heap_alloc2_new _ _ _) hb1
  have HB1 : Hid (Below w.heap.size w y1) := below_then (below_alloc (below_a1 _ _) _) hb1
  clear hb1
  obtain ⟨⟨r0, r1, r2, r3, r4, r5, r6, r7⟩, _⟩ := sig_cells HR1.out
  go_wp2_with fail
  refine (HB.out _).mono ?_
  rintro e y2 ⟨rfl, hb2⟩
  have HB2 : Hid (Below w.heap.size w y2) := below_then HB1.out hb2
  clear hb2 r0 r1 r2 r3 r4 r5 r6 r7
  go_wp2_with fail
  refine (HT.out _).mono ?_
  rintro e y3 ⟨rfl, rfl⟩
  go_wp2
  go_ret
  exact ⟨rfl, HB2.out⟩
set_option maxRecDepth 100000 in
set_option maxHeartbeats 3200000 in
theorem fplays_may (w : World) (s : Nat) (z : Int) (rd : List Nat) (cell cs rg : Int) (a : Option Addr) (n cap : Nat) (hr : Sg.Ok rd) (h : takesF (s : Int) z cell = true) (hz1 : z ≤ 9223372036854775807) (hm : takes cs rg = false) : Calls Try.prog 3 #[.agg (playC (s : Int) z rd cell cs rg (.slice a n cap))] w fun e w' => e = .returned (.bool true) ∧ Below w.heap.size w w' := by
  have HS : Hid (∀ w, Calls Try.prog 6 #[] w fun e w' => e = .returned (.bool true) ∧ Below w.heap.size w w') := fshown_any
  have HT : Hid (∀ w, Calls Try.prog 8 #[.int .i64 (s : Int), .int .i64 z, .int .i64 cell] w fun e w' => e = .returned (.bool true) ∧ w' = w) := by rw [← h]; exact takes9_any (s : Int) z cell
  have HM : Hid (∀ w, Calls Try.prog 9 #[.int .i64 cs, .int .i64 rg] w fun e w' => e = .returned (.bool false) ∧ w' = w) := by rw [← hm]; exact takes_any cs rg
  have HB : Hid (∀ (w : World), Calls Try.prog 7 #[.int .i64 (s : Int), .int .i64 z, .agg #[rdV rd 0, rdV rd 1, rdV rd 2, rdV rd 3, rdV rd 4, rdV rd 5, rdV rd 6, rdV rd 7], .int .i64 cell] w fun e w' => ∃ X, e = .returned (.tuple #[.pointer (some ⟨X, 0, none⟩), .int .i64 0]) ∧ Below w.heap.size w w') := fun w => by
    unfold takesF takesK at h
    simp only [Bool.and_eq_true, decide_eq_true_eq] at h
    refine (fnew_yes w (s := s) (z := z) (rd := rd) (cell := cell) (by omega) (by omega) (by omega) hz1 hr (by omega) (by omega)).mono ?_
    rintro e w' ⟨X, rfl, _, _, hb⟩
    exact ⟨X, rfl, hb⟩
  clear h hr hm
  unfold playC
  unfold rdV at *
  generalize rd.getD 0 0 = m0 at *
  generalize rd.getD 1 0 = m1 at *
  generalize rd.getD 2 0 = m2 at *
  generalize rd.getD 3 0 = m3 at *
  generalize rd.getD 4 0 = m4 at *
  generalize rd.getD 5 0 = m5 at *
  generalize rd.getD 6 0 = m6 at *
  generalize rd.getD 7 0 = m7 at *
  go_enter Try.func3, Try.ntmps3
  go_wp2_with fail
  refine (HS.out _).mono ?_
  rintro e y1 ⟨rfl, hb1⟩
  have HR1 : Hid (y1.heap[w.heap.size + 1]? = some (.cells #[.int .u64 ((m0 : Nat) : Int), .int .u64 ((m1 : Nat) : Int), .int .u64 ((m2 : Nat) : Int), .int .u64 ((m3 : Nat) : Int), .int .u64 ((m4 : Nat) : Int), .int .u64 ((m5 : Nat) : Int), .int .u64 ((m6 : Nat) : Int), .int .u64 ((m7 : Nat) : Int)] 24 (0, 0))) := row_on (heap_alloc2_new _ _ _) hb1
  have HB1 : Hid (Below w.heap.size w y1) := below_then (below_alloc (below_a1 _ _) _) hb1
  clear hb1
  obtain ⟨⟨r0, r1, r2, r3, r4, r5, r6, r7⟩, _⟩ := sig_cells HR1.out
  go_wp2_with fail
  refine (HB.out _).mono ?_
  rintro e y2 ⟨X, rfl, hb2⟩
  have HB2 : Hid (Below w.heap.size w y2) := below_then HB1.out hb2
  clear hb2 r0 r1 r2 r3 r4 r5 r6 r7
  go_wp2_with fail
  refine (HT.out _).mono ?_
  rintro e y3 ⟨rfl, rfl⟩
  go_wp2_with fail
  refine (HM.out _).mono ?_
  rintro e y4 ⟨rfl, rfl⟩
  go_wp2
  go_ret
  exact ⟨rfl, HB2.out⟩
set_option maxRecDepth 100000 in
set_option maxHeartbeats 6400000 in
theorem fplays_yes (w : World) (s : Nat) (z : Int) (rd : List Nat) (cell : Int) (c r : Nat) (hr : Sg.Ok rd) (h : takesF (s : Int) z cell = true) (hz1 : z ≤ 9223372036854775807) (hm : takes (c : Int) (r : Int) = true) (v : Value) (S : List At) (hv : BLst w v S) : Calls Try.prog 3 #[.agg (playC (s : Int) z rd cell (c : Int) (r : Int) v)] w fun e w' => e = .returned (.bool true) ∧ Below w.heap.size w w' := by
  obtain ⟨hs1, hs16, hz0, hc0, hc1⟩ : 1 ≤ s ∧ s ≤ 16 ∧ 0 ≤ z ∧ 0 ≤ cell ∧ cell < 1024 := by
    have h' := h
    unfold takesF takesK at h'
    simp only [Bool.and_eq_true, decide_eq_true_eq] at h'
    omega
  have HCR : Hid ((1 ≤ c ∧ c ≤ 1024) ∧ (1 ≤ r ∧ r ≤ 16)) := by
    have h' := hm
    unfold takes at h'
    simp only [Bool.and_eq_true, decide_eq_true_eq] at h'
    rw [Hid]
    omega
  have HS : Hid (∀ w, Calls Try.prog 6 #[] w fun e w' => e = .returned (.bool true) ∧ Below w.heap.size w w') := fshown_any
  have HT : Hid (∀ w, Calls Try.prog 8 #[.int .i64 (s : Int), .int .i64 z, .int .i64 cell] w fun e w' => e = .returned (.bool true) ∧ w' = w) := by rw [← h]; exact takes9_any (s : Int) z cell
  have HM : Hid (∀ w, Calls Try.prog 9 #[.int .i64 (c : Int), .int .i64 (r : Int)] w fun e w' => e = .returned (.bool true) ∧ w' = w) := by rw [← hm]; exact takes_any (c : Int) (r : Int)
  have HB : Hid (∀ (w : World), Calls Try.prog 7 #[.int .i64 (s : Int), .int .i64 z, .agg #[rdV rd 0, rdV rd 1, rdV rd 2, rdV rd 3, rdV rd 4, rdV rd 5, rdV rd 6, rdV rd 7], .int .i64 cell] w fun e w' => ∃ X, e = .returned (.tuple #[.pointer (some ⟨X, 0, none⟩), .int .i64 0]) ∧ w.heap.size ≤ X ∧ KAt w' X (newP s z rd cell) (ckNew (newP s z rd cell)) ∧ Below w.heap.size w w') := fun w => fnew_yes w hs1 hs16 hz0 hz1 hr hc0 hc1
  have HN : Hid (∀ w : World, Calls Try.prog 10 #[.int .i64 (c : Int), .int .i64 (r : Int)] w fun e w' => ∃ p F, e = .returned (.tuple #[p, .int .i64 0]) ∧ p ≠ .pointer none ∧ MemAt w' w.heap.size p c r [] F ∧ Below w.heap.size w w') := fun w => new_yes w c r HCR.out.1 HCR.out.2
  have HR : Hid (∀ w : World, Calls Try.prog 11 #[.int .i64 (c : Int), .int .i64 (r : Int)] w fun e w' => ∃ p G, e = .returned p ∧ RefAt w' w.heap.size p c r [] G ∧ Below w.heap.size w w') := rnew_any c r
  have HY : Hid (∀ w : World, Calls Try.prog 12 #[.int .i64 (s : Int), .int .i64 z, .agg #[rdV rd 0, rdV rd 1, rdV rd 2, rdV rd 3, rdV rd 4, rdV rd 5, rdV rd 6, rdV rd 7], .int .i64 cell] w fun e w' => ∃ Y, e = .returned (.pointer (some ⟨Y, 0, none⟩)) ∧ w.heap.size ≤ Y ∧ w'.heap[Y]? = some (.cells (rmC (newP s z rd cell) (.slice none 0 0)) 101 (0, 0)) ∧ Below w.heap.size w w') := fun w => rnew9_any w s z rd cell hr
  have HP0 : Hid (POk (newP s z rd cell) ∧ 0 ≤ (newP s z rd cell).cell) := ⟨⟨hs1, hs16, hz0, hz1, Sg.ok_put hr _ (Sg.sigN_lt _)⟩, hc0⟩
  obtain ⟨x0, cap, rfl, hbig, hfit, hl⟩ := hv
  have HC : Hid (∀ i, i < S.length → ∃ x, x0 = some x ∧ x.block < w.heap.size ∧ Row6 w (x.add (i * 6)) (S.getD i noAt)) := fun i hi => by
    rcases hl with rfl | ⟨x, e, hx, hr⟩
    · simp at hi
    · exact ⟨x, e, hx, hr i hi⟩
  have HF : Hid (∀ i, i < S.length → W64 (S.getD i noAt).v) := hfit
  clear hl hfit hr h hm hs1 hs16 hz0 hz1 hc0 hc1
  generalize newP s z rd cell = P0 at *
  generalize hn : S.length = n at *
  clear hn
  unfold playC
  unfold rdV at HB HY ⊢
  generalize rd.getD 0 0 = m0 at *
  generalize rd.getD 1 0 = m1 at *
  generalize rd.getD 2 0 = m2 at *
  generalize rd.getD 3 0 = m3 at *
  generalize rd.getD 4 0 = m4 at *
  generalize rd.getD 5 0 = m5 at *
  generalize rd.getD 6 0 = m6 at *
  generalize rd.getD 7 0 = m7 at *
  go_enter Try.func3, Try.ntmps3
  go_wp2_with fail
  refine (HS.out _).mono ?_
  rintro e y1 ⟨rfl, hb1⟩
  have HR1 : Hid (y1.heap[w.heap.size + 1]? = some (.cells #[.int .u64 ((m0 : Nat) : Int), .int .u64 ((m1 : Nat) : Int), .int .u64 ((m2 : Nat) : Int), .int .u64 ((m3 : Nat) : Int), .int .u64 ((m4 : Nat) : Int), .int .u64 ((m5 : Nat) : Int), .int .u64 ((m6 : Nat) : Int), .int .u64 ((m7 : Nat) : Int)] 24 (0, 0))) := row_on (heap_alloc2_new _ _ _) hb1
  have HB1 : Hid (Below w.heap.size w y1) := below_then (below_alloc (below_a1 _ _) _) hb1
  clear hb1
  obtain ⟨⟨r0, r1, r2, r3, r4, r5, r6, r7⟩, _⟩ := sig_cells HR1.out
  go_wp2_with fail
  refine (HB.out _).mono ?_
  rintro e y2 ⟨X, rfl, hX2, hx2, hb2⟩
  have HX2 : Hid (y1.heap.size ≤ X ∧ KAt y2 X P0 (ckNew P0) ∧ Below y1.heap.size y1 y2) := ⟨hX2, hx2, hb2⟩
  have HR2 : Hid (y2.heap[w.heap.size + 1]? = some (.cells #[.int .u64 ((m0 : Nat) : Int), .int .u64 ((m1 : Nat) : Int), .int .u64 ((m2 : Nat) : Int), .int .u64 ((m3 : Nat) : Int), .int .u64 ((m4 : Nat) : Int), .int .u64 ((m5 : Nat) : Int), .int .u64 ((m6 : Nat) : Int), .int .u64 ((m7 : Nat) : Int)] 24 (0, 0))) := row_on HR1.out hb2
  clear hX2 hx2 hb2 r0 r1 r2 r3 r4 r5 r6 r7
  go_wp2_with fail
  refine (HT.out _).mono ?_
  rintro e y3 ⟨rfl, rfl⟩
  go_wp2_with fail
  refine (HM.out _).mono ?_
  rintro e y4 ⟨rfl, rfl⟩
  go_wp2_with fail
  refine (HN.out _).mono ?_
  rintro e y5 ⟨p, F5, rfl, _, hm5, hb5⟩
  obtain ⟨M, rfl⟩ := hm5.ptr
  have HM5 : Hid (MemAt y5 y4.heap.size (.pointer (some ⟨M, 0, none⟩)) c r [] F5 ∧ Below y4.heap.size y4 y5) := ⟨hm5, hb5⟩
  have HR5 : Hid (y5.heap[w.heap.size + 1]? = some (.cells #[.int .u64 ((m0 : Nat) : Int), .int .u64 ((m1 : Nat) : Int), .int .u64 ((m2 : Nat) : Int), .int .u64 ((m3 : Nat) : Int), .int .u64 ((m4 : Nat) : Int), .int .u64 ((m5 : Nat) : Int), .int .u64 ((m6 : Nat) : Int), .int .u64 ((m7 : Nat) : Int)] 24 (0, 0))) := row_on HR2.out hb5
  clear hm5 hb5
  go_wp2_with fail
  refine (HR.out _).mono ?_
  rintro e y6 ⟨q0, G6, rfl, hr6, hb6⟩
  obtain ⟨R, rfl⟩ := hr6.ptr
  have HR6 : Hid (RefAt y6 y5.heap.size (.pointer (some ⟨R, 0, none⟩)) c r [] G6 ∧ Below y5.heap.size y5 y6) := ⟨hr6, hb6⟩
  obtain ⟨⟨r0, r1, r2, r3, r4, r5, r6, r7⟩, _⟩ := sig_cells (row_on HR5.out hb6)
  clear hr6 hb6
  go_wp2_with fail
  refine (HY.out _).mono ?_
  rintro e y7 ⟨Y, rfl, hY7, hy7, hb7⟩
  have HP7 : Hid (FPl w y7 y1.heap.size (.pointer (some ⟨M, 0, none⟩)) (.pointer (some ⟨R, 0, none⟩)) c r X Y P0 0 [] []) := ⟨fbw_new HB1.out HX2.out.1 HX2.out.2.1 HX2.out.2.2 HM5.out.1 HM5.out.2 HR6.out.1 HR6.out.2 hY7 hy7 hb7, lkk_nil HP0.out.1, gd_nil, Nat.le_refl _, HP0.out.2, fun _ => rfl⟩
  clear HM5 HR6 HX2 HB HT HN HR HR1 HR2 HR5 r0 r1 r2 r3 r4 r5 r6 r7 hY7 hy7 hb7 HY HM
  go_wp2
  generalize y1.heap.size = bs at *
  go_loopw [19] (fun iv wr => ∃ (q : Nat) (L : List Ac) (l : List Int) (P : Cp), q ≤ n ∧ iv = .int .i64 q ∧ FPl w wr bs (.pointer (some ⟨M, 0, none⟩)) (.pointer (some ⟨R, 0, none⟩)) c r X Y P q L l) (fun iv _ => n - (intOf iv).toNat)
  case atStart => exact ⟨0, [], [], P0, Nat.zero_le _, rfl, HP7.out⟩
  case round =>
    obtain ⟨q, L, l, P, hq, rfl, he⟩ := hrel
    have HE : Hid (FPl w wr bs (.pointer (some ⟨M, 0, none⟩)) (.pointer (some ⟨R, 0, none⟩)) c r X Y P q L l) := he
    have hL : L.length < 3298534883328 := by have := he.len; omega
    clear he HP7
    by_cases hlt : q < n
    · obtain ⟨x, rfl, hxb, hrow⟩ := HC.out q hlt
      have hrow2 := hrow.later HE.out.way.bel (by rw [add_block]; exact hxb)
      have HR6w : Hid (∀ w', Below w.heap.size w w' → Row6 w' (x.add (q * 6)) (S.getD q noAt)) := fun w' hb => hrow.later hb (by rw [add_block]; exact hxb)
      have hfit := HF.out q hlt
      have d1 : decide ((q : Int) < (n : Int)) = true := by simp; omega
      have hx1 : (q : Int) < (n : Int) := by omega
      clear hrow
      generalize S.getD q noAt = atx at hrow2 hfit HR6w
      obtain ⟨ak, at', ⟨ka, ai, aj⟩, av⟩ := atx
      obtain ⟨c0, c1, c2, c3, c4, c5⟩ := hrow2
      rw [add_pos' _ _ (by decide)] at c1 c2 c3 c4 c5
      simp only at c0 c1 c2 c3 c4 c5 hfit
      by_cases hk1 : ak = 1
      · subst hk1
        have HST : Hid (Calls Try.prog 13 #[(.pointer (some ⟨M, 0, none⟩)), .int .i64 (-1), .agg #[.int .i64 ka, .int .i64 ai, .int .i64 aj], .int .i64 av] wr.drew fun e w' => e = .returned (.int .i64 (if isAd c r ⟨ka, ai, aj⟩ then 0 else 1)) ∧ KBW w w' bs (.pointer (some ⟨M, 0, none⟩)) (.pointer (some ⟨R, 0, none⟩)) c r (storeL c r L (-1) ⟨ka, ai, aj⟩ av) L X Y P (runK P l) P l []) := kbw_pstore (HE.out.way.later (below_drawn (Below.refl _ _) 1)) hL (-1) ⟨ka, ai, aj⟩ av
        have HRS : Hid (∀ w', KBW w w' bs (.pointer (some ⟨M, 0, none⟩)) (.pointer (some ⟨R, 0, none⟩)) c r (storeL c r L (-1) ⟨ka, ai, aj⟩ av) L X Y P (runK P l) P l [] → Calls Try.prog 14 #[(.pointer (some ⟨R, 0, none⟩)), .int .i64 (-1), .agg #[.int .i64 ka, .int .i64 ai, .int .i64 aj], .int .i64 av] w'.drew fun e w'' => e = .returned (.int .i64 (if isAd c r ⟨ka, ai, aj⟩ then 0 else 1)) ∧ KBW w w'' bs (.pointer (some ⟨M, 0, none⟩)) (.pointer (some ⟨R, 0, none⟩)) c r (storeL c r L (-1) ⟨ka, ai, aj⟩ av) (storeL c r L (-1) ⟨ka, ai, aj⟩ av) X Y P (runK P l) P l []) := fun w' h => kbw_dstore (h.later (below_drawn (Below.refl _ _) 1)) hL (-1) ⟨ka, ai, aj⟩ av
        have HLEN2 : Hid ((storeL c r L (-1) ⟨ka, ai, aj⟩ av).length ≤ q + 1) := by have h1 := storeL_len1 c r L (-1) ⟨ka, ai, aj⟩ av; have h2 := HE.out.len; rw [Hid]; omega
        have HBD2 : Hid (Gd (storeL c r L (-1) ⟨ka, ai, aj⟩ av)) := gd_store HE.out.gd hfit
        generalize storeL c r L (-1) ⟨ka, ai, aj⟩ av = L' at *
        generalize (if isAd c r ⟨ka, ai, aj⟩ = true then (0 : Int) else 1) = ea at *
        go_wp2_with fail
        go_region_with ((go_at_call 13; refine HST.out.mono ?_; rintro e y7 ⟨rfl, h7⟩))
        all_goals
          have HRS7 : Hid (Calls Try.prog 14 #[(.pointer (some ⟨R, 0, none⟩)), .int .i64 (-1), .agg #[.int .i64 ka, .int .i64 ai, .int .i64 aj], .int .i64 av] y7.drew fun e w'' => e = .returned (.int .i64 ea) ∧ KBW w w'' bs (.pointer (some ⟨M, 0, none⟩)) (.pointer (some ⟨R, 0, none⟩)) c r L' L' X Y P (runK P l) P l []) := HRS.out _ h7
          obtain ⟨e0, e1, e2, e3, e4, e5⟩ := HR6w.out y7 h7.bel
          rw [add_pos' _ _ (by decide)] at e1 e2 e3 e4 e5
          simp only at e0 e1 e2 e3 e4 e5
          clear h7 c0 c1 c2 c3 c4 c5
          go_wp2_with fail
          go_region_with ((go_at_call 14; refine HRS7.out.mono ?_; rintro e y8 ⟨rfl, h8⟩))
        all_goals
          have HW8 : Hid (KBW w y8 bs (.pointer (some ⟨M, 0, none⟩)) (.pointer (some ⟨R, 0, none⟩)) c r L' L' X Y P (runK P l) P l []) := h8
          clear h8 e0 e1 e2 e3 e4 e5
          go_wp2
          go_roundw
          case rel => exact ⟨q + 1, L', l, P, by omega, by go_num, HW8.out, HE.out.lk, HBD2.out, HLEN2.out, HE.out.cell, HE.out.un⟩
          case measure => simp [intOf]; omega
      · have dk1 : decide (ak = 1) = false := by simpa using hk1
        by_cases hk2 : ak = 2
        · subst hk2
          clear hk1
          have HT : Hid (∀ w' Rr, KBW w w' bs (.pointer (some ⟨M, 0, none⟩)) (.pointer (some ⟨R, 0, none⟩)) c r L L X Y P (runK P l) P l Rr → Calls Try.prog 15 #[.pointer (some ⟨X, 0, none⟩), (.pointer (some ⟨M, 0, none⟩)), .int .i64 at'] w' fun e w'' => e = .returned (.agg #[.int .i64 (ansF c r P (runK P l) L), .int .i64 (errF c r P (runK P l) L), .int .i64 (valF c r P (runK P l) L), .bool (accF c r P (runK P l))]) ∧ KBW w w'' bs (.pointer (some ⟨M, 0, none⟩)) (.pointer (some ⟨R, 0, none⟩)) c r (nextFL c r P (runK P l) L at') L X Y (nextFP c r P L) (nextFB c r P (runK P l) L) P l Rr) := fun w' Rr h => kbw_fstep h hL HE.out.lk.all HE.out.gd HE.out.cell at'
          have HN3 := fpl_next (c := c) (r := r) HE.out.lk HE.out.gd HE.out.un
          have HD : Hid (∀ w' Rr, KBW w w' bs (.pointer (some ⟨M, 0, none⟩)) (.pointer (some ⟨R, 0, none⟩)) c r (nextFL c r P (runK P l) L at') L X Y (nextFP c r P L) (nextFB c r P (runK P l) L) P l Rr → Calls Try.prog 16 #[.pointer (some ⟨Y, 0, none⟩), (.pointer (some ⟨R, 0, none⟩)), .int .i64 at'] w' fun e w'' => e = .returned (.tuple #[.int .i64 (ansF c r P (runK P l) L), .int .i64 (errF c r P (runK P l) L), .int .i64 (valF c r P (runK P l) L)]) ∧ KBW w w'' bs (.pointer (some ⟨M, 0, none⟩)) (.pointer (some ⟨R, 0, none⟩)) c r (nextFL c r P (runK P l) L at') (nextFL c r P (runK P l) L at') X Y (nextFP c r P L) (runK (nextFP c r P L) (nextFI c r P l L)) (nextFP c r P L) (nextFI c r P l L) Rr) := fun w' Rr h => by
            have := kbw_fdstep h hL HE.out.lk HE.out.lk.all.p HE.out.gd HE.out.cell at'
            rw [HN3.2.1]
            exact this
          have HLK2 : Hid (LKk (nextFP c r P L) (nextFI c r P l L) ∧ ((nextFP c r P L).read = false → nextFI c r P l L = [])) := ⟨HN3.1, HN3.2.2⟩
          have HCL2 : Hid (0 ≤ (nextFP c r P L).cell) := by rw [Hid, (nextFP_cell c r P L).1]; exact HE.out.cell
          have HBD2 : Hid (Gd (nextFL c r P (runK P l) L at')) := gd_nextF HE.out.gd
          have HLEN2 : Hid ((nextFL c r P (runK P l) L at').length ≤ q + 1) := by have h1 := nextFL_len c r P (runK P l) L at'; have h2 := HE.out.len; rw [Hid]; omega
          have hkk := ansF_ne c r P (runK P l) L
          clear HN3
          generalize nextFL c r P (runK P l) L at' = L' at *
          generalize nextFI c r P l L = l' at *
          generalize nextFB c r P (runK P l) L = b' at *
          generalize nextFP c r P L = P' at *
          generalize ansF c r P (runK P l) L = kk at *
          generalize errF c r P (runK P l) L = ee at *
          generalize valF c r P (runK P l) L = vv at *
          generalize accF c r P (runK P l) = gg at *
          have HBLO : Hid (w.heap.size ≤ wr.heap.size) := HE.out.way.bel.size
          go_wp2_with fail
          refine (HT.out _ [] HE.out.way).mono ?_
          rintro e y7 ⟨rfl, h7⟩
          have HW7 : Hid (KBW w (y7.alloc (.cells #[.int .i64 kk, .int .i64 ee, .int .i64 vv, .bool gg] 49)) bs (.pointer (some ⟨M, 0, none⟩)) (.pointer (some ⟨R, 0, none⟩)) c r L' L X Y P' b' P l [(y7.heap.size, ansOW kk ee vv gg)]) := h7.more _
          obtain ⟨e0, e1, e2, e3, e4, e5⟩ := HR6w.out _ HW7.out.bel
          rw [add_pos' _ _ (by decide)] at e1 e2 e3 e4 e5
          simp only at e0 e1 e2 e3 e4 e5
          clear h7 c0 c1 c2 c3 c4 c5
          go_wp2_with fail
          refine (HD.out _ _ HW7.out).mono ?_
          rintro e y8 ⟨rfl, h8⟩
          have HW8 : Hid (KBW w y8 bs (.pointer (some ⟨M, 0, none⟩)) (.pointer (some ⟨R, 0, none⟩)) c r L' L' X Y P' (runK P' l') P' l' []) := h8.less (fun z hz => by simp at hz)
          obtain ⟨⟨a0, a1, a2, a3⟩, _⟩ := ansW_cells (k := kk) (e := ee) (v := vv) (y := gg) (h8.row (B := y7.heap.size) (o := ansOW kk ee vv gg) (by simp))
          clear h8 HW7 e0 e1 e2 e3 e4 e5
          have hee : (kk != kk) = false := by simp
          have hee2 : (ee != ee) = false := by simp
          have hee3 : (vv != vv) = false := by simp
          have hgg : (gg != gg) = false := by simp
          go_wp2
          go_roundw
          case rel => exact ⟨q + 1, L', l', P', by omega, by go_num, HW8.out, HLK2.out.1, HBD2.out, HLEN2.out, HCL2.out, HLK2.out.2⟩
          case measure => simp [intOf]; omega
        · have dk2 : decide (ak = 2) = false := by simpa using hk2
          by_cases hk3 : ak = 3
          · subst hk3
            clear hk1 hk2
            have HSA : Hid (∀ w', KBW w w' bs (.pointer (some ⟨M, 0, none⟩)) (.pointer (some ⟨R, 0, none⟩)) c r L L X Y P (runK P l) P l [] → Calls Try.prog 17 #[.pointer (some ⟨X, 0, none⟩), .pointer (some ⟨Y, 0, none⟩)] w' fun e w'' => e = .returned (.bool true) ∧ KBW w w'' bs (.pointer (some ⟨M, 0, none⟩)) (.pointer (some ⟨R, 0, none⟩)) c r L L X Y P (runK P l) P l []) := fun w' h => kbw_tells h HE.out.lk
            go_wp2_with fail
            refine (HSA.out _ HE.out.way).mono ?_
            rintro e y7 ⟨rfl, h7⟩
            have HW7 : Hid (KBW w y7 bs (.pointer (some ⟨M, 0, none⟩)) (.pointer (some ⟨R, 0, none⟩)) c r L L X Y P (runK P l) P l []) := h7
            clear h7
            go_wp2
            go_roundw
            case rel => exact ⟨q + 1, L, l, P, by omega, by go_num, HW7.out, HE.out.lk, HE.out.gd, by have := HE.out.len; omega, HE.out.cell, HE.out.un⟩
            case measure => simp [intOf]; omega
          · have dk3 : decide (ak = 3) = false := by simpa using hk3
            go_wp2
            go_roundw
            case rel => exact ⟨q + 1, L, l, P, by omega, by go_num, HE.out.way, HE.out.lk, HE.out.gd, by have := HE.out.len; omega, HE.out.cell, HE.out.un⟩
            case measure => simp [intOf]; omega
    · obtain rfl : q = n := by omega
      have hd : decide ((q : Int) < (q : Int)) = false := by simp
      have HSA : Hid (∀ w', KBW w w' bs (.pointer (some ⟨M, 0, none⟩)) (.pointer (some ⟨R, 0, none⟩)) c r L L X Y P (runK P l) P l [] → Calls Try.prog 17 #[.pointer (some ⟨X, 0, none⟩), .pointer (some ⟨Y, 0, none⟩)] w' fun e w'' => e = .returned (.bool true) ∧ KBW w w'' bs (.pointer (some ⟨M, 0, none⟩)) (.pointer (some ⟨R, 0, none⟩)) c r L L X Y P (runK P l) P l []) := fun w' h => kbw_tells h HE.out.lk
      go_wp2_with fail
      refine (HSA.out _ HE.out.way).mono ?_
      rintro e y7 ⟨rfl, h7⟩
      have HW7 : Hid (KBW w y7 bs (.pointer (some ⟨M, 0, none⟩)) (.pointer (some ⟨R, 0, none⟩)) c r L L X Y P (runK P l) P l []) := h7
      obtain ⟨F7, D7, G7, ha7⟩ := h7.all
      obtain ⟨ra, rc, hrl⟩ := ha7.ds.ref.count
      have hRl : R < y7.heap.size := World.block_lt_of_cell? _ _ hrl
      have HLG : Hid (∀ w', Below y7.heap.size y7 w' → Calls Try.prog 19 #[(.pointer (some ⟨M, 0, none⟩)), .int .i64 0] w' fun e w'' => ∃ v, e = .returned v ∧ LLst w'' v L ∧ Below w'.heap.size w' w'') := fun w' hb => by
        refine (log_any (ha7.ps.mem.below hb) (by omega) 0).mono ?_
        rintro e w'' ⟨v, rfl, ho, hb2⟩
        exact ⟨v, rfl, own_llst ho (by have : (L.drop (0 : Int).toNat).length = L.length := rfl; omega), hb2⟩
      have HRL : Hid (∀ w', Below y7.heap.size y7 w' → LLst w' (.slice ra L.length rc) L) := fun w' hb => by
        obtain ⟨R', v, hq⟩ := ha7.ds.ref.below hb
        obtain rfl : R = R' := by simpa using hq.p
        have hv : w'.cell? ⟨R, 2, none⟩ = some v := by rw [cell_at hq.m]; rfl
        rw [cell_later hb hRl hrl] at hv
        obtain rfl : Value.slice ra L.length rc = v := by simpa using hv
        exact own_llst hq.own (by omega)
      generalize L.length = nL at HLG HRL hrl
      have HBY : Hid (Below w.heap.size w y7) := h7.bel
      clear h7 ha7
      go_wp2_with fail
      go_region_with ((first | (go_at_call 19; refine (HLG.out _ (below_drawn (Below.refl _ _) 1)).mono ?_; rintro e y9 ⟨v9, rfl, hl9, hb9⟩; obtain ⟨va9, vc9, rfl, _⟩ := id hl9; have hr9 := cell_later (below_then (below_drawn (Below.refl _ _) 1) hb9) hRl hrl) | (go_at_call 18; refine (accesses_same _ _ _ L hl9 (HRL.out _ (below_then (below_drawn (Below.refl _ _) 1) hb9))).mono ?_; rintro e y10 ⟨rfl, n10, rfl⟩)))
      all_goals
        have HBE : Hid (Below w.heap.size w (y9.drewN n10)) := below_drawn (below_then HBY.out (below_then (below_drawn (Below.refl _ _) 1) hb9)) n10
        clear hl9 hb9
        go_wp2
        go_ret
        exact ⟨rfl, HBE.out⟩
end Go.Proofs.Ytcbcjliekbphmaa
