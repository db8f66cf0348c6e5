/- CommitPlays walked, where both may be. (Printed by tools/cde.py.) -/
import Derived.Test.YtfbbcjlbelnfaaaCdE
namespace Go.Proofs.Ytfbbcjlbelnfaaa
open Go.ChangeShapes Go.WideShapes Go.ChangeAt Go.RowKit
attribute [local go_sem ↓] Go.wp_at_zero Go.wp_at_succ

theorem on_eq {P : Cp} {e : Ex} (hn : e.n = P.ex.n) (hm : e.mu = P.ex.mu) (c r : Nat) (b : Ck) (u : Cu) (L : List Ac) (l : List Int) (t : Int) :
    ansZ r (P.on e) b u L = ansZ r P b u L ∧ errZ r (P.on e) b u L = errZ r P b u L ∧ valZ r (P.on e) u L = valZ r P u L ∧ nextCL c r (P.on e) b u L t = nextCL c r P b u L t ∧ nextU r (P.on e) b u L = nextU r P b u L ∧ nextCI r (P.on e) u L l = nextCI r P u L l := by
  obtain ⟨s, z, rd, last, ⟨n, mu, a1, a2, a3, a4, a5⟩⟩ := P
  obtain ⟨n', mu', b1, b2, b3, b4, b5⟩ := e
  simp only at hn hm
  subst hn hm
  exact ⟨rfl, rfl, rfl, rfl, rfl, rfl⟩
theorem cok_on {P : Cp} {e : Ex} {b : Ck} {u : Cu} (hn : e.n = P.ex.n) (h : COk P b u) : COk (P.on e) b u := by
  obtain ⟨n, k⟩ := h.k
  refine ⟨⟨n, kok_on e k⟩, h.last, by show 1 ≤ e.n; rw [hn]; exact h.n1, by show e.n ≤ _; rw [hn]; exact h.n2, ?_⟩
  rcases h.c with c | ⟨c1, c2, c3⟩ | c
  · exact Or.inl c
  · exact Or.inr (Or.inl ⟨c1, c2, by show u.seen < e.n; rw [hn]; exact c3⟩)
  · exact Or.inr (Or.inr c)
theorem cpl_next {r : Nat} {P : Cp} {l : List Int} {u : Cu} {L : List Ac} (h : LKk P l) (hg : Gd L) : LKk P (nextCI r P u L l) ∧ runK P (nextCI r P u L l) = nextCB r P (runK P l) u L := by
  unfold nextCI nextCB swapB
  by_cases e : goesC r P u = true
  · simp only [if_pos e]
    by_cases e0 : u.st = 0
    · simp only [if_pos e0]
      exact lkk_next h hg
    · simp only [if_neg e0]
      by_cases e1 : u.st = 1
      · simp only [if_pos e1]
        exact ⟨h, trivial⟩
      · simp only [if_neg e1]
        by_cases y : swapsY u L = true
        · simp only [if_pos y]
          exact ⟨h, trivial⟩
        · simp only [if_neg y]
          exact ⟨lkk_nil h.all.p, rfl⟩
  · simp only [if_neg e]
    exact ⟨h, trivial⟩
theorem pbw_new {w0 w1 w2 w5 w6 w7 : World} {p q : Value} {c r : Nat} {P : Cp} {X Z Y : Nat} {F G : List Nat} (hb : Below w0.heap.size w0 w1) (hZ0 : w1.heap.size ≤ Z) (hX0 : w1.heap.size ≤ X) (hne : Z ≠ X) (hz : CAt w2 Z P cuNew (ptr X)) (hx : KAt w2 X P (ckNew P)) (hb2 : Below w1.heap.size w1 w2) (hm : MemAt w5 w2.heap.size p c r [] F) (hb5 : Below w2.heap.size w2 w5) (hr : RefAt w6 w5.heap.size q c r [] G) (hb6 : Below w5.heap.size w5 w6) (hY0 : w6.heap.size ≤ Y) (hy : w7.heap[Y]? = some (.cells (rmC P (.slice none 0 0)) 98 (0, 0))) (hb7 : Below w6.heap.size w6 w7) :
    PBW w0 w7 w1.heap.size p q c r [] [] Z Y P (ckNew P) cuNew P [] [] := by
  have h12 := hb2.size
  have h25 := hb5.size
  have h56 := hb6.size
  have h67 := hb7.size
  have hX := heap_lt hx
  have hZ := heap_lt hz
  have hXF : X ∉ F := fun e => by have := (hm.lt _ e).1; omega
  have hZF : Z ∉ F := fun e => by have := (hm.lt _ e).1; omega
  refine ⟨⟨X, F, G, [Y], ⟨⟨((memAt_low hm hb2.size).below hb6).below hb7, ((hx.below hb5 hX).below hb6 (by omega)).below hb7 (by omega), hXF, by omega⟩, ((hz.below hb5 hZ).below hb6 (by omega)).below hb7 (by omega), fun e => ?_, by omega⟩, ⟨(refAt_base hr (by omega)).below hb7, ⟨.slice none 0 0, hy, World.ownsRow_nil _ _ _ _, rfl, by omega⟩, fun z hz hg => by
      simp at hz
      subst hz
      have := (hr.lt _ hg).2
      omega⟩, fun z hz hd => ?_, fun z hz => by simp at hz, fun z hz => by simp at hz⟩, below_then (below_then (below_then (below_then hb hb2) hb5) hb6) hb7, hb.size, by omega⟩
  · rcases List.mem_cons.1 e with e | e
    · exact hne e
    · exact hZF e
  · have hlt : z < w5.heap.size := by
      rcases List.mem_cons.1 hz with h2 | h2
      · omega
      · rcases List.mem_cons.1 h2 with h2 | h2
        · omega
        · exact (hm.lt _ h2).2
    rcases List.mem_append.1 hd with h1 | h1
    · simp at h1; omega
    · have h3 := (hr.lt _ h1).1; omega
structure CPl (w wr : World) (bs : Nat) (p q : Value) (c r : Nat) (Z Y : Nat) (P : Cp) (i : Nat) (L : List Ac) (l : List Int) (u : Cu) (e : Ex) : Prop where
  way : PBW w wr bs p q c r L L Z Y P (runK P l) u (P.on e) l []
  lk : LKk P l
  ok : COk P (runK P l) u
  rel : Rel u e
  en : e.n = P.ex.n
  em : e.mu = P.ex.mu
  gd : Gd L
  len : L.length ≤ i
theorem rel_new (n : Int) (mu : Bool) : Rel cuNew (exNew n mu) := ⟨rfl, fun _ => rfl, fun h => by simp [cuNew] at h, fun h => by simp [cuNew] at h, fun h => by simp [cuNew] at h, rfl, rfl⟩
/-- A step of the document's beside the program's. -/
theorem cpl_dstep {w0 w : World} {base : Nat} {p q : Value} {c r : Nat} {L' L : List Ac} {Z Y : Nat} {P : Cp} {b' : Ck} {u u' : Cu} {e : Ex} {l : List Int} {R : List (Nat × Obj)} (hw : PBW w0 w base p q c r L' L Z Y P b' u' (P.on e) l R) (hL : L.length < 3298534883328) (hk : LKk P l) (hc : COk P (runK P l) u) (hg : Gd L) (hr : Rel u e) (hn : e.n = P.ex.n) (hm : e.mu = P.ex.mu) (t : Int) :
    Calls Try.prog 16 #[.pointer (some ⟨Y, 0, none⟩), q, .int .i64 t] w fun ee w' => ee = .returned (.tuple #[.int .i64 (ansZ r P (runK P l) u L), .int .i64 (errZ r P (runK P l) u L), .int .i64 (valZ r P u L)]) ∧ ∃ e', PBW w0 w' base p q c r L' (nextCL c r P (runK P l) u L t) Z Y P b' u' (P.on e') (nextCI r P u L l) R ∧ Rel (nextU r P (runK P l) u L) e' ∧ e'.n = P.ex.n ∧ e'.mu = P.ex.mu := by
  obtain ⟨e1, e2, e3, e4, e5, e6⟩ := on_eq hn hm c r (runK P l) u L l t
  refine (pbw_dstep hw hL (lkk_on e hk) (cok_on hn hc) hg hr t).mono ?_
  rintro ee w' ⟨rfl, e', h1, h2, h3, h4⟩
  rw [show runK (P.on e) l = runK P l from rfl] at h1 h2 ⊢
  rw [e4, e6] at h1
  rw [e5] at h2
  rw [e1, e2, e3]
  exact ⟨rfl, e', h1, h2, h3.trans hn, h4.trans hm⟩
set_option maxRecDepth 100000 in
set_option maxHeartbeats 6400000 in
theorem cplays_yes (w : World) (raw : Int) (s : Nat) (wr n : Int) (mu : Bool) (tr : Int) (va : Option Addr) (vn vcap : Nat) (z : Int) (rd : List Nat) (r : Nat) (hr : Sg.Ok rd) (h : takesM (s : Int) z n = true) (hz1 : z ≤ 9223372036854775807) (hm : takes 3 (r : Int) = true) (v : Value) (S : List At) (hv : BLst w v S) : Calls Try.prog 3 #[.agg (playC raw (s : Int) wr n mu tr (.slice va vn vcap) z rd (r : Int) v)] w fun e w' => e = .returned (.bool true) ∧ Below w.heap.size w w' := by
  obtain ⟨hs1, hs16, hz0, hc0, hc1⟩ : 1 ≤ s ∧ s ≤ 16 ∧ 0 ≤ z ∧ 1 ≤ n ∧ n ≤ 1099511627776 := by
    have h' := h
    unfold takesM takesK at h'
    simp only [Bool.and_eq_true, decide_eq_true_eq] at h'
    omega
  have HCR : Hid (1 ≤ r ∧ r ≤ 16) := by
    have h' := hm
    unfold takes at h'
    simp only [Bool.and_eq_true, decide_eq_true_eq] at h'
    rw [Hid]
    omega
  have hpk : POk ⟨s, z, rd, false, exNew n mu⟩ := ⟨hs1, hs16, hz0, hz1, hr⟩
  have HS : Hid (∀ w, Calls Try.prog 6 #[] w fun e w' => e = .returned (.bool true) ∧ Below w.heap.size w w') := mshown_any
  have HT : Hid (∀ w, Calls Try.prog 8 #[.agg #[.int .i64 raw, .int .i64 (s : Int), .int .i64 wr, .int .i64 n, .bool mu, .int .i64 tr, .slice va vn vcap], .int .i64 z] w fun e w' => e = .returned (.bool true) ∧ Below w.heap.size w w') := by rw [← h]; exact takes10_any raw (s : Int) wr n mu tr (.slice va vn vcap) z
  have HM : Hid (∀ w, Calls Try.prog 9 #[.int .i64 3, .int .i64 (r : Int)] w fun e w' => e = .returned (.bool true) ∧ w' = w) := by rw [← hm]; exact takes_any 3 (r : Int)
  have HB : Hid (∀ (w : World), Calls Try.prog 7 #[.agg #[.int .i64 raw, .int .i64 (s : Int), .int .i64 wr, .int .i64 n, .bool mu, .int .i64 tr, .slice va vn vcap], .int .i64 z, .agg #[rdV rd 0, rdV rd 1, rdV rd 2, rdV rd 3, rdV rd 4, rdV rd 5, rdV rd 6, rdV rd 7]] w fun e w' => ∃ Z X, e = .returned (.tuple #[.pointer (some ⟨Z, 0, none⟩), .int .i64 0]) ∧ w.heap.size ≤ Z ∧ w.heap.size ≤ X ∧ Z ≠ X ∧ CAt w' Z ⟨s, z, rd, false, exNew n mu⟩ cuNew (ptr X) ∧ KAt w' X ⟨s, z, rd, false, exNew n mu⟩ (ckNew ⟨s, z, rd, false, exNew n mu⟩) ∧ Below w.heap.size w w') := fun w => mnew_yes w (P := ⟨s, z, rd, false, exNew n mu⟩) hpk rfl hc0 hc1 raw wr tr (.slice va vn vcap)
  have HN : Hid (∀ w : World, Calls Try.prog 10 #[.int .i64 3, .int .i64 (r : Int)] w fun e w' => ∃ p F, e = .returned (.tuple #[p, .int .i64 0]) ∧ p ≠ .pointer none ∧ MemAt w' w.heap.size p 3 r [] F ∧ Below w.heap.size w w') := fun w => new_yes w 3 r (by decide) HCR.out
  have HR : Hid (∀ w : World, Calls Try.prog 11 #[.int .i64 3, .int .i64 (r : Int)] w fun e w' => ∃ p G, e = .returned p ∧ RefAt w' w.heap.size p 3 r [] G ∧ Below w.heap.size w w') := rnew_any 3 r
  have HY : Hid (∀ w : World, Calls Try.prog 12 #[.agg #[.int .i64 raw, .int .i64 (s : Int), .int .i64 wr, .int .i64 n, .bool mu, .int .i64 tr, .slice va vn vcap], .int .i64 z, .agg #[rdV rd 0, rdV rd 1, rdV rd 2, rdV rd 3, rdV rd 4, rdV rd 5, rdV rd 6, rdV rd 7]] w fun e w' => ∃ Y, e = .returned (.pointer (some ⟨Y, 0, none⟩)) ∧ w.heap.size ≤ Y ∧ w'.heap[Y]? = some (.cells (rmC ⟨s, z, rd, false, exNew n mu⟩ (.slice none 0 0)) 98 (0, 0)) ∧ Below w.heap.size w w') := fun w => rnew10_any w (P := ⟨s, z, rd, false, exNew n mu⟩) rfl rfl raw wr tr (.slice va vn vcap)
  have HP0 : Hid (POk ⟨s, z, rd, false, exNew n mu⟩ ∧ COk ⟨s, z, rd, false, exNew n mu⟩ (ckNew ⟨s, z, rd, false, exNew n mu⟩) cuNew ∧ Rel cuNew (Cp.ex ⟨s, z, rd, false, exNew n mu⟩)) := ⟨hpk, cok_new hpk rfl hc0 hc1, rel_new n mu⟩
  obtain ⟨x0, cap, rfl, hbig, hfit, hl⟩ := hv
  have HC : Hid (∀ i, i < S.length → ∃ x, x0 = some x ∧ x.block < w.heap.size ∧ Row6 w (x.add (i * 6)) (S.getD i noAt)) := fun i hi => by
    rcases hl with rfl | ⟨x, e, hx, hr⟩
    · simp at hi
    · exact ⟨x, e, hx, hr i hi⟩
  have HF : Hid (∀ i, i < S.length → W64 (S.getD i noAt).v) := hfit
  clear hl hfit hr h hm hs1 hs16 hz0 hz1 hc0 hc1 hpk
  generalize (⟨s, z, rd, false, exNew n mu⟩ : Cp) = P at *
  generalize hn : S.length = N at *
  clear hn
  unfold playC
  unfold rdV at HB HY ⊢
  generalize rd.getD 0 0 = m0 at *
  generalize rd.getD 1 0 = m1 at *
  generalize rd.getD 2 0 = m2 at *
  generalize rd.getD 3 0 = m3 at *
  generalize rd.getD 4 0 = m4 at *
  generalize rd.getD 5 0 = m5 at *
  generalize rd.getD 6 0 = m6 at *
  generalize rd.getD 7 0 = m7 at *
  go_enter Try.func3, Try.ntmps3
  go_wp2_with fail
  refine (HS.out _).mono ?_
  rintro e y1 ⟨rfl, hb1⟩
  have HR1 : Hid (y1.heap[w.heap.size + 1]? = some (.cells #[.int .i64 raw, .int .i64 (s : Int), .int .i64 wr, .int .i64 n, .bool mu, .int .i64 tr, .slice va vn vcap] 24 (0, 0)) ∧ y1.heap[w.heap.size + 1 + 1]? = some (.cells #[.int .u64 ((m0 : Nat) : Int), .int .u64 ((m1 : Nat) : Int), .int .u64 ((m2 : Nat) : Int), .int .u64 ((m3 : Nat) : Int), .int .u64 ((m4 : Nat) : Int), .int .u64 ((m5 : Nat) : Int), .int .u64 ((m6 : Nat) : Int), .int .u64 ((m7 : Nat) : Int)] 27 (0, 0))) := ⟨row_on (heap_alloc2_mid _ _ _ _) hb1, row_on (heap_alloc3_new _ _ _ _) hb1⟩
  have HB1 : Hid (Below w.heap.size w y1) := below_then (below_alloc (below_alloc (below_a1 _ _) _) _) hb1
  clear hb1
  obtain ⟨g0, g1, g2, g3, g4, g5, g6⟩ := conf_cells HR1.out.1
  obtain ⟨r0, r1, r2, r3, r4, r5, r6, r7⟩ := cells8 HR1.out.2
  go_wp2_with fail
  refine (HB.out _).mono ?_
  rintro e y2 ⟨Z, X, rfl, hZ2, hX2, hne2, hz2, hx2, hb2⟩
  have HX2 : Hid (y1.heap.size ≤ Z ∧ y1.heap.size ≤ X ∧ Z ≠ X ∧ CAt y2 Z P cuNew (ptr X) ∧ KAt y2 X P (ckNew P) ∧ Below y1.heap.size y1 y2) := ⟨hZ2, hX2, hne2, hz2, hx2, hb2⟩
  have HR2 : Hid (y2.heap[w.heap.size + 1]? = some (.cells #[.int .i64 raw, .int .i64 (s : Int), .int .i64 wr, .int .i64 n, .bool mu, .int .i64 tr, .slice va vn vcap] 24 (0, 0)) ∧ y2.heap[w.heap.size + 1 + 1]? = some (.cells #[.int .u64 ((m0 : Nat) : Int), .int .u64 ((m1 : Nat) : Int), .int .u64 ((m2 : Nat) : Int), .int .u64 ((m3 : Nat) : Int), .int .u64 ((m4 : Nat) : Int), .int .u64 ((m5 : Nat) : Int), .int .u64 ((m6 : Nat) : Int), .int .u64 ((m7 : Nat) : Int)] 27 (0, 0))) := ⟨row_on HR1.out.1 hb2, row_on HR1.out.2 hb2⟩
  clear hZ2 hX2 hne2 hz2 hx2 hb2 r0 r1 r2 r3 r4 r5 r6 r7 g0 g1 g2 g3 g4 g5 g6
  obtain ⟨g0, g1, g2, g3, g4, g5, g6⟩ := conf_cells HR2.out.1
  go_wp2_with fail
  refine (HT.out _).mono ?_
  rintro e y3 ⟨rfl, hb3⟩
  have HX3 : Hid (y1.heap.size ≤ Z ∧ y1.heap.size ≤ X ∧ Z ≠ X ∧ CAt y3 Z P cuNew (ptr X) ∧ KAt y3 X P (ckNew P) ∧ Below y1.heap.size y1 y3) := ⟨HX2.out.1, HX2.out.2.1, HX2.out.2.2.1, HX2.out.2.2.2.1.below hb3 (heap_lt HX2.out.2.2.2.1), HX2.out.2.2.2.2.1.below hb3 (heap_lt HX2.out.2.2.2.2.1), below_then HX2.out.2.2.2.2.2 hb3⟩
  have HR3 : Hid (y3.heap[w.heap.size + 1]? = some (.cells #[.int .i64 raw, .int .i64 (s : Int), .int .i64 wr, .int .i64 n, .bool mu, .int .i64 tr, .slice va vn vcap] 24 (0, 0)) ∧ y3.heap[w.heap.size + 1 + 1]? = some (.cells #[.int .u64 ((m0 : Nat) : Int), .int .u64 ((m1 : Nat) : Int), .int .u64 ((m2 : Nat) : Int), .int .u64 ((m3 : Nat) : Int), .int .u64 ((m4 : Nat) : Int), .int .u64 ((m5 : Nat) : Int), .int .u64 ((m6 : Nat) : Int), .int .u64 ((m7 : Nat) : Int)] 27 (0, 0))) := ⟨row_on HR2.out.1 hb3, row_on HR2.out.2 hb3⟩
  clear hb3 g0 g1 g2 g3 g4 g5 g6 HX2 HR2 HR1
  go_wp2_with fail
  refine (HM.out _).mono ?_
  rintro e y4 ⟨rfl, rfl⟩
  go_wp2_with fail
  refine (HN.out _).mono ?_
  rintro e y5 ⟨p, F5, rfl, _, hm5, hb5⟩
  obtain ⟨M, rfl⟩ := hm5.ptr
  have HM5 : Hid (MemAt y5 y4.heap.size (.pointer (some ⟨M, 0, none⟩)) 3 r [] F5 ∧ Below y4.heap.size y4 y5) := ⟨hm5, hb5⟩
  have HR5 : Hid (y5.heap[w.heap.size + 1]? = some (.cells #[.int .i64 raw, .int .i64 (s : Int), .int .i64 wr, .int .i64 n, .bool mu, .int .i64 tr, .slice va vn vcap] 24 (0, 0)) ∧ y5.heap[w.heap.size + 1 + 1]? = some (.cells #[.int .u64 ((m0 : Nat) : Int), .int .u64 ((m1 : Nat) : Int), .int .u64 ((m2 : Nat) : Int), .int .u64 ((m3 : Nat) : Int), .int .u64 ((m4 : Nat) : Int), .int .u64 ((m5 : Nat) : Int), .int .u64 ((m6 : Nat) : Int), .int .u64 ((m7 : Nat) : Int)] 27 (0, 0))) := ⟨row_on HR3.out.1 hb5, row_on HR3.out.2 hb5⟩
  clear hm5 hb5 HR3
  go_wp2_with fail
  refine (HR.out _).mono ?_
  rintro e y6 ⟨q0, G6, rfl, hr6, hb6⟩
  obtain ⟨R, rfl⟩ := hr6.ptr
  have HR6 : Hid (RefAt y6 y5.heap.size (.pointer (some ⟨R, 0, none⟩)) 3 r [] G6 ∧ Below y5.heap.size y5 y6) := ⟨hr6, hb6⟩
  obtain ⟨g0, g1, g2, g3, g4, g5, g6⟩ := conf_cells (row_on HR5.out.1 hb6)
  obtain ⟨r0, r1, r2, r3, r4, r5, r6, r7⟩ := cells8 (row_on HR5.out.2 hb6)
  clear hr6 hb6
  go_wp2_with fail
  refine (HY.out _).mono ?_
  rintro e y7 ⟨Y, rfl, hY7, hy7, hb7⟩
  have HP7 : Hid (CPl w y7 y1.heap.size (.pointer (some ⟨M, 0, none⟩)) (.pointer (some ⟨R, 0, none⟩)) 3 r Z Y P 0 [] [] cuNew P.ex) := ⟨pbw_new HB1.out HX3.out.1 HX3.out.2.1 HX3.out.2.2.1 HX3.out.2.2.2.1 HX3.out.2.2.2.2.1 HX3.out.2.2.2.2.2 HM5.out.1 HM5.out.2 HR6.out.1 HR6.out.2 hY7 hy7 hb7, lkk_nil HP0.out.1, HP0.out.2.1, HP0.out.2.2, rfl, rfl, gd_nil, Nat.le_refl _⟩
  clear HM5 HR6 HX3 HB HT HN HR HR5 r0 r1 r2 r3 r4 r5 r6 r7 g0 g1 g2 g3 g4 g5 g6 hY7 hy7 hb7 HY HM
  go_wp2
  generalize y1.heap.size = bs at *
  go_loopw [17] (fun iv wr => ∃ (q : Nat) (L : List Ac) (l : List Int) (u : Cu) (e : Ex), q ≤ N ∧ iv = .int .i64 q ∧ CPl w wr bs (.pointer (some ⟨M, 0, none⟩)) (.pointer (some ⟨R, 0, none⟩)) 3 r Z Y P q L l u e) (fun iv _ => N - (intOf iv).toNat)
  case atStart => exact ⟨0, [], [], cuNew, P.ex, Nat.zero_le _, rfl, HP7.out⟩
  case round =>
    obtain ⟨q, L, l, u, ex, hq, rfl, he⟩ := hrel
    have HE : Hid (CPl w wr bs (.pointer (some ⟨M, 0, none⟩)) (.pointer (some ⟨R, 0, none⟩)) 3 r Z Y P q L l u ex) := he
    have hL : L.length < 3298534883328 := by have := he.len; omega
    clear he HP7
    by_cases hlt : q < N
    · obtain ⟨x, rfl, hxb, hrow⟩ := HC.out q hlt
      have hrow2 := hrow.later HE.out.way.bel (by rw [add_block]; exact hxb)
      have HR6w : Hid (∀ w', Below w.heap.size w w' → Row6 w' (x.add (q * 6)) (S.getD q noAt)) := fun w' hb => hrow.later hb (by rw [add_block]; exact hxb)
      have hfit := HF.out q hlt
      have d1 : decide ((q : Int) < (N : Int)) = true := by simp; omega
      have hx1 : (q : Int) < (N : Int) := by omega
      clear hrow
      generalize S.getD q noAt = atx at hrow2 hfit HR6w
      obtain ⟨ak, at', ⟨ka, ai, aj⟩, av⟩ := atx
      obtain ⟨c0, c1, c2, c3, c4, c5⟩ := hrow2
      rw [add_pos' _ _ (by decide)] at c1 c2 c3 c4 c5
      simp only at c0 c1 c2 c3 c4 c5 hfit
      by_cases hk1 : ak = 1
      · subst hk1
        have HST : Hid (Calls Try.prog 13 #[(.pointer (some ⟨M, 0, none⟩)), .int .i64 (-1), .agg #[.int .i64 ka, .int .i64 ai, .int .i64 aj], .int .i64 av] wr.drew fun e w' => e = .returned (.int .i64 (if isAd 3 r ⟨ka, ai, aj⟩ then 0 else 1)) ∧ PBW w w' bs (.pointer (some ⟨M, 0, none⟩)) (.pointer (some ⟨R, 0, none⟩)) 3 r (storeL 3 r L (-1) ⟨ka, ai, aj⟩ av) L Z Y P (runK P l) u (P.on ex) l []) := pbw_pstore (HE.out.way.later (below_drawn (Below.refl _ _) 1)) hL (-1) ⟨ka, ai, aj⟩ av
        have HRS : Hid (∀ w', PBW w w' bs (.pointer (some ⟨M, 0, none⟩)) (.pointer (some ⟨R, 0, none⟩)) 3 r (storeL 3 r L (-1) ⟨ka, ai, aj⟩ av) L Z Y P (runK P l) u (P.on ex) l [] → Calls Try.prog 14 #[(.pointer (some ⟨R, 0, none⟩)), .int .i64 (-1), .agg #[.int .i64 ka, .int .i64 ai, .int .i64 aj], .int .i64 av] w'.drew fun e w'' => e = .returned (.int .i64 (if isAd 3 r ⟨ka, ai, aj⟩ then 0 else 1)) ∧ PBW w w'' bs (.pointer (some ⟨M, 0, none⟩)) (.pointer (some ⟨R, 0, none⟩)) 3 r (storeL 3 r L (-1) ⟨ka, ai, aj⟩ av) (storeL 3 r L (-1) ⟨ka, ai, aj⟩ av) Z Y P (runK P l) u (P.on ex) l []) := fun w' h => pbw_dstore (h.later (below_drawn (Below.refl _ _) 1)) hL (-1) ⟨ka, ai, aj⟩ av
        have HLEN2 : Hid ((storeL 3 r L (-1) ⟨ka, ai, aj⟩ av).length ≤ q + 1) := by have h1 := storeL_len1 3 r L (-1) ⟨ka, ai, aj⟩ av; have h2 := HE.out.len; rw [Hid]; omega
        have HBD2 : Hid (Gd (storeL 3 r L (-1) ⟨ka, ai, aj⟩ av)) := gd_store HE.out.gd hfit
        generalize storeL 3 r L (-1) ⟨ka, ai, aj⟩ av = L' at *
        generalize (if isAd 3 r ⟨ka, ai, aj⟩ = true then (0 : Int) else 1) = ea at *
        go_wp2_with fail
        go_region_with ((go_at_call 13; refine HST.out.mono ?_; rintro e y7 ⟨rfl, h7⟩))
        all_goals
          have HRS7 : Hid (Calls Try.prog 14 #[(.pointer (some ⟨R, 0, none⟩)), .int .i64 (-1), .agg #[.int .i64 ka, .int .i64 ai, .int .i64 aj], .int .i64 av] y7.drew fun e w'' => e = .returned (.int .i64 ea) ∧ PBW w w'' bs (.pointer (some ⟨M, 0, none⟩)) (.pointer (some ⟨R, 0, none⟩)) 3 r L' L' Z Y P (runK P l) u (P.on ex) l []) := HRS.out _ h7
          obtain ⟨e0, e1, e2, e3, e4, e5⟩ := HR6w.out y7 h7.bel
          rw [add_pos' _ _ (by decide)] at e1 e2 e3 e4 e5
          simp only at e0 e1 e2 e3 e4 e5
          clear h7 c0 c1 c2 c3 c4 c5
          go_wp2_with fail
          go_region_with ((go_at_call 14; refine HRS7.out.mono ?_; rintro e y8 ⟨rfl, h8⟩))
        all_goals
          have HW8 : Hid (PBW w y8 bs (.pointer (some ⟨M, 0, none⟩)) (.pointer (some ⟨R, 0, none⟩)) 3 r L' L' Z Y P (runK P l) u (P.on ex) l []) := h8
          clear h8 e0 e1 e2 e3 e4 e5
          go_wp2
          go_roundw
          case rel => exact ⟨q + 1, L', l, u, ex, by omega, by go_num, HW8.out, HE.out.lk, HE.out.ok, HE.out.rel, HE.out.en, HE.out.em, HBD2.out, HLEN2.out⟩
          case measure => simp [intOf]; omega
      · have dk1 : decide (ak = 1) = false := by simpa using hk1
        by_cases hk2 : ak = 2
        · subst hk2
          clear hk1
          have HT : Hid (∀ w' Rr, PBW w w' bs (.pointer (some ⟨M, 0, none⟩)) (.pointer (some ⟨R, 0, none⟩)) 3 r L L Z Y P (runK P l) u (P.on ex) l Rr → Calls Try.prog 15 #[.pointer (some ⟨Z, 0, none⟩), (.pointer (some ⟨M, 0, none⟩)), .int .i64 at'] w' fun e w'' => e = .returned (.agg #[.int .i64 (ansZ r P (runK P l) u L), .int .i64 (errZ r P (runK P l) u L), .int .i64 (valZ r P u L), .bool (goesC r P u)]) ∧ PBW w w'' bs (.pointer (some ⟨M, 0, none⟩)) (.pointer (some ⟨R, 0, none⟩)) 3 r (nextCL 3 r P (runK P l) u L at') L Z Y P (nextCB r P (runK P l) u L) (nextU r P (runK P l) u L) (P.on ex) l Rr) := fun w' Rr h => pbw_pstep h hL HE.out.ok HE.out.gd at'
          have HN3 := cpl_next (r := r) (u := u) HE.out.lk HE.out.gd
          have HD : Hid (∀ w' Rr, PBW w w' bs (.pointer (some ⟨M, 0, none⟩)) (.pointer (some ⟨R, 0, none⟩)) 3 r (nextCL 3 r P (runK P l) u L at') L Z Y P (nextCB r P (runK P l) u L) (nextU r P (runK P l) u L) (P.on ex) l Rr → Calls Try.prog 16 #[.pointer (some ⟨Y, 0, none⟩), (.pointer (some ⟨R, 0, none⟩)), .int .i64 at'] w' fun e w'' => e = .returned (.tuple #[.int .i64 (ansZ r P (runK P l) u L), .int .i64 (errZ r P (runK P l) u L), .int .i64 (valZ r P u L)]) ∧ ∃ e', PBW w w'' bs (.pointer (some ⟨M, 0, none⟩)) (.pointer (some ⟨R, 0, none⟩)) 3 r (nextCL 3 r P (runK P l) u L at') (nextCL 3 r P (runK P l) u L at') Z Y P (nextCB r P (runK P l) u L) (nextU r P (runK P l) u L) (P.on e') (nextCI r P u L l) Rr ∧ Rel (nextU r P (runK P l) u L) e' ∧ e'.n = P.ex.n ∧ e'.mu = P.ex.mu) := fun w' Rr h => cpl_dstep h hL HE.out.lk HE.out.ok HE.out.gd HE.out.rel HE.out.en HE.out.em at'
          have HLK2 : Hid (LKk P (nextCI r P u L l) ∧ runK P (nextCI r P u L l) = nextCB r P (runK P l) u L) := HN3
          have HOK2 : Hid (COk P (nextCB r P (runK P l) u L) (nextU r P (runK P l) u L)) := cok_next HE.out.ok (fun _ _ => HE.out.gd _)
          have HBD2 : Hid (Gd (nextCL 3 r P (runK P l) u L at')) := gd_nextC HE.out.ok HE.out.gd
          have HLEN2 : Hid ((nextCL 3 r P (runK P l) u L at').length ≤ q + 1) := by have h1 := nextCL_len 3 r P (runK P l) u L at'; have h2 := HE.out.len; rw [Hid]; omega
          have hkk := ansZ_ne (r := r) (L := L) HE.out.ok
          clear HN3
          generalize nextCL 3 r P (runK P l) u L at' = L' at *
          generalize nextCI r P u L l = l' at *
          generalize nextCB r P (runK P l) u L = b' at *
          generalize nextU r P (runK P l) u L = u' at *
          generalize ansZ r P (runK P l) u L = kk at *
          generalize errZ r P (runK P l) u L = ee at *
          generalize valZ r P u L = vv at *
          generalize goesC r P u = gg at *
          have HBLO : Hid (w.heap.size ≤ wr.heap.size) := HE.out.way.bel.size
          go_wp2_with fail
          refine (HT.out _ [] HE.out.way).mono ?_
          rintro e y7 ⟨rfl, h7⟩
          have HW7 : Hid (PBW w (y7.alloc (.cells #[.int .i64 kk, .int .i64 ee, .int .i64 vv, .bool gg] 52)) bs (.pointer (some ⟨M, 0, none⟩)) (.pointer (some ⟨R, 0, none⟩)) 3 r L' L Z Y P b' u' (P.on ex) l [(y7.heap.size, ansOW kk ee vv gg)]) := h7.more _
          obtain ⟨e0, e1, e2, e3, e4, e5⟩ := HR6w.out _ HW7.out.bel
          rw [add_pos' _ _ (by decide)] at e1 e2 e3 e4 e5
          simp only at e0 e1 e2 e3 e4 e5
          clear h7 c0 c1 c2 c3 c4 c5
          go_wp2_with fail
          refine (HD.out _ _ HW7.out).mono ?_
          rintro e y8 ⟨rfl, ex2, h8, h8r, h8n, h8m⟩
          have HW8 : Hid (PBW w y8 bs (.pointer (some ⟨M, 0, none⟩)) (.pointer (some ⟨R, 0, none⟩)) 3 r L' L' Z Y P (runK P l') u' (P.on ex2) l' []) := by
            rw [HLK2.out.2]
            exact h8.less (fun z hz => by simp at hz)
          have HRL8 : Hid (Rel u' ex2 ∧ ex2.n = P.ex.n ∧ ex2.mu = P.ex.mu) := ⟨h8r, h8n, h8m⟩
          obtain ⟨⟨a0, a1, a2, a3⟩, _⟩ := ansW_cells (k := kk) (e := ee) (v := vv) (y := gg) (h8.row (B := y7.heap.size) (o := ansOW kk ee vv gg) (by simp))
          clear h8 h8r h8n h8m HW7 e0 e1 e2 e3 e4 e5
          have hee : (kk != kk) = false := by simp
          have hee2 : (ee != ee) = false := by simp
          have hee3 : (vv != vv) = false := by simp
          have hgg : (gg != gg) = false := by simp
          go_wp2
          go_roundw
          case rel => exact ⟨q + 1, L', l', u', ex2, by omega, by go_num, HW8.out, HLK2.out.1, by rw [HLK2.out.2]; exact HOK2.out, HRL8.out.1, HRL8.out.2.1, HRL8.out.2.2, HBD2.out, HLEN2.out⟩
          case measure => simp [intOf]; omega
        · have dk2 : decide (ak = 2) = false := by simpa using hk2
          by_cases hk3 : ak = 3
          · subst hk3
            clear hk1 hk2
            have HSA : Hid (∀ w', PBW w w' bs (.pointer (some ⟨M, 0, none⟩)) (.pointer (some ⟨R, 0, none⟩)) 3 r L L Z Y P (runK P l) u (P.on ex) l [] → Calls Try.prog 17 #[.pointer (some ⟨Z, 0, none⟩), .pointer (some ⟨Y, 0, none⟩)] w' fun e w'' => e = .returned (.bool true) ∧ PBW w w'' bs (.pointer (some ⟨M, 0, none⟩)) (.pointer (some ⟨R, 0, none⟩)) 3 r L L Z Y P (runK P l) u (P.on ex) l []) := fun w' h => pbw_tells h HE.out.rel.st
            go_wp2_with fail
            refine (HSA.out _ HE.out.way).mono ?_
            rintro e y7 ⟨rfl, h7⟩
            have HW7 : Hid (PBW w y7 bs (.pointer (some ⟨M, 0, none⟩)) (.pointer (some ⟨R, 0, none⟩)) 3 r L L Z Y P (runK P l) u (P.on ex) l []) := h7
            clear h7
            go_wp2
            go_roundw
            case rel => exact ⟨q + 1, L, l, u, ex, by omega, by go_num, HW7.out, HE.out.lk, HE.out.ok, HE.out.rel, HE.out.en, HE.out.em, HE.out.gd, by have := HE.out.len; omega⟩
            case measure => simp [intOf]; omega
          · have dk3 : decide (ak = 3) = false := by simpa using hk3
            go_wp2
            go_roundw
            case rel => exact ⟨q + 1, L, l, u, ex, by omega, by go_num, HE.out.way, HE.out.lk, HE.out.ok, HE.out.rel, HE.out.en, HE.out.em, HE.out.gd, by have := HE.out.len; omega⟩
            case measure => simp [intOf]; omega
    · obtain rfl : q = N := by omega
      have hd : decide ((q : Int) < (q : Int)) = false := by simp
      have HSA : Hid (∀ w', PBW w w' bs (.pointer (some ⟨M, 0, none⟩)) (.pointer (some ⟨R, 0, none⟩)) 3 r L L Z Y P (runK P l) u (P.on ex) l [] → Calls Try.prog 17 #[.pointer (some ⟨Z, 0, none⟩), .pointer (some ⟨Y, 0, none⟩)] w' fun e w'' => e = .returned (.bool true) ∧ PBW w w'' bs (.pointer (some ⟨M, 0, none⟩)) (.pointer (some ⟨R, 0, none⟩)) 3 r L L Z Y P (runK P l) u (P.on ex) l []) := fun w' h => pbw_tells h HE.out.rel.st
      go_wp2_with fail
      refine (HSA.out _ HE.out.way).mono ?_
      rintro e y7 ⟨rfl, h7⟩
      have HW7 : Hid (PBW w y7 bs (.pointer (some ⟨M, 0, none⟩)) (.pointer (some ⟨R, 0, none⟩)) 3 r L L Z Y P (runK P l) u (P.on ex) l []) := h7
      obtain ⟨X7, F7, D7, G7, ha7⟩ := h7.all
      obtain ⟨ra, rc, hrl⟩ := ha7.ds.ref.count
      have hRl : R < y7.heap.size := World.block_lt_of_cell? _ _ hrl
      have HLG : Hid (∀ w', Below y7.heap.size y7 w' → Calls Try.prog 19 #[(.pointer (some ⟨M, 0, none⟩)), .int .i64 0] w' fun e w'' => ∃ v, e = .returned v ∧ LLst w'' v L ∧ Below w'.heap.size w' w'') := fun w' hb => by
        refine (log_any (ha7.ps.ks.mem.below hb) (by omega) 0).mono ?_
        rintro e w'' ⟨v, rfl, ho, hb2⟩
        exact ⟨v, rfl, own_llst ho (by have : (L.drop (0 : Int).toNat).length = L.length := rfl; omega), hb2⟩
      have HRL : Hid (∀ w', Below y7.heap.size y7 w' → LLst w' (.slice ra L.length rc) L) := fun w' hb => by
        obtain ⟨R', v, hq⟩ := ha7.ds.ref.below hb
        obtain rfl : R = R' := by simpa using hq.p
        have hv : w'.cell? ⟨R, 2, none⟩ = some v := by rw [cell_at hq.m]; rfl
        rw [cell_later hb hRl hrl] at hv
        obtain rfl : Value.slice ra L.length rc = v := by simpa using hv
        exact own_llst hq.own (by omega)
      generalize L.length = nL at HLG HRL hrl
      have HBY : Hid (Below w.heap.size w y7) := h7.bel
      clear h7 ha7
      go_wp2_with fail
      go_region_with ((first | (go_at_call 19; refine (HLG.out _ (below_drawn (Below.refl _ _) 1)).mono ?_; rintro e y9 ⟨v9, rfl, hl9, hb9⟩; obtain ⟨va9, vc9, rfl, _⟩ := id hl9; have hr9 := cell_later (below_then (below_drawn (Below.refl _ _) 1) hb9) hRl hrl) | (go_at_call 18; refine (accesses_same _ _ _ L hl9 (HRL.out _ (below_then (below_drawn (Below.refl _ _) 1) hb9))).mono ?_; rintro e y10 ⟨rfl, n10, rfl⟩)))
      all_goals
        have HBE : Hid (Below w.heap.size w (y9.drewN n10)) := below_drawn (below_then HBY.out (below_then (below_drawn (Below.refl _ _) 1) hb9)) n10
        clear hl9 hb9
        go_wp2
        go_ret
        exact ⟨rfl, HBE.out⟩
end Go.Proofs.Ytfbbcjlbelnfaaa
