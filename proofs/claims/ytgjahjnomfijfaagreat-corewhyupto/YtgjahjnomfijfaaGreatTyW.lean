/- CoreWhy walked. -/
import Derived.Test.YtgjahjnomfijfaaGreatJTyPTyPr
import Derived.Deep.CutBlock
import Derived.Deep.DeepCutAuto
import Derived.Deep.LoopGhost
import Derived.Deep.MidRow
namespace Go.Proofs.YtgjahjnomfijfaaGreat
open Go.ChangeShapes Go.WideShapes Go.ChangeAt Go.RowKit
attribute [local go_sem ↓] Go.wp_at_zero Go.wp_at_succ
set_option linter.unusedVariables false
set_option maxRecDepth 100000 in
set_option maxHeartbeats 40000000 in
theorem why_walk (w : World) (raw ring writes stamps : Int) (mu : Bool) (tr : Int) (cv lv : Value) {S : List At} (hS : AcL w lv S) (hO : AcOk S) (HSH : Hid (∀ w : World, Calls Tryz.prog 6 #[] w fun e w' => e = .returned (.bool true) ∧ Below w.heap.size w w')) :
  Calls Tryz.prog 4 #[confT raw ring writes stamps mu tr cv, lv] w fun e w' => e = .returned (.bool true) ∧ Below w.heap.size w w' := by
 obtain ⟨s1, s2, m1, m2, n1, n2⟩ := fit_bd ring writes stamps mu
 have HF : Hid (∀ w : World, Calls Tryz.prog 8 #[confT raw ring writes stamps mu tr cv] w fun e w' => e = .returned (fcV (fitC ring writes stamps mu)) ∧ Below w.heap.size w w') := fun w => fit_any w raw ring writes stamps mu tr cv
 have HPL : Hid (∀ w : World, Calls Tryz.prog 7 #[fcV (fitC ring writes stamps mu)] w fun e w' => ∃ B X R p Tp A cap cur, e = .returned (.pointer (some ⟨B, 0, none⟩)) ∧ GG w' w.heap.size p 8 (fitC ring writes stamps mu).s [] Tp (fun _ => newX (fitC ring writes stamps mu).s (fitC ring writes stamps mu).n (fitC ring writes stamps mu).mu (fitC ring writes stamps mu).m) A ∧ w'.heap[B]? = some (gmO p (.slice (some ⟨X, 0, none⟩) 4 cap) (.slice none 0 0) (.slice none 0 0) (.slice (some ⟨R, 0, none⟩) 4 4)) ∧ w'.heap[X]? = some (txsO cur) ∧ Ptrs cur Tp ∧ w'.heap[R]? = some nilR ∧ B ∉ A ∧ X ∉ A ∧ R ∉ A ∧ w.heap.size ≤ B ∧ w.heap.size ≤ X ∧ w.heap.size ≤ R ∧ Below w.heap.size w w') := fun w => play_any w s1 s2 m1 m2 n1 n2
 generalize fitC ring writes stamps mu = d at *
 obtain ⟨s, m, n, mu'⟩ := d
 simp only at s1 s2 m1 m2 n1 n2 HPL
 have HP4 : Hid (∀ x w, Calls Tryz.prog 9 #[.int .i64 x, .int .i64 4] w fun e w' => e = .returned (.int .i64 (x % 4)) ∧ w' = w) := fun x w => gpick_any x 4 (by decide) (by decide) w
 obtain ⟨la, lcap, rfl, hSl, hSd⟩ := hS
 have HAC : Hid (∀ w' i, Below w.heap.size w w' → i < S.length → ∃ x : Addr, la = some x ∧ x.block < w.heap.size ∧ W64 (S.getD i noAt).w.value ∧ ∀ j u, (atC (S.getD i noAt))[j]? = some u → w'.cell? ((x.add (i * 12)).add j) = some u) := fun w' i k hi => by
  rcases hSd with h | ⟨x, e1, e2, e3⟩
  ·rw [h] at hi; simp at hi
  ·exact ⟨x, e1, e2, hO i hi, fun j u hu => (k.cell (p := (x.add (i * 12)).add j) (by rw [add_block, add_block]; exact e2)).trans (e3 i hi j u hu)⟩
 clear hSd hO
 generalize hnS : S.length = nS at *
 clear hnS
 unfold confT fcV at *
 simp only at HF HPL
 go_enter Tryz.func4, Tryz.ntmps4
 go_wp2_with fail
 refine (HSH.out _).mono ?_
 rintro e y1 ⟨rfl, hb1⟩
 have HB1 : Hid (Below w.heap.size w y1) := below_then (below_a1 _ _) hb1
 have HC1 : Hid (y1.heap[w.heap.size]? = some (.cells #[.int .i64 raw, .int .i64 ring, .int .i64 writes, .int .i64 stamps, .bool mu, .int .i64 tr, cv] 24 (0, 0))) := row_on (heap_alloc_new _ _) hb1
 obtain ⟨⟨r0, r1, r2, r3, r4, r5, r6⟩, _⟩ := cfg_cells HC1.out
 have hcl := heap_lt HC1.out
 clear hb1
 go_wp2_with fail
 refine (HF.out _).mono ?_
 rintro e y2 ⟨rfl, hb2⟩
 have HB2 : Hid (Below w.heap.size w y2) := below_then HB1.out hb2
 clear hb2 r0 r1 r2 r3 r4 r5 r6 hcl HB1 HC1 HF HSH
 go_wp2_with fail
 refine (HPL.out _).mono ?_
 rintro e y3 ⟨B, X, Rb, p, Tp, A, cap, cur, rfl, hgg, hgm, htx, hpt, hrd, hBA, hXA, hRA, hB0, hX0, hR0, hb3⟩
 obtain ⟨M, rfl⟩ := hgg.ptr
 obtain ⟨D, hD⟩ : ∃ D, D = y2.heap.size := ⟨_, rfl⟩
 obtain ⟨dO, hdO⟩ : ∃ dO : Obj, dO = .cells #[.int .i64 0, .int .i64 (s : Int), .int .i64 (m : Int), .int .i64 (n : Int), .bool mu', .int .i64 0, .slice none 0 0] 24 (0, 0) := ⟨_, rfl⟩
 have HDO : Hid (dO = .cells #[.int .i64 0, .int .i64 (s : Int), .int .i64 (m : Int), .int .i64 (n : Int), .bool mu', .int .i64 0, .slice none 0 0] 24 (0, 0)) := hdO
 have HM0 : Hid (∃ base, Y1 w y3 base s m n (.pointer (some ⟨M, 0, none⟩)) Tp B X cap cur (.slice (some ⟨Rb, 0, none⟩) 4 4) D dO 0 0) := by
  have hlt := hgg.lt
  have hs2 := HB2.out.size
  have hs3 := hb3.size
  refine ⟨_, [], g0 s mu', _, _, A, _, _, [], ⟨wi_first s1 s2 (by omega) (by omega) m1 m2, rfl, ⟨hgg, hgm, htx, hpt, hBA, hXA⟩, by simp, fun k hk => by simp [newX], below_then HB2.out (below_then (below_a1 _ _) hb3), by simp; omega, hs3⟩, ⟨by simpa [sgL, g0, Rg.n, sgsC] using World.ownsRow_nil _ _ _ _, by simp [sgL], by simpa [g0, Rg.n] using World.ownsRow_nil _ _ _ _, fun z hz => by simp [Value.ownBlock] at hz, fun z hz => by simp [Value.ownBlock] at hz⟩, by rw [hdO, hD]; exact row_on (heap_alloc_new _ _) hb3, fun e => by have := (hlt _ e).1; simp at this; omega, rfl⟩
 obtain ⟨base, hm0⟩ := HM0.out
 have HM : Hid (Y1 w y3 base s m n (.pointer (some ⟨M, 0, none⟩)) Tp B X cap cur (.slice (some ⟨Rb, 0, none⟩) 4 4) D dO 0 0) := hm0
 have HB0 : Hid (w.heap.size ≤ B) := by have := HB2.out.size; have : w.heap.size ≤ B := (by simp at hB0; omega); exact this
 clear HM0 hm0 hgg hgm htx hpt hrd hBA hXA hRA hB0 hX0 hR0 HPL hdO
 go_wp2_with fail
 rw [← hD]
 clear hD hb3 HB2
 go_loopw [8, 9] (fun dv iv wr => ∃ (q : Nat) (dn : Int), q ≤ nS ∧ iv = .int .i64 q ∧ dv = .int .i64 dn ∧ Y1 w wr base s m n (.pointer (some ⟨M, 0, none⟩)) Tp B X cap cur (.slice (some ⟨Rb, 0, none⟩) 4 4) D dO q dn) (fun _ iv _ => nS - (intOf iv).toNat)
 case atStart => exact ⟨0, 0, by omega, rfl, rfl, HM.out⟩
 case round => as_aux_lemma =>
  obtain ⟨q, dn, hq, rfl, rfl, hy1⟩ := hrel
  clear HM
  by_cases hlt : q < nS
  ·obtain ⟨L, g, T, R, A, sv, wv, ws, mi, hsw, hdd, hDA, rfl⟩ := hy1
   have HMI : Hid (MI w wr base s m n (.pointer (some ⟨M, 0, none⟩)) Tp B X cap cur sv wv (.slice (some ⟨Rb, 0, none⟩) 4 4) q L g T R A) := mi
   have HSW : Hid (SW wr base sv wv A (sgL g) ws g.n) := hsw
   have HDD : Hid (wr.heap[D]? = some dO ∧ D ∉ A) := ⟨hdd, hDA⟩
   obtain ⟨x, rfl, hxb, hval, hcell⟩ := HAC.out wr q mi.bel hlt
   obtain ⟨a, HAE⟩ : ∃ a, Hid (S.getD q noAt = a) := ⟨_, rfl⟩
   rw [HAE.out] at hcell hval
   obtain ⟨k, hk, hke⟩ := pick4 a.who
   have c1 : wr.cell? ((x.add (q * 12)).add 1) = some (.int .i64 a.who) := hcell 1 _ rfl
   rw [add_pos' _ _ (by decide)] at c1
   have HPK : Hid (∀ w, Calls Tryz.prog 9 #[.int .i64 a.who, .int .i64 4] w fun e w' => e = .returned (.int .i64 (k : Int)) ∧ w' = w) := by rw [← hke]; exact HP4.out a.who
   have hx1 : (q : Int) < (nS : Int) := by omega
   have hx0 : (0 : Int) ≤ (q : Int) := by omega
   clear mi hsw hdd hDA hcell hke
   go_wp2_with fail
   refine (HPK.out _).mono ?_
   rintro e z1 ⟨rfl, e1⟩
   obtain rfl : wr = z1 := e1.symm
   clear c1 HPK
   have hE : (T k).ev.length < 1073741824 := by have := HMI.out.evs k hk; omega
   obtain ⟨b0, b1, b2⟩ := HMI.out.gb.cells hk
   have hBl := heap_lt HMI.out.gb.gm
   have hXl := heap_lt HMI.out.gb.tx
   have k4 : (k : Int) < 4 := by omega
   have k0 : (0 : Int) ≤ (k : Int) := by omega
   obtain ⟨Gk, htk⟩ := HMI.out.gb.gg.tx hk
   have HTX : Hid (TxAt wr base (Tp k) (T k) Gk) := htk
   have HMEM : Hid (∃ F, MemAt wr base (.pointer (some ⟨M, 0, none⟩)) 8 s L F) := HMI.out.gb.gg.mem
   clear htk
   go_wp2_with fail
   refine (start_any HTX.out).mono ?_
   rintro e z2 ⟨rfl, hb2⟩
   have HB2' : Hid (Below wr.heap.size wr z2) := hb2
   clear hb2 b0 b1 b2 hBl hXl
   go_wp2_with fail
   refine (phase_any (HTX.out.below HB2'.out)).mono ?_
   rintro e z3 ⟨rfl, hb3⟩
   have HB3' : Hid (Below wr.heap.size wr z3) := below_then HB2'.out hb3
   clear hb3 HB2'
   go_wp2_with fail
   refine (xwrites_any (HTX.out.below HB3'.out)).mono ?_
   rintro e z4 ⟨vw, rfl, how, hb4⟩
   obtain ⟨aw, capw, rfl⟩ := own_slice how
   have HB4' : Hid (Below wr.heap.size wr z4) := below_then HB3'.out hb4
   clear hb4 HB3' how
   have HTD : Hid (Calls Tryz.prog 10 #[.pointer (some ⟨Tp k, 0, none⟩), .int .i64 0] z4 fun e w' => ∃ v, e = .returned v ∧ w'.ownsRow z4.heap.size 58 19 v (T k).ev.length (evsC (T k).ev) ∧ Below z4.heap.size z4 w') := (HMI.out.below HB4'.out).gb.told hk hE 0
   go_wp2_with fail
   refine HTD.out.mono ?_
   rintro e z5 ⟨v5, rfl, ho5, hb5⟩
   obtain ⟨a5, cap5, rfl⟩ := own_slice ho5
   have HB5' : Hid (Below wr.heap.size wr z5) := below_then HB4'.out hb5
   clear ho5 hb5 HTD HB4'
   have HM5 : Hid (MI w z5 base s m n (.pointer (some ⟨M, 0, none⟩)) Tp B X cap cur sv wv (.slice (some ⟨Rb, 0, none⟩) 4 4) q L g T R A) := HMI.out.below HB5'.out
   obtain ⟨b0, b1, b2⟩ := HM5.out.gb.cells hk
   have hBl := heap_lt HM5.out.gb.gm
   have hXl := heap_lt HM5.out.gb.tx
   go_wp2_with fail
   have HCT : Hid (Calls Tryz.prog 17 #[.pointer (some ⟨M, 0, none⟩)] z5 fun e w' => e = .returned (.int .i64 (L.length : Int)) ∧ w' = z5) := by
    obtain ⟨F, hF⟩ := HM5.out.gb.gg.mem
    exact count_any hF
   refine HCT.out.mono ?_
   rintro e z6 ⟨rfl, e6⟩
   obtain rfl : z5 = z6 := e6.symm
   clear HCT
   obtain ⟨x', ex, _, _, hcell⟩ := HAC.out z5 q HM5.out.bel hlt
   obtain rfl : x = x' := Option.some.inj ex
   rw [HAE.out] at hcell
   unfold atC at hcell
   have c0 := hcell 0 _ rfl
   have c1 := hcell 1 _ rfl
   have c2 := hcell 2 _ rfl
   have c3 := hcell 3 _ rfl
   have c4 := hcell 4 _ rfl
   have c5 := hcell 5 _ rfl
   have c6 := hcell 6 _ rfl
   have c7 := hcell 7 _ rfl
   have c8 := hcell 8 _ rfl
   have c9 := hcell 9 _ rfl
   have c10 := hcell 10 _ rfl
   have c11 := hcell 11 _ rfl
   rw [add_pos' _ _ (by decide)] at c1 c2 c3 c4 c5 c6 c7 c8 c9 c10 c11
   have c0' : z5.cell? (x.add (q * 12)) = some (.int .i64 a.kind) := by have := c0; rwa [add_zero'] at this
   have hE2 : (T k).ev.length + 1 < 1073741824 := by have := HM5.out.evs k hk; omega
   have HACT : Hid (Calls Tryz.prog 13 #[.pointer (some ⟨B, 0, none⟩), .int .i64 (k : Int), .agg #[.int .i64 a.kind, .int .i64 a.who, .int .i64 a.thread, .int .i64 a.w.kind, .int .i64 a.w.cell, .int .i64 a.w.value, .int .i64 a.w.code, .int .i64 a.n, .int .i64 a.ak, .int .i64 a.ai, .int .i64 a.aj, .int .i64 a.v]] z5 fun e w' => ∃ o pre E g' r', o = actX 8 s (T k) L k (wantA a) ∧ e = .returned (.agg #[.int .i64 o.k, .int .i64 o.e, .int .i64 o.v, .bool o.y]) ∧ (pre = [] ∨ pre = [{ kind := 7 }]) ∧ Hap (Why n m g (T k) (wantA a)) 8 n m L g T R k pre o E g' r' ∧ ∃ A', MI w w' base s m n (.pointer (some ⟨M, 0, none⟩)) Tp B X cap cur sv wv (.slice (some ⟨Rb, 0, none⟩) 4 4) (q + 1) o.L g' (setT T k o.x) (setT R k r') A' ∧ Next A A' z5 w') := by
    refine (HM5.out.gb.act hk HM5.out.hi (by have := HM5.out.len; omega) hE2 (HM5.out.wi.ok k hk) HM5.out.wi.wd a).mono ?_
    rintro e w' ⟨rfl, A', gb, nx⟩
    obtain ⟨pre, E, g', r', hp, hap⟩ := hap_act HM5.out.wi hk (by omega) (wantA a) (want_ok2 hval) (k : Int)
    rw [HM5.out.gs] at hap
    exact ⟨_, pre, E, g', r', rfl, rfl, hp, hap, A', HM5.out.acts hk hp hap gb nx, nx⟩
   have HLL : Hid (L.length ≤ 2000000) := by have := HM5.out.len; show L.length ≤ _; omega
   have HZ0 : Hid (0 ≤ (T k).z ∧ (T k).rd = (T k).rd ∧ Sg.Ok (T k).rd) := ⟨(HM5.out.wi.ok k hk).z0, rfl, (HM5.out.wi.ok k hk).rd⟩
   have HTL : Hid ((T k).tb.R.length ≤ 24) := by have h1 := (HM5.out.wi.ok k hk).inv.len; have h2 := (HM5.out.wi.ok k hk).inv.m24; show (T k).tb.R.length ≤ 24; omega
   clear hcell c0 hE2 b0 b1 b2
   go_wp2_with fail
   refine HACT.out.mono ?_
   rintro e z6 ⟨o, pre, E, g', r', HOX, rfl, hp, hap, A', mi6, nx6⟩
   have HSIG : Hid (∀ e ∈ pre ++ E, e.kind = 6 → Sg.Ok e.sig) := by
    have h9 := hap.ev
    rw [HOX] at h9
    exact act_sig (HM5.out.wi.ok k hk) (by decide) L (k : Int) (wantA a) h9
   clear HOX HACT c0' c1 c2 c3 c4 c5 c6 c7 c8 c9 c10 c11
   have HA6 : Hid (A' = A' ∧ ∀ z ∈ A', z < z6.heap.size) := ⟨rfl, fun z hz => (mi6.gb.gg.lt z hz).2⟩
   have HM6 : Hid (MI w z6 base s m n (.pointer (some ⟨M, 0, none⟩)) Tp B X cap cur sv wv (.slice (some ⟨Rb, 0, none⟩) 4 4) (q + 1) o.L g' (setT T k o.x) (setT R k r') A') := mi6
   have HS6 : Hid (SW z6 base sv wv A' (sgL g) ws g.n) := (HSW.out.below HB5'.out).next nx6
   have HD6 : Hid (z6.heap[D]? = some dO ∧ D ∉ A') := row_next0 (row_on HDD.out.1 HB5'.out) HDD.out.2 nx6
   have hwe := why_each hap hp
   have hev := hap.ev
   have hfew := hap_few2 hap hp
   obtain ⟨Dl, hDl⟩ : ∃ Dl, pre ++ E = Dl := ⟨_, rfl⟩
   rw [hDl] at hev hfew HSIG
   have HWT : Hid (o.k = 1 → o.x.phase = (T k).phase ∧ Dl = [] ∧ g.d ≠ g.n) := fun e => by
    obtain ⟨w1, w2, w3, w4, _⟩ := hap.wait e
    exact ⟨w1, by rw [← hDl, w2, w3]; rfl, w4⟩
   have HMV : Hid (o.k = 2 → o.y = true) := hap.mov
   have HAC6 : Hid ((o.y = true ∧ o.L.length = L.length + 1) ∨ (o.y = false ∧ o.L = L)) := hap.acc
   have HWE : Hid ((Dl = [] → g'.W = g.W ∧ g'.d = g.d) ∧ ∀ j, (hj : j < Dl.length) → ((Dl[j].kind ≠ 4 ∧ Dl[j].kind ≠ 5 ∧ Dl[j].kind ≠ 6 ∧ (j + 1 = Dl.length → g'.W = g.W ∧ g'.d = g.d)) ∨ (j + 1 = Dl.length ∧ ((Dl[j].kind = 4 ∧ g' = g.pub (toW (T k).tb.R) ∧ Dl[j].sig = Ba.sgOf (toW (T k).tb.R)) ∨ (Dl[j].kind = 5 ∧ g' = g.don ∧ Dl[j].stamp = (g.d : Int) + 1) ∨ (Dl[j].kind = 6 ∧ g' = g ∧ Why n m g (T k) (wantA a) Dl[j]))))) := by subst hDl; exact hwe
   have HTD : Hid (∀ w', Below z6.heap.size z6 w' → Calls Tryz.prog 10 #[.pointer (some ⟨Tp k, 0, none⟩), .int .i64 ((T k).ev.length : Int)] w' fun e w'' => ∃ v, e = .returned v ∧ w''.ownsRow w'.heap.size 58 19 v Dl.length (evsC Dl) ∧ Below w'.heap.size w' w'') := fun w' kb => by
    have hE3 : (setT T k o.x k).ev.length < 1073741824 := by have := mi6.evs k hk; omega
    have := (mi6.below kb).gb.told hk hE3 ((T k).ev.length : Int)
    rw [setT_self, hev, fromE_app] at this
    exact this
   have HPH : Hid (∀ w', Below z6.heap.size z6 w' → Calls Tryz.prog 16 #[.pointer (some ⟨Tp k, 0, none⟩)] w' fun e w'' => e = .returned (.int .i64 o.x.phase) ∧ Below w'.heap.size w' w'') := fun w' kb => by
    obtain ⟨G, ht⟩ := (mi6.below kb).gb.gg.tx hk
    rw [setT_self] at ht
    exact phase_any ht
   have HCT : Hid (∀ w', Below z6.heap.size z6 w' → Calls Tryz.prog 17 #[.pointer (some ⟨M, 0, none⟩)] w' fun e w'' => e = .returned (.int .i64 (o.L.length : Int)) ∧ w'' = w') := fun w' kb => by
    obtain ⟨F, hF⟩ := (mi6.below kb).gb.gg.mem
    exact count_any hF
   clear mi6 nx6 hap hwe hev hDl hp hE
   obtain ⟨z7, hz7⟩ : ∃ z7, z7 = z6.alloc (.cells #[.int .i64 o.k, .int .i64 o.e, .int .i64 o.v, .bool o.y] 55) := ⟨_, rfl⟩
   have HB7 : Hid (Below z6.heap.size z6 z7) := by rw [hz7]; exact below_a1 _ _
   have HP7 : Hid (z7.heap[z6.heap.size]? = some (.cells #[.int .i64 o.k, .int .i64 o.e, .int .i64 o.v, .bool o.y] 55 (0, 0))) := by rw [hz7]; exact heap_alloc_new _ _
   have b0 := gm_c0 HM6.out.gb.gm
   have hBl7 := heap_lt HM6.out.gb.gm
   go_wp2_with fail
   rw [← hz7]
   refine (HCT.out _ HB7.out).mono ?_
   rintro e z8 ⟨rfl, e8⟩
   obtain rfl : z7 = z8 := e8.symm
   obtain ⟨Pa, hPa⟩ : ∃ Pa, z6.heap.size = Pa := ⟨_, rfl⟩
   rw [hPa]
   clear hz7 HCT b0
   generalize hL0 : (L.length : Int) = cn at *
   generalize hL1 : (o.L.length : Int) = cn1 at *
   obtain ⟨made, HMD⟩ : ∃ made, Hid (wrap64 (cn1 - cn) = made ∧ ((made = 1 ∧ o.y = true) ∨ (made = 0 ∧ o.y = false))) := by
    rcases HAC6.out with ⟨e1, e2⟩ | ⟨e1, e2⟩
    ·exact ⟨1, ⟨by rw [← hL0, ← hL1, e2, wrap_small2 (by omega) (by omega)]; omega, Or.inl ⟨rfl, e1⟩⟩⟩
    ·exact ⟨0, ⟨by rw [← hL0, ← hL1, e2, Int.sub_self, wrap_small2 (by omega) (by omega)], Or.inr ⟨rfl, e1⟩⟩⟩
   have hmd := HMD.out.1
   clear hL0 hL1
   go_wp2_with fail
   clear hmd
   refine (HTD.out _ HB7.out).mono ?_
   rintro e z8 ⟨v8, rfl, ho8, hb8⟩
   obtain ⟨a8, cap8, rfl⟩ := own_slice ho8
   have HO8 : Hid (z8.ownsRow z7.heap.size 58 19 (.slice a8 Dl.length cap8) Dl.length (evsC Dl)) := ho8
   have HB8 : Hid (Below z6.heap.size z6 z8) := below_then HB7.out hb8
   have HP8 : Hid (z8.heap[Pa]? = some (.cells #[.int .i64 o.k, .int .i64 o.e, .int .i64 o.v, .bool o.y] 55 (0, 0))) := by rw [← hPa]; exact row_on HP7.out hb8
   clear ho8 hb8 HTD HP7 hPa
   go_wp2_with fail
   refine (HPH.out _ HB8.out).mono ?_
   rintro e z9 ⟨rfl, hb9⟩
   have HO9 : Hid (z9.ownsRow z7.heap.size 58 19 (.slice a8 Dl.length cap8) Dl.length (evsC Dl)) := own_keep HO8.out (Keep.of_below hb9 []) (by simp)
   have HB9 : Hid (Below z6.heap.size z6 z9) := below_then HB8.out hb9
   have HP9 : Hid (z9.heap[Pa]? = some (.cells #[.int .i64 o.k, .int .i64 o.e, .int .i64 o.v, .bool o.y] 55 (0, 0))) := row_on HP8.out hb9
   have HM9 : Hid (MI w z9 base s m n (.pointer (some ⟨M, 0, none⟩)) Tp B X cap cur sv wv (.slice (some ⟨Rb, 0, none⟩) 4 4) (q + 1) o.L g' (setT T k o.x) (setT R k r') A') := HM6.out.below HB9.out
   have HS9 : Hid (SW z9 base sv wv A' (sgL g) ws g.n) := HS6.out.below HB9.out
   have HD9 : Hid (z9.heap[D]? = some dO ∧ D ∉ A') := ⟨row_on HD6.out.1 HB9.out, HD6.out.2⟩
   clear hb9 HPH HO8 HB8 HP8
   obtain ⟨⟨a0, _, _, a3⟩, _⟩ := answ_cells2 HP9.out
   have hPl := heap_lt HP9.out
   have b3 := gm_c3 HM9.out.gb.gm
   have hBl9 := heap_lt HM9.out.gb.gm
   obtain ⟨aw2, cw2, rfl⟩ := own_slice HS9.out.ww
   by_cases k1 : o.k = 1
   ·as_aux_lemma =>
    --<W1
    obtain ⟨p1, p2, p3⟩ := HWT.out k1
    subst p2
    rw [k1] at a0
    have p4 : ¬ ((g.d : Int) = (g.n : Int)) := by omega
    have hW0 := HWE.out.1 rfl
    have HY : Hid (Y1 w z9 base s m n (.pointer (some ⟨M, 0, none⟩)) Tp B X cap cur (.slice (some ⟨Rb, 0, none⟩) 4 4) D dO (q + 1) (g.d : Int)) := by
     obtain ⟨e1, e2⟩ := sgL_same hW0.1
     exact ⟨_, _, _, _, _, _, _, _, HM9.out, by rw [e1, e2]; exact HS9.out, HD9.out.1, HD9.out.2, by rw [hW0.2]⟩
    clear hfew HWE HWT HMV HAC6 hW0
    obtain ⟨_, hmm⟩ := HMD.out
    go_upto_region 21 with fail
    try simp only [HMD.out.1, p1]
    rcases hmm with ⟨rfl, hy⟩ | ⟨rfl, hy⟩
    ·rw [hy] at a3
     clear hy
     go_wp2_with fail
     go_loopw [8, 22] (fun dv jv wq => dv = .int .i64 (g.d : Int) ∧ jv = .int .i64 0 ∧ wq = z9) (fun _ _ _ => 0)
     case atStart => exact ⟨rfl, rfl, rfl⟩
     case round =>
      obtain ⟨rfl, rfl, rfl⟩ := hrel
      go_wp2
      go_roundw
      case rel => exact ⟨q + 1, _, by omega, by go_num, rfl, HY.out⟩
      case measure => simp [intOf]; omega
    ·rw [hy] at a3
     clear hy
     go_wp2_with fail
     go_loopw [8, 22] (fun dv jv wq => dv = .int .i64 (g.d : Int) ∧ jv = .int .i64 0 ∧ wq = z9) (fun _ _ _ => 0)
     case atStart => exact ⟨rfl, rfl, rfl⟩
     case round =>
      obtain ⟨rfl, rfl, rfl⟩ := hrel
      go_wp2
      go_roundw
      case rel => exact ⟨q + 1, _, by omega, by go_num, rfl, HY.out⟩
      case measure => simp [intOf]; omega
    -->
   go_upto_region 21 with fail
   try simp only [HMD.out.1]
   go_cut [129] (fun c wx => c = .bool false ∧ z9 = wx)
   case first => as_aux_lemma =>
    --<C1
    obtain ⟨_, hmm⟩ := HMD.out
    have hm2 := HMV.out
    clear HMD HMV HWT HAC6
    have d1 : (o.k = 1) = False := by simpa using k1
    clear k1
    rcases hmm with ⟨rfl, hy⟩ | ⟨rfl, hy⟩
    ·rw [hy] at a3
     clear hy hm2
     by_cases k2 : o.k = 2
     ·have d2 : (o.k = 2) = True := by simpa using k2
      clear k2
      go_wp2_with fail
      go_meet
      exact ⟨rfl, rfl⟩
     ·have d2 : (o.k = 2) = False := by simpa using k2
      clear k2
      go_wp2_with fail
      go_meet
      exact ⟨rfl, rfl⟩
    ·rw [hy] at a3
     have d2 : (o.k = 2) = False := by
      simp only [eq_iff_iff, iff_false]
      intro e
      have := hm2 e
      rw [hy] at this
      simp at this
     clear hy hm2
     go_wp2_with fail
     go_meet
     exact ⟨rfl, rfl⟩
    -->
   case rest => as_aux_lemma =>
    obtain ⟨rfl, rfl⟩ := hcut
    clear HP9 HMD HWT HMV HAC6 a0 a3 b3 hPl hBl9 k1
    obtain ⟨nd, hnd⟩ : ∃ nd, Dl.length = nd := ⟨_, rfl⟩
    have HND : Hid (Dl.length = nd) := hnd
    have hnd2 : nd ≤ 2 := by rw [← hnd]; exact hfew
    rw [hnd] at HO9
    rw [hnd]
    clear hnd hfew
    go_wp2_with fail
    go_loopw [8, 22] (fun dv jv wq => ∃ (j : Nat) (sv wv : Value) (S : List (List Nat)) (ws : List Value) (nn : Nat) (dd : Int), j ≤ nd ∧ jv = .int .i64 j ∧ dv = .int .i64 dd ∧ MI w wq base s m n (.pointer (some ⟨M, 0, none⟩)) Tp B X cap cur sv wv (.slice (some ⟨Rb, 0, none⟩) 4 4) (q + 1) o.L g' (setT T k o.x) (setT R k r') A' ∧ SW wq base sv wv A' S ws nn ∧ wq.heap[D]? = some dO ∧ wq.ownsRow z7.heap.size 58 19 (.slice a8 nd cap8) nd (evsC Dl) ∧ (j < nd → S = sgL g ∧ nn = g.n ∧ dd = (g.d : Int)) ∧ (j = nd → S = sgL g' ∧ nn = g'.n ∧ dd = (g'.d : Int))) (fun _ jv _ => nd - (intOf jv).toNat)
    case atStart =>
     refine ⟨0, _, _, _, _, _, _, by omega, rfl, rfl, HM9.out, HS9.out, HD9.out.1, HO9.out, fun _ => ⟨rfl, rfl, rfl⟩, fun e => ?_⟩
     have hn : Dl = [] := List.eq_nil_of_length_eq_zero (by have := HND.out; omega)
     obtain ⟨s1, s2⟩ := HWE.out.1 hn
     obtain ⟨e1, e2⟩ := sgL_same s1
     exact ⟨e1.symm, e2.symm, by rw [s2]⟩
    case round => as_aux_lemma =>
     obtain ⟨j, sv, wv, S', ws', nn, dd, hj, rfl, rfl, mi, hsw, hdd, hrow, h4, h5⟩ := hrel
     have HMq : Hid (MI w wr base s m n (.pointer (some ⟨M, 0, none⟩)) Tp B X cap cur sv wv (.slice (some ⟨Rb, 0, none⟩) 4 4) (q + 1) o.L g' (setT T k o.x) (setT R k r') A') := mi
     have HSq : Hid (SW wr base sv wv A' S' ws' nn) := hsw
     have HDq : Hid (wr.heap[D]? = some dO) := hdd
     have HOq : Hid (wr.ownsRow z7.heap.size 58 19 (.slice a8 nd cap8) nd (evsC Dl)) := hrow
     by_cases hjn : j < nd
     ·obtain ⟨gg, rfl⟩ := own_form2 hrow (by omega)
      have hjl : j < Dl.length := by rw [HND.out]; exact hjn
      have hrow' : wr.ownsRow z7.heap.size 58 19 (.slice (some ⟨gg, 0, none⟩) Dl.length cap8) Dl.length (evsC Dl) := by rw [HND.out]; exact hrow
      have hgl : gg < wr.heap.size := (hrow.lt gg rfl).2
      have hx1 : (j : Int) < (nd : Int) := by omega
      have hx0 : (0 : Int) ≤ (j : Int) := by omega
      have HOO : Hid (S' = sgL g ∧ nn = g.n ∧ dd = (g.d : Int)) := h4 hjn
      have hcase := HWE.out.2 j hjl
      obtain ⟨ev, HEV⟩ : ∃ ev, Hid (Dl[j] = ev) := ⟨Dl[j], Eq.refl Dl[j]⟩
      rw [HEV.out] at hcase
      obtain ⟨ea, HEA, HRG, HIZ, hsz19⟩ := ev_row hrow' hjl HEV.out
      obtain ⟨z10, hs10, HE10, HB10, hz10⟩ := new_ev (P := Tryz.prog) (w := wr) hsz19 (ev_one HEA.out)
      clear mi hsw hdd hrow h4 h5 hrow'
      go_upto_region 26 with fail
      go_cut [23] (fun v wx => v = .pointer (some ⟨wr.heap.size, 0, none⟩) ∧ z10 = wx)
      case first => as_aux_lemma =>
       --<R26
       go_wp2_with (first | (refine wpList_load_mid (by rfl) _ _ (by rfl) gg (j * 19) (by rfl) ea.toList _ HRG.out Tryz.underlying58 (by rfl) HIZ.out ?_) | fail)
       go_meet
       exact ⟨rfl, rfl⟩
       -->
      case rest =>
      obtain ⟨rfl, rfl⟩ := hcut
      obtain ⟨Pe, hPe⟩ : ∃ Pe, wr.heap.size = Pe := ⟨_, rfl⟩
      have HPE : Hid (wr.heap.size = Pe) := hPe
      rw [hPe] at HE10
      rw [hPe]
      have HMz : Hid (MI w z10 base s m n (.pointer (some ⟨M, 0, none⟩)) Tp B X cap cur sv wv (.slice (some ⟨Rb, 0, none⟩) 4 4) (q + 1) o.L g' (setT T k o.x) (setT R k r') A') := HMq.out.below HB10.out
      have HSz : Hid (SW z10 base sv wv A' S' ws' nn) := HSq.out.below HB10.out
      have HDz : Hid (z10.heap[D]? = some dO) := row_on HDq.out HB10.out
      have HOz : Hid (z10.ownsRow z7.heap.size 58 19 (.slice (some ⟨gg, 0, none⟩) nd cap8) nd (evsC Dl)) := own_keep HOq.out (Keep.of_below HB10.out []) (by simp)
      have q3 : z10.cell? ⟨Pe, 3, none⟩ = some (.int .i64 ev.kind) := by rw [cell_at HE10.out, ev_at HEA.out]; rfl
      have q9 : z10.cell? ⟨Pe, 9, none⟩ = some (.int .i64 ev.stamp) := by rw [cell_at HE10.out, ev_at HEA.out]; rfl
      have hPl := heap_lt HE10.out
      have b3 := gm_c3 HMz.out.gb.gm
      have hBz := heap_lt HMz.out.gb.gm
      obtain ⟨aw3, cw3, rfl⟩ := own_slice HSz.out.ww
      clear hPe hgl hs10 hz10 HRG HIZ
      rcases hcase with ⟨j1, j2, j3, j4⟩ | ⟨jl, ⟨j1, j2, j3⟩ | ⟨j1, j2, j3⟩ | ⟨j1, j2, j3⟩⟩
      ·as_aux_lemma =>
       --<OTH
       have d1 : (ev.kind == 4) = false := by simpa using j1
       have d2 : (ev.kind == 5) = false := by simpa using j2
       have d3 : (ev.kind == 6) = false := by simpa using j3
       clear j1 j2 j3
       go_wp2
       go_roundw
       case rel =>
        refine ⟨j + 1, _, _, _, _, _, _, by omega, by go_num, rfl, HMz.out, HSz.out, HDz.out, HOz.out, fun _ => HOO.out, fun e => ?_⟩
        obtain ⟨s1, s2⟩ := j4 (by rw [HND.out]; exact e)
        obtain ⟨e1, e2⟩ := sgL_same s1
        exact ⟨by rw [e1]; exact HOO.out.1, by rw [e2]; exact HOO.out.2.1, by rw [s2]; exact HOO.out.2.2⟩
       case measure => simp [intOf]; omega
       -->
      ·--PUB
       rw [j1] at q3
       have HK4 : Hid (ev.kind = 4) := j1
       clear j1
       have hnn : nn ≤ 1099511627776 := by
        have h1 := HM9.out.wi.ri.big
        have h2 : (g.pub (toW (T k).tb.R)).n = g.n + 1 := pub_n g _
        rw [j2] at h1
        rw [HOO.out.2.1]
        omega
       obtain ⟨iw, hiw, wz0, wz1, wz2⟩ := info_parts info_wrs2
       have HWW : Hid (z10.ownsRow base 47 1 (.slice aw3 nn cw3) nn ws') := HSz.out.ww
       have hbz : base ≤ z10.heap.size := HMz.out.hi
       have hBw : (Value.slice aw3 nn cw3).ownBlock ≠ some B := fun e => own_ne HSz.out.ww HMz.out.gb.gm (by decide) e
       have z3 := frozen_at (by have := HMz.out.gb.gm; unfold gmO at this; exact this) 3
       go_wp2_with (at_builtin; refine list_lies_wide _ rfl _ _ 41 rfl base 47 iw _ 1 24 Tryz.underlying41 hiw wz0 wz1 wz2 rfl (by decide) _ _ _ rfl (HWW.out.alloc _) ⟨z10.heap.size, 0, none⟩ 1 1 [.slice aw (T k).tb.R.length capw] rfl rfl (World.news_of_block (cs := #[.slice aw (T k).tb.R.length capw]) (t := 47) (fr := (0, 0)) (heap_alloc_new _ _)) (by intro u hu; simp at hu; subst hu; rfl) (by decide) (by unfold maxLen; omega) (by omega) (by simp; omega) _ rfl ?_)
       intro g1 c1 z11 hown11 hgrow hat _
       obtain ⟨mi12, sg12, ww12, hg1A, K12, gm11⟩ := add_w HMz.out HSz.out HB0.out ((Keep.refl [] z10).alloc _) hown11 hgrow (by rcases hat with e | e; exact Or.inl e; exact Or.inr (by omega))
       have s3 : z11.cell? ⟨B, 3, none⟩ = some (.slice aw3 nn cw3) := gm_c3 gm11
       have f3 : z11.frozen? ⟨B, 3, none⟩ = false := frozen_at (by have := gm11; unfold gmO at this; exact this) 3
       have hB11 : B < z11.heap.size := heap_lt gm11
       have HN12 : Hid (∀ b, b ∈ B :: (Value.slice aw3 nn cw3).ownBlock.toList → b = B ∨ (Value.slice aw3 nn cw3).ownBlock = some b) := fun b hb => by
        rcases List.mem_cons.1 hb with e | e
        ·exact Or.inl e
        ·exact Or.inr (by simpa using e)
       obtain ⟨z12, hz12⟩ : ∃ z12, z12 = z11.setCell ⟨B, 3, none⟩ (.slice (some ⟨g1, 0, none⟩) (nn + 1) c1) := ⟨_, rfl⟩
       rw [← hz12] at mi12 sg12 ww12 K12
       have HM12 : Hid (MI w z12 base s m n (.pointer (some ⟨M, 0, none⟩)) Tp B X cap cur sv (.slice (some ⟨g1, 0, none⟩) (nn + 1) c1) (.slice (some ⟨Rb, 0, none⟩) 4 4) (q + 1) o.L g' (setT T k o.x) (setT R k r') A') := mi12
       have HSG : Hid (z12.ownsRow base 51 8 sv nn (sgsC S')) := sg12
       have HWW12 : Hid (z12.ownsRow base 47 1 (.slice (some ⟨g1, 0, none⟩) (nn + 1) c1) (nn + 1) (ws' ++ [.slice aw (T k).tb.R.length capw])) := ww12
       have gmz : z10.heap[B]? = some (.cells #[.pointer (some ⟨M, 0, none⟩), .slice (some ⟨X, 0, none⟩) 4 cap, sv, .slice aw3 nn cw3, .slice (some ⟨Rb, 0, none⟩) 4 4] 44 (0, 0)) := HMz.out.gb.gm
       have HE12 : Hid (z12.heap[Pe]? = some (.cells ea 58 (0, 0))) := keep_row K12 HE10.out (fun hm => by
                rcases HN12.out _ hm with e | e
                · exact ne_of_type HE10.out gmz (by decide) e
                · exact own_ne HSz.out.ww HE10.out (by decide) e)
       have HD12 : Hid (z12.heap[D]? = some dO) := keep_row K12 HDz.out (fun hm => by
                have hd0 := HDz.out
                rw [HDO.out] at hd0
                rcases HN12.out _ hm with e | e
                · exact ne_of_type hd0 gmz (by decide) e
                · exact own_ne HSz.out.ww hd0 (by decide) e)
       have HO12 : Hid (z12.ownsRow z7.heap.size 58 19 (.slice (some ⟨gg, 0, none⟩) nd cap8) nd (evsC Dl)) := own_keep HOz.out K12 (fun b hb hm => by
                rcases HN12.out _ hm with e | e
                · subst e
                  exact own_ne HOz.out gmz (by decide) hb
                · obtain ⟨cur1, h2⟩ := own_bt HSz.out.ww e
                  exact own_ne HOz.out h2 (by decide) hb)
       have HA12 : Hid (g1 ∉ A') := hg1A
       clear mi12 sg12 ww12 K12 gm11 hgrow hown11 hg1A hat
       obtain ⟨sa, sc, rfl⟩ := own_slice HSG.out
       have hB12 : B < z12.heap.size := heap_lt HM12.out.gb.gm
       have hP12 : Pe < z12.heap.size := heap_lt HE12.out
       have s2 : z12.cell? ⟨B, 2, none⟩ = some (.slice sa nn sc) := gm_c2 HM12.out.gb.gm
       have f2 : z12.frozen? ⟨B, 2, none⟩ = false := frozen_at (by have := HM12.out.gb.gm; unfold gmO at this; exact this) 2
       obtain ⟨n0, n1', n2', n3, n4, n5, n6, n7, HNS, t0, t1, t2, t3, t4, t5, t6, t7⟩ := ev_sig8 HE12.out HEA.out
       obtain ⟨isg, hisg, sz0, sz1, sz2⟩ := info_parts info_sig2
       have hsne : B ≠ z12.heap.size := by omega
       have hvB : (Value.slice sa nn sc).ownBlock ≠ some B := own_ne HSG.out (by have := HM12.out.gb.gm; unfold gmO at this; exact this) (by decide)
       have hb12 : base ≤ z12.heap.size := HM12.out.hi
       have HPF : Hid (∀ (Xw z13 : World) (g2 c2 : Nat), Keep [] z12 Xw → z13.ownsRow base 51 8 (.slice (some ⟨g2, 0, none⟩) (nn + 1) c2) (nn + 1) (sgsC S' ++ [.int .u64 ((n0 : Nat) : Int), .int .u64 ((n1' : Nat) : Int), .int .u64 ((n2' : Nat) : Int), .int .u64 ((n3 : Nat) : Int), .int .u64 ((n4 : Nat) : Int), .int .u64 ((n5 : Nat) : Int), .int .u64 ((n6 : Nat) : Int), .int .u64 ((n7 : Nat) : Int)]) → Xw.grownBy z13 (Value.slice sa nn sc).ownBlock → ((Value.slice sa nn sc).ownBlock = some g2 ∨ z12.heap.size ≤ g2) → PubR w base s m n (.pointer (some ⟨M, 0, none⟩)) Tp B X cap cur (.slice (some ⟨g1, 0, none⟩) (nn + 1) c1) (.slice (some ⟨Rb, 0, none⟩) 4 4) (q + 1) o.L g' (setT T k o.x) (setT R k r') A' (S' ++ [ev.sig]) (ws' ++ [.slice aw (T k).tb.R.length capw]) (nn + 1) D dO z7.heap.size (.slice (some ⟨gg, 0, none⟩) nd cap8) nd (evsC Dl) Pe ea (z13.setCell ⟨B, 2, none⟩ (.slice (some ⟨g2, 0, none⟩) (nn + 1) c2))) := fun Xw z13 g2 c2 kX h1 h2 h3 =>
        pub_fin HM12.out HSG.out HSz.out.sl (fun y hy => HSz.out.sA y hy) HWW12.out (fun y hy => by simp [Value.ownBlock] at hy; subst hy; exact HA12.out) HB0.out HD12.out HDO.out HO12.out HE12.out HNS.out kX h1 h2 h3
       go_upto_region 30 with fail
       rw [show z11.setCell ⟨B, 3, none⟩ (.slice (some ⟨g1, 0, none⟩) (nn + 1) c1) = z12 from hz12.symm]
       clear hz12
       clear HM9 HS9 HD9 HO9 HMq HSq HDq HOq HMz HSz HDz HOz HM12 HWW12 HD12 HO12 HE12 HE10 HMI HSW HM5 HM6 HS6 HD6 HWE HB10 HB9 HB7 HTX HMEM hx1 hx0
       go_cut [] (fun wx => PubR w base s m n (.pointer (some ⟨M, 0, none⟩)) Tp B X cap cur (.slice (some ⟨g1, 0, none⟩) (nn + 1) c1) (.slice (some ⟨Rb, 0, none⟩) 4 4) (q + 1) o.L g' (setT T k o.x) (setT R k r') A' (S' ++ [ev.sig]) (ws' ++ [.slice aw (T k).tb.R.length capw]) (nn + 1) D dO z7.heap.size (.slice (some ⟨gg, 0, none⟩) nd cap8) nd (evsC Dl) Pe ea wx)
       case first => as_aux_lemma =>
        --<PF
        clear q3 q9 hPl b3 hBz hBw z3 s3 f3 hB11 HPE HN12 HA12 HOO hnd2
        have HVB : Hid ((Value.slice sa nn sc).ownBlock ≠ some B) := hvB
        have HNN : Hid (nn ≤ 1099511627776) := hnn
        have HBB : Hid (base ≤ z12.heap.size) := hb12
        have HS2 : Hid (z12.cell? ⟨B, 2, none⟩ = some (.slice sa nn sc) ∧ z12.frozen? ⟨B, 2, none⟩ = false ∧ B < z12.heap.size) := ⟨s2, f2, hB12⟩
        clear hvB hnn hb12 hsne hj hjn
        rename_i Jx Kx hRJ hMK
        have HJK : Hid (∀ a' w', Met Jx a' w' → Kx a' w') := hMK
        have HRJ : Hid (∀ a' w', _ → Jx a' w') := hRJ
        refine wp_code (c' := reg30) (by kernel_rfl) (Code.wp_mono (Q := Exit.then Kx (fun _ _ _ => False)) ?_ (pub_reg2 _ (by kernel_rfl) (by kernel_rfl) (by kernel_rfl) (by kernel_rfl) HSG HVB HNN HBB s2 f2 hB12 hP12 t0 t1 t2 t3 t4 t5 t6 t7 HPF ?_))
        ·intro e9 a9 w9 h9
         cases e9 <;> first | exact h9 | exact h9.elim
        ·intro v158 v159 v160 v161 v162 v163 v164 v165 v166 v167 v168 w9 h9
         rw [sets239]
         refine HJK.out _ _ ?_
         go_meet
         exact h9
        -->
       case rest => as_aux_lemma =>
        --<PR
        obtain ⟨sv2, mi13, sw13, hd13, ho13, he13⟩ := hcut
        have HM13 : Hid (MI w wc base s m n (.pointer (some ⟨M, 0, none⟩)) Tp B X cap cur sv2 (.slice (some ⟨g1, 0, none⟩) (nn + 1) c1) (.slice (some ⟨Rb, 0, none⟩) 4 4) (q + 1) o.L g' (setT T k o.x) (setT R k r') A') := mi13
        have HS13 : Hid (SW wc base sv2 (.slice (some ⟨g1, 0, none⟩) (nn + 1) c1) A' (S' ++ [ev.sig]) (ws' ++ [.slice aw (T k).tb.R.length capw]) (nn + 1)) := sw13
        have HD13 : Hid (wc.heap[D]? = some dO) := hd13
        have HO13 : Hid (wc.ownsRow z7.heap.size 58 19 (.slice (some ⟨gg, 0, none⟩) nd cap8) nd (evsC Dl)) := ho13
        have r3 : wc.cell? ⟨Pe, 3, none⟩ = some (.int .i64 ev.kind) := by rw [cell_at he13, ev_at HEA.out]; rfl
        rw [HK4.out] at r3
        have hPc := heap_lt he13
        have HJL : Hid (j + 1 = Dl.length) := jl
        have HGP : Hid (S' ++ [ev.sig] = sgL g' ∧ nn + 1 = g'.n ∧ dd = (g'.d : Int)) := by
         obtain ⟨o1, o2, o3⟩ := HOO.out
         rw [j2, sgL_pub, pub_n, o1, o2, j3]
         exact ⟨rfl, rfl, o3⟩
        clear mi13 sw13 hd13 ho13 he13 HOO jl j2 j3 HPF s2 f2 t0 t1 t2 t3 t4 t5 t6 t7 q3 q9 hPl b3 hBz hBw z3 s3 f3 hB11
        go_wp2_with fail
        go_roundw
        case rel => exact ⟨j + 1, _, _, _, _, _, _, by omega, by go_num, rfl, HM13.out, HS13.out, HD13.out, HO13.out, fun e => by exfalso; have := HND.out; have := HJL.out; omega, fun _ => HGP.out⟩
        case measure => simp [intOf]; omega
        -->
      ·as_aux_lemma =>
       --<CMP
       rw [j1] at q3
       have hd1 : wrap64 (dd + 1) = ev.stamp := by
        have h1 := HM9.out.wi.ri.big
        have h2 := HM9.out.wi.ri.dn
        rw [j3, HOO.out.2.2, wrap_small2 (by omega) (by rw [j2] at h1 h2; have h3 : (g.don).d = g.d + 1 := rfl; omega)]
       clear j1
       obtain ⟨es, HES⟩ : ∃ es, Hid (ev.stamp = es) := ⟨ev.stamp, Eq.refl ev.stamp⟩
       rw [HES.out] at q9 hd1
       have hw1 : wrap64 es = es := by rw [← hd1]; unfold wrap64; omega
       go_wp2
       go_roundw
       case rel =>
        refine ⟨j + 1, _, _, _, _, _, _, by omega, by go_num, rfl, HMz.out, HSz.out, HDz.out, HOz.out, fun e => by exfalso; have := HND.out; omega, fun _ => ?_⟩
        rw [j2]
        exact ⟨HOO.out.1, HOO.out.2.1, by first | (rw [← HES.out, j3]; show (g.d : Int) + 1 = ((g.d + 1 : Nat) : Int); omega) | (rw [hd1, ← HES.out, j3]; show (g.d : Int) + 1 = ((g.d + 1 : Nat) : Int); omega)⟩
       case measure => simp [intOf]; omega
       -->
      ·as_aux_lemma =>
       --<END
       rw [j1] at q3
       have HK6 : Hid (ev.kind = 6) := j1
       have HSO : Hid (Sg.Ok ev.sig) := by have := HSIG.out Dl[j] (List.getElem_mem hjl); rw [HEV.out] at this; exact this j1
       have HWC : Hid ((ev.err = 3 ∧ shAny (sgL g) (T k).z ev.sig = true) ∨ (ev.err = 4 ∧ (T k).z + (g.s : Int) < (g.n : Int)) ∨ (ev.err = 6 ∧ (g.n : Int) = (n : Int)) ∨ (ev.err = 5 ∧ (T k).tb.R.length = m) ∨ (ev.err = 7 ∧ a.kind = 1 ∧ a.w.code = 7) ∨ (ev.err = 8 ∧ a.kind = 1 ∧ a.w.code = 8) ∨ (ev.err = 0 ∧ (T k).tb.R.length = 0)) := why_cases j3 HSO.out HZ0.out.1
       have HG2 : Hid (g' = g) := j2
       have HJL : Hid (j + 1 = Dl.length) := jl
       have HGN : Hid (g.n ≤ 1099511627776 ∧ g.s = s) := by
        have h1 := HM9.out.wi.ri.big
        have h2 := HM9.out.gs
        rw [j2] at h1 h2
        exact ⟨h1, h2⟩
       have HNB : Hid (g.n ≤ 100000000) := by
        have h1 := HM9.out.wi.nm
        rw [j2] at h1
        have : g.n ≤ 100000000 := (by omega)
        exact this
       have HZB : Hid ((T k).z ≤ 9223372036854775807) := (HM5.out.wi.ok k hk).z1
       clear j1 j2 j3 jl
       obtain ⟨n0, n1', n2', n3, n4, n5, n6, n7, HNS, t0, t1, t2, t3, t4, t5, t6, t7⟩ := ev_sig8 HE10.out HEA.out
       have HSHR : Hid (Calls Tryz.prog 18 #[.pointer (some ⟨B, 0, none⟩), .int .i64 (T k).z, .agg #[.int .u64 ((n0 : Nat) : Int), .int .u64 ((n1' : Nat) : Int), .int .u64 ((n2' : Nat) : Int), .int .u64 ((n3 : Nat) : Int), .int .u64 ((n4 : Nat) : Int), .int .u64 ((n5 : Nat) : Int), .int .u64 ((n6 : Nat) : Int), .int .u64 ((n7 : Nat) : Int)]] z10 fun e w' => e = .returned (.bool (shAny S' (T k).z ev.sig)) ∧ Below z10.heap.size z10 w') := by
        have hln : S'.length = nn := HSz.out.sl
        have hsz := HSz.out.sg
        rw [← hln] at hsz
        have h9 := shares_g HMz.out.gb.gm hsz (by rw [HOO.out.1]; exact sgL_ok g) (by have h1 := HNB.out; rw [hln, HOO.out.2.1]; omega) HSO.out (T k).z
        have e9 : (#[swV ev.sig 0, swV ev.sig 1, swV ev.sig 2, swV ev.sig 3, swV ev.sig 4, swV ev.sig 5, swV ev.sig 6, swV ev.sig 7] : Array Value) = #[.int .u64 ((n0 : Nat) : Int), .int .u64 ((n1' : Nat) : Int), .int .u64 ((n2' : Nat) : Int), .int .u64 ((n3 : Nat) : Int), .int .u64 ((n4 : Nat) : Int), .int .u64 ((n5 : Nat) : Int), .int .u64 ((n6 : Nat) : Int), .int .u64 ((n7 : Nat) : Int)] := congrArg List.toArray HNS.out.symm
        rw [e9] at h9
        exact h9
       go_wp2_with fail
       refine HSHR.out.mono ?_
       rintro e w11 ⟨rfl, hb11⟩
       have HM11 : Hid (MI w w11 base s m n (.pointer (some ⟨M, 0, none⟩)) Tp B X cap cur sv (.slice aw3 nn cw3) (.slice (some ⟨Rb, 0, none⟩) 4 4) (q + 1) o.L g' (setT T k o.x) (setT R k r') A') := HMz.out.below hb11
       have HS11 : Hid (SW w11 base sv (.slice aw3 nn cw3) A' S' ws' nn) := HSz.out.below hb11
       have HD11 : Hid (w11.heap[D]? = some dO) := row_on HDz.out hb11
       have HO11 : Hid (w11.ownsRow z7.heap.size 58 19 (.slice (some ⟨gg, 0, none⟩) nd cap8) nd (evsC Dl)) := own_keep HOz.out (Keep.of_below hb11 []) (by simp)
       have r18 : w11.cell? ⟨Pe, 18, none⟩ = some (.int .i64 ev.err) := by rw [cell_at (row_on HE10.out hb11), ev_at HEA.out]; rfl
       have hP11 := heap_lt (row_on HE10.out hb11)
       have hdr := HD11.out
       rw [HDO.out] at hdr
       have d1 : w11.cell? ⟨D, 1, none⟩ = some (.int .i64 (s : Int)) := (cell_at hdr 1).trans rfl
       have d2 : w11.cell? ⟨D, 2, none⟩ = some (.int .i64 (m : Int)) := (cell_at hdr 2).trans rfl
       have d3 : w11.cell? ⟨D, 3, none⟩ = some (.int .i64 (n : Int)) := (cell_at hdr 3).trans rfl
       have hD11 := heap_lt hdr
       obtain ⟨x', ex, _, _, hcell⟩ := HAC.out w11 q HM11.out.bel hlt
       obtain rfl : x = x' := Option.some.inj ex
       rw [HAE.out] at hcell
       unfold atC at hcell
       have c0 := hcell 0 _ rfl
       have c6 := hcell 6 _ rfl
       rw [add_pos' _ _ (by decide)] at c6
       rw [add_zero'] at c0
       clear hcell ex hdr hb11 t0 t1 t2 t3 t4 t5 t6 t7 q3 q9 hPl b3 hBz HSHR HNS HMz HSz HDz HOz HE10 HMq HSq HDq HOq HB10 HM9 HS9 HD9 HO9 HMI HSW HM5 HM6 HS6 HD6 HWE HB9 HB7 HTX HMEM HSIG
       rcases HWC.out with ⟨e1, e2⟩ | ⟨e1, e2⟩ | ⟨e1, e2⟩ | ⟨e1, e2⟩ | ⟨e1, e2, e3⟩ | ⟨e1, e2, e3⟩ | ⟨e1, e2⟩
       ·as_aux_lemma =>
        rw [e1] at r18
        rw [HOO.out.1, e2]
        clear e1 e2 HWC
        go_wp2_with fail
        go_roundw
        case rel => exact ⟨j + 1, _, _, _, _, _, _, by omega, by go_num, rfl, HM11.out, HS11.out, HD11.out, HO11.out, fun e => by exfalso; have := HND.out; have := HJL.out; omega, fun _ => by rw [HG2.out]; exact HOO.out⟩
        case measure => simp [intOf]; omega
       ·as_aux_lemma =>
        rw [e1] at r18
        obtain ⟨zz, hzz⟩ : ∃ zz, wrap64 ((nn : Int) - (T k).z) = zz := ⟨_, rfl⟩
        have hz4 : ¬ zz ≤ (s : Int) := by
         rw [← hzz, wrap_small2 (by have := HZ0.out.1; have := HZB.out; omega) (by have := HZ0.out.1; have := HGN.out.1; have := HOO.out.2.1; omega)]
         have := HOO.out.2.1
         have := HGN.out.2
         omega
        clear e1 e2 HWC
        generalize shAny S' (T k).z ev.sig = sb at *
        go_wp2_with fail
        go_roundw
        case rel => exact ⟨j + 1, _, _, _, _, _, _, by omega, by go_num, rfl, HM11.out, HS11.out, HD11.out, HO11.out, fun e => by exfalso; have := HND.out; have := HJL.out; omega, fun _ => by rw [HG2.out]; exact HOO.out⟩
        case measure => simp [intOf]; omega
       ·as_aux_lemma =>
        rw [e1] at r18
        have hz6 : ((nn : Nat) : Int) = (n : Int) := by rw [HOO.out.2.1]; exact e2
        have hz7 : ((nn : Int) == (n : Int)) = true := by simpa using hz6
        clear e1 e2 HWC hz6
        generalize shAny S' (T k).z ev.sig = sb at *
        go_wp2_with fail
        go_roundw
        case rel => exact ⟨j + 1, _, _, _, _, _, _, by omega, by go_num, rfl, HM11.out, HS11.out, HD11.out, HO11.out, fun e => by exfalso; have := HND.out; have := HJL.out; omega, fun _ => by rw [HG2.out]; exact HOO.out⟩
        case measure => simp [intOf]; omega
       ·as_aux_lemma =>
        rw [e1] at r18
        have hz5 : (((T k).tb.R.length : Int) == (m : Int)) = true := by rw [e2]; simp
        clear e1 e2 HWC
        generalize shAny S' (T k).z ev.sig = sb at *
        go_wp2_with fail
        go_roundw
        case rel => exact ⟨j + 1, _, _, _, _, _, _, by omega, by go_num, rfl, HM11.out, HS11.out, HD11.out, HO11.out, fun e => by exfalso; have := HND.out; have := HJL.out; omega, fun _ => by rw [HG2.out]; exact HOO.out⟩
        case measure => simp [intOf]; omega
       ·as_aux_lemma =>
        rw [e1] at r18
        rw [e2] at c0
        rw [e3] at c6
        clear e1 e2 e3 HWC
        generalize shAny S' (T k).z ev.sig = sb at *
        go_wp2_with fail
        go_quiet (fail)
        obtain ⟨w12, hw12⟩ : ∃ w12, w12 = w11.drewN nq := ⟨_, rfl⟩
        have HB12 : Hid (Below w11.heap.size w11 w12) := by rw [Hid, hw12]; exact below_drawn (Below.refl _ _) _
        rw [← hw12]
        clear hw12 c0 c6 d1 d2 d3 r18
        go_wp2_with fail
        go_roundw
        case rel => exact ⟨j + 1, _, _, _, _, _, _, by omega, by go_num, rfl, HM11.out.below HB12.out, HS11.out.below HB12.out, row_on HD11.out HB12.out, own_keep HO11.out (Keep.of_below HB12.out []) (by simp), fun e => by exfalso; have := HND.out; have := HJL.out; omega, fun _ => by rw [HG2.out]; exact HOO.out⟩
        case measure => simp [intOf]; omega
       ·as_aux_lemma =>
        rw [e1] at r18
        rw [e2] at c0
        rw [e3] at c6
        clear e1 e2 e3 HWC
        generalize shAny S' (T k).z ev.sig = sb at *
        go_wp2_with fail
        go_quiet (fail)
        obtain ⟨w12, hw12⟩ : ∃ w12, w12 = w11.drewN nq := ⟨_, rfl⟩
        have HB12 : Hid (Below w11.heap.size w11 w12) := by rw [Hid, hw12]; exact below_drawn (Below.refl _ _) _
        rw [← hw12]
        clear hw12 c0 c6 d1 d2 d3 r18
        go_wp2_with fail
        go_roundw
        case rel => exact ⟨j + 1, _, _, _, _, _, _, by omega, by go_num, rfl, HM11.out.below HB12.out, HS11.out.below HB12.out, row_on HD11.out HB12.out, own_keep HO11.out (Keep.of_below HB12.out []) (by simp), fun e => by exfalso; have := HND.out; have := HJL.out; omega, fun _ => by rw [HG2.out]; exact HOO.out⟩
        case measure => simp [intOf]; omega
       ·as_aux_lemma =>
        rw [e1] at r18
        have hz0 : (((T k).tb.R.length : Int) == 0) = true := by rw [e2]; simp
        clear e1 e2 HWC
        generalize shAny S' (T k).z ev.sig = sb at *
        go_wp2_with fail
        go_roundw
        case rel => exact ⟨j + 1, _, _, _, _, _, _, by omega, by go_num, rfl, HM11.out, HS11.out, HD11.out, HO11.out, fun e => by exfalso; have := HND.out; have := HJL.out; omega, fun _ => by rw [HG2.out]; exact HOO.out⟩
        case measure => simp [intOf]; omega
       -->
     ·obtain ⟨o1, o2, o3⟩ := h5 (by omega)
      have hx1 : ¬ (j : Int) < (nd : Int) := by omega
      clear mi hsw hdd hrow h4 h5
      subst o1 o2
      go_wp2
      go_roundw
      case rel => exact ⟨q + 1, _, by omega, by go_num, by rw [o3], _, _, _, _, _, _, _, _, HMq.out, HSq.out, HDq.out, HD9.out.2, rfl⟩
      case measure => simp [intOf]; omega
  ·have hx1 : ¬ (q : Int) < (nS : Int) := by omega
   have hbel : Below w.heap.size w wr := by obtain ⟨L, g, T, R, A, sv, wv, ws, mi, _⟩ := hy1; exact mi.bel
   clear hy1
   go_wp2
   go_ret
   exact ⟨rfl, hbel⟩
end Go.Proofs.YtgjahjnomfijfaaGreat
