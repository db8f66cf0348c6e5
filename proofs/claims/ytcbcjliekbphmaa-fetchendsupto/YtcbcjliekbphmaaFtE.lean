/- FetchEnds walked. (Printed by tools/fte.py.) -/
import Derived.Test.YtcbcjliekbphmaaFtT
namespace Go.Proofs.Ytcbcjliekbphmaa
open Go.ChangeShapes Go.WideShapes Go.ChangeAt Go.RowKit
attribute [local go_sem ↓] Go.wp_at_zero Go.wp_at_succ

theorem lay_grows {L : List Ac} {g : GR} (h : g.laid < g.l.length) (S : List Wt) : (actS 8 1 S (g, L)).1.laid = g.laid + 1 ∧ (actS 8 1 S (g, L)).1.l = g.l ∧ (actS 8 1 S (g, L)).1.done = g.done := by
  unfold actS layS layG layOk
  simp [h]
theorem wlst_nil (w : World) : WLst w (.slice none 0 0) [] := ⟨none, 0, rfl, by simp, Or.inl rfl⟩
theorem FW.four {w0 w : World} {base : Nat} {p : Value} {L : List Ac} {Gk : Nat} {g : GR} (h : FW w0 w base p L Gk g) : (∃ a cap, w.cell? ⟨Gk, 1, none⟩ = some (.slice a g.l.length cap)) ∧ w.cell? ⟨Gk, 2, none⟩ = some (.int .i64 (g.laid : Int)) ∧ w.cell? ⟨Gk, 3, none⟩ = some (.int .i64 (g.done : Int)) ∧ Gk < w.heap.size := by
  obtain ⟨F, P, h1⟩ := h.all
  obtain ⟨v, us, hg⟩ := h1.gr
  obtain ⟨a, cap, rfl⟩ := own_slice hg.own
  exact ⟨⟨a, cap, hg.cells.1.2.1⟩, hg.cells.1.2.2.1, hg.cells.1.2.2.2, heap_lt hg.m⟩
theorem eok_new {L : List Ac} {g : GR} {s nf : Nat} {z c : Int} (h : RingOk L g s nf) (hz0 : 0 ≤ z) (hz : z ≤ (g.done : Int)) (hz1 : z ≤ 1048576) (h0 : 0 ≤ c) (h8 : c < 8) : EOk L g (newP s z Sg.nought c) (ckNew (newP s z Sg.nought c)) 0 0 (wordOf L ⟨4, c, 0⟩) := by
  have ho2 : Sg.Ok (Sg.put Sg.nought (Sg.sigN c)) := Sg.ok_put Sg.ok_nought _ (Sg.sigN_lt _)
  obtain ⟨p1, p2, p3, p4, p5, p6⟩ := newP_is s z Sg.nought c
  have hst : (ckNew (newP s z Sg.nought c)).st = 0 := rfl
  generalize newP s z Sg.nought c = P at *
  have hok : POk P := ⟨by rw [p1]; have := h.gok.s1; have := h.size; omega, by rw [p1]; have := h.gok.s16; have := h.size; omega, by rw [p2]; omega, by rw [p2]; omega, by rw [p3]; exact ho2⟩
  refine ⟨kok_new hok, ⟨by rw [p2]; exact hz, by rw [p1]; exact h.size.symm, p5, Or.inl hst⟩, by unfold thr; omega, by rw [p4]; exact h0, by rw [p4]; exact h8, Or.inl hst, by unfold cellA; rw [p4], Or.inl ⟨p6, rfl, rfl, hst⟩⟩
theorem e_lt {L : List Ac} {g : GR} {P : Cp} {b : Ck} {k q s : Nat} {V z c : Int} {rd : List Nat} (h : EOk L g P b k q V) (hp : PIs P s z rd c) : q < 3 + 9 * s := by
  have := eok_end h
  rw [hp.s] at this
  exact this
theorem e_lti {q s : Nat} (h : q < 3 + 9 * s) : (q : Int) < 3 + 9 * (s : Int) := by omega
theorem e_w1 {q s : Nat} (h : q < 3 + 9 * s) (hs : s ≤ 16) : wrap64 ((q : Int) + 1) = (q : Int) + 1 := by unfold wrap64; omega
theorem e_ms {q s : Nat} (h : q < 3 + 9 * s) : q + 1 ≤ 3 + 9 * s ∧ 3 + 9 * s - (q + 1) < 3 + 9 * s - q := ⟨by omega, by omega⟩
theorem e_len {L : List Ac} {g : GR} {s ne q : Nat} (h : RingOk L g s (ne + q)) (hn : ne ≤ 2097152) (hq : q < 3 + 9 * s) (hs : s ≤ 16) : L.length < 3298534883328 := by
  have := h.len
  omega
theorem e_far {s l : Nat} {z : Int} (h : z + (s : Int) < (l : Int)) : (s : Int) < (l : Int) - z := by omega
theorem e_far0 {s l : Nat} (h : (0 : Int) + (s : Int) < (l : Int)) : (s : Int) < (l : Int) := by omega
theorem e_near0 {s l : Nat} (h : (l : Int) ≤ (0 : Int) + (s : Int)) : ¬ ((s : Int) < (l : Int)) := by omega
theorem e_near0n {s l : Nat} (h : (l : Int) ≤ (0 : Int) + (s : Int)) : ¬ (s < l) := by omega
theorem e_wl0 {l n : Nat} (h : l = n ∧ n ≤ 1048576) : wrap64 (l : Int) = (l : Int) := by unfold wrap64; omega
theorem e_near {s l : Nat} {z : Int} (h : (l : Int) ≤ z + (s : Int)) : ¬ ((s : Int) < (l : Int) - z) := by omega
/-- What the loop over the steps keeps. -/
structure EW (w wr : World) (bs M : Nat) (X Gk : Nat) (g : GR) (s nf q : Nat) (z : Int) (rd : List Nat) (c V : Int) (L : List Ac) (P : Cp) (b : Ck) (k : Nat) : Prop where
  kw : KW w wr bs (.pointer (some ⟨M, 0, none⟩)) L X Gk g P b []
  ro : RingOk L g s (nf + q)
  eo : EOk L g P b k q V
  pi : PIs P s z rd c
set_option maxRecDepth 100000 in
set_option maxHeartbeats 6400000 in
theorem ends_walk (w : World) (raw back cell : Int) (vf : Value) (S1 : List Tn) (hvf : TnLst w vf S1) :
    Calls Try.prog 5 #[.agg #[.int .i64 raw, .int .i64 back, .int .i64 cell, vf]] w fun e w' => e = .returned (.bool true) ∧ Below w.heap.size w w' := by
  have HS : Hid (∀ w : World, Calls Try.prog 6 #[] w fun e w' => e = .returned (.bool true) ∧ Below w.heap.size w w') := fshown_any
  obtain ⟨s, hs1, hs16, hse⟩ : ∃ s : Nat, 1 ≤ s ∧ s ≤ 16 ∧ raw % 16 = (s : Int) - 1 := ⟨(raw % 16 + 1).toNat, by omega, by omega, by omega⟩
  have HP : Hid (∀ w : World, Calls Try.prog 20 #[.int .i64 raw, .int .i64 16] w fun e w' => e = .returned (.int .i64 ((s : Int) - 1)) ∧ w' = w) := fun w => by rw [← hse]; exact gpick_any raw 16 (by decide) (by decide) w
  obtain ⟨bk, hb0, hb4, hbb⟩ : ∃ bk : Int, 0 ≤ bk ∧ bk < 4 ∧ bk = back % 4 := ⟨_, by omega, by omega, rfl⟩
  obtain ⟨c, hc0, hc8, hcc⟩ : ∃ c : Int, 0 ≤ c ∧ c < 8 ∧ c = cell % 8 := ⟨_, by omega, by omega, rfl⟩
  have HPB : Hid (∀ w : World, Calls Try.prog 20 #[.int .i64 back, .int .i64 4] w fun e w' => e = .returned (.int .i64 bk) ∧ w' = w) := fun w => by rw [hbb]; exact gpick_any back 4 (by decide) (by decide) w
  have HPC : Hid (∀ w : World, Calls Try.prog 20 #[.int .i64 cell, .int .i64 8] w fun e w' => e = .returned (.int .i64 c) ∧ w' = w) := fun w => by rw [hcc]; exact gpick_any cell 8 (by decide) (by decide) w
  have HCC : Hid (0 ≤ c ∧ c < 8) := ⟨hc0, hc8⟩
  have HBK : Hid (0 ≤ bk ∧ bk < 4) := ⟨hb0, hb4⟩
  have HN : Hid (∀ w : World, Calls Try.prog 10 #[.int .i64 8, .int .i64 (s : Int)] w fun e w' => ∃ p F, e = .returned (.tuple #[p, .int .i64 0]) ∧ p ≠ .pointer none ∧ MemAt w' w.heap.size p 8 s [] F ∧ Below w.heap.size w w') := fun w => new_yes w 8 s (by decide) ⟨hs1, hs16⟩
  obtain ⟨fa, fcap, rfl, hbig1, hl1⟩ := hvf
  have HC1 := z_turn hl1
  have HD1 : Hid (∀ q, q < S1.length → ∃ x, fa = some x ∧ x.block < w.heap.size ∧ w.cell? (x.add (q * 2)) = some (.int .i64 (S1.getD q noTn).k) ∧ ∃ u, w.cell? ((x.add (q * 2)).add 1) = some u ∧ WLst w u (S1.getD q noTn).l) := HC1
  clear hl1 HC1 hse hbb hcc
  generalize hn1 : S1.length = n1 at *
  clear hn1
  have HBG : Hid (n1 ≤ 1048576 ∧ 1 ≤ s ∧ s ≤ 16) := ⟨hbig1, hs1, hs16⟩
  have w1b : 1 + ((s : Int) - 1) = (s : Int) := by omega
  have w1c : wrap64 (s : Int) = (s : Int) := z_wrap (by omega) (by omega)
  have w1 : wrap64 (1 + ((s : Int) - 1)) = (s : Int) := by rw [w1b, w1c]
  have w2 : wrap64 (9 * (s : Int)) = 9 * (s : Int) := z_wrap (by omega) (by omega)
  have w3 : wrap64 (3 + 9 * (s : Int)) = 3 + 9 * (s : Int) := z_wrap (by omega) (by omega)
  clear hbig1 hc0 hc8 hb0 hb4
  have HO1 : Hid (∀ (w : World) (v : Value), Sg.Lst w v [c] → Calls Try.prog 23 #[v] w fun e w' => e = .returned (.agg #[rdV (Sg.ofAll [c]) 0, rdV (Sg.ofAll [c]) 1, rdV (Sg.ofAll [c]) 2, rdV (Sg.ofAll [c]) 3, rdV (Sg.ofAll [c]) 4, rdV (Sg.ofAll [c]) 5, rdV (Sg.ofAll [c]) 6, rdV (Sg.ofAll [c]) 7]) ∧ Below w.heap.size w w') := fun w v h => by
    have := Sg.rof_any w v [c] h
    rw [rd_cells (Sg.ok_ofAll [c]).1]; exact this
  have HFN : Hid (∀ (z : Int) (w : World), 0 ≤ z → z ≤ 1048576 → Calls Try.prog 7 #[.int .i64 (s : Int), .int .i64 z, .agg #[.int .u64 0, .int .u64 0, .int .u64 0, .int .u64 0, .int .u64 0, .int .u64 0, .int .u64 0, .int .u64 0], .int .i64 c] w fun e w' => ∃ X, e = .returned (.tuple #[.pointer (some ⟨X, 0, none⟩), .int .i64 0]) ∧ w.heap.size ≤ X ∧ KAt w' X (newP s z Sg.nought c) (ckNew (newP s z Sg.nought c)) ∧ Below w.heap.size w w') := fun z w hz0 hz1 =>
    fnew_yes w (rd := Sg.nought) HBG.out.2.1 HBG.out.2.2 hz0 (by omega) Sg.ok_nought HCC.out.1 (by have := HCC.out.2; omega)
  have HOF : Hid (Sg.Ok (Sg.ofAll [c])) := Sg.ok_ofAll _
  have HSH : Hid (∀ (w' : World) (L : List Ac) (X Gk bs M : Nat) (g : GR) (C : Cp) (b : Ck) (R : List (Nat × Obj)), KW w w' bs (.pointer (some ⟨M, 0, none⟩)) L X Gk g C b R → GOk g → ∀ x y, Calls Try.prog 24 #[.pointer (some ⟨Gk, 0, none⟩), .int .i64 x, .int .i64 y, .agg #[rdV (Sg.ofAll [c]) 0, rdV (Sg.ofAll [c]) 1, rdV (Sg.ofAll [c]) 2, rdV (Sg.ofAll [c]) 3, rdV (Sg.ofAll [c]) 4, rdV (Sg.ofAll [c]) 5, rdV (Sg.ofAll [c]) 6, rdV (Sg.ofAll [c]) 7]] w' fun e w'' => e = .returned (.bool (sharesV g x y (Sg.ofAll [c]))) ∧ KW w w'' bs (.pointer (some ⟨M, 0, none⟩)) L X Gk g C b R) := fun w' L X Gk bs M g C b R h hk x y => kw_shares h hk x y _ HOF.out
  have HNP : Hid (∀ z : Int, PIs (newP s z Sg.nought c) s z (Sg.ofAll [c]) c) := fun z => ⟨(newP_is s z _ c).1, (newP_is s z _ c).2.1, by rw [ofAll_one]; exact (newP_is s z _ c).2.2.1, (newP_is s z _ c).2.2.2.1⟩
  generalize Sg.ofAll [c] = rd at *
  clear HOF
  unfold rdV at HO1 HSH
  generalize rd.getD 0 0 = jj0 at *
  generalize rd.getD 1 0 = jj1 at *
  generalize rd.getD 2 0 = jj2 at *
  generalize rd.getD 3 0 = jj3 at *
  generalize rd.getD 4 0 = jj4 at *
  generalize rd.getD 5 0 = jj5 at *
  generalize rd.getD 6 0 = jj6 at *
  generalize rd.getD 7 0 = jj7 at *
  go_enter Try.func5, Try.ntmps5
  go_wp2_with fail
  refine (HS.out _).mono ?_
  rintro e y1 ⟨rfl, hb1⟩
  have HB1 : Hid (Below w.heap.size w y1) := by first | exact hb1 | exact below_then (below_a1 _ _) hb1
  clear hb1
  go_wp2_with fail
  refine (HP.out _).mono ?_
  rintro e y2 ⟨rfl, rfl⟩
  clear hs1 hs16
  go_wp2_with fail
  refine (HN.out _).mono ?_
  rintro e y3 ⟨p, F3, rfl, _, hm3, hb3⟩
  obtain ⟨M, rfl⟩ := hm3.ptr
  have HE3 : Hid (FW w (y3.alloc (.cells #[.int .i64 (s : Int), .slice none 0 0, .int .i64 0, .int .i64 0] 67)) y2.heap.size (.pointer (some ⟨M, 0, none⟩)) [] y3.heap.size ⟨s, [], 0, 0⟩ ∧ RingOk [] ⟨s, [], 0, 0⟩ s 0) :=
    ⟨fw_new (below_then HB1.out hb3) hm3 HB1.out.size hb3.size, ⟨HBG.out.2.1, HBG.out.2.2, Nat.le_refl _, Nat.le_refl _, by simp⟩, gz_zero s, gs_zero s, rfl, by simp, by simp⟩
  clear hm3 hb3
  go_wp2
  generalize y2.heap.size = bs at HE3 ⊢
  generalize y3.heap.size = Gk at HE3 ⊢
  go_loopw [12] (fun iv wr => ∃ (q : Nat) (L : List Ac) (g : GR), q ≤ n1 ∧ iv = .int .i64 q ∧ FW w wr bs (.pointer (some ⟨M, 0, none⟩)) L Gk g ∧ RingOk L g s q) (fun iv _ => n1 - (intOf iv).toNat)
  case atStart => exact ⟨0, [], ⟨s, [], 0, 0⟩, Nat.zero_le _, rfl, HE3.out.1, HE3.out.2⟩
  case round =>
    obtain ⟨q, L, g, hq, rfl, hfw, hro⟩ := hrel
    have HE : Hid (FW w wr bs (.pointer (some ⟨M, 0, none⟩)) L Gk g ∧ RingOk L g s q) := ⟨hfw, hro⟩
    clear hfw hro HE3
    by_cases hlt : q < n1
    · obtain ⟨x, rfl, hxb, c0, u, c1, hu⟩ := HD1.out q hlt
      have hbel := HE.out.1.bel
      replace c0 := cell_later hbel (by rw [add_block]; exact hxb) c0
      replace c1 := cell_later hbel (by rw [add_block, add_block]; exact hxb) c1
      rw [add_pos' _ _ (by decide)] at c1
      have d1 : decide ((q : Int) < (n1 : Int)) = true := decide_eq_true (Int.ofNat_lt.2 hlt)
      have hx1 : (q : Int) < (n1 : Int) := Int.ofNat_lt.2 hlt
      have hw1 : wrap64 ((q : Int) + 1) = (q : Int) + 1 := z_w1 hlt HBG.out.1
      have HU : Hid (∀ w', Below w.heap.size w w' → WLst w' u (S1.getD q noTn).l) := fun w' hb => hu.later hb rfl
      obtain ⟨ua, ucap, rfl, _⟩ := hu
      clear hbel
      generalize (S1.getD q noTn).l.length = nu at *
      generalize (S1.getD q noTn).l = Wl at *
      generalize (S1.getD q noTn).k = kd at *
      have HAC : Hid (∀ w', FW w w' bs (.pointer (some ⟨M, 0, none⟩)) L Gk g → Calls Try.prog 21 #[.pointer (some ⟨Gk, 0, none⟩), (.pointer (some ⟨M, 0, none⟩)), .int .i64 kd, .slice ua nu ucap] w' fun e w'' => e = .returned (.tuple #[]) ∧ ∃ L2 g2, FW w w'' bs (.pointer (some ⟨M, 0, none⟩)) L2 Gk g2 ∧ RingOk L2 g2 s (q + 1)) := fun w' h => by
        have hle := HE.out.2.len
        have hbg := HBG.out
        refine (fw_act h (by omega) HE.out.2.gok kd (.slice ua nu ucap) Wl (HU.out _ h.bel)).mono ?_
        rintro e w'' ⟨rfl, h2⟩
        exact ⟨rfl, _, _, h2, (ringOk_act HE.out.2 (by omega) kd Wl).1⟩
      have HWR := HE.out.1.later (below_drawn (Below.refl wr.heap.size wr) 1)
      go_wp2_with fail
      go_region_with ((go_at_call 21; refine (HAC.out _ HWR).mono ?_; rintro e y6 ⟨rfl, h6⟩))
      all_goals
        have HW6 : Hid (∃ L2 g2, FW w y6 bs (.pointer (some ⟨M, 0, none⟩)) L2 Gk g2 ∧ RingOk L2 g2 s (q + 1)) := h6
        clear h6 c0 c1
        go_wp2
        go_roundw
        case rel =>
          obtain ⟨L2, g2, h7, h8⟩ := HW6.out
          exact ⟨q + 1, L2, g2, hlt, by rw [hw1]; go_num, h7, h8⟩
        case measure => rw [hw1]; simp [intOf]; exact z_meas hlt
    · obtain rfl : q = n1 := by omega
      have d1 : decide ((q : Int) < (q : Int)) = false := by simp
      obtain ⟨nf, HNF, HF0⟩ : ∃ nf, Hid (nf ≤ 1048576) ∧ Hid (FW w wr bs (.pointer (some ⟨M, 0, none⟩)) L Gk g ∧ RingOk L g s nf) := ⟨q, HBG.out.1, HE.out⟩
      clear HE hq hlt
      go_wp2
      obtain ⟨wo, rfl⟩ : ∃ wo, wo = wr := ⟨_, rfl⟩
      generalize hnl : g.l.length = nl at *
      have HNL : Hid (nl ≤ nf) := by rw [Hid, ← hnl]; exact HF0.out.2.many
      have HNL0 : Hid (g.l.length = nl) := hnl
      clear hnl
      go_loopw [70] (fun _ wr => ∃ (q : Nat) (L : List Ac) (g : GR), FW w wr bs (.pointer (some ⟨M, 0, none⟩)) L Gk g ∧ RingOk L g s q ∧ q + (nl - g.laid) ≤ 2 * nf ∧ g.l.length = nl ∧ g.laid ≤ nl) (fun _ wr => nl - (intOf ((wr.cell? ⟨Gk, 2, none⟩).getD (.bool false))).toNat)
      case atStart => exact ⟨nf, L, g, HF0.out.1, HF0.out.2, by have := HNL.out; omega, HNL0.out, by have := HF0.out.2.gok.an; have := HNL0.out; omega⟩
      case round =>
        obtain ⟨q, L, g, hfw, hro, hqn, hgl, hla⟩ := hrel
        obtain ⟨⟨ga, gcap, g1⟩, g2, g3, hGk⟩ := hfw.four
        rw [hgl] at g1
        have HE : Hid (FW w wr bs (.pointer (some ⟨M, 0, none⟩)) L Gk g ∧ RingOk L g s q) := ⟨hfw, hro⟩
        have HQ : Hid (q + (nl - g.laid) ≤ 2 * nf ∧ g.l.length = nl ∧ g.laid ≤ nl) := ⟨hqn, hgl, hla⟩
        clear hfw hro HF0 hqn hgl hla HNL0
        by_cases hlt : g.laid < nl
        · have d2 : decide ((g.laid : Int) < (nl : Int)) = true := decide_eq_true (Int.ofNat_lt.2 hlt)
          have HAC : Hid (∀ w', FW w w' bs (.pointer (some ⟨M, 0, none⟩)) L Gk g → Calls Try.prog 21 #[.pointer (some ⟨Gk, 0, none⟩), (.pointer (some ⟨M, 0, none⟩)), .int .i64 1, .slice none 0 0] w' fun e w'' => e = .returned (.tuple #[]) ∧ ∃ L2 g2, FW w w'' bs (.pointer (some ⟨M, 0, none⟩)) L2 Gk g2 ∧ RingOk L2 g2 s (q + 1) ∧ g2.laid = g.laid + 1 ∧ g2.l.length = nl) := fun w' h => by
            have hle := HE.out.2.len
            have hq := HQ.out
            have hnf := HNF.out
            refine (fw_act h (by omega) HE.out.2.gok 1 (.slice none 0 0) [] (wlst_nil _)).mono ?_
            rintro e w'' ⟨rfl, h2⟩
            obtain ⟨l1, l2, _⟩ := lay_grows (L := L) (g := g) (by omega) []
            exact ⟨rfl, _, _, h2, (ringOk_act HE.out.2 (by omega) 1 []).1, l1, by rw [l2]; exact hq.2.1⟩
          have HM : Hid ((intOf ((wr.cell? ⟨Gk, 2, none⟩).getD (.bool false))).toNat = g.laid) := by rw [Hid, g2]; simp [intOf]
          go_wp2_with fail
          go_quiet (fail)
          have HFQ : Hid (FW w (wr.drewN nq) bs (.pointer (some ⟨M, 0, none⟩)) L Gk g) := HE.out.1.later (below_drawn (Below.refl _ _) _)
          clear g1 g2 g3
          generalize wr.drewN nq = yq at *
          go_wp2_with fail
          refine (HAC.out _ HFQ.out).mono ?_
          rintro e y6 ⟨rfl, h6⟩
          have HW6 : Hid (∃ L2 g2, FW w y6 bs (.pointer (some ⟨M, 0, none⟩)) L2 Gk g2 ∧ RingOk L2 g2 s (q + 1) ∧ g2.laid = g.laid + 1 ∧ g2.l.length = nl) := h6
          clear h6
          go_wp2
          go_roundw
          case rel =>
            obtain ⟨L2, g2, h7, h8, h9, h10⟩ := HW6.out
            exact ⟨q + 1, L2, g2, h7, h8, by have := HQ.out; omega, h10, by omega⟩
          case measure =>
            obtain ⟨L2, g2, h7, h8, h9, h10⟩ := HW6.out
            rw [HM.out, h7.four.2.1]
            simp [intOf]
            omega
        · have d2 : decide ((g.laid : Int) < (nl : Int)) = false := decide_eq_false (by omega)
          obtain ⟨ne, HNE, HRO⟩ : ∃ ne, Hid (ne ≤ 2097152) ∧ Hid (RingOk L g s ne) := ⟨q, by have := HQ.out; have := HNF.out; rw [Hid]; omega, HE.out.2⟩
          have HLN : Hid (g.laid = g.l.length) := by have := HQ.out; rw [Hid]; omega
          have HLL : Hid (g.l.length = nl ∧ nl ≤ 1048576) := ⟨HQ.out.2.1, Nat.le_trans HNL.out HNF.out⟩
          have HFW : Hid (FW w wr bs (.pointer (some ⟨M, 0, none⟩)) L Gk g) := HE.out.1
          have HDN : Hid (g.done ≤ 1048576) := by have h1 := HRO.out.gok.da; have h2 := HRO.out.gok.an; have h3 := HLL.out; rw [Hid]; omega
          have HPK : Hid (∀ w', FW w w' bs (.pointer (some ⟨M, 0, none⟩)) L Gk g → Calls Try.prog 26 #[(.pointer (some ⟨M, 0, none⟩)), .agg #[.int .i64 4, .int .i64 c, .int .i64 0]] w' fun e w'' => e = .returned (.tuple #[.int .i64 (wordOf L ⟨4, c, 0⟩), .int .i64 0]) ∧ FW w w'' bs (.pointer (some ⟨M, 0, none⟩)) L Gk g) := fun w' h => fw_peek h c HCC.out.1 HCC.out.2
          have wz : wrap64 ((g.done : Int) - bk) = (g.done : Int) - bk := z_wrap (by have := HBK.out; omega) (by have := HBK.out; have := HDN.out; omega)
          clear HE HQ
          by_cases hz : (g.done : Int) - bk < 0
          · have dz : decide ((g.done : Int) - bk < 0) = true := decide_eq_true hz
            have HZZ : Hid ((0 : Int) ≤ 0 ∧ (0 : Int) ≤ (g.done : Int) ∧ (0 : Int) ≤ 1048576) := ⟨by omega, by omega, by omega⟩
            clear hz
            go_wp2_with fail
            go_quiet (fail)
            have HFP : Hid (FW w (wr.drewN nq) bs (.pointer (some ⟨M, 0, none⟩)) L Gk g) := HFW.out.later (below_drawn (Below.refl _ _) _)
            clear g1 g2 g3 HFW
            generalize wr.drewN nq = yp at *
            obtain ⟨⟨ga, gcap, g1⟩, g2, g3, hGk2⟩ := HFP.out.four
            go_wp2_with fail
            go_quiet ((go_at_call 20; refine (HPB.out _).mono ?_; rintro e x0 ⟨rfl, rfl⟩; exact ⟨rfl, _, rfl⟩))
            have HFQ : Hid (FW w (yp.drewN nq) bs (.pointer (some ⟨M, 0, none⟩)) L Gk g) := HFP.out.later (below_drawn (Below.refl _ _) _)
            clear g1 g2 g3 HFP
            generalize yp.drewN nq = yq at *
            go_wp2_with fail
            refine (HPC.out _).mono ?_
            rintro e y4 ⟨rfl, rfl⟩
            go_wp2_with fail
            refine (HPK.out _ HFQ.out).mono ?_
            rintro e y5 ⟨rfl, h5⟩
            have HF5 : Hid (FW w y5 bs (.pointer (some ⟨M, 0, none⟩)) L Gk g) := h5
            clear h5
            go_wp2_with fail
            refine (HFN.out 0 _ HZZ.out.1 HZZ.out.2.2).mono ?_
            rintro e y6 ⟨X, rfl, hX6, hx6, hb6⟩
            have HK6 : Hid (KW w y6 bs (.pointer (some ⟨M, 0, none⟩)) L X Gk g (newP s 0 Sg.nought c) (ckNew (newP s 0 Sg.nought c)) []) := kw_new0 HF5.out hb6 hX6 hx6
            have HEN : Hid (EOk L g (newP s 0 Sg.nought c) (ckNew (newP s 0 Sg.nought c)) 0 0 (wordOf L ⟨4, c, 0⟩)) := eok_new HRO.out HZZ.out.1 HZZ.out.2.1 HZZ.out.2.2 HCC.out.1 HCC.out.2
            have HPI : Hid (PIs (newP s 0 Sg.nought c) s 0 rd c) := HNP.out _
            clear hX6 hx6 hb6 HF5 HFQ
            generalize newP s 0 Sg.nought c = P0 at *
            generalize wordOf L ⟨4, c, 0⟩ = V at *
            obtain ⟨⟨ga, gcap, g1⟩, g3⟩ := HK6.out.cells
            go_wp2_with fail
            refine (HO1.out _ _ (lst1 y6 c)).mono ?_
            rintro e y7 ⟨rfl, hb7⟩
            have HK7 : Hid (KW w (y7.alloc (.cells #[.int .u64 ((jj0 : Nat) : Int), .int .u64 ((jj1 : Nat) : Int), .int .u64 ((jj2 : Nat) : Int), .int .u64 ((jj3 : Nat) : Int), .int .u64 ((jj4 : Nat) : Int), .int .u64 ((jj5 : Nat) : Int), .int .u64 ((jj6 : Nat) : Int), .int .u64 ((jj7 : Nat) : Int)] 24)) bs (.pointer (some ⟨M, 0, none⟩)) L X Gk g P0 (ckNew P0) [(y7.heap.size, .cells #[.int .u64 ((jj0 : Nat) : Int), .int .u64 ((jj1 : Nat) : Int), .int .u64 ((jj2 : Nat) : Int), .int .u64 ((jj3 : Nat) : Int), .int .u64 ((jj4 : Nat) : Int), .int .u64 ((jj5 : Nat) : Int), .int .u64 ((jj6 : Nat) : Int), .int .u64 ((jj7 : Nat) : Int)] 24 (0, 0))]) := (HK6.out.later (below_then (below_a1 _ _) hb7)).more _
            clear hb7 g1 g3 HK6
            obtain ⟨r0, r1, r2, r3, r4, r5, r6, r7⟩ := cells8 (HK7.out.row (B := y7.heap.size) (List.mem_cons.2 (Or.inl rfl)))
            go_wp2_with fail
            refine (HSH.out _ _ _ _ _ _ _ _ _ _ HK7.out HRO.out.gok _ _).mono ?_
            rintro e y8 ⟨rfl, h8⟩
            have HK8 : Hid (KW w y8 bs (.pointer (some ⟨M, 0, none⟩)) L X Gk g P0 (ckNew P0) []) := h8.less (fun z hz => by simp at hz)
            clear h8 r0 r1 r2 r3 r4 r5 r6 r7 HK7
            have wl : wrap64 ((g.l.length : Int) - 0) = (g.l.length : Int) - 0 := by have h1 := HLL.out; have h2 := HZZ.out; exact z_wrap (by omega) (by omega)
            generalize hsm : sharesV g 0 (g.l.length : Int) rd = sm at *
            have HSM : Hid (sharesV g 0 (g.l.length : Int) rd = sm) := hsm
            clear hsm
            go_wp2
            go_loopw [22] (fun iv wr => ∃ (q : Nat) (L : List Ac) (P : Cp) (b : Ck) (k : Nat), q ≤ 3 + 9 * s ∧ iv = .int .i64 q ∧ EW w wr bs M X Gk g s ne q 0 rd c V L P b k) (fun iv _ => 3 + 9 * s - (intOf iv).toNat)
            case atStart => exact ⟨0, L, P0, _, 0, Nat.zero_le _, rfl, HK8.out, HRO.out, HEN.out, HPI.out⟩
            case round =>
              obtain ⟨q, L, P, b, k, hq, rfl, hew⟩ := hrel
              have HE : Hid (EW w wr bs M X Gk g s ne q 0 rd c V L P b k) := hew
              have hlt3 : q < 3 + 9 * s := e_lt hew.eo hew.pi
              have HLT : Hid (q < 3 + 9 * s) := hlt3
              have hlti : (q : Int) < 3 + 9 * (s : Int) := e_lti hlt3
              have d3 : decide ((q : Int) < 3 + 9 * (s : Int)) = true := decide_eq_true hlti
              have hw1 : wrap64 ((q : Int) + 1) = (q : Int) + 1 := e_w1 hlt3 HBG.out.2.2
              have HMS : Hid (q + 1 ≤ 3 + 9 * s ∧ 3 + 9 * s - (q + 1) < 3 + 9 * s - q) := e_ms hlt3
              clear hew HK8 HEN HPI hq
              have hcs := eok_step HE.out.eo HE.out.ro HE.out.kw.okS HLN.out
              rw [HE.out.pi.z, HE.out.pi.rd, HSM.out] at hcs
              have HT : Hid (Calls Try.prog 15 #[.pointer (some ⟨X, 0, none⟩), (.pointer (some ⟨M, 0, none⟩)), .int .i64 1] wr fun e w' => e = .returned (.agg #[.int .i64 (ansF 8 P.s P b L), .int .i64 (errF 8 P.s P b L), .int .i64 (valF 8 P.s P b L), .bool (accF 8 P.s P b)]) ∧ KW w w' bs (.pointer (some ⟨M, 0, none⟩)) (nextFL 8 P.s P b L 1) X Gk g (nextFP 8 P.s P L) (nextFB 8 P.s P b L) []) := by
                exact kw_fstep HE.out.kw HE.out.eo.sf.sz (e_len HE.out.ro HNE.out HLT.out HBG.out.2.2) HE.out.eo.ok HE.out.eo.c0 (tok_w HE.out.eo.ok HE.out.eo.sf HE.out.ro) 1
              have HRO2 : Hid (RingOk (nextFL 8 P.s P b L 1) g s (ne + (q + 1))) := by
                have := ringOk_loadF (P := P) (b := b) HE.out.ro
                rw [Nat.add_assoc] at this
                exact this
              have HPI2 : Hid (PIs (nextFP 8 P.s P L) s 0 rd c) := HE.out.pi.next _ _ _
              clear hlt3
              generalize ansF 8 P.s P b L = kk at *
              generalize errF 8 P.s P b L = ee at *
              generalize valF 8 P.s P b L = vv at *
              generalize accF 8 P.s P b = gg at *
              generalize nextFL 8 P.s P b L 1 = L2 at *
              generalize nextFB 8 P.s P b L = b2 at *
              generalize nextFN 8 P.s P b L k = k2 at *
              generalize nextFP 8 P.s P L = P2 at *
              rcases hcs with ⟨rfl, heo⟩ | ⟨rfl, rfl, rfl⟩ | ⟨rfl, rfl, hfar⟩ | ⟨rfl, rfl, rfl, hfar⟩
              · have HEO : Hid (EOk L2 g P2 b2 k2 (q + 1) V) := heo
                clear heo
                go_wp2_with fail
                refine HT.out.mono ?_
                rintro e y9 ⟨rfl, h9⟩
                have HW9 : Hid (KW w (y9.alloc (.cells #[.int .i64 2, .int .i64 ee, .int .i64 vv, .bool gg] 49)) bs (.pointer (some ⟨M, 0, none⟩)) L2 X Gk g P2 b2 [(y9.heap.size, ansOW 2 ee vv gg)]) := h9.more _
                clear h9
                obtain ⟨⟨a0, a1, a2, a3⟩, _⟩ := ansW_cells (k := 2) (e := ee) (v := vv) (y := gg) (HW9.out.row (B := y9.heap.size) (o := ansOW 2 ee vv gg) (by simp))
                go_wp2
                go_roundw
                case rel => exact ⟨q + 1, L2, P2, b2, k2, HMS.out.1, by rw [hw1]; go_num, HW9.out.less (fun z hz => by simp at hz), HRO2.out, HEO.out, HPI2.out⟩
                case measure => rw [hw1]; simp [intOf]; exact HMS.out.2
              · go_wp2_with fail
                refine HT.out.mono ?_
                rintro e y9 ⟨rfl, h9⟩
                have HW9 : Hid (KW w (y9.alloc (.cells #[.int .i64 3, .int .i64 ee, .int .i64 vv, .bool gg] 49)) bs (.pointer (some ⟨M, 0, none⟩)) L2 X Gk g P2 b2 [(y9.heap.size, ansOW 3 ee vv gg)]) := h9.more _
                clear h9
                obtain ⟨⟨a0, a1, a2, a3⟩, _⟩ := ansW_cells (k := 3) (e := ee) (v := vv) (y := gg) (HW9.out.row (B := y9.heap.size) (o := ansOW 3 ee vv gg) (by simp))
                have f1 : (vv == vv) = true := by simp
                go_wp2
                first | (go_ret; exact ⟨rfl, HW9.out.bel⟩) | (go_quiet (fail); go_wp2; go_ret; exact ⟨rfl, below_drawn HW9.out.bel _⟩)
              · have f1 : decide ((s : Int) < (g.l.length : Int) - 0) = true := decide_eq_true (e_far hfar)
                have f2 : (s : Int) < (g.l.length : Int) - 0 := e_far hfar
                have f3 : (s : Int) < (g.l.length : Int) := e_far0 hfar
                have f4 : wrap64 (g.l.length : Int) = (g.l.length : Int) := e_wl0 HLL.out
                have f5 : decide ((s : Int) < (g.l.length : Int)) = true := decide_eq_true f3
                clear hfar
                go_wp2_with fail
                refine HT.out.mono ?_
                rintro e y9 ⟨rfl, h9⟩
                have HW9 : Hid (KW w (y9.alloc (.cells #[.int .i64 4, .int .i64 4, .int .i64 vv, .bool gg] 49)) bs (.pointer (some ⟨M, 0, none⟩)) L2 X Gk g P2 b2 [(y9.heap.size, ansOW 4 4 vv gg)]) := h9.more _
                clear h9
                obtain ⟨⟨a0, a1, a2, a3⟩, _⟩ := ansW_cells (k := 4) (e := 4) (v := vv) (y := gg) (HW9.out.row (B := y9.heap.size) (o := ansOW 4 4 vv gg) (by simp))
                go_wp2
                first | (go_ret; exact ⟨rfl, HW9.out.bel⟩) | (go_quiet (fail); go_wp2; go_ret; exact ⟨rfl, below_drawn HW9.out.bel _⟩)
              · have f1 : decide ((s : Int) < (g.l.length : Int) - 0) = false := decide_eq_false (e_near hfar)
                have f2 : ¬ ((s : Int) < (g.l.length : Int) - 0) := e_near hfar
                have f3 : ¬ ((s : Int) < (g.l.length : Int)) := e_near0 hfar
                have f4 : wrap64 (g.l.length : Int) = (g.l.length : Int) := e_wl0 HLL.out
                have f5 : decide ((s : Int) < (g.l.length : Int)) = false := decide_eq_false f3
                have f6 : ¬ (s < g.l.length) := e_near0n hfar
                have f7 : decide (s < g.l.length) = false := decide_eq_false f6
                clear hfar
                go_wp2_with fail
                refine HT.out.mono ?_
                rintro e y9 ⟨rfl, h9⟩
                have HW9 : Hid (KW w (y9.alloc (.cells #[.int .i64 4, .int .i64 3, .int .i64 vv, .bool gg] 49)) bs (.pointer (some ⟨M, 0, none⟩)) L2 X Gk g P2 b2 [(y9.heap.size, ansOW 4 3 vv gg)]) := h9.more _
                clear h9
                obtain ⟨⟨a0, a1, a2, a3⟩, _⟩ := ansW_cells (k := 4) (e := 3) (v := vv) (y := gg) (HW9.out.row (B := y9.heap.size) (o := ansOW 4 3 vv gg) (by simp))
                go_wp2
                first | (go_ret; exact ⟨rfl, HW9.out.bel⟩) | (go_quiet (fail); go_wp2; go_ret; exact ⟨rfl, below_drawn HW9.out.bel _⟩)
          · have dz : decide ((g.done : Int) - bk < 0) = false := decide_eq_false hz
            have HZ0 : Hid (0 ≤ (g.done : Int) - bk ∧ (g.done : Int) - bk ≤ (g.done : Int) ∧ (g.done : Int) - bk ≤ 1048576) := ⟨by omega, by have := HBK.out; omega, by have := HBK.out; have := HDN.out; omega⟩
            clear hz
            go_wp2_with fail
            go_quiet (fail)
            have HFP : Hid (FW w (wr.drewN nq) bs (.pointer (some ⟨M, 0, none⟩)) L Gk g) := HFW.out.later (below_drawn (Below.refl _ _) _)
            clear g1 g2 g3 HFW
            generalize wr.drewN nq = yp at *
            obtain ⟨⟨ga, gcap, g1⟩, g2, g3, hGk2⟩ := HFP.out.four
            go_wp2_with fail
            go_quiet ((go_at_call 20; refine (HPB.out _).mono ?_; rintro e x0 ⟨rfl, rfl⟩; exact ⟨rfl, _, rfl⟩))
            have HFQ : Hid (FW w (yp.drewN nq) bs (.pointer (some ⟨M, 0, none⟩)) L Gk g) := HFP.out.later (below_drawn (Below.refl _ _) _)
            clear g1 g2 g3 HFP
            generalize yp.drewN nq = yq at *
            rw [wz]
            generalize (g.done : Int) - bk = z at *
            have HZZ : Hid (0 ≤ z ∧ z ≤ (g.done : Int) ∧ z ≤ 1048576) := HZ0.out
            clear HZ0
            go_wp2_with fail
            refine (HPC.out _).mono ?_
            rintro e y4 ⟨rfl, rfl⟩
            go_wp2_with fail
            refine (HPK.out _ HFQ.out).mono ?_
            rintro e y5 ⟨rfl, h5⟩
            have HF5 : Hid (FW w y5 bs (.pointer (some ⟨M, 0, none⟩)) L Gk g) := h5
            clear h5
            go_wp2_with fail
            refine (HFN.out z _ HZZ.out.1 HZZ.out.2.2).mono ?_
            rintro e y6 ⟨X, rfl, hX6, hx6, hb6⟩
            have HK6 : Hid (KW w y6 bs (.pointer (some ⟨M, 0, none⟩)) L X Gk g (newP s z Sg.nought c) (ckNew (newP s z Sg.nought c)) []) := kw_new0 HF5.out hb6 hX6 hx6
            have HEN : Hid (EOk L g (newP s z Sg.nought c) (ckNew (newP s z Sg.nought c)) 0 0 (wordOf L ⟨4, c, 0⟩)) := eok_new HRO.out HZZ.out.1 HZZ.out.2.1 HZZ.out.2.2 HCC.out.1 HCC.out.2
            have HPI : Hid (PIs (newP s z Sg.nought c) s z rd c) := HNP.out _
            clear hX6 hx6 hb6 HF5 HFQ
            generalize newP s z Sg.nought c = P0 at *
            generalize wordOf L ⟨4, c, 0⟩ = V at *
            obtain ⟨⟨ga, gcap, g1⟩, g3⟩ := HK6.out.cells
            go_wp2_with fail
            refine (HO1.out _ _ (lst1 y6 c)).mono ?_
            rintro e y7 ⟨rfl, hb7⟩
            have HK7 : Hid (KW w (y7.alloc (.cells #[.int .u64 ((jj0 : Nat) : Int), .int .u64 ((jj1 : Nat) : Int), .int .u64 ((jj2 : Nat) : Int), .int .u64 ((jj3 : Nat) : Int), .int .u64 ((jj4 : Nat) : Int), .int .u64 ((jj5 : Nat) : Int), .int .u64 ((jj6 : Nat) : Int), .int .u64 ((jj7 : Nat) : Int)] 24)) bs (.pointer (some ⟨M, 0, none⟩)) L X Gk g P0 (ckNew P0) [(y7.heap.size, .cells #[.int .u64 ((jj0 : Nat) : Int), .int .u64 ((jj1 : Nat) : Int), .int .u64 ((jj2 : Nat) : Int), .int .u64 ((jj3 : Nat) : Int), .int .u64 ((jj4 : Nat) : Int), .int .u64 ((jj5 : Nat) : Int), .int .u64 ((jj6 : Nat) : Int), .int .u64 ((jj7 : Nat) : Int)] 24 (0, 0))]) := (HK6.out.later (below_then (below_a1 _ _) hb7)).more _
            clear hb7 g1 g3 HK6
            obtain ⟨r0, r1, r2, r3, r4, r5, r6, r7⟩ := cells8 (HK7.out.row (B := y7.heap.size) (List.mem_cons.2 (Or.inl rfl)))
            go_wp2_with fail
            refine (HSH.out _ _ _ _ _ _ _ _ _ _ HK7.out HRO.out.gok _ _).mono ?_
            rintro e y8 ⟨rfl, h8⟩
            have HK8 : Hid (KW w y8 bs (.pointer (some ⟨M, 0, none⟩)) L X Gk g P0 (ckNew P0) []) := h8.less (fun z hz => by simp at hz)
            clear h8 r0 r1 r2 r3 r4 r5 r6 r7 HK7
            have wl : wrap64 ((g.l.length : Int) - z) = (g.l.length : Int) - z := by have h1 := HLL.out; have h2 := HZZ.out; exact z_wrap (by omega) (by omega)
            generalize hsm : sharesV g z (g.l.length : Int) rd = sm at *
            have HSM : Hid (sharesV g z (g.l.length : Int) rd = sm) := hsm
            clear hsm
            go_wp2
            go_loopw [22] (fun iv wr => ∃ (q : Nat) (L : List Ac) (P : Cp) (b : Ck) (k : Nat), q ≤ 3 + 9 * s ∧ iv = .int .i64 q ∧ EW w wr bs M X Gk g s ne q z rd c V L P b k) (fun iv _ => 3 + 9 * s - (intOf iv).toNat)
            case atStart => exact ⟨0, L, P0, _, 0, Nat.zero_le _, rfl, HK8.out, HRO.out, HEN.out, HPI.out⟩
            case round =>
              obtain ⟨q, L, P, b, k, hq, rfl, hew⟩ := hrel
              have HE : Hid (EW w wr bs M X Gk g s ne q z rd c V L P b k) := hew
              have hlt3 : q < 3 + 9 * s := e_lt hew.eo hew.pi
              have HLT : Hid (q < 3 + 9 * s) := hlt3
              have hlti : (q : Int) < 3 + 9 * (s : Int) := e_lti hlt3
              have d3 : decide ((q : Int) < 3 + 9 * (s : Int)) = true := decide_eq_true hlti
              have hw1 : wrap64 ((q : Int) + 1) = (q : Int) + 1 := e_w1 hlt3 HBG.out.2.2
              have HMS : Hid (q + 1 ≤ 3 + 9 * s ∧ 3 + 9 * s - (q + 1) < 3 + 9 * s - q) := e_ms hlt3
              clear hew HK8 HEN HPI hq
              have hcs := eok_step HE.out.eo HE.out.ro HE.out.kw.okS HLN.out
              rw [HE.out.pi.z, HE.out.pi.rd, HSM.out] at hcs
              have HT : Hid (Calls Try.prog 15 #[.pointer (some ⟨X, 0, none⟩), (.pointer (some ⟨M, 0, none⟩)), .int .i64 1] wr fun e w' => e = .returned (.agg #[.int .i64 (ansF 8 P.s P b L), .int .i64 (errF 8 P.s P b L), .int .i64 (valF 8 P.s P b L), .bool (accF 8 P.s P b)]) ∧ KW w w' bs (.pointer (some ⟨M, 0, none⟩)) (nextFL 8 P.s P b L 1) X Gk g (nextFP 8 P.s P L) (nextFB 8 P.s P b L) []) := by
                exact kw_fstep HE.out.kw HE.out.eo.sf.sz (e_len HE.out.ro HNE.out HLT.out HBG.out.2.2) HE.out.eo.ok HE.out.eo.c0 (tok_w HE.out.eo.ok HE.out.eo.sf HE.out.ro) 1
              have HRO2 : Hid (RingOk (nextFL 8 P.s P b L 1) g s (ne + (q + 1))) := by
                have := ringOk_loadF (P := P) (b := b) HE.out.ro
                rw [Nat.add_assoc] at this
                exact this
              have HPI2 : Hid (PIs (nextFP 8 P.s P L) s z rd c) := HE.out.pi.next _ _ _
              clear hlt3
              generalize ansF 8 P.s P b L = kk at *
              generalize errF 8 P.s P b L = ee at *
              generalize valF 8 P.s P b L = vv at *
              generalize accF 8 P.s P b = gg at *
              generalize nextFL 8 P.s P b L 1 = L2 at *
              generalize nextFB 8 P.s P b L = b2 at *
              generalize nextFN 8 P.s P b L k = k2 at *
              generalize nextFP 8 P.s P L = P2 at *
              rcases hcs with ⟨rfl, heo⟩ | ⟨rfl, rfl, rfl⟩ | ⟨rfl, rfl, hfar⟩ | ⟨rfl, rfl, rfl, hfar⟩
              · have HEO : Hid (EOk L2 g P2 b2 k2 (q + 1) V) := heo
                clear heo
                go_wp2_with fail
                refine HT.out.mono ?_
                rintro e y9 ⟨rfl, h9⟩
                have HW9 : Hid (KW w (y9.alloc (.cells #[.int .i64 2, .int .i64 ee, .int .i64 vv, .bool gg] 49)) bs (.pointer (some ⟨M, 0, none⟩)) L2 X Gk g P2 b2 [(y9.heap.size, ansOW 2 ee vv gg)]) := h9.more _
                clear h9
                obtain ⟨⟨a0, a1, a2, a3⟩, _⟩ := ansW_cells (k := 2) (e := ee) (v := vv) (y := gg) (HW9.out.row (B := y9.heap.size) (o := ansOW 2 ee vv gg) (by simp))
                go_wp2
                go_roundw
                case rel => exact ⟨q + 1, L2, P2, b2, k2, HMS.out.1, by rw [hw1]; go_num, HW9.out.less (fun z hz => by simp at hz), HRO2.out, HEO.out, HPI2.out⟩
                case measure => rw [hw1]; simp [intOf]; exact HMS.out.2
              · go_wp2_with fail
                refine HT.out.mono ?_
                rintro e y9 ⟨rfl, h9⟩
                have HW9 : Hid (KW w (y9.alloc (.cells #[.int .i64 3, .int .i64 ee, .int .i64 vv, .bool gg] 49)) bs (.pointer (some ⟨M, 0, none⟩)) L2 X Gk g P2 b2 [(y9.heap.size, ansOW 3 ee vv gg)]) := h9.more _
                clear h9
                obtain ⟨⟨a0, a1, a2, a3⟩, _⟩ := ansW_cells (k := 3) (e := ee) (v := vv) (y := gg) (HW9.out.row (B := y9.heap.size) (o := ansOW 3 ee vv gg) (by simp))
                have f1 : (vv == vv) = true := by simp
                go_wp2
                first | (go_ret; exact ⟨rfl, HW9.out.bel⟩) | (go_quiet (fail); go_wp2; go_ret; exact ⟨rfl, below_drawn HW9.out.bel _⟩)
              · have f1 : decide ((s : Int) < (g.l.length : Int) - z) = true := decide_eq_true (e_far hfar)
                have f2 : (s : Int) < (g.l.length : Int) - z := e_far hfar
                clear hfar
                go_wp2_with fail
                refine HT.out.mono ?_
                rintro e y9 ⟨rfl, h9⟩
                have HW9 : Hid (KW w (y9.alloc (.cells #[.int .i64 4, .int .i64 4, .int .i64 vv, .bool gg] 49)) bs (.pointer (some ⟨M, 0, none⟩)) L2 X Gk g P2 b2 [(y9.heap.size, ansOW 4 4 vv gg)]) := h9.more _
                clear h9
                obtain ⟨⟨a0, a1, a2, a3⟩, _⟩ := ansW_cells (k := 4) (e := 4) (v := vv) (y := gg) (HW9.out.row (B := y9.heap.size) (o := ansOW 4 4 vv gg) (by simp))
                go_wp2
                first | (go_ret; exact ⟨rfl, HW9.out.bel⟩) | (go_quiet (fail); go_wp2; go_ret; exact ⟨rfl, below_drawn HW9.out.bel _⟩)
              · have f1 : decide ((s : Int) < (g.l.length : Int) - z) = false := decide_eq_false (e_near hfar)
                have f2 : ¬ ((s : Int) < (g.l.length : Int) - z) := e_near hfar
                clear hfar
                go_wp2_with fail
                refine HT.out.mono ?_
                rintro e y9 ⟨rfl, h9⟩
                have HW9 : Hid (KW w (y9.alloc (.cells #[.int .i64 4, .int .i64 3, .int .i64 vv, .bool gg] 49)) bs (.pointer (some ⟨M, 0, none⟩)) L2 X Gk g P2 b2 [(y9.heap.size, ansOW 4 3 vv gg)]) := h9.more _
                clear h9
                obtain ⟨⟨a0, a1, a2, a3⟩, _⟩ := ansW_cells (k := 4) (e := 3) (v := vv) (y := gg) (HW9.out.row (B := y9.heap.size) (o := ansOW 4 3 vv gg) (by simp))
                go_wp2
                first | (go_ret; exact ⟨rfl, HW9.out.bel⟩) | (go_quiet (fail); go_wp2; go_ret; exact ⟨rfl, below_drawn HW9.out.bel _⟩)
end Go.Proofs.Ytcbcjliekbphmaa
