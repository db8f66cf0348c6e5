/- FetchTells walked. (Printed by tools/ftt.py.) -/
import Derived.Test.YtcbcjliekbphmaaFtW
import Derived.Test.YtcbcjliekbphmaaGroH
namespace Go.Proofs.Ytcbcjliekbphmaa
open Go.ChangeShapes Go.WideShapes Go.ChangeAt Go.RowKit
attribute [local go_sem ↓] Go.wp_at_zero Go.wp_at_succ

/-- A ring and what its cells hold, behind q acts. -/
structure RC (L : List Ac) (g : GR) (s q : Nat) : Prop where
  ro : RingOk L g s q
  gc : Gc (wordOf L) g
theorem rc_act {L : List Ac} {g : GR} {s q : Nat} (h : RC L g s q) (hq : q ≤ 2097152) (k : Int) (S : List Wt) : RC (actS 8 k S (g, L)).2 (actS 8 k S (g, L)).1 s (q + 1) := ⟨(ringOk_act h.ro hq k S).1, (gc_act (s := (g, L)) h.gc h.ro.gok).1⟩
theorem ofAll_one (a : Int) : Sg.ofAll [a] = Sg.put Sg.nought (Sg.sigN a) := by
  unfold Sg.ofAll
  rw [List.foldl_cons, List.foldl_nil]
theorem ofAll_two (a b : Int) : Sg.ofAll [a, b] = Sg.put (Sg.ofAll [a]) (Sg.sigN b) := by
  unfold Sg.ofAll
  rw [List.foldl_cons, List.foldl_cons, List.foldl_cons, List.foldl_nil, List.foldl_nil]
theorem newP_is (s : Nat) (z : Int) (rd : List Nat) (c : Int) : (newP s z rd c).s = s ∧ (newP s z rd c).z = z ∧ (newP s z rd c).rd = Sg.put rd (Sg.sigN c) ∧ (newP s z rd c).cell = c ∧ (newP s z rd c).last = true ∧ (newP s z rd c).read = false := ⟨rfl, rfl, rfl, rfl, rfl, rfl⟩
theorem tok_new {L : List Ac} {g : GR} {s nf : Nat} {old c : Int} (h : RC L g s nf) (hnf : nf ≤ 1048576) (h0 : 0 ≤ c) (h8 : c < 8) : TOk L g (newP s (g.done : Int) (Sg.ofAll [old]) c) (ckNew (newP s (g.done : Int) (Sg.ofAll [old]) c)) 0 old (valueV g old (g.done : Int)) := by
  have h1 := h.ro.many
  have h2 := h.ro.gok.da
  have h3 := h.ro.gok.an
  have ho : Sg.Ok (Sg.ofAll [old]) := Sg.ok_ofAll _
  have ho2 : Sg.Ok (Sg.put (Sg.ofAll [old]) (Sg.sigN c)) := Sg.ok_put ho _ (Sg.sigN_lt _)
  have hb : Sg.bit (Sg.ofAll [old]) (Sg.sigN old) = true := by
    rw [ofAll_one, Sg.bit_put Sg.ok_nought _ _ (Sg.sigN_lt _)]; simp
  obtain ⟨p1, p2, p3, p4, p5, p6⟩ := newP_is s (g.done : Int) (Sg.ofAll [old]) c
  have hst : (ckNew (newP s (g.done : Int) (Sg.ofAll [old]) c)).st = 0 := rfl
  generalize newP s (g.done : Int) (Sg.ofAll [old]) c = P at *
  have hok : POk P := ⟨by rw [p1]; have := h.ro.gok.s1; have := h.ro.size; omega, by rw [p1]; have := h.ro.gok.s16; have := h.ro.size; omega, by rw [p2]; omega, by rw [p2]; omega, by rw [p3]; exact ho2⟩
  refine ⟨kok_new hok, ⟨by rw [p2]; exact Int.le_refl _, by rw [p1]; exact h.ro.size.symm, p5, Or.inl hst⟩, h.gc, fun _ => hst, by rw [p4]; exact h0, by rw [p4]; exact h8, by rw [p2], ?_, ?_, fun e => by rw [p6] at e; simp at e⟩
  · rw [p3, Sg.bit_put ho _ _ (Sg.sigN_lt _), hb]; rfl
  · rw [p3, p4, Sg.bit_put ho _ _ (Sg.sigN_lt _)]; simp
theorem t_fit {z0 nf : Nat} {g : GR} {L : List Ac} {s : Nat} (h : RingOk L g s nf) (hn : nf ≤ 1048576) (hz : z0 = g.done) : z0 ≤ 1048576 := by
  have h1 := h.many; have h2 := h.gok.da; have h3 := h.gok.an; omega
set_option maxRecDepth 100000 in
set_option maxHeartbeats 6400000 in
theorem tells_walk (w : World) (raw ahead cell : Int) (vf vl : Value) (S1 S2 : List Tn) (hvf : TnLst w vf S1) (hvl : TnLst w vl S2) :
    Calls Try.prog 4 #[.agg #[.int .i64 raw, .int .i64 ahead, .int .i64 cell, vf, vl]] w fun e w' => e = .returned (.bool true) ∧ Below w.heap.size w w' := by
  have HS : Hid (∀ w : World, Calls Try.prog 6 #[] w fun e w' => e = .returned (.bool true) ∧ Below w.heap.size w w') := fshown_any
  obtain ⟨s, hs1, hs16, hse⟩ : ∃ s : Nat, 1 ≤ s ∧ s ≤ 16 ∧ raw % 16 = (s : Int) - 1 := ⟨(raw % 16 + 1).toNat, by omega, by omega, by omega⟩
  have HP : Hid (∀ w : World, Calls Try.prog 20 #[.int .i64 raw, .int .i64 16] w fun e w' => e = .returned (.int .i64 ((s : Int) - 1)) ∧ w' = w) := fun w => by rw [← hse]; exact gpick_any raw 16 (by decide) (by decide) w
  obtain ⟨old, hold⟩ : ∃ old : Int, old = ahead % 8 := ⟨_, rfl⟩
  obtain ⟨c, hc0, hc8, hcc⟩ : ∃ c : Int, 0 ≤ c ∧ c < 8 ∧ c = cell % 8 := ⟨_, by omega, by omega, rfl⟩
  have HPO : Hid (∀ w : World, Calls Try.prog 20 #[.int .i64 ahead, .int .i64 8] w fun e w' => e = .returned (.int .i64 old) ∧ w' = w) := fun w => by rw [hold]; exact gpick_any ahead 8 (by decide) (by decide) w
  have HPC : Hid (∀ w : World, Calls Try.prog 20 #[.int .i64 cell, .int .i64 8] w fun e w' => e = .returned (.int .i64 c) ∧ w' = w) := fun w => by rw [hcc]; exact gpick_any cell 8 (by decide) (by decide) w
  have HCC : Hid (0 ≤ c ∧ c < 8) := ⟨hc0, hc8⟩
  have HN : Hid (∀ w : World, Calls Try.prog 10 #[.int .i64 8, .int .i64 (s : Int)] w fun e w' => ∃ p F, e = .returned (.tuple #[p, .int .i64 0]) ∧ p ≠ .pointer none ∧ MemAt w' w.heap.size p 8 s [] F ∧ Below w.heap.size w w') := fun w => new_yes w 8 s (by decide) ⟨hs1, hs16⟩
  obtain ⟨fa, fcap, rfl, hbig1, hl1⟩ := hvf
  obtain ⟨la, lcap, rfl, hbig2, hl2⟩ := hvl
  have HC1 := z_turn hl1
  have HC2 := z_turn hl2
  have HD1 : Hid (∀ q, q < S1.length → ∃ x, fa = some x ∧ x.block < w.heap.size ∧ w.cell? (x.add (q * 2)) = some (.int .i64 (S1.getD q noTn).k) ∧ ∃ u, w.cell? ((x.add (q * 2)).add 1) = some u ∧ WLst w u (S1.getD q noTn).l) := HC1
  have HD2 : Hid (∀ q, q < S2.length → ∃ x, la = some x ∧ x.block < w.heap.size ∧ w.cell? (x.add (q * 2)) = some (.int .i64 (S2.getD q noTn).k) ∧ ∃ u, w.cell? ((x.add (q * 2)).add 1) = some u ∧ WLst w u (S2.getD q noTn).l) := HC2
  clear hl1 hl2 HC1 HC2 hse hold hcc
  generalize hn1 : S1.length = n1 at *
  generalize hn2 : S2.length = n2 at *
  clear hn1 hn2
  have HBG : Hid (n1 ≤ 1048576 ∧ n2 ≤ 1048576 ∧ 1 ≤ s ∧ s ≤ 16) := ⟨hbig1, hbig2, hs1, hs16⟩
  have w1b : 1 + ((s : Int) - 1) = (s : Int) := by omega
  have w1c : wrap64 (s : Int) = (s : Int) := z_wrap (by omega) (by omega)
  have w1 : wrap64 (1 + ((s : Int) - 1)) = (s : Int) := by rw [w1b, w1c]
  clear hbig1 hbig2 hc0 hc8
  have HO1 : Hid (∀ (w : World) (v : Value), Sg.Lst w v [old] → Calls Try.prog 23 #[v] w fun e w' => e = .returned (.agg #[rdV (Sg.ofAll [old]) 0, rdV (Sg.ofAll [old]) 1, rdV (Sg.ofAll [old]) 2, rdV (Sg.ofAll [old]) 3, rdV (Sg.ofAll [old]) 4, rdV (Sg.ofAll [old]) 5, rdV (Sg.ofAll [old]) 6, rdV (Sg.ofAll [old]) 7]) ∧ Below w.heap.size w w') := fun w v h => by
    have := Sg.rof_any w v [old] h
    rw [rd_cells (Sg.ok_ofAll [old]).1]; exact this
  have HO2 : Hid (∀ (w : World) (v : Value), Sg.Lst w v [old, c] → Calls Try.prog 23 #[v] w fun e w' => e = .returned (.agg #[rdV (Sg.ofAll [old, c]) 0, rdV (Sg.ofAll [old, c]) 1, rdV (Sg.ofAll [old, c]) 2, rdV (Sg.ofAll [old, c]) 3, rdV (Sg.ofAll [old, c]) 4, rdV (Sg.ofAll [old, c]) 5, rdV (Sg.ofAll [old, c]) 6, rdV (Sg.ofAll [old, c]) 7]) ∧ Below w.heap.size w w') := fun w v h => by
    have := Sg.rof_any w v [old, c] h
    rw [rd_cells (Sg.ok_ofAll [old, c]).1]; exact this
  have HFN : Hid (∀ (z : Nat) (w : World), z ≤ 1048576 → Calls Try.prog 7 #[.int .i64 (s : Int), .int .i64 (z : Int), .agg #[rdV (Sg.ofAll [old]) 0, rdV (Sg.ofAll [old]) 1, rdV (Sg.ofAll [old]) 2, rdV (Sg.ofAll [old]) 3, rdV (Sg.ofAll [old]) 4, rdV (Sg.ofAll [old]) 5, rdV (Sg.ofAll [old]) 6, rdV (Sg.ofAll [old]) 7], .int .i64 c] w fun e w' => ∃ X, e = .returned (.tuple #[.pointer (some ⟨X, 0, none⟩), .int .i64 0]) ∧ w.heap.size ≤ X ∧ KAt w' X (newP s (z : Int) (Sg.ofAll [old]) c) (ckNew (newP s (z : Int) (Sg.ofAll [old]) c)) ∧ Below w.heap.size w w') := fun z w hz =>
    fnew_yes w HBG.out.2.2.1 HBG.out.2.2.2 (by omega) (by omega) (Sg.ok_ofAll [old]) HCC.out.1 (by have := HCC.out.2; omega)
  have HRD : Hid (∀ z : Int, (newP s z (Sg.ofAll [old]) c).rd = Sg.ofAll [old, c]) := fun z => by rw [ofAll_two]; exact (newP_is s z _ c).2.2.1
  have HOF : Hid (Sg.Ok (Sg.ofAll [old, c])) := Sg.ok_ofAll _
  have HSH : Hid (∀ (w' : World) (L : List Ac) (X Gk bs M : Nat) (g : GR) (C : Cp) (b : Ck) (R : List (Nat × Obj)), KW w w' bs (.pointer (some ⟨M, 0, none⟩)) L X Gk g C b R → GOk g → ∀ x y, Calls Try.prog 24 #[.pointer (some ⟨Gk, 0, none⟩), .int .i64 x, .int .i64 y, .agg #[rdV (Sg.ofAll [old, c]) 0, rdV (Sg.ofAll [old, c]) 1, rdV (Sg.ofAll [old, c]) 2, rdV (Sg.ofAll [old, c]) 3, rdV (Sg.ofAll [old, c]) 4, rdV (Sg.ofAll [old, c]) 5, rdV (Sg.ofAll [old, c]) 6, rdV (Sg.ofAll [old, c]) 7]] w' fun e w'' => e = .returned (.bool (sharesV g x y (Sg.ofAll [old, c]))) ∧ KW w w'' bs (.pointer (some ⟨M, 0, none⟩)) L X Gk g C b R) := fun w' L X Gk bs M g C b R h hk x y => kw_shares h hk x y _ HOF.out
  generalize Sg.ofAll [old, c] = rd at *
  have HNP : Hid (∀ z : Int, PIs (newP s z (Sg.ofAll [old]) c) s z rd c) := fun z => ⟨(newP_is s z _ c).1, (newP_is s z _ c).2.1, HRD.out z, (newP_is s z _ c).2.2.2.1⟩
  have HTN : Hid (∀ (L : List Ac) (g : GR) (nf : Nat), RC L g s nf → nf ≤ 1048576 → TOk L g (newP s (g.done : Int) (Sg.ofAll [old]) c) (ckNew (newP s (g.done : Int) (Sg.ofAll [old]) c)) 0 old (valueV g old (g.done : Int))) := fun L g nf h hn => tok_new h hn HCC.out.1 HCC.out.2
  clear HRD HOF
  unfold rdV at HO1 HO2 HFN HSH
  generalize Sg.ofAll [old] = rd1 at *
  generalize rd.getD 0 0 = jj0 at *
  generalize rd.getD 1 0 = jj1 at *
  generalize rd.getD 2 0 = jj2 at *
  generalize rd.getD 3 0 = jj3 at *
  generalize rd.getD 4 0 = jj4 at *
  generalize rd.getD 5 0 = jj5 at *
  generalize rd.getD 6 0 = jj6 at *
  generalize rd.getD 7 0 = jj7 at *
  generalize rd1.getD 0 0 = m0 at *
  generalize rd1.getD 1 0 = m1 at *
  generalize rd1.getD 2 0 = m2 at *
  generalize rd1.getD 3 0 = m3 at *
  generalize rd1.getD 4 0 = m4 at *
  generalize rd1.getD 5 0 = m5 at *
  generalize rd1.getD 6 0 = m6 at *
  generalize rd1.getD 7 0 = m7 at *
  go_enter Try.func4, Try.ntmps4
  go_wp2_with fail
  refine (HS.out _).mono ?_
  rintro e y1 ⟨rfl, hb1⟩
  have HB1 : Hid (Below w.heap.size w y1) := by first | exact hb1 | exact below_then (below_a1 _ _) hb1
  clear hb1
  go_wp2_with fail
  refine (HP.out _).mono ?_
  rintro e y2 ⟨rfl, rfl⟩
  clear hs1 hs16
  go_wp2_with fail
  refine (HN.out _).mono ?_
  rintro e y3 ⟨p, F3, rfl, _, hm3, hb3⟩
  obtain ⟨M, rfl⟩ := hm3.ptr
  have HE3 : Hid (FW w (y3.alloc (.cells #[.int .i64 (s : Int), .slice none 0 0, .int .i64 0, .int .i64 0] 67)) y2.heap.size (.pointer (some ⟨M, 0, none⟩)) [] y3.heap.size ⟨s, [], 0, 0⟩ ∧ RC [] ⟨s, [], 0, 0⟩ s 0) :=
    ⟨fw_new (below_then HB1.out hb3) hm3 HB1.out.size hb3.size, ⟨⟨HBG.out.2.2.1, HBG.out.2.2.2, Nat.le_refl _, Nat.le_refl _, by simp⟩, gz_zero s, gs_zero s, rfl, by simp, by simp⟩, gc_zero s⟩
  clear hm3 hb3
  go_wp2
  generalize y2.heap.size = bs at HE3 ⊢
  generalize y3.heap.size = Gk at HE3 ⊢
  go_loopw [13] (fun iv wr => ∃ (q : Nat) (L : List Ac) (g : GR), q ≤ n1 ∧ iv = .int .i64 q ∧ FW w wr bs (.pointer (some ⟨M, 0, none⟩)) L Gk g ∧ RC L g s q) (fun iv _ => n1 - (intOf iv).toNat)
  case atStart => exact ⟨0, [], ⟨s, [], 0, 0⟩, Nat.zero_le _, rfl, HE3.out.1, HE3.out.2⟩
  case round =>
    obtain ⟨q, L, g, hq, rfl, hfw, hro⟩ := hrel
    have HE : Hid (FW w wr bs (.pointer (some ⟨M, 0, none⟩)) L Gk g ∧ RC L g s q) := ⟨hfw, hro⟩
    clear hfw hro HE3
    by_cases hlt : q < n1
    · obtain ⟨x, rfl, hxb, c0, u, c1, hu⟩ := HD1.out q hlt
      have hbel := HE.out.1.bel
      replace c0 := cell_later hbel (by rw [add_block]; exact hxb) c0
      replace c1 := cell_later hbel (by rw [add_block, add_block]; exact hxb) c1
      rw [add_pos' _ _ (by decide)] at c1
      have d1 : decide ((q : Int) < (n1 : Int)) = true := decide_eq_true (Int.ofNat_lt.2 hlt)
      have hx1 : (q : Int) < (n1 : Int) := Int.ofNat_lt.2 hlt
      have hw1 : wrap64 ((q : Int) + 1) = (q : Int) + 1 := z_w1 hlt HBG.out.1
      have HU : Hid (∀ w', Below w.heap.size w w' → WLst w' u (S1.getD q noTn).l) := fun w' hb => hu.later hb rfl
      obtain ⟨ua, ucap, rfl, _⟩ := hu
      clear hbel
      generalize (S1.getD q noTn).l.length = nu at *
      generalize (S1.getD q noTn).l = Wl at *
      generalize (S1.getD q noTn).k = kd at *
      have HAC : Hid (∀ w', FW w w' bs (.pointer (some ⟨M, 0, none⟩)) L Gk g → Calls Try.prog 21 #[.pointer (some ⟨Gk, 0, none⟩), (.pointer (some ⟨M, 0, none⟩)), .int .i64 kd, .slice ua nu ucap] w' fun e w'' => e = .returned (.tuple #[]) ∧ ∃ L2 g2, FW w w'' bs (.pointer (some ⟨M, 0, none⟩)) L2 Gk g2 ∧ RC L2 g2 s (q + 1)) := fun w' h => by
        have hle := HE.out.2.ro.len
        have hbg := HBG.out
        refine (fw_act h (by omega) HE.out.2.ro.gok kd (.slice ua nu ucap) Wl (HU.out _ h.bel)).mono ?_
        rintro e w'' ⟨rfl, h2⟩
        exact ⟨rfl, _, _, h2, rc_act HE.out.2 (by omega) kd Wl⟩
      have HWR := HE.out.1.later (below_drawn (Below.refl wr.heap.size wr) 1)
      go_wp2_with fail
      go_region_with ((go_at_call 21; refine (HAC.out _ HWR).mono ?_; rintro e y6 ⟨rfl, h6⟩))
      all_goals
        have HW6 : Hid (∃ L2 g2, FW w y6 bs (.pointer (some ⟨M, 0, none⟩)) L2 Gk g2 ∧ RC L2 g2 s (q + 1)) := h6
        clear h6 c0 c1
        go_wp2
        go_roundw
        case rel =>
          obtain ⟨L2, g2, h7, h8⟩ := HW6.out
          exact ⟨q + 1, L2, g2, hlt, by rw [hw1]; go_num, h7, h8⟩
        case measure => rw [hw1]; simp [intOf]; exact z_meas hlt
    · obtain rfl : q = n1 := by omega
      have d1 : decide ((q : Int) < (q : Int)) = false := by simp
      have HFW : Hid (FW w wr bs (.pointer (some ⟨M, 0, none⟩)) L Gk g) := HE.out.1
      have g3 := HFW.out.cells
      obtain ⟨nf, HNF, HRO2⟩ : ∃ nf, Hid (nf ≤ 1048576) ∧ Hid (RC L g s nf) := ⟨q, HBG.out.1, HE.out.2⟩
      clear HE hq hlt
      obtain ⟨z0, hz0⟩ : ∃ z0, z0 = g.done := ⟨_, rfl⟩
      rw [← hz0] at g3
      have HTK : Hid (TOk L g (newP s (z0 : Int) rd1 c) (ckNew (newP s (z0 : Int) rd1 c)) 0 old (valueV g old (z0 : Int))) := by rw [hz0]; exact HTN.out L g nf HRO2.out HNF.out
      have HZB : Hid (z0 ≤ 1048576) := t_fit HRO2.out.ro HNF.out hz0
      have HVV : Hid (∀ w', FW w w' bs (.pointer (some ⟨M, 0, none⟩)) L Gk g → Calls Try.prog 22 #[.pointer (some ⟨Gk, 0, none⟩), .int .i64 old, .int .i64 (z0 : Int)] w' fun e w'' => e = .returned (.int .i64 (valueV g old (z0 : Int))) ∧ FW w w'' bs (.pointer (some ⟨M, 0, none⟩)) L Gk g) := fun w' h => fw_value h HRO2.out.ro.gok old (z0 : Int)
      clear hz0
      generalize valueV g old (z0 : Int) = held at *
      go_wp2_with fail
      refine (HPO.out _).mono ?_
      rintro e y4 ⟨rfl, rfl⟩
      go_wp2_with fail
      refine (HPC.out _).mono ?_
      rintro e y5 ⟨rfl, rfl⟩
      go_wp2_with fail
      refine (HVV.out _ HFW.out).mono ?_
      rintro e y6 ⟨rfl, h6⟩
      have HF6 : Hid (FW w y6 bs (.pointer (some ⟨M, 0, none⟩)) L Gk g) := h6
      clear h6 g3
      go_wp2_with fail
      refine (HO1.out _ _ (lst1 y6 old)).mono ?_
      rintro e y7 ⟨rfl, hb7⟩
      have HF7 : Hid (FW w y7 bs (.pointer (some ⟨M, 0, none⟩)) L Gk g) := HF6.out.later (below_then (below_a1 _ _) hb7)
      clear hb7
      go_wp2_with fail
      refine (HFN.out z0 _ HZB.out).mono ?_
      rintro e y8 ⟨X, rfl, hX8, hx8, hb8⟩
      have HK8 : Hid (KW w y8 bs (.pointer (some ⟨M, 0, none⟩)) L X Gk g (newP s (z0 : Int) rd1 c) (ckNew (newP s (z0 : Int) rd1 c)) []) := kw_new0 HF7.out hb8 hX8 hx8
      have HPI : Hid (PIs (newP s (z0 : Int) rd1 c) s (z0 : Int) rd c) := HNP.out _
      clear hX8 hx8 hb8 HF7 HF6 HFW
      generalize newP s (z0 : Int) rd1 c = P0 at *
      go_wp2
      go_loopw [20] (fun iv wr => ∃ (q : Nat) (L : List Ac) (g : GR) (P : Cp) (b : Ck) (k : Nat), q ≤ n2 ∧ iv = .int .i64 q ∧ KW w wr bs (.pointer (some ⟨M, 0, none⟩)) L X Gk g P b [] ∧ RingOk L g s (nf + q) ∧ TOk L g P b k old held ∧ PIs P s (z0 : Int) rd c) (fun iv _ => n2 - (intOf iv).toNat)
      case atStart => exact ⟨0, L, g, P0, _, 0, Nat.zero_le _, rfl, HK8.out, HRO2.out.ro, HTK.out, HPI.out⟩
      case round =>
        obtain ⟨q, L, g, P, b, k, hq, rfl, hkw, hro, hto, hpi⟩ := hrel
        have HE : Hid (KW w wr bs (.pointer (some ⟨M, 0, none⟩)) L X Gk g P b [] ∧ RingOk L g s (nf + q) ∧ TOk L g P b k old held ∧ PIs P s (z0 : Int) rd c) := ⟨hkw, hro, hto, hpi⟩
        clear hkw hro hto hpi HK8 HRO2 HTK HPI
        by_cases hlt : q < n2
        · obtain ⟨x, rfl, hxb, c0, u, c1, hu⟩ := HD2.out q hlt
          have hbel := HE.out.1.bel
          replace c0 := cell_later hbel (by rw [add_block]; exact hxb) c0
          replace c1 := cell_later hbel (by rw [add_block, add_block]; exact hxb) c1
          rw [add_pos' _ _ (by decide)] at c1
          have d1 : decide ((q : Int) < (n2 : Int)) = true := decide_eq_true (Int.ofNat_lt.2 hlt)
          have hx1 : (q : Int) < (n2 : Int) := Int.ofNat_lt.2 hlt
          have hw1 : wrap64 ((q : Int) + 1) = (q : Int) + 1 := z_w1 hlt HBG.out.2.1
          have HU : Hid (∀ w', Below w.heap.size w w' → WLst w' u (S2.getD q noTn).l) := fun w' hb => hu.later hb rfl
          obtain ⟨ua, ucap, rfl, _⟩ := hu
          clear hbel
          generalize (S2.getD q noTn).l.length = nu at *
          generalize (S2.getD q noTn).l = Wl at *
          generalize (S2.getD q noTn).k = kd at *
          have HQL : Hid (nf + q ≤ 2097152 ∧ L.length < 3298534882000) := by
            have h1 := HNF.out; have h2 := HBG.out.2.1; have h3 := HE.out.2.1.len; rw [Hid]; omega
          by_cases hk0 : kd = 0
          · subst hk0
            obtain ⟨hso2, hcs, hend⟩ := tok_step HE.out.2.2.1 HE.out.2.1 HE.out.1.okS
            have hpis := HE.out.2.2.2
            rw [hpis.z, hpis.rd] at hcs
            rw [hpis.c] at hend
            have HT : Hid (Calls Try.prog 15 #[.pointer (some ⟨X, 0, none⟩), (.pointer (some ⟨M, 0, none⟩)), .int .i64 1] wr fun e w' => e = .returned (.agg #[.int .i64 (ansF 8 P.s P b L), .int .i64 (errF 8 P.s P b L), .int .i64 (valF 8 P.s P b L), .bool (accF 8 P.s P b)]) ∧ KW w w' bs (.pointer (some ⟨M, 0, none⟩)) (nextFL 8 P.s P b L 1) X Gk g (nextFP 8 P.s P L) (nextFB 8 P.s P b L) []) := by
              have h1 := HQL.out.2
              exact kw_fstep HE.out.1 HE.out.2.2.1.sf.sz (by omega) HE.out.2.2.1.ok HE.out.2.2.1.c0 (tok_w HE.out.2.2.1.ok HE.out.2.2.1.sf HE.out.2.1) 1
            have HRO2 : Hid (RingOk (nextFL 8 P.s P b L 1) g s (nf + (q + 1))) := by
              have := ringOk_loadF (P := P) (b := b) HE.out.2.1
              rw [Nat.add_assoc] at this
              exact this
            have HSO2 : Hid (TOk (nextFL 8 P.s P b L 1) g (nextFP 8 P.s P L) (nextFB 8 P.s P b L) (nextFN 8 P.s P b L k) old held ∧ PIs (nextFP 8 P.s P L) s (z0 : Int) rd c) := ⟨hso2, hpis.next _ _ _⟩
            have HGK : Hid (GOk g) := HE.out.2.1.gok
            have HGL : Hid (g.l.length ≤ 2097152 ∧ z0 ≤ 1048576) := ⟨Nat.le_trans HE.out.2.1.many HQL.out.1, HZB.out⟩
            clear hso2 hpis
            generalize ansF 8 P.s P b L = kk at *
            generalize errF 8 P.s P b L = ee at *
            generalize valF 8 P.s P b L = vv at *
            generalize accF 8 P.s P b = gg at *
            generalize nextFL 8 P.s P b L 1 = L2 at *
            generalize nextFB 8 P.s P b L = b2 at *
            generalize nextFN 8 P.s P b L k = k2 at *
            generalize nextFP 8 P.s P L = P2 at *
            have wl : wrap64 ((g.l.length : Int) - (z0 : Int)) = (g.l.length : Int) - (z0 : Int) := by have h1 := HGL.out; exact z_wrap (by omega) (by omega)
            obtain ⟨st', seen, stamp, word, comp, err⟩ := b2
            simp only at hcs hend
            rcases hcs with ⟨rfl, hsm, hst4⟩ | ⟨rfl, hsm, hst4⟩ | rfl
            · clear hend
              go_wp2_with fail
              refine HT.out.mono ?_
              rintro e y6 ⟨rfl, h6⟩
              have HW6 : Hid (KW w (y6.alloc (.cells #[.int .i64 kk, .int .i64 3, .int .i64 vv, .bool gg] 49)) bs (.pointer (some ⟨M, 0, none⟩)) L2 X Gk g P2 ⟨st', seen, stamp, word, comp, err⟩ [(y6.heap.size, ansOW kk 3 vv gg)]) := h6.more _
              clear h6 c0 c1
              obtain ⟨⟨ga, gcap, g1⟩, g3⟩ := HW6.out.cells
              go_wp2_with fail
              refine (HO2.out _ _ (lst2o y6 _ old c)).mono ?_
              rintro e y7 ⟨rfl, hb7⟩
              have HW7 : Hid (KW w (y7.alloc (.cells #[.int .u64 ((jj0 : Nat) : Int), .int .u64 ((jj1 : Nat) : Int), .int .u64 ((jj2 : Nat) : Int), .int .u64 ((jj3 : Nat) : Int), .int .u64 ((jj4 : Nat) : Int), .int .u64 ((jj5 : Nat) : Int), .int .u64 ((jj6 : Nat) : Int), .int .u64 ((jj7 : Nat) : Int)] 24)) bs (.pointer (some ⟨M, 0, none⟩)) L2 X Gk g P2 ⟨st', seen, stamp, word, comp, err⟩ [(y7.heap.size, .cells #[.int .u64 ((jj0 : Nat) : Int), .int .u64 ((jj1 : Nat) : Int), .int .u64 ((jj2 : Nat) : Int), .int .u64 ((jj3 : Nat) : Int), .int .u64 ((jj4 : Nat) : Int), .int .u64 ((jj5 : Nat) : Int), .int .u64 ((jj6 : Nat) : Int), .int .u64 ((jj7 : Nat) : Int)] 24 (0, 0)), (y6.heap.size, ansOW kk 3 vv gg)]) := (HW6.out.later (below_then (below_a1 _ _) hb7)).more _
              clear hb7 g1 g3
              obtain ⟨r0, r1, r2, r3, r4, r5, r6, r7⟩ := cells8 (HW7.out.row (B := y7.heap.size) (List.mem_cons.2 (Or.inl rfl)))
              go_wp2_with fail
              refine (HSH.out _ _ _ _ _ _ _ _ _ _ HW7.out HGK.out _ _).mono ?_
              rintro e y8 ⟨rfl, h8⟩
              have HW8 : Hid (KW w y8 bs (.pointer (some ⟨M, 0, none⟩)) L2 X Gk g P2 ⟨st', seen, stamp, word, comp, err⟩ [(y6.heap.size, ansOW kk 3 vv gg)]) := h8.less (fun z hz => by simp at hz; subst hz; simp)
              clear h8 r0 r1 r2 r3 r4 r5 r6 r7
              obtain ⟨⟨a0, a1, a2, a3⟩, _⟩ := ansW_cells (k := kk) (e := 3) (v := vv) (y := gg) (HW8.out.row (B := y6.heap.size) (o := ansOW kk 3 vv gg) (by simp))
              have HTS : Hid (∀ w', KW w w' bs (.pointer (some ⟨M, 0, none⟩)) L2 X Gk g P2 ⟨st', seen, stamp, word, comp, err⟩ [(y6.heap.size, ansOW kk 3 vv gg)] → Calls Try.prog 25 #[.pointer (some ⟨X, 0, none⟩)] w' fun e w'' => e = .returned (.tuple #[.int .i64 0, .int .i64 0, .bool false]) ∧ KW w w'' bs (.pointer (some ⟨M, 0, none⟩)) L2 X Gk g P2 ⟨st', seen, stamp, word, comp, err⟩ [(y6.heap.size, ansOW kk 3 vv gg)]) := fun w' h => by
                have := kw_fstart h
                simp only at this
                rw [if_neg hst4, if_neg hst4, decide_eq_false hst4] at this
                exact this
              go_wp2_with fail
              refine (HTS.out _ (HW8.out.later (by first | exact Below.refl _ _ | exact below_drawn (Below.refl _ _) _))).mono ?_
              rintro e y9 ⟨rfl, h9⟩
              have HW9 : Hid (KW w y9 bs (.pointer (some ⟨M, 0, none⟩)) L2 X Gk g P2 ⟨st', seen, stamp, word, comp, err⟩ [(y6.heap.size, ansOW kk 3 vv gg)]) := h9
              clear h9 a0 a1 a2 a3
              go_wp2
              go_roundw
              case rel => exact ⟨q + 1, L2, g, P2, ⟨st', seen, stamp, word, comp, err⟩, k2, hlt, by rw [hw1]; go_num, (HW9.out.later (by first | exact Below.refl _ _ | exact below_drawn (Below.refl _ _) _)).less (fun z hz => by simp at hz), HRO2.out, HSO2.out.1, HSO2.out.2⟩
              case measure => rw [hw1]; simp [intOf]; exact z_meas hlt
            · have q2 : decide ((g.l.length : Int) - (z0 : Int) ≤ (s : Int)) = false := decide_eq_false (by omega)
              clear hsm hend
              go_wp2_with fail
              refine HT.out.mono ?_
              rintro e y6 ⟨rfl, h6⟩
              have HW6 : Hid (KW w (y6.alloc (.cells #[.int .i64 kk, .int .i64 4, .int .i64 vv, .bool gg] 49)) bs (.pointer (some ⟨M, 0, none⟩)) L2 X Gk g P2 ⟨st', seen, stamp, word, comp, err⟩ [(y6.heap.size, ansOW kk 4 vv gg)]) := h6.more _
              clear h6 c0 c1
              obtain ⟨⟨ga, gcap, g1⟩, g3⟩ := HW6.out.cells
              go_wp2_with fail
              refine (HO2.out _ _ (lst2o y6 _ old c)).mono ?_
              rintro e y7 ⟨rfl, hb7⟩
              have HW7 : Hid (KW w (y7.alloc (.cells #[.int .u64 ((jj0 : Nat) : Int), .int .u64 ((jj1 : Nat) : Int), .int .u64 ((jj2 : Nat) : Int), .int .u64 ((jj3 : Nat) : Int), .int .u64 ((jj4 : Nat) : Int), .int .u64 ((jj5 : Nat) : Int), .int .u64 ((jj6 : Nat) : Int), .int .u64 ((jj7 : Nat) : Int)] 24)) bs (.pointer (some ⟨M, 0, none⟩)) L2 X Gk g P2 ⟨st', seen, stamp, word, comp, err⟩ [(y7.heap.size, .cells #[.int .u64 ((jj0 : Nat) : Int), .int .u64 ((jj1 : Nat) : Int), .int .u64 ((jj2 : Nat) : Int), .int .u64 ((jj3 : Nat) : Int), .int .u64 ((jj4 : Nat) : Int), .int .u64 ((jj5 : Nat) : Int), .int .u64 ((jj6 : Nat) : Int), .int .u64 ((jj7 : Nat) : Int)] 24 (0, 0)), (y6.heap.size, ansOW kk 4 vv gg)]) := (HW6.out.later (below_then (below_a1 _ _) hb7)).more _
              clear hb7 g1 g3
              obtain ⟨r0, r1, r2, r3, r4, r5, r6, r7⟩ := cells8 (HW7.out.row (B := y7.heap.size) (List.mem_cons.2 (Or.inl rfl)))
              go_wp2_with fail
              refine (HSH.out _ _ _ _ _ _ _ _ _ _ HW7.out HGK.out _ _).mono ?_
              rintro e y8 ⟨rfl, h8⟩
              have HW8 : Hid (KW w y8 bs (.pointer (some ⟨M, 0, none⟩)) L2 X Gk g P2 ⟨st', seen, stamp, word, comp, err⟩ [(y6.heap.size, ansOW kk 4 vv gg)]) := h8.less (fun z hz => by simp at hz; subst hz; simp)
              clear h8 r0 r1 r2 r3 r4 r5 r6 r7
              obtain ⟨⟨a0, a1, a2, a3⟩, _⟩ := ansW_cells (k := kk) (e := 4) (v := vv) (y := gg) (HW8.out.row (B := y6.heap.size) (o := ansOW kk 4 vv gg) (by simp))
              have HTS : Hid (∀ w', KW w w' bs (.pointer (some ⟨M, 0, none⟩)) L2 X Gk g P2 ⟨st', seen, stamp, word, comp, err⟩ [(y6.heap.size, ansOW kk 4 vv gg)] → Calls Try.prog 25 #[.pointer (some ⟨X, 0, none⟩)] w' fun e w'' => e = .returned (.tuple #[.int .i64 0, .int .i64 0, .bool false]) ∧ KW w w'' bs (.pointer (some ⟨M, 0, none⟩)) L2 X Gk g P2 ⟨st', seen, stamp, word, comp, err⟩ [(y6.heap.size, ansOW kk 4 vv gg)]) := fun w' h => by
                have := kw_fstart h
                simp only at this
                rw [if_neg hst4, if_neg hst4, decide_eq_false hst4] at this
                exact this
              go_wp2_with fail
              refine (HTS.out _ (HW8.out.later (by first | exact Below.refl _ _ | exact below_drawn (Below.refl _ _) _))).mono ?_
              rintro e y9 ⟨rfl, h9⟩
              have HW9 : Hid (KW w y9 bs (.pointer (some ⟨M, 0, none⟩)) L2 X Gk g P2 ⟨st', seen, stamp, word, comp, err⟩ [(y6.heap.size, ansOW kk 4 vv gg)]) := h9
              clear h9 a0 a1 a2 a3
              go_wp2
              go_roundw
              case rel => exact ⟨q + 1, L2, g, P2, ⟨st', seen, stamp, word, comp, err⟩, k2, hlt, by rw [hw1]; go_num, (HW9.out.later (by first | exact Below.refl _ _ | exact below_drawn (Below.refl _ _) _)).less (fun z hz => by simp at hz), HRO2.out, HSO2.out.1, HSO2.out.2⟩
              case measure => rw [hw1]; simp [intOf]; exact z_meas hlt
            · by_cases hst4 : st' = 4
              · subst hst4
                obtain ⟨hn1, hn2, hn3⟩ := hend rfl
                have p2 : decide (comp > (g.done : Int)) = false := decide_eq_false (by omega)
                clear hend hn3
                by_cases hk3 : kk = 3
                · subst hk3
                  have HVL : Hid (vv = valueV g c seen) := hn1 rfl
                  clear hn1
                  go_wp2_with fail
                  refine HT.out.mono ?_
                  rintro e y6 ⟨rfl, h6⟩
                  have HW6 : Hid (KW w (y6.alloc (.cells #[.int .i64 3, .int .i64 0, .int .i64 vv, .bool gg] 49)) bs (.pointer (some ⟨M, 0, none⟩)) L2 X Gk g P2 ⟨4, seen, stamp, word, comp, err⟩ [(y6.heap.size, ansOW 3 0 vv gg)]) := h6.more _
                  clear h6 c0 c1
                  obtain ⟨⟨ga, gcap, g1⟩, g3⟩ := HW6.out.cells
                  go_wp2_with fail
                  refine (HO2.out _ _ (lst2o y6 _ old c)).mono ?_
                  rintro e y7 ⟨rfl, hb7⟩
                  have HW7 : Hid (KW w (y7.alloc (.cells #[.int .u64 ((jj0 : Nat) : Int), .int .u64 ((jj1 : Nat) : Int), .int .u64 ((jj2 : Nat) : Int), .int .u64 ((jj3 : Nat) : Int), .int .u64 ((jj4 : Nat) : Int), .int .u64 ((jj5 : Nat) : Int), .int .u64 ((jj6 : Nat) : Int), .int .u64 ((jj7 : Nat) : Int)] 24)) bs (.pointer (some ⟨M, 0, none⟩)) L2 X Gk g P2 ⟨4, seen, stamp, word, comp, err⟩ [(y7.heap.size, .cells #[.int .u64 ((jj0 : Nat) : Int), .int .u64 ((jj1 : Nat) : Int), .int .u64 ((jj2 : Nat) : Int), .int .u64 ((jj3 : Nat) : Int), .int .u64 ((jj4 : Nat) : Int), .int .u64 ((jj5 : Nat) : Int), .int .u64 ((jj6 : Nat) : Int), .int .u64 ((jj7 : Nat) : Int)] 24 (0, 0)), (y6.heap.size, ansOW 3 0 vv gg)]) := (HW6.out.later (below_then (below_a1 _ _) hb7)).more _
                  clear hb7 g1 g3
                  obtain ⟨r0, r1, r2, r3, r4, r5, r6, r7⟩ := cells8 (HW7.out.row (B := y7.heap.size) (List.mem_cons.2 (Or.inl rfl)))
                  go_wp2_with fail
                  refine (HSH.out _ _ _ _ _ _ _ _ _ _ HW7.out HGK.out _ _).mono ?_
                  rintro e y8 ⟨rfl, h8⟩
                  have HW8 : Hid (KW w y8 bs (.pointer (some ⟨M, 0, none⟩)) L2 X Gk g P2 ⟨4, seen, stamp, word, comp, err⟩ [(y6.heap.size, ansOW 3 0 vv gg)]) := h8.less (fun z hz => by simp at hz; subst hz; simp)
                  clear h8 r0 r1 r2 r3 r4 r5 r6 r7
                  obtain ⟨⟨a0, a1, a2, a3⟩, _⟩ := ansW_cells (k := 3) (e := 0) (v := vv) (y := gg) (HW8.out.row (B := y6.heap.size) (o := ansOW 3 0 vv gg) (by simp))
                  have HTS : Hid (∀ w', KW w w' bs (.pointer (some ⟨M, 0, none⟩)) L2 X Gk g P2 ⟨4, seen, stamp, word, comp, err⟩ [(y6.heap.size, ansOW 3 0 vv gg)] → Calls Try.prog 25 #[.pointer (some ⟨X, 0, none⟩)] w' fun e w'' => e = .returned (.tuple #[.int .i64 comp, .int .i64 seen, .bool true]) ∧ KW w w'' bs (.pointer (some ⟨M, 0, none⟩)) L2 X Gk g P2 ⟨4, seen, stamp, word, comp, err⟩ [(y6.heap.size, ansOW 3 0 vv gg)]) := fun w' h => by
                    have := kw_fstart h
                    exact this
                  go_wp2_with fail
                  refine (HTS.out _ (HW8.out.later (by first | exact Below.refl _ _ | exact below_drawn (Below.refl _ _) _))).mono ?_
                  rintro e y9 ⟨rfl, h9⟩
                  have HW9 : Hid (KW w y9 bs (.pointer (some ⟨M, 0, none⟩)) L2 X Gk g P2 ⟨4, seen, stamp, word, comp, err⟩ [(y6.heap.size, ansOW 3 0 vv gg)]) := h9
                  clear h9 a0 a1 a2 a3
                  have HV1 : Hid (∀ w', KW w w' bs (.pointer (some ⟨M, 0, none⟩)) L2 X Gk g P2 ⟨4, seen, stamp, word, comp, err⟩ [(y6.heap.size, ansOW 3 0 vv gg)] → ∀ cl, Calls Try.prog 22 #[.pointer (some ⟨Gk, 0, none⟩), .int .i64 cl, .int .i64 seen] w' fun e w'' => e = .returned (.int .i64 (valueV g cl seen)) ∧ KW w w'' bs (.pointer (some ⟨M, 0, none⟩)) L2 X Gk g P2 ⟨4, seen, stamp, word, comp, err⟩ [(y6.heap.size, ansOW 3 0 vv gg)]) := fun w' h cl => kw_value h HGK.out cl seen
                  go_wp2_with fail
                  refine (HV1.out _ HW9.out _).mono ?_
                  rintro e y10 ⟨rfl, h10⟩
                  have HW10 : Hid (KW w y10 bs (.pointer (some ⟨M, 0, none⟩)) L2 X Gk g P2 ⟨4, seen, stamp, word, comp, err⟩ [(y6.heap.size, ansOW 3 0 vv gg)]) := h10
                  clear h10
                  go_wp2_with fail
                  refine (HV1.out _ HW10.out _).mono ?_
                  rintro e y11 ⟨rfl, h11⟩
                  have HW11 : Hid (KW w y11 bs (.pointer (some ⟨M, 0, none⟩)) L2 X Gk g P2 ⟨4, seen, stamp, word, comp, err⟩ [(y6.heap.size, ansOW 3 0 vv gg)]) := h11
                  clear h11
                  obtain ⟨⟨a0, a1, a2, a3⟩, _⟩ := ansW_cells (k := 3) (e := 0) (v := vv) (y := gg) (HW11.out.row (B := y6.heap.size) (o := ansOW 3 0 vv gg) (by simp))
                  obtain ⟨⟨ga, gcap, g1⟩, g3⟩ := HW11.out.cells
                  rw [hn2]
                  rw [← HVL.out]
                  have f1 : (vv != vv) = false := by simp
                  have f2 : (held != held) = false := by simp
                  go_wp2
                  try (go_quiet (fail); go_wp2)
                  go_roundw
                  case rel => exact ⟨q + 1, L2, g, P2, ⟨4, seen, stamp, word, comp, err⟩, k2, hlt, by rw [hw1]; go_num, (HW11.out.later (by first | exact Below.refl _ _ | exact below_drawn (Below.refl _ _) _)).less (fun z hz => by simp at hz), HRO2.out, HSO2.out.1, HSO2.out.2⟩
                  case measure => rw [hw1]; simp [intOf]; exact z_meas hlt
                · have q3 : (kk == 3) = false := by simpa using hk3
                  clear hn1 hk3
                  go_wp2_with fail
                  refine HT.out.mono ?_
                  rintro e y6 ⟨rfl, h6⟩
                  have HW6 : Hid (KW w (y6.alloc (.cells #[.int .i64 kk, .int .i64 0, .int .i64 vv, .bool gg] 49)) bs (.pointer (some ⟨M, 0, none⟩)) L2 X Gk g P2 ⟨4, seen, stamp, word, comp, err⟩ [(y6.heap.size, ansOW kk 0 vv gg)]) := h6.more _
                  clear h6 c0 c1
                  obtain ⟨⟨ga, gcap, g1⟩, g3⟩ := HW6.out.cells
                  go_wp2_with fail
                  refine (HO2.out _ _ (lst2o y6 _ old c)).mono ?_
                  rintro e y7 ⟨rfl, hb7⟩
                  have HW7 : Hid (KW w (y7.alloc (.cells #[.int .u64 ((jj0 : Nat) : Int), .int .u64 ((jj1 : Nat) : Int), .int .u64 ((jj2 : Nat) : Int), .int .u64 ((jj3 : Nat) : Int), .int .u64 ((jj4 : Nat) : Int), .int .u64 ((jj5 : Nat) : Int), .int .u64 ((jj6 : Nat) : Int), .int .u64 ((jj7 : Nat) : Int)] 24)) bs (.pointer (some ⟨M, 0, none⟩)) L2 X Gk g P2 ⟨4, seen, stamp, word, comp, err⟩ [(y7.heap.size, .cells #[.int .u64 ((jj0 : Nat) : Int), .int .u64 ((jj1 : Nat) : Int), .int .u64 ((jj2 : Nat) : Int), .int .u64 ((jj3 : Nat) : Int), .int .u64 ((jj4 : Nat) : Int), .int .u64 ((jj5 : Nat) : Int), .int .u64 ((jj6 : Nat) : Int), .int .u64 ((jj7 : Nat) : Int)] 24 (0, 0)), (y6.heap.size, ansOW kk 0 vv gg)]) := (HW6.out.later (below_then (below_a1 _ _) hb7)).more _
                  clear hb7 g1 g3
                  obtain ⟨r0, r1, r2, r3, r4, r5, r6, r7⟩ := cells8 (HW7.out.row (B := y7.heap.size) (List.mem_cons.2 (Or.inl rfl)))
                  go_wp2_with fail
                  refine (HSH.out _ _ _ _ _ _ _ _ _ _ HW7.out HGK.out _ _).mono ?_
                  rintro e y8 ⟨rfl, h8⟩
                  have HW8 : Hid (KW w y8 bs (.pointer (some ⟨M, 0, none⟩)) L2 X Gk g P2 ⟨4, seen, stamp, word, comp, err⟩ [(y6.heap.size, ansOW kk 0 vv gg)]) := h8.less (fun z hz => by simp at hz; subst hz; simp)
                  clear h8 r0 r1 r2 r3 r4 r5 r6 r7
                  obtain ⟨⟨a0, a1, a2, a3⟩, _⟩ := ansW_cells (k := kk) (e := 0) (v := vv) (y := gg) (HW8.out.row (B := y6.heap.size) (o := ansOW kk 0 vv gg) (by simp))
                  have HTS : Hid (∀ w', KW w w' bs (.pointer (some ⟨M, 0, none⟩)) L2 X Gk g P2 ⟨4, seen, stamp, word, comp, err⟩ [(y6.heap.size, ansOW kk 0 vv gg)] → Calls Try.prog 25 #[.pointer (some ⟨X, 0, none⟩)] w' fun e w'' => e = .returned (.tuple #[.int .i64 comp, .int .i64 seen, .bool true]) ∧ KW w w'' bs (.pointer (some ⟨M, 0, none⟩)) L2 X Gk g P2 ⟨4, seen, stamp, word, comp, err⟩ [(y6.heap.size, ansOW kk 0 vv gg)]) := fun w' h => by
                    have := kw_fstart h
                    exact this
                  go_wp2_with fail
                  refine (HTS.out _ (HW8.out.later (by first | exact Below.refl _ _ | exact below_drawn (Below.refl _ _) _))).mono ?_
                  rintro e y9 ⟨rfl, h9⟩
                  have HW9 : Hid (KW w y9 bs (.pointer (some ⟨M, 0, none⟩)) L2 X Gk g P2 ⟨4, seen, stamp, word, comp, err⟩ [(y6.heap.size, ansOW kk 0 vv gg)]) := h9
                  clear h9 a0 a1 a2 a3
                  have HV1 : Hid (∀ w', KW w w' bs (.pointer (some ⟨M, 0, none⟩)) L2 X Gk g P2 ⟨4, seen, stamp, word, comp, err⟩ [(y6.heap.size, ansOW kk 0 vv gg)] → ∀ cl, Calls Try.prog 22 #[.pointer (some ⟨Gk, 0, none⟩), .int .i64 cl, .int .i64 seen] w' fun e w'' => e = .returned (.int .i64 (valueV g cl seen)) ∧ KW w w'' bs (.pointer (some ⟨M, 0, none⟩)) L2 X Gk g P2 ⟨4, seen, stamp, word, comp, err⟩ [(y6.heap.size, ansOW kk 0 vv gg)]) := fun w' h cl => kw_value h HGK.out cl seen
                  go_wp2_with fail
                  refine (HV1.out _ HW9.out _).mono ?_
                  rintro e y10 ⟨rfl, h10⟩
                  have HW10 : Hid (KW w y10 bs (.pointer (some ⟨M, 0, none⟩)) L2 X Gk g P2 ⟨4, seen, stamp, word, comp, err⟩ [(y6.heap.size, ansOW kk 0 vv gg)]) := h10
                  clear h10
                  go_wp2_with fail
                  refine (HV1.out _ HW10.out _).mono ?_
                  rintro e y11 ⟨rfl, h11⟩
                  have HW11 : Hid (KW w y11 bs (.pointer (some ⟨M, 0, none⟩)) L2 X Gk g P2 ⟨4, seen, stamp, word, comp, err⟩ [(y6.heap.size, ansOW kk 0 vv gg)]) := h11
                  clear h11
                  obtain ⟨⟨a0, a1, a2, a3⟩, _⟩ := ansW_cells (k := kk) (e := 0) (v := vv) (y := gg) (HW11.out.row (B := y6.heap.size) (o := ansOW kk 0 vv gg) (by simp))
                  obtain ⟨⟨ga, gcap, g1⟩, g3⟩ := HW11.out.cells
                  rw [hn2]
                  have f2 : (held != held) = false := by simp
                  go_wp2
                  try (go_quiet (fail); go_wp2)
                  go_roundw
                  case rel => exact ⟨q + 1, L2, g, P2, ⟨4, seen, stamp, word, comp, err⟩, k2, hlt, by rw [hw1]; go_num, (HW11.out.later (by first | exact Below.refl _ _ | exact below_drawn (Below.refl _ _) _)).less (fun z hz => by simp at hz), HRO2.out, HSO2.out.1, HSO2.out.2⟩
                  case measure => rw [hw1]; simp [intOf]; exact z_meas hlt
              · clear hend
                go_wp2_with fail
                refine HT.out.mono ?_
                rintro e y6 ⟨rfl, h6⟩
                have HW6 : Hid (KW w (y6.alloc (.cells #[.int .i64 kk, .int .i64 0, .int .i64 vv, .bool gg] 49)) bs (.pointer (some ⟨M, 0, none⟩)) L2 X Gk g P2 ⟨st', seen, stamp, word, comp, err⟩ [(y6.heap.size, ansOW kk 0 vv gg)]) := h6.more _
                clear h6 c0 c1
                obtain ⟨⟨ga, gcap, g1⟩, g3⟩ := HW6.out.cells
                go_wp2_with fail
                refine (HO2.out _ _ (lst2o y6 _ old c)).mono ?_
                rintro e y7 ⟨rfl, hb7⟩
                have HW7 : Hid (KW w (y7.alloc (.cells #[.int .u64 ((jj0 : Nat) : Int), .int .u64 ((jj1 : Nat) : Int), .int .u64 ((jj2 : Nat) : Int), .int .u64 ((jj3 : Nat) : Int), .int .u64 ((jj4 : Nat) : Int), .int .u64 ((jj5 : Nat) : Int), .int .u64 ((jj6 : Nat) : Int), .int .u64 ((jj7 : Nat) : Int)] 24)) bs (.pointer (some ⟨M, 0, none⟩)) L2 X Gk g P2 ⟨st', seen, stamp, word, comp, err⟩ [(y7.heap.size, .cells #[.int .u64 ((jj0 : Nat) : Int), .int .u64 ((jj1 : Nat) : Int), .int .u64 ((jj2 : Nat) : Int), .int .u64 ((jj3 : Nat) : Int), .int .u64 ((jj4 : Nat) : Int), .int .u64 ((jj5 : Nat) : Int), .int .u64 ((jj6 : Nat) : Int), .int .u64 ((jj7 : Nat) : Int)] 24 (0, 0)), (y6.heap.size, ansOW kk 0 vv gg)]) := (HW6.out.later (below_then (below_a1 _ _) hb7)).more _
                clear hb7 g1 g3
                obtain ⟨r0, r1, r2, r3, r4, r5, r6, r7⟩ := cells8 (HW7.out.row (B := y7.heap.size) (List.mem_cons.2 (Or.inl rfl)))
                go_wp2_with fail
                refine (HSH.out _ _ _ _ _ _ _ _ _ _ HW7.out HGK.out _ _).mono ?_
                rintro e y8 ⟨rfl, h8⟩
                have HW8 : Hid (KW w y8 bs (.pointer (some ⟨M, 0, none⟩)) L2 X Gk g P2 ⟨st', seen, stamp, word, comp, err⟩ [(y6.heap.size, ansOW kk 0 vv gg)]) := h8.less (fun z hz => by simp at hz; subst hz; simp)
                clear h8 r0 r1 r2 r3 r4 r5 r6 r7
                obtain ⟨⟨a0, a1, a2, a3⟩, _⟩ := ansW_cells (k := kk) (e := 0) (v := vv) (y := gg) (HW8.out.row (B := y6.heap.size) (o := ansOW kk 0 vv gg) (by simp))
                have HTS : Hid (∀ w', KW w w' bs (.pointer (some ⟨M, 0, none⟩)) L2 X Gk g P2 ⟨st', seen, stamp, word, comp, err⟩ [(y6.heap.size, ansOW kk 0 vv gg)] → Calls Try.prog 25 #[.pointer (some ⟨X, 0, none⟩)] w' fun e w'' => e = .returned (.tuple #[.int .i64 0, .int .i64 0, .bool false]) ∧ KW w w'' bs (.pointer (some ⟨M, 0, none⟩)) L2 X Gk g P2 ⟨st', seen, stamp, word, comp, err⟩ [(y6.heap.size, ansOW kk 0 vv gg)]) := fun w' h => by
                  have := kw_fstart h
                  simp only at this
                  rw [if_neg hst4, if_neg hst4, decide_eq_false hst4] at this
                  exact this
                go_wp2_with fail
                refine (HTS.out _ (HW8.out.later (by first | exact Below.refl _ _ | exact below_drawn (Below.refl _ _) _))).mono ?_
                rintro e y9 ⟨rfl, h9⟩
                have HW9 : Hid (KW w y9 bs (.pointer (some ⟨M, 0, none⟩)) L2 X Gk g P2 ⟨st', seen, stamp, word, comp, err⟩ [(y6.heap.size, ansOW kk 0 vv gg)]) := h9
                clear h9 a0 a1 a2 a3
                go_wp2
                go_roundw
                case rel => exact ⟨q + 1, L2, g, P2, ⟨st', seen, stamp, word, comp, err⟩, k2, hlt, by rw [hw1]; go_num, (HW9.out.later (by first | exact Below.refl _ _ | exact below_drawn (Below.refl _ _) _)).less (fun z hz => by simp at hz), HRO2.out, HSO2.out.1, HSO2.out.2⟩
                case measure => rw [hw1]; simp [intOf]; exact z_meas hlt
          · have dk : (kd != 0) = true := by simpa using hk0
            have HAC : Hid (∀ w' kk, KW w w' bs (.pointer (some ⟨M, 0, none⟩)) L X Gk g P b [] → Calls Try.prog 21 #[.pointer (some ⟨Gk, 0, none⟩), (.pointer (some ⟨M, 0, none⟩)), .int .i64 kk, .slice ua nu ucap] w' fun e w'' => e = .returned (.tuple #[]) ∧ ∃ L2 g2, KW w w'' bs (.pointer (some ⟨M, 0, none⟩)) L2 X Gk g2 P b [] ∧ RingOk L2 g2 s (nf + (q + 1)) ∧ TOk L2 g2 P b k old held) := fun w' kk h => by
              refine (kw_act h HQL.out.2 HE.out.2.1.gok kk (.slice ua nu ucap) Wl (HU.out _ h.bel)).mono ?_
              rintro e w'' ⟨rfl, h2⟩
              exact ⟨rfl, _, _, h2, (ringOk_act HE.out.2.1 HQL.out.1 kk Wl).1, tok_act HE.out.2.2.1 HE.out.2.1 HQL.out.1 kk Wl⟩
            have HWR := HE.out.1.later (below_drawn (Below.refl wr.heap.size wr) 1)
            clear hk0
            go_wp2_with fail
            go_region_with ((go_at_call 21; refine (HAC.out _ _ HWR).mono ?_; rintro e y6 ⟨rfl, h6⟩))
            all_goals
              have HW6 : Hid (∃ L2 g2, KW w y6 bs (.pointer (some ⟨M, 0, none⟩)) L2 X Gk g2 P b [] ∧ RingOk L2 g2 s (nf + (q + 1)) ∧ TOk L2 g2 P b k old held) := h6
              clear h6 c0 c1
              go_wp2
              go_roundw
              case rel =>
                obtain ⟨L2, g2, h7, h8, h9⟩ := HW6.out
                exact ⟨q + 1, L2, g2, P, b, k, hlt, by rw [hw1]; go_num, h7, h8, h9, HE.out.2.2.2⟩
              case measure => rw [hw1]; simp [intOf]; exact z_meas hlt
        · obtain rfl : q = n2 := by omega
          have d1 : decide ((q : Int) < (q : Int)) = false := by simp
          go_wp2
          go_ret
          exact ⟨rfl, HE.out.1.bel⟩
end Go.Proofs.Ytcbcjliekbphmaa
