/- CommitSafe walked. (Printed by tools/cmg.py.) -/
import Derived.Test.YtfbbcjlbelnfaaaCmG
namespace Go.Proofs.Ytfbbcjlbelnfaaa
open Go.ChangeShapes Go.WideShapes Go.ChangeAt Go.RowKit
attribute [local go_sem ↓] Go.wp_at_zero Go.wp_at_succ

def sfP (s z0 : Nat) (rd : List Nat) (n : Nat) (mu : Bool) : Cp := ⟨s, (z0 : Int), rd, false, ⟨(n : Int), mu, false, false, 0, false, 0⟩⟩
theorem sfP_is (s z0 : Nat) (rd : List Nat) (n : Nat) (mu : Bool) : (sfP s z0 rd n mu).s = s ∧ (sfP s z0 rd n mu).z = (z0 : Int) ∧ (sfP s z0 rd n mu).rd = rd ∧ (sfP s z0 rd n mu).last = false ∧ (sfP s z0 rd n mu).ex.n = (n : Int) ∧ (sfP s z0 rd n mu).ex.mu = mu := ⟨rfl, rfl, rfl, rfl, rfl, rfl⟩
theorem sfP_ok {s z0 : Nat} {rd : List Nat} {n : Nat} {mu : Bool} (h1 : 1 ≤ s) (h2 : s ≤ 16) (hz : z0 ≤ 1048576) (hr : Sg.Ok rd) : POk (sfP s z0 rd n mu) := ⟨h1, h2, by rw [(sfP_is s z0 rd n mu).2.1]; omega, by rw [(sfP_is s z0 rd n mu).2.1]; omega, hr⟩
structure SfW (w wr : World) (bs M Z Gk : Nat) (s nf q : Nat) (P : Cp) (Rb : Nat) (rd : List Nat) (L : List Ac) (g : GR) (b : Ck) (u : Cu) : Prop where
  cw : CW w wr bs (.pointer (some ⟨M, 0, none⟩)) 8 L Z Gk g P b u [(Rb, rdO rd)]
  ro : RingOk L g s (nf + q)
  pk : PubOk g P b u
theorem sf_q1 {L : List Ac} {g : GR} {s q n1 : Nat} (h : RingOk L g s q) (hq : q < n1) (hn : n1 ≤ 1048576) : L.length < 3298534882000 ∧ q ≤ 2097152 := by
  have h1 := h.len
  omega
theorem sf_ws {l z d : Nat} (h : l ≤ 2097152 ∧ z ≤ 1048576 ∧ d ≤ l) : wrap64 ((l : Int) - (z : Int)) = (l : Int) - (z : Int) ∧ wrap64 ((l : Int) - (d : Int)) = (l : Int) - (d : Int) ∧ wrap64 ((l : Int) + 1) = (l : Int) + 1 ∧ wrap64 (l : Int) = (l : Int) ∧ wrap64 (d : Int) = (d : Int) := by unfold wrap64; omega
theorem sf_ne (l : Nat) : (((l : Int) + 1) != 0) = true := by simp; omega
theorem sf_len {l n : Nat} (h : (l : Int) + 1 ≤ (n : Int)) : l + 1 ≤ n := by omega
theorem sf_dl {d l : Nat} (h : d ≠ l) : (((d : Nat) : Int) == ((l : Nat) : Int)) = false := by simp; omega
theorem sf_merge {ee kk : Int} {A B C D : Prop} (h : (ee = 3 ∧ kk = 4 ∧ A) ∨ (ee = 4 ∧ kk = 4 ∧ B) ∨ (ee = 6 ∧ kk = 4 ∧ C) ∨ (ee = 0 ∧ kk = 1 ∧ D) ∨ (ee = 0 ∧ kk = 2) ∨ (ee = 0 ∧ kk = 0)) : (ee = 3 ∧ kk = 4 ∧ A) ∨ (ee = 4 ∧ kk = 4 ∧ B) ∨ (ee = 6 ∧ kk = 4 ∧ C) ∨ (ee = 0 ∧ kk = 1 ∧ D) ∨ (ee = 0 ∧ (kk = 2 ∨ kk = 0)) := by
  rcases h with h | h | h | h | ⟨h, k⟩ | ⟨h, k⟩
  · exact Or.inl h
  · exact Or.inr (Or.inl h)
  · exact Or.inr (Or.inr (Or.inl h))
  · exact Or.inr (Or.inr (Or.inr (Or.inl h)))
  · exact Or.inr (Or.inr (Or.inr (Or.inr ⟨h, Or.inl k⟩)))
  · exact Or.inr (Or.inr (Or.inr (Or.inr ⟨h, Or.inr k⟩)))
theorem sf_n {nl : Nat} (h : 1 ≤ nl ∧ nl ≤ 60) : 1 ≤ (nl : Int) ∧ (nl : Int) ≤ 1099511627776 := by omega
theorem sf_ql {L : List Ac} {g : GR} {s nf q n2 : Nat} (h : RingOk L g s (nf + q)) (hn : nf ≤ 1048576) (hq : q < n2) (h2 : n2 ≤ 1048576) : nf + q ≤ 2097152 ∧ L.length < 3298534882000 ∧ g.l.length ≤ 2097152 := by
  have h1 := h.len
  have h3 := h.many
  omega
theorem sf_zb {L : List Ac} {g : GR} {s nf z0 : Nat} (h : RingOk L g s nf) (hz : z0 = g.done) (hn : nf ≤ 1048576) : z0 ≤ 1048576 := by
  have h1 := h.many
  have h2 := h.gok.da
  have h3 := h.gok.an
  omega
theorem sf_wz {z0 : Nat} (h : z0 ≤ 1048576) : wrap64 (z0 : Int) = (z0 : Int) := by unfold wrap64; omega
theorem cw_newR {w0 w w1 w' : World} {base : Nat} {p : Value} {c : Nat} {L : List Ac} {Gk : Nat} {g : GR} {C : Cp} {b : Ck} {u : Cu} {X Z : Nat} {o : Obj} (h : GF w0 w base p c L Gk g) (h1 : w1 = w.alloc o) (hb : Below w1.heap.size w1 w') (hX : w1.heap.size ≤ X) (hZ : w1.heap.size ≤ Z) (hne : Z ≠ X) (hx : KAt w' X C b) (hz : CAt w' Z C u (ptr X)) : CW w0 w' base p c L Z Gk g C b u [(w.heap.size, o)] := by
  obtain ⟨F, P, h2⟩ := h.all
  have hs := h.size
  subst h1
  have hsz : (w.alloc o).heap.size = w.heap.size + 1 := by simp
  have hbb : Below w.heap.size w w' := below_then (below_a1 _ _) hb
  refine ⟨⟨X, F, P, h2.below hbb, hx, hz, fun e => by have := (h2.lt _ e).2; omega, fun e => ?_, by omega, by omega, fun z hz => ?_⟩, below_then h.bel hbb, h.lo, Nat.le_trans h.size hbb.size⟩
  · rcases List.mem_cons.1 e with e | e
    · exact hne e
    · have := (h2.lt _ e).2; omega
  · obtain rfl : z = (w.heap.size, o) := by simpa using hz
    refine ⟨row_on (heap_alloc_new _ _) hb, fun e => ?_⟩
    simp only at e
    rcases List.mem_cons.1 e with e | e
    · omega
    · rcases List.mem_cons.1 e with e | e
      · omega
      · have := (h2.lt _ e).2; omega
theorem sf_lt {s l : Nat} {z : Nat} (h : (z : Int) + (s : Int) < (l : Int)) : ¬ ((l : Int) - (z : Int) ≤ (s : Int)) := by omega
theorem sf_ln {n l : Nat} (h : (n : Int) ≤ (l : Int)) : ¬ (l < n) ∧ ¬ ((l : Int) < (n : Int)) := by omega
set_option maxRecDepth 100000 in
set_option maxHeartbeats 12800000 in
theorem safe_walk (w : World) (raw : Int) (mu : Bool) (stamps : Int) (vc vf vl : Value) (cells : List Int) (S1 S2 : List Tn) (hvc : Sg.Lst w vc cells) (hvf : TnLst w vf S1) (hvl : TnLst w vl S2) :
    Calls Try.prog 4 #[.agg #[.int .i64 raw, .bool mu, .int .i64 stamps, vc, vf, vl]] w fun e w' => e = .returned (.bool true) ∧ Below w.heap.size w w' := by
  have HS : Hid (∀ w : World, Calls Try.prog 6 #[] w fun e w' => e = .returned (.bool true) ∧ Below w.heap.size w w') := mshown_any
  obtain ⟨s, hs1, hs16, hse⟩ : ∃ s : Nat, 1 ≤ s ∧ s ≤ 16 ∧ raw % 16 = (s : Int) - 1 := ⟨(raw % 16 + 1).toNat, by omega, by omega, by omega⟩
  obtain ⟨nl, ht1, ht60, hte⟩ : ∃ nl : Nat, 1 ≤ nl ∧ nl ≤ 60 ∧ stamps % 60 = (nl : Int) - 1 := ⟨(stamps % 60 + 1).toNat, by omega, by omega, by omega⟩
  have HP : Hid (∀ w : World, Calls Try.prog 20 #[.int .i64 raw, .int .i64 16] w fun e w' => e = .returned (.int .i64 ((s : Int) - 1)) ∧ w' = w) := fun w => by rw [← hse]; exact gpick_any raw 16 (by decide) (by decide) w
  have HPT : Hid (∀ w : World, Calls Try.prog 20 #[.int .i64 stamps, .int .i64 60] w fun e w' => e = .returned (.int .i64 ((nl : Int) - 1)) ∧ w' = w) := fun w => by rw [← hte]; exact gpick_any stamps 60 (by decide) (by decide) w
  have HN : Hid (∀ w : World, Calls Try.prog 10 #[.int .i64 8, .int .i64 (s : Int)] w fun e w' => ∃ p F, e = .returned (.tuple #[p, .int .i64 0]) ∧ p ≠ .pointer none ∧ MemAt w' w.heap.size p 8 s [] F ∧ Below w.heap.size w w') := fun w => new_yes w 8 s (by decide) ⟨hs1, hs16⟩
  have HLC : Hid (∀ w' : World, Below w.heap.size w w' → Calls Try.prog 22 #[vc] w' fun e w'' => e = .returned (Sg.sv (Sg.ofAll cells)) ∧ Below w'.heap.size w' w'') := fun w' hb => Sg.rof_any w' vc cells (hvc.later hb)
  obtain ⟨ca, ccap, rfl, _⟩ := hvc
  generalize cells.length = nc at *
  obtain ⟨fa, fcap, rfl, hbig1, hl1⟩ := hvf
  obtain ⟨la, lcap, rfl, hbig2, hl2⟩ := hvl
  have HC1 := z_turn hl1
  have HC2 := z_turn hl2
  have HD1 : Hid (∀ q, q < S1.length → ∃ x, fa = some x ∧ x.block < w.heap.size ∧ w.cell? (x.add (q * 2)) = some (.int .i64 (S1.getD q noTn).k) ∧ ∃ u, w.cell? ((x.add (q * 2)).add 1) = some u ∧ WLst w u (S1.getD q noTn).l) := HC1
  have HD2 : Hid (∀ q, q < S2.length → ∃ x, la = some x ∧ x.block < w.heap.size ∧ w.cell? (x.add (q * 2)) = some (.int .i64 (S2.getD q noTn).k) ∧ ∃ u, w.cell? ((x.add (q * 2)).add 1) = some u ∧ WLst w u (S2.getD q noTn).l) := HC2
  clear hl1 hl2 HC1 HC2 hse hte
  generalize hn1 : S1.length = n1 at *
  generalize hn2 : S2.length = n2 at *
  clear hn1 hn2
  have HBG : Hid (n1 ≤ 1048576 ∧ n2 ≤ 1048576 ∧ 1 ≤ s ∧ s ≤ 16 ∧ 1 ≤ nl ∧ nl ≤ 60) := ⟨hbig1, hbig2, hs1, hs16, ht1, ht60⟩
  have w1b : 1 + ((s : Int) - 1) = (s : Int) := by omega
  have w1c : wrap64 (s : Int) = (s : Int) := z_wrap (by omega) (by omega)
  have w1 : wrap64 (1 + ((s : Int) - 1)) = (s : Int) := by rw [w1b, w1c]
  have w2b : 1 + ((nl : Int) - 1) = (nl : Int) := by omega
  have w2c : wrap64 (nl : Int) = (nl : Int) := z_wrap (by omega) (by omega)
  have w2 : wrap64 (1 + ((nl : Int) - 1)) = (nl : Int) := by rw [w2b, w2c]
  clear hbig1 hbig2 ht1 ht60
  have HOF : Hid (Sg.Ok (Sg.ofAll cells)) := Sg.ok_ofAll cells
  generalize Sg.ofAll cells = rd at *
  have HSV : Hid (Sg.sv rd = .agg #[rdV rd 0, rdV rd 1, rdV rd 2, rdV rd 3, rdV rd 4, rdV rd 5, rdV rd 6, rdV rd 7]) := by rw [Hid, rd_cells HOF.out.1]; rfl
  rw [HSV.out] at HLC
  have HCN : Hid (∀ (z : Nat) (w : World), z ≤ 1048576 → Calls Try.prog 7 #[.agg #[.int .i64 0, .int .i64 (s : Int), .int .i64 0, .int .i64 (nl : Int), .bool mu, .int .i64 0, .slice none 0 0], .int .i64 (z : Int), .agg #[rdV rd 0, rdV rd 1, rdV rd 2, rdV rd 3, rdV rd 4, rdV rd 5, rdV rd 6, rdV rd 7]] w fun e w' => ∃ Z X, e = .returned (.tuple #[.pointer (some ⟨Z, 0, none⟩), .int .i64 0]) ∧ w.heap.size ≤ Z ∧ w.heap.size ≤ X ∧ Z ≠ X ∧ CAt w' Z (sfP s z rd nl mu) cuNew (ptr X) ∧ KAt w' X (sfP s z rd nl mu) (ckNew (sfP s z rd nl mu)) ∧ Below w.heap.size w w') := fun z w hz =>
    mnew_yes w (P := sfP s z rd nl mu) (sfP_ok HBG.out.2.2.1 HBG.out.2.2.2.1 hz HOF.out) rfl (by have := HBG.out; rw [(sfP_is s z rd nl mu).2.2.2.2.1]; omega) (by have := HBG.out; rw [(sfP_is s z rd nl mu).2.2.2.2.1]; omega) 0 0 0 (.slice none 0 0)
  have HSH : Hid (∀ (w' : World) (L : List Ac) (Z Gk bs M : Nat) (g : GR) (C : Cp) (b : Ck) (u : Cu) (R : List (Nat × Obj)), CW w w' bs (.pointer (some ⟨M, 0, none⟩)) 8 L Z Gk g C b u R → GOk g → ∀ x y, Calls Try.prog 23 #[.pointer (some ⟨Gk, 0, none⟩), .int .i64 x, .int .i64 y, .agg #[rdV rd 0, rdV rd 1, rdV rd 2, rdV rd 3, rdV rd 4, rdV rd 5, rdV rd 6, rdV rd 7]] w' fun e w'' => e = .returned (.bool (sharesV g x y rd)) ∧ CW w w'' bs (.pointer (some ⟨M, 0, none⟩)) 8 L Z Gk g C b u R) := fun w' L Z Gk bs M g C b u R h hk x y => cw_shares h hk x y rd HOF.out
  have HO : Hid (rdO rd = .cells #[rdV rd 0, rdV rd 1, rdV rd 2, rdV rd 3, rdV rd 4, rdV rd 5, rdV rd 6, rdV rd 7] 27 (0, 0)) := rfl
  clear HSV
  unfold rdV at HLC HCN HSH HO
  generalize rd.getD 0 0 = m0 at *
  generalize rd.getD 1 0 = m1 at *
  generalize rd.getD 2 0 = m2 at *
  generalize rd.getD 3 0 = m3 at *
  generalize rd.getD 4 0 = m4 at *
  generalize rd.getD 5 0 = m5 at *
  generalize rd.getD 6 0 = m6 at *
  generalize rd.getD 7 0 = m7 at *
  go_enter Try.func4, Try.ntmps4
  go_wp2_with fail
  refine (HS.out _).mono ?_
  rintro e y1 ⟨rfl, hb1⟩
  have HB1 : Hid (Below w.heap.size w y1) := by first | exact hb1 | exact below_then (below_a1 _ _) hb1
  clear hb1
  go_wp2_with fail
  refine (HP.out _).mono ?_
  rintro e y2 ⟨rfl, rfl⟩
  clear hs1 hs16
  go_wp2_with fail
  refine (HPT.out _).mono ?_
  rintro e y2b ⟨rfl, rfl⟩
  go_wp2_with fail
  refine (HN.out _).mono ?_
  rintro e y3 ⟨p, F3, rfl, _, hm3, hb3⟩
  obtain ⟨M, rfl⟩ := hm3.ptr
  have HE3 : Hid (GF w (y3.alloc (.cells #[.int .i64 (s : Int), .slice none 0 0, .int .i64 0, .int .i64 0] 71)) y2b.heap.size (.pointer (some ⟨M, 0, none⟩)) 8 [] y3.heap.size ⟨s, [], 0, 0⟩ ∧ RingOk [] ⟨s, [], 0, 0⟩ s 0) :=
    ⟨gf_new (below_then HB1.out hb3) hm3 HB1.out.size hb3.size, ⟨HBG.out.2.2.1, HBG.out.2.2.2.1, Nat.le_refl _, Nat.le_refl _, by simp⟩, gz_zero s, gs_zero s, rfl, by simp, by simp⟩
  clear hm3 hb3
  go_wp2
  generalize y2b.heap.size = bs at HE3 ⊢
  generalize y3.heap.size = Gk at HE3 ⊢
  go_loopw [15] (fun iv wr => ∃ (q : Nat) (L : List Ac) (g : GR), q ≤ n1 ∧ iv = .int .i64 q ∧ GF w wr bs (.pointer (some ⟨M, 0, none⟩)) 8 L Gk g ∧ RingOk L g s q) (fun iv _ => n1 - (intOf iv).toNat)
  case atStart => exact ⟨0, [], ⟨s, [], 0, 0⟩, Nat.zero_le _, rfl, HE3.out.1, HE3.out.2⟩
  case round =>
    obtain ⟨q, L, g, hq, rfl, hfw, hro⟩ := hrel
    have HE : Hid (GF w wr bs (.pointer (some ⟨M, 0, none⟩)) 8 L Gk g ∧ RingOk L g s q) := ⟨hfw, hro⟩
    clear hfw hro HE3
    by_cases hlt : q < n1
    · obtain ⟨x, rfl, hxb, c0, u, c1, hu⟩ := HD1.out q hlt
      have hbel := HE.out.1.bel
      replace c0 := cell_later hbel (by rw [add_block]; exact hxb) c0
      replace c1 := cell_later hbel (by rw [add_block, add_block]; exact hxb) c1
      rw [add_pos' _ _ (by decide)] at c1
      have d1 : decide ((q : Int) < (n1 : Int)) = true := decide_eq_true (Int.ofNat_lt.2 hlt)
      have hx1 : (q : Int) < (n1 : Int) := Int.ofNat_lt.2 hlt
      have hw1 : wrap64 ((q : Int) + 1) = (q : Int) + 1 := z_w1 hlt HBG.out.1
      have HU : Hid (∀ w', Below w.heap.size w w' → WLst w' u (S1.getD q noTn).l) := fun w' hb => hu.later hb rfl
      obtain ⟨ua, ucap, rfl, _⟩ := hu
      clear hbel
      generalize (S1.getD q noTn).l.length = nu at *
      generalize (S1.getD q noTn).l = Wl at *
      generalize (S1.getD q noTn).k = kd at *
      have HAC : Hid (∀ w', GF w w' bs (.pointer (some ⟨M, 0, none⟩)) 8 L Gk g → Calls Try.prog 21 #[.pointer (some ⟨Gk, 0, none⟩), (.pointer (some ⟨M, 0, none⟩)), .int .i64 kd, .slice ua nu ucap] w' fun e w'' => e = .returned (.tuple #[]) ∧ ∃ L2 g2, GF w w'' bs (.pointer (some ⟨M, 0, none⟩)) 8 L2 Gk g2 ∧ RingOk L2 g2 s (q + 1)) := fun w' h => by
        have hle := sf_q1 HE.out.2 hlt HBG.out.1
        refine (gf_act h hle.1 HE.out.2.gok (by decide) (by decide) kd (.slice ua nu ucap) Wl (HU.out _ h.bel)).mono ?_
        rintro e w'' ⟨rfl, h2⟩
        exact ⟨rfl, _, _, h2, (ringOk_act HE.out.2 hle.2 kd Wl).1⟩
      have HWR := HE.out.1.later (below_drawn (Below.refl wr.heap.size wr) 1)
      go_wp2_with fail
      go_region_with ((go_at_call 21; refine (HAC.out _ HWR).mono ?_; rintro e y6 ⟨rfl, h6⟩))
      all_goals
        have HW6 : Hid (∃ L2 g2, GF w y6 bs (.pointer (some ⟨M, 0, none⟩)) 8 L2 Gk g2 ∧ RingOk L2 g2 s (q + 1)) := h6
        clear h6 c0 c1
        go_wp2
        go_roundw
        case rel =>
          obtain ⟨L2, g2, h7, h8⟩ := HW6.out
          exact ⟨q + 1, L2, g2, hlt, by rw [hw1]; go_num, h7, h8⟩
        case measure => rw [hw1]; simp [intOf]; exact z_meas hlt
    · obtain rfl : q = n1 := Nat.le_antisymm hq (Nat.le_of_not_lt hlt)
      have d1 : decide ((q : Int) < (q : Int)) = false := by simp
      have HFW : Hid (GF w wr bs (.pointer (some ⟨M, 0, none⟩)) 8 L Gk g) := HE.out.1
      have g3 := HFW.out.cells
      obtain ⟨nf, HNF, HRO2⟩ : ∃ nf, Hid (nf ≤ 1048576) ∧ Hid (RingOk L g s nf) := ⟨q, HBG.out.1, HE.out.2⟩
      clear HE hq hlt
      obtain ⟨z0, hz0⟩ : ∃ z0, z0 = g.done := ⟨_, rfl⟩
      rw [← hz0] at g3
      have HZ0 : Hid (z0 = g.done) := hz0
      clear hz0
      have HZB : Hid (z0 ≤ 1048576) := sf_zb HRO2.out HZ0.out HNF.out
      have wz : wrap64 (z0 : Int) = (z0 : Int) := sf_wz HZB.out
      go_wp2_with fail
      refine (HLC.out _ HFW.out.bel).mono ?_
      rintro e y4 ⟨rfl, hb4⟩
      have HF4 : Hid (GF w y4 bs (.pointer (some ⟨M, 0, none⟩)) 8 L Gk g) := HFW.out.later hb4
      clear hb4 g3
      go_wp2_with fail
      refine (HCN.out z0 _ HZB.out).mono ?_
      rintro e y5 ⟨Z, X, rfl, hZ5, hX5, hne5, hz5, hx5, hb5⟩
      have HK5 : Hid (CW w y5 bs (.pointer (some ⟨M, 0, none⟩)) 8 L Z Gk g (sfP s z0 rd nl mu) (ckNew (sfP s z0 rd nl mu)) cuNew [(y4.heap.size, rdO rd)]) := by
        rw [HO.out]
        exact cw_newR HF4.out rfl hb5 hX5 hZ5 hne5 hx5 hz5
      obtain ⟨P, hP⟩ : ∃ P, P = sfP s z0 rd nl mu := ⟨_, rfl⟩
      rw [← hP] at HK5
      have HPI : Hid (P.s = s ∧ P.z = (z0 : Int) ∧ P.rd = rd ∧ P.last = false ∧ P.ex.n = (nl : Int) ∧ P.ex.mu = mu) := by rw [hP]; exact sfP_is s z0 rd nl mu
      have HS5 : Hid (PubOk g P (ckNew P) cuNew) := by
        rw [hP]
        exact ⟨cok_new (sfP_ok HBG.out.2.2.1 HBG.out.2.2.2.1 HZB.out HOF.out) rfl (sf_n HBG.out.2.2.2.2).1 (sf_n HBG.out.2.2.2.2).2, sc_new (by rw [(sfP_is s z0 rd nl mu).2.1]; exact Int.ofNat_le.2 (Nat.le_of_eq HZ0.out)) HRO2.out.size.symm rfl, rfl⟩
      clear hZ5 hX5 hne5 hz5 hx5 hb5 hP HCN
      generalize y4.heap.size = Rb at *
      go_wp2
      go_loopw [20] (fun iv wr => ∃ (q : Nat) (L : List Ac) (g : GR) (b : Ck) (u : Cu), q ≤ n2 ∧ iv = .int .i64 q ∧ SfW w wr bs M Z Gk s nf q P Rb rd L g b u) (fun iv _ => n2 - (intOf iv).toNat)
      case atStart => exact ⟨0, L, g, _, _, Nat.zero_le _, rfl, HK5.out, HRO2.out, HS5.out⟩
      case round =>
        obtain ⟨q, L, g, b, u, hq, rfl, hsw⟩ := hrel
        have HE : Hid (SfW w wr bs M Z Gk s nf q P Rb rd L g b u) := hsw
        clear hsw HK5 HS5 HRO2 HF4 HFW HZ0
        by_cases hlt : q < n2
        · obtain ⟨x, rfl, hxb, c0, uu, c1, hu⟩ := HD2.out q hlt
          have hbel := HE.out.cw.bel
          replace c0 := cell_later hbel (by rw [add_block]; exact hxb) c0
          replace c1 := cell_later hbel (by rw [add_block, add_block]; exact hxb) c1
          rw [add_pos' _ _ (by decide)] at c1
          have d1 : decide ((q : Int) < (n2 : Int)) = true := decide_eq_true (Int.ofNat_lt.2 hlt)
          have hx1 : (q : Int) < (n2 : Int) := Int.ofNat_lt.2 hlt
          have hw1 : wrap64 ((q : Int) + 1) = (q : Int) + 1 := z_w1 hlt HBG.out.2.1
          have HU : Hid (∀ w', Below w.heap.size w w' → WLst w' uu (S2.getD q noTn).l) := fun w' hb => hu.later hb rfl
          obtain ⟨ua, ucap, rfl, _⟩ := hu
          clear hbel
          generalize (S2.getD q noTn).l.length = nu at *
          generalize (S2.getD q noTn).l = Wl at *
          generalize (S2.getD q noTn).k = kd at *
          have HQL : Hid (nf + q ≤ 2097152 ∧ L.length < 3298534882000 ∧ g.l.length ≤ 2097152) := sf_ql HE.out.ro HNF.out hlt HBG.out.2.1
          by_cases hk0 : kd = 0
          · subst hk0
            have hpc := pub_cases HE.out.pk HE.out.ro HE.out.cw.okS
            have HT : Hid (Calls Try.prog 15 #[.pointer (some ⟨Z, 0, none⟩), (.pointer (some ⟨M, 0, none⟩)), .int .i64 1] wr fun e w' => e = .returned (.agg #[.int .i64 (ansZ g.size P b u L), .int .i64 (errZ g.size P b u L), .int .i64 (valZ g.size P u L), .bool (goesC g.size P u)]) ∧ CW w w' bs (.pointer (some ⟨M, 0, none⟩)) 8 (nextCL 8 g.size P b u L 1) Z Gk g P (nextCB g.size P b u L) (nextU g.size P b u L) [(Rb, rdO rd)]) := cw_step HE.out.cw (Nat.lt_trans HQL.out.2.1 (by decide)) HE.out.pk.ok (fun _ _ => sc_w HE.out.pk.sc HE.out.pk.ok HE.out.ro.gz HE.out.ro.gs HE.out.ro.gok) 1
            have HGK : Hid (GOk g) := HE.out.ro.gok
            have HGL : Hid (g.l.length ≤ 2097152 ∧ z0 ≤ 1048576 ∧ g.done ≤ g.l.length) := ⟨HQL.out.2.2, HZB.out, Nat.le_trans HE.out.ro.gok.da HE.out.ro.gok.an⟩
            rw [HPI.out.2.1, HPI.out.2.2.1, HPI.out.2.2.2.2.1, HPI.out.2.2.2.2.2] at hpc
            obtain ⟨⟨gla, glcap, gl1⟩, gl3, hGk0⟩ := HE.out.cw.cells
            generalize ansZ g.size P b u L = kk at *
            generalize errZ g.size P b u L = ee at *
            generalize valZ g.size P u L = vv at *
            generalize goesC g.size P u = gg at *
            generalize nextCL 8 g.size P b u L 1 = L2 at *
            generalize nextCB g.size P b u L = b2 at *
            generalize nextU g.size P b u L = u2 at *
            have wl : wrap64 ((g.l.length : Int) - (z0 : Int)) = (g.l.length : Int) - (z0 : Int) := (sf_ws HGL.out).1
            have wd : wrap64 ((g.l.length : Int) - (g.done : Int)) = (g.l.length : Int) - (g.done : Int) := (sf_ws HGL.out).2.1
            have wn : wrap64 ((g.l.length : Int) + 1) = (g.l.length : Int) + 1 := (sf_ws HGL.out).2.2.1
            have wll : wrap64 (g.l.length : Int) = (g.l.length : Int) := (sf_ws HGL.out).2.2.2.1
            have wdd : wrap64 (g.done : Int) = (g.done : Int) := (sf_ws HGL.out).2.2.2.2
            rcases hpc with ⟨hst, hpk, hro2, hwn, hcs⟩ | ⟨hst, rfl, rfl, rfl, hwn, hsh, hroom, hnone, hle⟩
            · have HSP : Hid (∀ w' R, CW w w' bs (.pointer (some ⟨M, 0, none⟩)) 8 L2 Z Gk g P b2 u2 R → Calls Try.prog 24 #[.pointer (some ⟨Z, 0, none⟩)] w' fun e w'' => e = .returned (.tuple #[.int .i64 0, .bool false]) ∧ CW w w'' bs (.pointer (some ⟨M, 0, none⟩)) 8 L2 Z Gk g P b2 u2 R) := fun w' R h => by
                have := cw_stamp h
                rw [hst] at this
                exact this
              have HPK : Hid (∀ w' R, CW w w' bs (.pointer (some ⟨M, 0, none⟩)) 8 L2 Z Gk g P b2 u2 R → Calls Try.prog 25 #[(.pointer (some ⟨M, 0, none⟩)), .agg #[.int .i64 1, .int .i64 0, .int .i64 0]] w' fun e w'' => e = .returned (.tuple #[.int .i64 (g.l.length : Int), .int .i64 0]) ∧ CW w w'' bs (.pointer (some ⟨M, 0, none⟩)) 8 L2 Z Gk g P b2 u2 R) := fun w' R h => by
                have := cw_peek h
                rw [hwn] at this
                exact this
              have HSH2 : Hid (∀ w' R, CW w w' bs (.pointer (some ⟨M, 0, none⟩)) 8 L2 Z Gk g P b2 u2 R → Calls Try.prog 23 #[.pointer (some ⟨Gk, 0, none⟩), .int .i64 (z0 : Int), .int .i64 (g.l.length : Int), .agg #[.int .u64 ((m0 : Nat) : Int), .int .u64 ((m1 : Nat) : Int), .int .u64 ((m2 : Nat) : Int), .int .u64 ((m3 : Nat) : Int), .int .u64 ((m4 : Nat) : Int), .int .u64 ((m5 : Nat) : Int), .int .u64 ((m6 : Nat) : Int), .int .u64 ((m7 : Nat) : Int)]] w' fun e w'' => e = .returned (.bool (sharesV g (z0 : Int) (g.l.length : Int) rd)) ∧ CW w w'' bs (.pointer (some ⟨M, 0, none⟩)) 8 L2 Z Gk g P b2 u2 R) := fun w' R h => HSH.out _ _ _ _ _ _ _ _ _ _ _ h HGK.out _ _
              have HRO2 : Hid (RingOk L2 g s (nf + (q + 1))) := hro2
              have HPK2 : Hid (PubOk g P b2 u2) := hpk
              clear hst hpk hro2 hwn HE HQL
              have hcs := sf_merge hcs
              rcases hcs with ⟨rfl, rfl, hsm⟩ | ⟨rfl, rfl, hsm⟩ | ⟨rfl, rfl, hsm⟩ | ⟨rfl, rfl, hsm⟩ | ⟨rfl, hsm⟩
              · as_aux_lemma =>
                  rw [hsm] at HSH2
                  clear hsm
                  have HTT := HT
                  go_wp2_with fail
                  refine HTT.out.mono ?_
                  rintro e y6 ⟨rfl, h6⟩
                  have HW6 : Hid (CW w (y6.alloc (.cells #[.int .i64 4, .int .i64 3, .int .i64 vv, .bool gg] 52)) bs (.pointer (some ⟨M, 0, none⟩)) 8 L2 Z Gk g P b2 u2 ((y6.heap.size, ansOW 4 3 vv gg) :: [(Rb, rdO rd)])) := h6.more _
                  clear h6 c0 c1 gl1 gl3 HTT
                  obtain ⟨⟨ga, gcap, g1⟩, g3, hGk⟩ := HW6.out.cells
                  obtain ⟨r0, r1, r2, r3, r4, r5, r6, r7⟩ := cells8 (HO.out ▸ HW6.out.row (B := Rb) (o := rdO rd) (by simp))
                  go_wp2_with fail
                  refine (HSH2.out _ _ HW6.out).mono ?_
                  rintro e y7 ⟨rfl, h7⟩
                  have HW7 : Hid (CW w y7 bs (.pointer (some ⟨M, 0, none⟩)) 8 L2 Z Gk g P b2 u2 ((y6.heap.size, ansOW 4 3 vv gg) :: [(Rb, rdO rd)])) := h7
                  clear h7 g1 g3 r0 r1 r2 r3 r4 r5 r6 r7 hGk
                  obtain ⟨⟨ga7, gcap7, g1⟩, g3, hGk⟩ := HW7.out.cells
                  obtain ⟨⟨a0, a1, a2, a3⟩, _⟩ := ansW_cells (k := 4) (e := 3) (v := vv) (y := gg) (HW7.out.row (B := y6.heap.size) (o := ansOW 4 3 vv gg) (by simp))
                  go_wp2_with fail
                  go_quiet (fail)
                  have HW7q : Hid (CW w (y7.drewN nq) bs (.pointer (some ⟨M, 0, none⟩)) 8 L2 Z Gk g P b2 u2 ((y6.heap.size, ansOW 4 3 vv gg) :: [(Rb, rdO rd)])) := HW7.out.later (below_drawn (Below.refl _ _) _)
                  clear g1 g3 a0 a1 a2 a3 hGk
                  generalize y7.drewN nq = y7q at *
                  go_wp2_with fail
                  refine (HSP.out _ _ HW7q.out).mono ?_
                  rintro e y8 ⟨rfl, h8⟩
                  have HW8 : Hid (CW w y8 bs (.pointer (some ⟨M, 0, none⟩)) 8 L2 Z Gk g P b2 u2 ((y6.heap.size, ansOW 4 3 vv gg) :: [(Rb, rdO rd)])) := h8
                  clear h8
                  go_wp2_with fail
                  refine (HPK.out _ _ HW8.out).mono ?_
                  rintro e y9 ⟨rfl, h9⟩
                  have HW9 : Hid (CW w y9 bs (.pointer (some ⟨M, 0, none⟩)) 8 L2 Z Gk g P b2 u2 ((y6.heap.size, ansOW 4 3 vv gg) :: [(Rb, rdO rd)])) := h9
                  clear h9
                  obtain ⟨⟨a0, a1, a2, a3⟩, _⟩ := ansW_cells (k := 4) (e := 3) (v := vv) (y := gg) (HW9.out.row (B := y6.heap.size) (o := ansOW 4 3 vv gg) (by simp))
                  go_wp2
                  go_roundw
                  case rel => exact ⟨q + 1, L2, g, b2, u2, hlt, by rw [hw1]; go_num, ⟨(HW9.out.later (by first | exact Below.refl _ _ | exact below_drawn (Below.refl _ _) _)).less (fun z hz => by simp at hz; subst hz; simp), HRO2.out, HPK2.out⟩⟩
                  case measure => rw [hw1]; simp [intOf]; exact z_meas hlt
              · as_aux_lemma =>
                  have q2 := sf_lt hsm
                  have q2d : decide ((g.l.length : Int) - (z0 : Int) ≤ (s : Int)) = false := decide_eq_false q2
                  clear hsm
                  have HTT := HT
                  go_wp2_with fail
                  refine HTT.out.mono ?_
                  rintro e y6 ⟨rfl, h6⟩
                  have HW6 : Hid (CW w (y6.alloc (.cells #[.int .i64 4, .int .i64 4, .int .i64 vv, .bool gg] 52)) bs (.pointer (some ⟨M, 0, none⟩)) 8 L2 Z Gk g P b2 u2 ((y6.heap.size, ansOW 4 4 vv gg) :: [(Rb, rdO rd)])) := h6.more _
                  clear h6 c0 c1 gl1 gl3 HTT
                  obtain ⟨⟨ga, gcap, g1⟩, g3, hGk⟩ := HW6.out.cells
                  obtain ⟨r0, r1, r2, r3, r4, r5, r6, r7⟩ := cells8 (HO.out ▸ HW6.out.row (B := Rb) (o := rdO rd) (by simp))
                  go_wp2_with fail
                  refine (HSH2.out _ _ HW6.out).mono ?_
                  rintro e y7 ⟨rfl, h7⟩
                  have HW7 : Hid (CW w y7 bs (.pointer (some ⟨M, 0, none⟩)) 8 L2 Z Gk g P b2 u2 ((y6.heap.size, ansOW 4 4 vv gg) :: [(Rb, rdO rd)])) := h7
                  clear h7 g1 g3 r0 r1 r2 r3 r4 r5 r6 r7 hGk
                  obtain ⟨⟨ga7, gcap7, g1⟩, g3, hGk⟩ := HW7.out.cells
                  obtain ⟨⟨a0, a1, a2, a3⟩, _⟩ := ansW_cells (k := 4) (e := 4) (v := vv) (y := gg) (HW7.out.row (B := y6.heap.size) (o := ansOW 4 4 vv gg) (by simp))
                  go_wp2_with fail
                  go_quiet (fail)
                  have HW7q : Hid (CW w (y7.drewN nq) bs (.pointer (some ⟨M, 0, none⟩)) 8 L2 Z Gk g P b2 u2 ((y6.heap.size, ansOW 4 4 vv gg) :: [(Rb, rdO rd)])) := HW7.out.later (below_drawn (Below.refl _ _) _)
                  clear g1 g3 a0 a1 a2 a3 hGk
                  generalize y7.drewN nq = y7q at *
                  go_wp2_with fail
                  refine (HSP.out _ _ HW7q.out).mono ?_
                  rintro e y8 ⟨rfl, h8⟩
                  have HW8 : Hid (CW w y8 bs (.pointer (some ⟨M, 0, none⟩)) 8 L2 Z Gk g P b2 u2 ((y6.heap.size, ansOW 4 4 vv gg) :: [(Rb, rdO rd)])) := h8
                  clear h8
                  go_wp2_with fail
                  refine (HPK.out _ _ HW8.out).mono ?_
                  rintro e y9 ⟨rfl, h9⟩
                  have HW9 : Hid (CW w y9 bs (.pointer (some ⟨M, 0, none⟩)) 8 L2 Z Gk g P b2 u2 ((y6.heap.size, ansOW 4 4 vv gg) :: [(Rb, rdO rd)])) := h9
                  clear h9
                  obtain ⟨⟨a0, a1, a2, a3⟩, _⟩ := ansW_cells (k := 4) (e := 4) (v := vv) (y := gg) (HW9.out.row (B := y6.heap.size) (o := ansOW 4 4 vv gg) (by simp))
                  go_wp2
                  go_roundw
                  case rel => exact ⟨q + 1, L2, g, b2, u2, hlt, by rw [hw1]; go_num, ⟨(HW9.out.later (by first | exact Below.refl _ _ | exact below_drawn (Below.refl _ _) _)).less (fun z hz => by simp at hz; subst hz; simp), HRO2.out, HPK2.out⟩⟩
                  case measure => rw [hw1]; simp [intOf]; exact z_meas hlt
              · as_aux_lemma =>
                  obtain ⟨q2, q3⟩ := sf_ln hsm
                  have q2d : decide ((g.l.length : Int) < (nl : Int)) = false := decide_eq_false q3
                  clear hsm
                  have HTT := HT
                  go_wp2_with fail
                  refine HTT.out.mono ?_
                  rintro e y6 ⟨rfl, h6⟩
                  have HW6 : Hid (CW w (y6.alloc (.cells #[.int .i64 4, .int .i64 6, .int .i64 vv, .bool gg] 52)) bs (.pointer (some ⟨M, 0, none⟩)) 8 L2 Z Gk g P b2 u2 ((y6.heap.size, ansOW 4 6 vv gg) :: [(Rb, rdO rd)])) := h6.more _
                  clear h6 c0 c1 gl1 gl3 HTT
                  obtain ⟨⟨ga, gcap, g1⟩, g3, hGk⟩ := HW6.out.cells
                  obtain ⟨r0, r1, r2, r3, r4, r5, r6, r7⟩ := cells8 (HO.out ▸ HW6.out.row (B := Rb) (o := rdO rd) (by simp))
                  go_wp2_with fail
                  refine (HSH2.out _ _ HW6.out).mono ?_
                  rintro e y7 ⟨rfl, h7⟩
                  have HW7 : Hid (CW w y7 bs (.pointer (some ⟨M, 0, none⟩)) 8 L2 Z Gk g P b2 u2 ((y6.heap.size, ansOW 4 6 vv gg) :: [(Rb, rdO rd)])) := h7
                  clear h7 g1 g3 r0 r1 r2 r3 r4 r5 r6 r7 hGk
                  obtain ⟨⟨ga7, gcap7, g1⟩, g3, hGk⟩ := HW7.out.cells
                  obtain ⟨⟨a0, a1, a2, a3⟩, _⟩ := ansW_cells (k := 4) (e := 6) (v := vv) (y := gg) (HW7.out.row (B := y6.heap.size) (o := ansOW 4 6 vv gg) (by simp))
                  go_wp2_with fail
                  go_quiet (fail)
                  have HW7q : Hid (CW w (y7.drewN nq) bs (.pointer (some ⟨M, 0, none⟩)) 8 L2 Z Gk g P b2 u2 ((y6.heap.size, ansOW 4 6 vv gg) :: [(Rb, rdO rd)])) := HW7.out.later (below_drawn (Below.refl _ _) _)
                  clear g1 g3 a0 a1 a2 a3 hGk
                  generalize y7.drewN nq = y7q at *
                  go_wp2_with fail
                  refine (HSP.out _ _ HW7q.out).mono ?_
                  rintro e y8 ⟨rfl, h8⟩
                  have HW8 : Hid (CW w y8 bs (.pointer (some ⟨M, 0, none⟩)) 8 L2 Z Gk g P b2 u2 ((y6.heap.size, ansOW 4 6 vv gg) :: [(Rb, rdO rd)])) := h8
                  clear h8
                  go_wp2_with fail
                  refine (HPK.out _ _ HW8.out).mono ?_
                  rintro e y9 ⟨rfl, h9⟩
                  have HW9 : Hid (CW w y9 bs (.pointer (some ⟨M, 0, none⟩)) 8 L2 Z Gk g P b2 u2 ((y6.heap.size, ansOW 4 6 vv gg) :: [(Rb, rdO rd)])) := h9
                  clear h9
                  obtain ⟨⟨a0, a1, a2, a3⟩, _⟩ := ansW_cells (k := 4) (e := 6) (v := vv) (y := gg) (HW9.out.row (B := y6.heap.size) (o := ansOW 4 6 vv gg) (by simp))
                  go_wp2
                  go_roundw
                  case rel => exact ⟨q + 1, L2, g, b2, u2, hlt, by rw [hw1]; go_num, ⟨(HW9.out.later (by first | exact Below.refl _ _ | exact below_drawn (Below.refl _ _) _)).less (fun z hz => by simp at hz; subst hz; simp), HRO2.out, HPK2.out⟩⟩
                  case measure => rw [hw1]; simp [intOf]; exact z_meas hlt
              · as_aux_lemma =>
                  have q2 : (((g.done : Nat) : Int) == ((g.l.length : Nat) : Int)) = false := sf_dl hsm
                  have HTT := HT
                  go_wp2_with fail
                  refine HTT.out.mono ?_
                  rintro e y6 ⟨rfl, h6⟩
                  have HW6 : Hid (CW w (y6.alloc (.cells #[.int .i64 1, .int .i64 0, .int .i64 vv, .bool gg] 52)) bs (.pointer (some ⟨M, 0, none⟩)) 8 L2 Z Gk g P b2 u2 ((y6.heap.size, ansOW 1 0 vv gg) :: [(Rb, rdO rd)])) := h6.more _
                  clear h6 c0 c1 gl1 gl3 HTT
                  obtain ⟨⟨ga, gcap, g1⟩, g3, hGk⟩ := HW6.out.cells
                  obtain ⟨r0, r1, r2, r3, r4, r5, r6, r7⟩ := cells8 (HO.out ▸ HW6.out.row (B := Rb) (o := rdO rd) (by simp))
                  go_wp2_with fail
                  refine (HSH2.out _ _ HW6.out).mono ?_
                  rintro e y7 ⟨rfl, h7⟩
                  have HW7 : Hid (CW w y7 bs (.pointer (some ⟨M, 0, none⟩)) 8 L2 Z Gk g P b2 u2 ((y6.heap.size, ansOW 1 0 vv gg) :: [(Rb, rdO rd)])) := h7
                  clear h7 g1 g3 r0 r1 r2 r3 r4 r5 r6 r7 hGk
                  obtain ⟨⟨ga7, gcap7, g1⟩, g3, hGk⟩ := HW7.out.cells
                  obtain ⟨⟨a0, a1, a2, a3⟩, _⟩ := ansW_cells (k := 1) (e := 0) (v := vv) (y := gg) (HW7.out.row (B := y6.heap.size) (o := ansOW 1 0 vv gg) (by simp))
                  go_wp2_with fail
                  go_quiet (fail)
                  have HW7q : Hid (CW w (y7.drewN nq) bs (.pointer (some ⟨M, 0, none⟩)) 8 L2 Z Gk g P b2 u2 ((y6.heap.size, ansOW 1 0 vv gg) :: [(Rb, rdO rd)])) := HW7.out.later (below_drawn (Below.refl _ _) _)
                  clear g1 g3 a0 a1 a2 a3 hGk
                  generalize y7.drewN nq = y7q at *
                  go_wp2_with fail
                  refine (HSP.out _ _ HW7q.out).mono ?_
                  rintro e y8 ⟨rfl, h8⟩
                  have HW8 : Hid (CW w y8 bs (.pointer (some ⟨M, 0, none⟩)) 8 L2 Z Gk g P b2 u2 ((y6.heap.size, ansOW 1 0 vv gg) :: [(Rb, rdO rd)])) := h8
                  clear h8
                  go_wp2_with fail
                  refine (HPK.out _ _ HW8.out).mono ?_
                  rintro e y9 ⟨rfl, h9⟩
                  have HW9 : Hid (CW w y9 bs (.pointer (some ⟨M, 0, none⟩)) 8 L2 Z Gk g P b2 u2 ((y6.heap.size, ansOW 1 0 vv gg) :: [(Rb, rdO rd)])) := h9
                  clear h9
                  obtain ⟨⟨a0, a1, a2, a3⟩, _⟩ := ansW_cells (k := 1) (e := 0) (v := vv) (y := gg) (HW9.out.row (B := y6.heap.size) (o := ansOW 1 0 vv gg) (by simp))
                  go_wp2
                  go_roundw
                  case rel => exact ⟨q + 1, L2, g, b2, u2, hlt, by rw [hw1]; go_num, ⟨(HW9.out.later (by first | exact Below.refl _ _ | exact below_drawn (Below.refl _ _) _)).less (fun z hz => by simp at hz; subst hz; simp), HRO2.out, HPK2.out⟩⟩
                  case measure => rw [hw1]; simp [intOf]; exact z_meas hlt
              · as_aux_lemma =>
                  have q1 : (kk == 1) = false := by rcases hsm with rfl | rfl <;> rfl
                  have q3 : (kk == 3) = false := by rcases hsm with rfl | rfl <;> rfl
                  clear hsm
                  have HTT := HT
                  go_wp2_with fail
                  refine HTT.out.mono ?_
                  rintro e y6 ⟨rfl, h6⟩
                  have HW6 : Hid (CW w (y6.alloc (.cells #[.int .i64 kk, .int .i64 0, .int .i64 vv, .bool gg] 52)) bs (.pointer (some ⟨M, 0, none⟩)) 8 L2 Z Gk g P b2 u2 ((y6.heap.size, ansOW kk 0 vv gg) :: [(Rb, rdO rd)])) := h6.more _
                  clear h6 c0 c1 gl1 gl3 HTT
                  obtain ⟨⟨ga, gcap, g1⟩, g3, hGk⟩ := HW6.out.cells
                  obtain ⟨r0, r1, r2, r3, r4, r5, r6, r7⟩ := cells8 (HO.out ▸ HW6.out.row (B := Rb) (o := rdO rd) (by simp))
                  go_wp2_with fail
                  refine (HSH2.out _ _ HW6.out).mono ?_
                  rintro e y7 ⟨rfl, h7⟩
                  have HW7 : Hid (CW w y7 bs (.pointer (some ⟨M, 0, none⟩)) 8 L2 Z Gk g P b2 u2 ((y6.heap.size, ansOW kk 0 vv gg) :: [(Rb, rdO rd)])) := h7
                  clear h7 g1 g3 r0 r1 r2 r3 r4 r5 r6 r7 hGk
                  obtain ⟨⟨ga7, gcap7, g1⟩, g3, hGk⟩ := HW7.out.cells
                  obtain ⟨⟨a0, a1, a2, a3⟩, _⟩ := ansW_cells (k := kk) (e := 0) (v := vv) (y := gg) (HW7.out.row (B := y6.heap.size) (o := ansOW kk 0 vv gg) (by simp))
                  go_wp2_with fail
                  go_quiet (fail)
                  have HW7q : Hid (CW w (y7.drewN nq) bs (.pointer (some ⟨M, 0, none⟩)) 8 L2 Z Gk g P b2 u2 ((y6.heap.size, ansOW kk 0 vv gg) :: [(Rb, rdO rd)])) := HW7.out.later (below_drawn (Below.refl _ _) _)
                  clear g1 g3 a0 a1 a2 a3 hGk
                  generalize y7.drewN nq = y7q at *
                  go_wp2_with fail
                  refine (HSP.out _ _ HW7q.out).mono ?_
                  rintro e y8 ⟨rfl, h8⟩
                  have HW8 : Hid (CW w y8 bs (.pointer (some ⟨M, 0, none⟩)) 8 L2 Z Gk g P b2 u2 ((y6.heap.size, ansOW kk 0 vv gg) :: [(Rb, rdO rd)])) := h8
                  clear h8
                  go_wp2_with fail
                  refine (HPK.out _ _ HW8.out).mono ?_
                  rintro e y9 ⟨rfl, h9⟩
                  have HW9 : Hid (CW w y9 bs (.pointer (some ⟨M, 0, none⟩)) 8 L2 Z Gk g P b2 u2 ((y6.heap.size, ansOW kk 0 vv gg) :: [(Rb, rdO rd)])) := h9
                  clear h9
                  obtain ⟨⟨a0, a1, a2, a3⟩, _⟩ := ansW_cells (k := kk) (e := 0) (v := vv) (y := gg) (HW9.out.row (B := y6.heap.size) (o := ansOW kk 0 vv gg) (by simp))
                  go_wp2
                  go_roundw
                  case rel => exact ⟨q + 1, L2, g, b2, u2, hlt, by rw [hw1]; go_num, ⟨(HW9.out.later (by first | exact Below.refl _ _ | exact below_drawn (Below.refl _ _) _)).less (fun z hz => by simp at hz; subst hz; simp), HRO2.out, HPK2.out⟩⟩
                  case measure => rw [hw1]; simp [intOf]; exact z_meas hlt
            · have HSP : Hid (∀ w' R, CW w w' bs (.pointer (some ⟨M, 0, none⟩)) 8 L2 Z Gk g P b2 u2 R → Calls Try.prog 24 #[.pointer (some ⟨Z, 0, none⟩)] w' fun e w'' => e = .returned (.tuple #[.int .i64 ((g.l.length : Int) + 1), .bool true]) ∧ CW w w'' bs (.pointer (some ⟨M, 0, none⟩)) 8 L2 Z Gk g P b2 u2 R) := fun w' R h => by
                have := cw_stamp h
                rw [hst, sf_ne] at this
                exact this
              have HPK : Hid (∀ w' R, CW w w' bs (.pointer (some ⟨M, 0, none⟩)) 8 L2 Z Gk g P b2 u2 R → Calls Try.prog 25 #[(.pointer (some ⟨M, 0, none⟩)), .agg #[.int .i64 1, .int .i64 0, .int .i64 0]] w' fun e w'' => e = .returned (.tuple #[.int .i64 ((g.l.length : Int) + 1), .int .i64 0]) ∧ CW w w'' bs (.pointer (some ⟨M, 0, none⟩)) 8 L2 Z Gk g P b2 u2 R) := fun w' R h => by
                have := cw_peek h
                rw [hwn] at this
                exact this
              have HSH2 : Hid (∀ w' R, CW w w' bs (.pointer (some ⟨M, 0, none⟩)) 8 L2 Z Gk g P b2 u2 R → Calls Try.prog 23 #[.pointer (some ⟨Gk, 0, none⟩), .int .i64 (z0 : Int), .int .i64 (g.l.length : Int), .agg #[.int .u64 ((m0 : Nat) : Int), .int .u64 ((m1 : Nat) : Int), .int .u64 ((m2 : Nat) : Int), .int .u64 ((m3 : Nat) : Int), .int .u64 ((m4 : Nat) : Int), .int .u64 ((m5 : Nat) : Int), .int .u64 ((m6 : Nat) : Int), .int .u64 ((m7 : Nat) : Int)]] w' fun e w'' => e = .returned (.bool false) ∧ CW w w'' bs (.pointer (some ⟨M, 0, none⟩)) 8 L2 Z Gk g P b2 u2 R) := fun w' R h => by
                have := HSH.out _ _ _ _ _ _ _ _ _ _ _ h HGK.out (z0 : Int) (g.l.length : Int)
                rw [hsh] at this
                exact this
              have dr : decide ((g.l.length : Int) - (g.done : Int) < (s : Int)) = true := decide_eq_true hroom
              have dl : decide ((g.l.length : Int) + 1 ≤ (nl : Int)) = true := decide_eq_true hle
              have hleN : g.l.length + 1 ≤ nl := sf_len hle
              have hleN2 : g.l.length < nl := hleN
              clear hst hwn hsh HE HQL
              as_aux_lemma =>
                have HTT := HT
                go_wp2_with fail
                refine HTT.out.mono ?_
                rintro e y6 ⟨rfl, h6⟩
                have HW6 : Hid (CW w (y6.alloc (.cells #[.int .i64 3, .int .i64 0, .int .i64 ((g.l.length : Int) + 1), .bool gg] 52)) bs (.pointer (some ⟨M, 0, none⟩)) 8 L2 Z Gk g P b2 u2 ((y6.heap.size, ansOW 3 0 ((g.l.length : Int) + 1) gg) :: [(Rb, rdO rd)])) := h6.more _
                clear h6 c0 c1 gl1 gl3 HTT
                obtain ⟨⟨ga, gcap, g1⟩, g3, hGk⟩ := HW6.out.cells
                obtain ⟨r0, r1, r2, r3, r4, r5, r6, r7⟩ := cells8 (HO.out ▸ HW6.out.row (B := Rb) (o := rdO rd) (by simp))
                go_wp2_with fail
                refine (HSH2.out _ _ HW6.out).mono ?_
                rintro e y7 ⟨rfl, h7⟩
                have HW7 : Hid (CW w y7 bs (.pointer (some ⟨M, 0, none⟩)) 8 L2 Z Gk g P b2 u2 ((y6.heap.size, ansOW 3 0 ((g.l.length : Int) + 1) gg) :: [(Rb, rdO rd)])) := h7
                clear h7 g1 g3 r0 r1 r2 r3 r4 r5 r6 r7 hGk
                obtain ⟨⟨ga7, gcap7, g1⟩, g3, hGk⟩ := HW7.out.cells
                obtain ⟨⟨a0, a1, a2, a3⟩, _⟩ := ansW_cells (k := 3) (e := 0) (v := ((g.l.length : Int) + 1)) (y := gg) (HW7.out.row (B := y6.heap.size) (o := ansOW 3 0 ((g.l.length : Int) + 1) gg) (by simp))
                go_wp2_with fail
                go_quiet (fail)
                have HW7q : Hid (CW w (y7.drewN nq) bs (.pointer (some ⟨M, 0, none⟩)) 8 L2 Z Gk g P b2 u2 ((y6.heap.size, ansOW 3 0 ((g.l.length : Int) + 1) gg) :: [(Rb, rdO rd)])) := HW7.out.later (below_drawn (Below.refl _ _) _)
                clear g1 g3 a0 a1 a2 a3 hGk
                generalize y7.drewN nq = y7q at *
                go_wp2_with fail
                refine (HSP.out _ _ HW7q.out).mono ?_
                rintro e y8 ⟨rfl, h8⟩
                have HW8 : Hid (CW w y8 bs (.pointer (some ⟨M, 0, none⟩)) 8 L2 Z Gk g P b2 u2 ((y6.heap.size, ansOW 3 0 ((g.l.length : Int) + 1) gg) :: [(Rb, rdO rd)])) := h8
                clear h8
                go_wp2_with fail
                refine (HPK.out _ _ HW8.out).mono ?_
                rintro e y9 ⟨rfl, h9⟩
                have HW9 : Hid (CW w y9 bs (.pointer (some ⟨M, 0, none⟩)) 8 L2 Z Gk g P b2 u2 ((y6.heap.size, ansOW 3 0 ((g.l.length : Int) + 1) gg) :: [(Rb, rdO rd)])) := h9
                clear h9
                obtain ⟨⟨a0, a1, a2, a3⟩, _⟩ := ansW_cells (k := 3) (e := 0) (v := ((g.l.length : Int) + 1)) (y := gg) (HW9.out.row (B := y6.heap.size) (o := ansOW 3 0 ((g.l.length : Int) + 1) gg) (by simp))
                obtain ⟨⟨ga9, gcap9, g1⟩, g3, hGk⟩ := HW9.out.cells
                obtain ⟨r0, r1, r2, r3, r4, r5, r6, r7⟩ := cells8 (HO.out ▸ HW9.out.row (B := Rb) (o := rdO rd) (by simp))
                go_wp2_with fail
                refine (HSH2.out _ _ HW9.out).mono ?_
                rintro e y10 ⟨rfl, h10⟩
                have HW10 : Hid (CW w y10 bs (.pointer (some ⟨M, 0, none⟩)) 8 L2 Z Gk g P b2 u2 ((y6.heap.size, ansOW 3 0 ((g.l.length : Int) + 1) gg) :: [(Rb, rdO rd)])) := h10
                clear h10 g1 g3 r0 r1 r2 r3 r4 r5 r6 r7 hGk a0 a1 a2 a3
                obtain ⟨⟨ga10, gcap10, g1⟩, g3, hGk⟩ := HW10.out.cells
                obtain ⟨⟨a0, a1, a2, a3⟩, _⟩ := ansW_cells (k := 3) (e := 0) (v := ((g.l.length : Int) + 1)) (y := gg) (HW10.out.row (B := y6.heap.size) (o := ansOW 3 0 ((g.l.length : Int) + 1) gg) (by simp))
                by_cases hmu : mu = true
                · subst hmu
                  go_wp2
                  first | (go_ret; exact ⟨rfl, HW10.out.bel⟩) | (go_quiet (fail); go_wp2; go_ret; exact ⟨rfl, below_drawn HW10.out.bel _⟩)
                · have hmf : mu = false := by simpa using hmu
                  have hdl := hnone hmf
                  have hdli : ((g.done : Nat) : Int) = ((g.l.length : Nat) : Int) := by rw [hdl]
                  have hs0 : 0 < s := HBG.out.2.2.1
                  have hs0I : (0 : Int) < (s : Int) := Int.ofNat_lt.2 hs0
                  have hdlb : (((g.done : Nat) : Int) == ((g.l.length : Nat) : Int)) = true := by rw [hdl]; simp
                  subst hmf
                  clear hmu
                  go_wp2
                  first | (go_ret; exact ⟨rfl, HW10.out.bel⟩) | (go_quiet (fail); go_wp2; go_ret; exact ⟨rfl, below_drawn HW10.out.bel _⟩)
          · have dk : (kd != 0) = true := by simpa using hk0
            have HAC : Hid (∀ w' kk, CW w w' bs (.pointer (some ⟨M, 0, none⟩)) 8 L Z Gk g P b u [(Rb, rdO rd)] → Calls Try.prog 21 #[.pointer (some ⟨Gk, 0, none⟩), (.pointer (some ⟨M, 0, none⟩)), .int .i64 kk, .slice ua nu ucap] w' fun e w'' => e = .returned (.tuple #[]) ∧ ∃ L2 g2, SfW w w'' bs M Z Gk s nf (q + 1) P Rb rd L2 g2 b u) := fun w' kk h => by
              refine (cw_act h HQL.out.2.1 HE.out.ro.gok (by decide) (by decide) kk (.slice ua nu ucap) Wl (HU.out _ h.bel)).mono ?_
              rintro e w'' ⟨rfl, h2⟩
              obtain ⟨h3, h4⟩ := ringOk_act (c := 8) HE.out.ro HQL.out.1 kk Wl
              exact ⟨rfl, _, _, h2, h3, HE.out.pk.ok, sc_stay HE.out.pk.sc HE.out.pk.ok h4, HE.out.pk.un⟩
            have HWR := HE.out.cw.later (below_drawn (Below.refl wr.heap.size wr) 1)
            clear hk0
            go_wp2_with fail
            go_region_with ((go_at_call 21; refine (HAC.out _ _ HWR).mono ?_; rintro e y6 ⟨rfl, h6⟩))
            all_goals
              have HW6 : Hid (∃ L2 g2, SfW w y6 bs M Z Gk s nf (q + 1) P Rb rd L2 g2 b u) := h6
              clear h6 c0 c1
              go_wp2
              go_roundw
              case rel =>
                obtain ⟨L2, g2, h7⟩ := HW6.out
                exact ⟨q + 1, L2, g2, b, u, hlt, by rw [hw1]; go_num, h7⟩
              case measure => rw [hw1]; simp [intOf]; exact z_meas hlt
        · obtain rfl : q = n2 := Nat.le_antisymm hq (Nat.le_of_not_lt hlt)
          have d1 : decide ((q : Int) < (q : Int)) = false := by simp
          go_wp2
          go_ret
          exact ⟨rfl, HE.out.cw.bel⟩
end Go.Proofs.Ytfbbcjlbelnfaaa
