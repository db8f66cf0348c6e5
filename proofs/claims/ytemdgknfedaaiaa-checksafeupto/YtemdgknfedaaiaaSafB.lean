/- CheckSafe walked. -/
import Derived.Test.YtemdgknfedaaiaaSafA
import Derived.Test.YtemdgknfedaaiaaGroH
import Derived.Test.YtemdgknfedaaiaaSigQ
namespace Go.Proofs.Ytemdgknfedaaiaa
open Go.ChangeShapes Go.WideShapes Go.ChangeAt Go.RowKit
attribute [local go_sem ↓] Go.wp_at_zero Go.wp_at_succ

/-- What is so of the ring behind q acts. -/
structure RingOk (L : List Ac) (g : GR) (s q : Nat) : Prop where
  gok : GOk g
  gz : Gz (wordOf L) g
  gs : Gs (wordOf L) g
  size : g.size = s
  len : L.length ≤ 14 * q
  many : g.l.length ≤ q
theorem ringOk_act {L : List Ac} {g : GR} {s q : Nat} (h : RingOk L g s q) (hq : q ≤ 2097152) (k : Int) (S : List Wt) : RingOk (actS 8 k S (g, L)).2 (actS 8 k S (g, L)).1 s (q + 1) ∧ Stay g (actS 8 k S (g, L)).1 := by
  have hm := h.many
  have hl := h.len
  obtain ⟨a1, a2, a3⟩ := act_grows (c := 8) (k := k) (S := S) (s := (g, L))
  obtain ⟨b1, b2⟩ := gs_act (c := 8) (k := k) (S := S) (s := (g, L)) h.gs h.gok
  have c1 := act_len (c := 8) (k := k) (S := S) (s := (g, L))
  exact ⟨⟨gok_act h.gok (by simp only; omega), gz_act h.gz h.gok, b1, a2.trans h.size, by simp only at c1; omega, by simp only at a3; omega⟩, b2⟩
theorem ringOk_load {L : List Ac} {g : GR} {s q : Nat} {C : Cp} {b : Ck} (h : RingOk L g s q) : RingOk (nextKL 8 C.s C b L 1) g s (q + 1) := by
  have hw : wordOf (nextKL 8 C.s C b L 1) = wordOf L := by
    unfold nextKL
    split
    · exact wordOf_load _ _ _ _ _
    · rfl
  have hl := nextKL_len 8 C.s C b L 1
  have := h.len
  have := h.many
  exact ⟨h.gok, by rw [hw]; exact h.gz, by rw [hw]; exact h.gs, h.size, by omega, by omega⟩
/-- What is so of the machine behind q turns. -/
structure SafeOk (L : List Ac) (g : GR) (C : Cp) (b : Ck) (k : Nat) : Prop where
  ok : KOk C b k
  sf : Sf g C b
theorem safe_cases {L : List Ac} {g : GR} {C : Cp} {b : Ck} {s q k : Nat} (h : SafeOk L g C b k) (hr : RingOk L g s q) (ho : ∀ e ∈ g.l, Sg.Ok e.s) :
    SafeOk (nextKL 8 C.s C b L 1) g C (nextK C.s C b L) (nextN C.s C b L k) ∧
    ((errKK C.s C b L = 3 ∧ ansKK C.s C b L ≠ 1 ∧ sharesV g C.z (g.l.length : Int) C.rd = true ∧ (nextK C.s C b L).st ≠ 4) ∨ (errKK C.s C b L = 4 ∧ ansKK C.s C b L ≠ 1 ∧ C.z + (s : Int) < (g.l.length : Int) ∧ (nextK C.s C b L).st ≠ 4) ∨ (errKK C.s C b L = 0 ∧ ansKK C.s C b L = 1 ∧ g.done ≠ g.l.length ∧ (nextK C.s C b L).st ≠ 4) ∨ (errKK C.s C b L = 0 ∧ ansKK C.s C b L ≠ 1)) ∧
    ((nextK C.s C b L).st = 4 → sharesV g C.z (nextK C.s C b L).seen C.rd = false ∧ C.z ≤ (nextK C.s C b L).comp ∧ (nextK C.s C b L).comp ≤ (g.done : Int) ∧ (nextK C.s C b L).seen ≤ (g.l.length : Int)) := by
  have hz0 := h.ok.p.z0
  have hend : ∀ b' : Ck, Sf g C b' → b'.st = 4 → sharesV g C.z b'.seen C.rd = false ∧ C.z ≤ b'.comp ∧ b'.comp ≤ (g.done : Int) ∧ b'.seen ≤ (g.l.length : Int) := fun b' hs e => by
    rcases hs.c with c | c | ⟨c, _⟩ | ⟨c, _⟩ | ⟨c, _⟩ | ⟨_, c1, c2, c3, c4⟩
    · omega
    · omega
    · omega
    · omega
    · omega
    · refine ⟨?_, c2, c3, c1⟩
      cases hh : sharesV g C.z b'.seen C.rd
      · rfl
      · exfalso
        obtain ⟨t, t1, t2, _, t4⟩ := (shares_iff ho h.ok.p.rd hz0).mp hh
        exact c4 t t1 (by omega) t4
  have hf1 : b.st = 1 → b.seen ≤ (g.l.length : Int) := fun e => by
    rcases h.sf.c with c | c | ⟨_, c, _⟩ | ⟨c, _⟩ | ⟨c, _⟩ | ⟨c, _⟩
    · omega
    · omega
    · exact c
    · omega
    · omega
    · omega
  have hvw : W64 (wordOf L (adK C b)) := adK_w h.sf.sz h.ok hr.gz hr.gs hr.gok hf1
  by_cases hgo : goesK C.s C b = true
  · obtain ⟨ht, _⟩ := goesK_iff.mp hgo
    obtain ⟨s1, s2, s3, s4⟩ := sf_step h.sf h.ok ht hr.gz hr.gs hr.gok ho
    have hks := kok_step h.ok hvw ht
    have e1 : nextK C.s C b L = stepK C b (wordOf L (adK C b)) := by unfold nextK; rw [if_pos hgo]
    have e2 : nextN C.s C b L k = if waitK b (wordOf L (adK C b)) then k else k + 1 := by unfold nextN; rw [if_pos hgo]
    have e3 : errKK C.s C b L = errK C b (wordOf L (adK C b)) := by unfold errKK; rw [if_pos hgo]
    have e4 : ansKK C.s C b L = kindK C b (wordOf L (adK C b)) := by unfold ansKK; rw [if_pos hgo]
    rw [e1, e2, e3, e4]
    refine ⟨⟨hks, s1⟩, ?_, hend _ s1⟩
    by_cases hw : waitK b (wordOf L (adK C b)) = true
    · have hb1 : b.st = 1 := by unfold waitK at hw; simp at hw; exact hw.1.1
      have hsame : stepK C b (wordOf L (adK C b)) = b := by
        unfold waitK at hw
        simp only [Bool.and_eq_true, Bool.not_eq_true', decide_eq_true_eq] at hw
        unfold stepK lookK
        rw [if_neg (by omega), if_pos hb1, if_neg (by simp [hw.1.2]), if_neg (by simp [hw.2])]
      refine Or.inr (Or.inr (Or.inl ⟨?_, ?_, s4 hw, by rw [hsame]; omega⟩))
      · unfold errK; rw [if_pos hw]
      · unfold kindK; rw [if_pos hw]
    · have hw' : waitK b (wordOf L (adK C b)) = false := by simpa using hw
      rw [if_neg hw] at hks
      rw [(kindK_of hw').1, (kindK_of hw').2]
      have hk1 : kindV (stepK C b (wordOf L (adK C b))) ≠ 1 := by
        unfold kindV
        split
        · decide
        · split <;> decide
      rcases kok_st hks with c | c | c | c | c | c
      · exact Or.inr (Or.inr (Or.inr ⟨by rw [kok_zero hks c]; rfl, hk1⟩))
      · exact Or.inr (Or.inr (Or.inr ⟨(kok_mid hks (Or.inl c)).1.e, hk1⟩))
      · exact Or.inr (Or.inr (Or.inr ⟨(kok_mid hks (Or.inr (Or.inl c))).1.e, hk1⟩))
      · exact Or.inr (Or.inr (Or.inr ⟨(kok_mid hks (Or.inr (Or.inr c))).1.e, hk1⟩))
      · refine Or.inr (Or.inr (Or.inr ⟨?_, hk1⟩))
        rcases hks.c with ⟨z, _⟩ | ⟨z, _⟩ | ⟨z, _⟩ | ⟨z, _⟩ | ⟨_, _, z⟩ | ⟨z, _⟩
        · rw [z] at c; simp [ckNew] at c
        · omega
        · omega
        · omega
        · exact z
        · omega
      · have hee : (stepK C b (wordOf L (adK C b))).err = 3 ∨ (stepK C b (wordOf L (adK C b))).err = 4 := by
          rcases hks.c with ⟨z, _⟩ | ⟨z, _⟩ | ⟨z, _⟩ | ⟨z, _⟩ | ⟨z, _⟩ | ⟨_, _, z⟩
          · rw [z] at c; simp [ckNew] at c
          · omega
          · omega
          · omega
          · omega
          · exact z
        rcases hee with z | z
        · obtain ⟨t, t1, t2, t3⟩ := s2 z
          exact Or.inl ⟨z, hk1, (shares_iff ho h.ok.p.rd hz0).mpr ⟨t, t1, by omega, t2, t3⟩, by omega⟩
        · exact Or.inr (Or.inl ⟨z, hk1, by have := s3 z; rw [hr.size] at this; exact this, by omega⟩)
  · have e1 : nextK C.s C b L = b := by unfold nextK; rw [if_neg hgo]
    have e2 : nextN C.s C b L k = k := by unfold nextN; rw [if_neg hgo]
    have e3 : errKK C.s C b L = 0 := by unfold errKK; rw [if_neg hgo]
    have e4 : ansKK C.s C b L = 0 := by unfold ansKK; rw [if_neg hgo]
    rw [e1, e2, e3, e4]
    exact ⟨⟨h.ok, h.sf⟩, Or.inr (Or.inr (Or.inr ⟨rfl, by decide⟩)), hend _ h.sf⟩
theorem fw_new {w0 w3 : World} {base : Nat} {p : Value} {F : List Nat} {s : Nat} (hb : Below w0.heap.size w0 w3) (hm : MemAt w3 base p 8 s [] F) (hlo : w0.heap.size ≤ base) (hsz : base ≤ w3.heap.size) :
    FW w0 (w3.alloc (.cells #[.int .i64 (s : Int), .slice none 0 0, .int .i64 0, .int .i64 0] 81)) base p [] w3.heap.size ⟨s, [], 0, 0⟩ := by
  have ba := below_a1 w3 (.cells #[.int .i64 (s : Int), .slice none 0 0, .int .i64 0, .int .i64 0] 81)
  refine ⟨⟨F, [w3.heap.size], ⟨hm.below ba, ⟨.slice none 0 0, [], heap_alloc_new _ _, World.ownsRow_nil _ _ _ _, rfl, fun i hi => by simp at hi, rfl, hsz, fun e he => by simp at he⟩, fun b hbF hp => ?_⟩⟩, below_then hb ba, hlo, by simp; omega⟩
  simp at hp
  have := (hm.lt _ hbF).2
  omega
theorem kw_new {w0 w w' : World} {base : Nat} {p : Value} {L : List Ac} {Gk : Nat} {g : GR} {C : Cp} {b : Ck} {X B : Nat} {o : Obj} (h : FW w0 w base p L Gk g) (hb : Below w.heap.size w w') (hX : w.heap.size ≤ X) (hx : KAt w' X C b) (hB : w.heap.size ≤ B) (hrow : w'.heap[B]? = some o) (hne : B ≠ X) : KW w0 w' base p L X Gk g C b [(B, o)] := by
  obtain ⟨F, P, h1⟩ := h.all
  have hlt : ∀ q ∈ F ++ P, q < w.heap.size := fun q hq => by
    rcases List.mem_append.1 hq with h3 | h3
    · exact (h1.mem.lt q h3).2
    · exact (h1.gr.lt q h3).2
  refine ⟨⟨F, P, h1.below hb, hx, fun e => by have := hlt _ e; omega, Nat.le_trans h.size hX, fun z hz => ?_⟩, below_then h.bel hb, h.lo, Nat.le_trans h.size hb.size⟩
  obtain rfl : z = (B, o) := by simpa using hz
  refine ⟨hrow, fun e => ?_⟩
  rcases List.mem_cons.1 e with e | e
  · exact hne e
  · have := hlt _ e; simp only at this; omega
theorem z_wrap {x : Int} (h1 : -9223372036854775808 ≤ x) (h2 : x ≤ 9223372036854775807) : wrap64 x = x := by unfold wrap64; omega

theorem z_turn {w : World} {va : Option Addr} {S : List Tn} (hl : S = [] ∨ ∃ x, va = some x ∧ x.block < w.heap.size ∧ ∀ i, i < S.length → w.cell? (x.add (i * 2)) = some (.int .i64 (S.getD i noTn).k) ∧ ∃ u, w.cell? ((x.add (i * 2)).add 1) = some u ∧ WLst w u (S.getD i noTn).l) : ∀ q, q < S.length → ∃ x, va = some x ∧ x.block < w.heap.size ∧ w.cell? (x.add (q * 2)) = some (.int .i64 (S.getD q noTn).k) ∧ ∃ u, w.cell? ((x.add (q * 2)).add 1) = some u ∧ WLst w u (S.getD q noTn).l := by
  intro q hq
  rcases hl with rfl | ⟨x, hx, hxb, hcc⟩
  · exact absurd hq (by simp)
  · exact ⟨x, hx, hxb, (hcc q hq).1, (hcc q hq).2⟩
theorem z_meas {q n : Nat} (h : q < n) : n - (q + 1) < n - q := by omega
theorem z_w1 {q n : Nat} (h : q < n) (hn : n ≤ 1048576) : wrap64 ((q : Int) + 1) = (q : Int) + 1 := z_wrap (by omega) (by omega)
set_option maxRecDepth 100000 in
set_option maxHeartbeats 6400000 in
theorem safe_walk (w : World) (raw : Int) (vc vf vl : Value) (cells : List Int) (S1 S2 : List Tn) (hvc : Sg.Lst w vc cells) (hvf : TnLst w vf S1) (hvl : TnLst w vl S2) :
    Calls Try.prog 6 #[.agg #[.int .i64 raw, vc, vf, vl]] w fun e w' => e = .returned (.bool true) ∧ Below w.heap.size w w' := by
  have HS : Hid (∀ w : World, Calls Try.prog 7 #[] w fun e w' => e = .returned (.bool true) ∧ Below w.heap.size w w') := cshown_any
  obtain ⟨s, hs1, hs16, hse⟩ : ∃ s : Nat, 1 ≤ s ∧ s ≤ 16 ∧ raw % 16 = (s : Int) - 1 := ⟨(raw % 16 + 1).toNat, by omega, by omega, by omega⟩
  have HP : Hid (∀ w : World, Calls Try.prog 22 #[.int .i64 raw, .int .i64 16] w fun e w' => e = .returned (.int .i64 ((s : Int) - 1)) ∧ w' = w) := fun w => by rw [← hse]; exact gpick_any raw 16 (by decide) (by decide) w
  have HN : Hid (∀ w : World, Calls Try.prog 10 #[.int .i64 8, .int .i64 (s : Int)] w fun e w' => ∃ p F, e = .returned (.tuple #[p, .int .i64 0]) ∧ p ≠ .pointer none ∧ MemAt w' w.heap.size p 8 s [] F ∧ Below w.heap.size w w') := fun w => new_yes w 8 s (by decide) ⟨hs1, hs16⟩
  have HLC : Hid (∀ w' : World, Below w.heap.size w w' → Calls Try.prog 24 #[vc] w' fun e w'' => e = .returned (Sg.sv (Sg.ofAll cells)) ∧ Below w'.heap.size w' w'') := fun w' hb => Sg.rof_any w' vc cells (hvc.later hb)
  obtain ⟨ca, ccap, rfl, _⟩ := hvc
  generalize cells.length = nc at *
  obtain ⟨fa, fcap, rfl, hbig1, hl1⟩ := hvf
  obtain ⟨la, lcap, rfl, hbig2, hl2⟩ := hvl
  have HC1 := z_turn hl1
  have HC2 := z_turn hl2
  have HD1 : Hid (∀ q, q < S1.length → ∃ x, fa = some x ∧ x.block < w.heap.size ∧ w.cell? (x.add (q * 2)) = some (.int .i64 (S1.getD q noTn).k) ∧ ∃ u, w.cell? ((x.add (q * 2)).add 1) = some u ∧ WLst w u (S1.getD q noTn).l) := HC1
  have HD2 : Hid (∀ q, q < S2.length → ∃ x, la = some x ∧ x.block < w.heap.size ∧ w.cell? (x.add (q * 2)) = some (.int .i64 (S2.getD q noTn).k) ∧ ∃ u, w.cell? ((x.add (q * 2)).add 1) = some u ∧ WLst w u (S2.getD q noTn).l) := HC2
  clear hl1 hl2 HC1 HC2 hse
  generalize hn1 : S1.length = n1 at *
  generalize hn2 : S2.length = n2 at *
  clear hn1 hn2
  have HBG : Hid (n1 ≤ 1048576 ∧ n2 ≤ 1048576 ∧ 1 ≤ s ∧ s ≤ 16) := ⟨hbig1, hbig2, hs1, hs16⟩
  have w1b : 1 + ((s : Int) - 1) = (s : Int) := by omega
  have w1c : wrap64 (s : Int) = (s : Int) := z_wrap (by omega) (by omega)
  have w1 : wrap64 (1 + ((s : Int) - 1)) = (s : Int) := by rw [w1b, w1c]
  clear hbig1 hbig2
  have HOF : Hid (Sg.Ok (Sg.ofAll cells)) := Sg.ok_ofAll cells
  generalize Sg.ofAll cells = rd at *
  have HSV : Hid (Sg.sv rd = .agg #[rdV rd 0, rdV rd 1, rdV rd 2, rdV rd 3, rdV rd 4, rdV rd 5, rdV rd 6, rdV rd 7]) := by rw [Hid, rd_cells HOF.out.1]; rfl
  rw [HSV.out] at HLC
  have HCN : Hid (∀ (z : Nat) (w : World), z ≤ 1048576 → Calls Try.prog 8 #[.int .i64 (s : Int), .int .i64 (z : Int), .agg #[rdV rd 0, rdV rd 1, rdV rd 2, rdV rd 3, rdV rd 4, rdV rd 5, rdV rd 6, rdV rd 7], .bool true] w fun e w' => e = .returned (.tuple #[.pointer (some ⟨w.heap.size + 1, 0, none⟩), .int .i64 0]) ∧ KAt w' (w.heap.size + 1) ⟨s, (z : Int), rd, true⟩ (ckNew ⟨s, (z : Int), rd, true⟩) ∧ Below w.heap.size w w') := fun z w hz => by
    have := cnew_yes w (P := ⟨s, (z : Int), rd, true⟩) ⟨HBG.out.2.2.1, HBG.out.2.2.2, by simp only; omega, by simp only; omega, HOF.out⟩
    rw [rd_cells HOF.out.1]; exact this
  have HSH : Hid (∀ (w' : World) (L : List Ac) (X Gk bs M : Nat) (g : GR) (C : Cp) (b : Ck) (R : List (Nat × Obj)), KW w w' bs (.pointer (some ⟨M, 0, none⟩)) L X Gk g C b R → GOk g → ∀ x y, Calls Try.prog 25 #[.pointer (some ⟨Gk, 0, none⟩), .int .i64 x, .int .i64 y, .agg #[rdV rd 0, rdV rd 1, rdV rd 2, rdV rd 3, rdV rd 4, rdV rd 5, rdV rd 6, rdV rd 7]] w' fun e w'' => e = .returned (.bool (sharesV g x y rd)) ∧ KW w w'' bs (.pointer (some ⟨M, 0, none⟩)) L X Gk g C b R) := fun w' L X Gk bs M g C b R h hk x y => kw_shares h hk x y rd HOF.out
  have HO : Hid (rdO rd = .cells #[rdV rd 0, rdV rd 1, rdV rd 2, rdV rd 3, rdV rd 4, rdV rd 5, rdV rd 6, rdV rd 7] 24 (0, 0)) := rfl
  clear HSV
  unfold rdV at HLC HCN HSH HO
  generalize rd.getD 0 0 = m0 at *
  generalize rd.getD 1 0 = m1 at *
  generalize rd.getD 2 0 = m2 at *
  generalize rd.getD 3 0 = m3 at *
  generalize rd.getD 4 0 = m4 at *
  generalize rd.getD 5 0 = m5 at *
  generalize rd.getD 6 0 = m6 at *
  generalize rd.getD 7 0 = m7 at *
  go_enter Try.func6, Try.ntmps6
  go_wp2_with fail
  refine (HS.out _).mono ?_
  rintro e y1 ⟨rfl, hb1⟩
  have HB1 : Hid (Below w.heap.size w y1) := below_then (below_a1 _ _) hb1
  clear hb1
  go_wp2_with fail
  refine (HP.out _).mono ?_
  rintro e y2 ⟨rfl, rfl⟩
  clear hs1 hs16
  go_wp2_with fail
  refine (HN.out _).mono ?_
  rintro e y3 ⟨p, F3, rfl, _, hm3, hb3⟩
  obtain ⟨M, rfl⟩ := hm3.ptr
  have HE3 : Hid (FW w (y3.alloc (.cells #[.int .i64 (s : Int), .slice none 0 0, .int .i64 0, .int .i64 0] 81)) y2.heap.size (.pointer (some ⟨M, 0, none⟩)) [] y3.heap.size ⟨s, [], 0, 0⟩ ∧ RingOk [] ⟨s, [], 0, 0⟩ s 0) :=
    ⟨fw_new (below_then HB1.out hb3) hm3 HB1.out.size hb3.size, ⟨HBG.out.2.2.1, HBG.out.2.2.2, Nat.le_refl _, Nat.le_refl _, by simp⟩, gz_zero s, gs_zero s, rfl, by simp, by simp⟩
  clear hm3 hb3
  go_wp2
  generalize y2.heap.size = bs at HE3 ⊢
  generalize y3.heap.size = Gk at HE3 ⊢
  go_loopw [12] (fun iv wr => ∃ (q : Nat) (L : List Ac) (g : GR), q ≤ n1 ∧ iv = .int .i64 q ∧ FW w wr bs (.pointer (some ⟨M, 0, none⟩)) L Gk g ∧ RingOk L g s q) (fun iv _ => n1 - (intOf iv).toNat)
  case atStart => exact ⟨0, [], ⟨s, [], 0, 0⟩, Nat.zero_le _, rfl, HE3.out.1, HE3.out.2⟩
  case round =>
    obtain ⟨q, L, g, hq, rfl, hfw, hro⟩ := hrel
    have HE : Hid (FW w wr bs (.pointer (some ⟨M, 0, none⟩)) L Gk g ∧ RingOk L g s q) := ⟨hfw, hro⟩
    clear hfw hro HE3
    by_cases hlt : q < n1
    · obtain ⟨x, rfl, hxb, c0, u, c1, hu⟩ := HD1.out q hlt
      have hbel := HE.out.1.bel
      replace c0 := cell_later hbel (by rw [add_block]; exact hxb) c0
      replace c1 := cell_later hbel (by rw [add_block, add_block]; exact hxb) c1
      rw [add_pos' _ _ (by decide)] at c1
      have d1 : decide ((q : Int) < (n1 : Int)) = true := decide_eq_true (Int.ofNat_lt.2 hlt)
      have hx1 : (q : Int) < (n1 : Int) := Int.ofNat_lt.2 hlt
      have hw1 : wrap64 ((q : Int) + 1) = (q : Int) + 1 := z_w1 hlt HBG.out.1
      have HU : Hid (∀ w', Below w.heap.size w w' → WLst w' u (S1.getD q noTn).l) := fun w' hb => hu.later hb rfl
      obtain ⟨ua, ucap, rfl, _⟩ := hu
      clear hbel
      generalize (S1.getD q noTn).l.length = nu at *
      generalize (S1.getD q noTn).l = Wl at *
      generalize (S1.getD q noTn).k = kd at *
      have HAC : Hid (∀ w', FW w w' bs (.pointer (some ⟨M, 0, none⟩)) L Gk g → Calls Try.prog 23 #[.pointer (some ⟨Gk, 0, none⟩), (.pointer (some ⟨M, 0, none⟩)), .int .i64 kd, .slice ua nu ucap] w' fun e w'' => e = .returned (.tuple #[]) ∧ ∃ L2 g2, FW w w'' bs (.pointer (some ⟨M, 0, none⟩)) L2 Gk g2 ∧ RingOk L2 g2 s (q + 1)) := fun w' h => by
        have hle := HE.out.2.len
        have hbg := HBG.out
        refine (fw_act h (by omega) HE.out.2.gok kd (.slice ua nu ucap) Wl (HU.out _ h.bel)).mono ?_
        rintro e w'' ⟨rfl, h2⟩
        exact ⟨rfl, _, _, h2, (ringOk_act HE.out.2 (by omega) kd Wl).1⟩
      have HWR := HE.out.1.later (below_drawn (Below.refl wr.heap.size wr) 1)
      go_wp2_with fail
      go_region_with ((go_at_call 23; refine (HAC.out _ HWR).mono ?_; rintro e y6 ⟨rfl, h6⟩))
      all_goals
        have HW6 : Hid (∃ L2 g2, FW w y6 bs (.pointer (some ⟨M, 0, none⟩)) L2 Gk g2 ∧ RingOk L2 g2 s (q + 1)) := h6
        clear h6 c0 c1
        go_wp2
        go_roundw
        case rel =>
          obtain ⟨L2, g2, h7, h8⟩ := HW6.out
          exact ⟨q + 1, L2, g2, hlt, by rw [hw1]; go_num, h7, h8⟩
        case measure => rw [hw1]; simp [intOf]; exact z_meas hlt
    · obtain rfl : q = n1 := by omega
      have d1 : decide ((q : Int) < (q : Int)) = false := by simp
      have HRO : Hid (RingOk L g s q) := HE.out.2
      have HFW : Hid (FW w wr bs (.pointer (some ⟨M, 0, none⟩)) L Gk g) := HE.out.1
      have g3 := HFW.out.cells
      clear HE hq hlt
      obtain ⟨nf, HNF, HRO2⟩ : ∃ nf, Hid (nf ≤ 1048576) ∧ Hid (RingOk L g s nf) := ⟨q, HBG.out.1, HRO.out⟩
      obtain ⟨z0, hz0⟩ : ∃ z0, z0 = g.done := ⟨_, rfl⟩
      rw [← hz0] at g3
      have HZ0 : Hid (z0 = g.done) := hz0
      clear hz0
      go_wp2_with fail
      refine (HLC.out _ HFW.out.bel).mono ?_
      rintro e y4 ⟨rfl, hb4⟩
      have HF4 : Hid (FW w y4 bs (.pointer (some ⟨M, 0, none⟩)) L Gk g) := HFW.out.later hb4
      clear hb4 g3
      have HCZ : Hid (∀ (w : World), Calls Try.prog 8 #[.int .i64 (s : Int), .int .i64 (z0 : Int), .agg #[.int .u64 ((m0 : Nat) : Int), .int .u64 ((m1 : Nat) : Int), .int .u64 ((m2 : Nat) : Int), .int .u64 ((m3 : Nat) : Int), .int .u64 ((m4 : Nat) : Int), .int .u64 ((m5 : Nat) : Int), .int .u64 ((m6 : Nat) : Int), .int .u64 ((m7 : Nat) : Int)], .bool true] w fun e w' => e = .returned (.tuple #[.pointer (some ⟨w.heap.size + 1, 0, none⟩), .int .i64 0]) ∧ KAt w' (w.heap.size + 1) ⟨s, (z0 : Int), rd, true⟩ (ckNew ⟨s, (z0 : Int), rd, true⟩) ∧ Below w.heap.size w w') := fun w => HCN.out z0 w (by
        have h1 := HRO2.out.many; have h2 := HRO2.out.gok.da; have h3 := HRO2.out.gok.an; have h4 := HZ0.out; have h5 := HNF.out; omega)
      go_wp2_with fail
      refine (HCZ.out _).mono ?_
      rintro e y5 ⟨rfl, hx5, hb5⟩
      have HK5 : Hid (KW w y5 bs (.pointer (some ⟨M, 0, none⟩)) L ((y4.alloc (.cells #[.int .u64 ((m0 : Nat) : Int), .int .u64 ((m1 : Nat) : Int), .int .u64 ((m2 : Nat) : Int), .int .u64 ((m3 : Nat) : Int), .int .u64 ((m4 : Nat) : Int), .int .u64 ((m5 : Nat) : Int), .int .u64 ((m6 : Nat) : Int), .int .u64 ((m7 : Nat) : Int)] 24)).heap.size + 1) Gk g ⟨s, (z0 : Int), rd, true⟩ (ckNew ⟨s, (z0 : Int), rd, true⟩) [(y4.heap.size, rdO rd)]) :=
        kw_new HF4.out (below_then (below_a1 _ _) hb5) (by simp; omega) hx5 (Nat.le_refl _) (by rw [HO.out]; exact row_on (heap_alloc_new _ _) hb5) (by simp; omega)
      have HS5 : Hid (SafeOk L g ⟨s, (z0 : Int), rd, true⟩ (ckNew ⟨s, (z0 : Int), rd, true⟩) 0) :=
        ⟨kok_new ⟨HBG.out.2.2.1, HBG.out.2.2.2, by simp only; omega, by have h1 := HRO2.out.many; have h2 := HRO2.out.gok.da; have h3 := HRO2.out.gok.an; have h4 := HZ0.out; have h5 := HNF.out; simp only; omega, HOF.out⟩, by have h4 := HZ0.out; simp only; omega, HRO2.out.size.symm, rfl, Or.inl rfl⟩
      clear hx5 hb5
      generalize (y4.alloc (.cells #[.int .u64 ((m0 : Nat) : Int), .int .u64 ((m1 : Nat) : Int), .int .u64 ((m2 : Nat) : Int), .int .u64 ((m3 : Nat) : Int), .int .u64 ((m4 : Nat) : Int), .int .u64 ((m5 : Nat) : Int), .int .u64 ((m6 : Nat) : Int), .int .u64 ((m7 : Nat) : Int)] 24)).heap.size + 1 = X at *
      generalize y4.heap.size = Rb at *
      have HZB : Hid (z0 ≤ 1048576) := by have h1 := HRO2.out.many; have h2 := HRO2.out.gok.da; have h3 := HRO2.out.gok.an; have h4 := HZ0.out; have h5 := HNF.out; rw [Hid]; omega
      go_wp2
      go_loopw [17] (fun iv wr => ∃ (q : Nat) (L : List Ac) (g : GR) (b : Ck) (k : Nat), q ≤ n2 ∧ iv = .int .i64 q ∧ KW w wr bs (.pointer (some ⟨M, 0, none⟩)) L X Gk g ⟨s, (z0 : Int), rd, true⟩ b [(Rb, rdO rd)] ∧ RingOk L g s (nf + q) ∧ SafeOk L g ⟨s, (z0 : Int), rd, true⟩ b k) (fun iv _ => n2 - (intOf iv).toNat)
      case atStart => exact ⟨0, L, g, _, 0, Nat.zero_le _, rfl, HK5.out, HRO2.out, HS5.out⟩
      case round =>
        obtain ⟨q, L, g, b, k, hq, rfl, hkw, hro, hso⟩ := hrel
        have HE : Hid (KW w wr bs (.pointer (some ⟨M, 0, none⟩)) L X Gk g ⟨s, (z0 : Int), rd, true⟩ b [(Rb, rdO rd)] ∧ RingOk L g s (nf + q) ∧ SafeOk L g ⟨s, (z0 : Int), rd, true⟩ b k) := ⟨hkw, hro, hso⟩
        clear hkw hro hso HK5 HS5 HRO HRO2 HF4 HFW HZ0
        by_cases hlt : q < n2
        · obtain ⟨x, rfl, hxb, c0, u, c1, hu⟩ := HD2.out q hlt
          have hbel := HE.out.1.bel
          replace c0 := cell_later hbel (by rw [add_block]; exact hxb) c0
          replace c1 := cell_later hbel (by rw [add_block, add_block]; exact hxb) c1
          rw [add_pos' _ _ (by decide)] at c1
          have d1 : decide ((q : Int) < (n2 : Int)) = true := decide_eq_true (Int.ofNat_lt.2 hlt)
          have hx1 : (q : Int) < (n2 : Int) := Int.ofNat_lt.2 hlt
          have hw1 : wrap64 ((q : Int) + 1) = (q : Int) + 1 := z_w1 hlt HBG.out.2.1
          have HU : Hid (∀ w', Below w.heap.size w w' → WLst w' u (S2.getD q noTn).l) := fun w' hb => hu.later hb rfl
          obtain ⟨ua, ucap, rfl, _⟩ := hu
          clear hbel
          generalize (S2.getD q noTn).l.length = nu at *
          generalize (S2.getD q noTn).l = Wl at *
          generalize (S2.getD q noTn).k = kd at *
          have HQL : Hid (nf + q ≤ 2097152 ∧ L.length < 3298534882000) := by
            have h1 := HNF.out; have h2 := HBG.out.2.1; have h3 := HE.out.2.1.len; rw [Hid]; omega
          by_cases hk0 : kd = 0
          · subst hk0
            obtain ⟨hso2, hcs, hend⟩ := safe_cases HE.out.2.2 HE.out.2.1 HE.out.1.okS
            simp only at hcs hend
            have HT : Hid (Calls Try.prog 14 #[.pointer (some ⟨X, 0, none⟩), (.pointer (some ⟨M, 0, none⟩)), .int .i64 1] wr fun e w' => e = .returned (.agg #[.int .i64 (ansKK s ⟨s, (z0 : Int), rd, true⟩ b L), .int .i64 (errKK s ⟨s, (z0 : Int), rd, true⟩ b L), .int .i64 0, .bool (goesK s ⟨s, (z0 : Int), rd, true⟩ b)]) ∧ KW w w' bs (.pointer (some ⟨M, 0, none⟩)) (nextKL 8 s ⟨s, (z0 : Int), rd, true⟩ b L 1) X Gk g ⟨s, (z0 : Int), rd, true⟩ (nextK s ⟨s, (z0 : Int), rd, true⟩ b L) [(Rb, rdO rd)]) := by
              have hf1 : b.st = 1 → b.seen ≤ (g.l.length : Int) := fun e => by
                rcases HE.out.2.2.sf.c with c | c | ⟨_, c, _⟩ | ⟨c, _⟩ | ⟨c, _⟩ | ⟨c, _⟩
                · omega
                · omega
                · exact c
                · omega
                · omega
                · omega
              have h1 := HQL.out.2
              exact kw_step HE.out.1 HE.out.2.2.sf.sz (by omega) HE.out.2.2.ok (adK_w HE.out.2.2.sf.sz HE.out.2.2.ok HE.out.2.1.gz HE.out.2.1.gs HE.out.2.1.gok hf1) 1
            have HRO2 : Hid (RingOk (nextKL 8 s ⟨s, (z0 : Int), rd, true⟩ b L 1) g s (nf + (q + 1))) := by
              have := ringOk_load (C := ⟨s, (z0 : Int), rd, true⟩) (b := b) HE.out.2.1
              rw [Nat.add_assoc] at this
              exact this
            have HSO2 : Hid (SafeOk (nextKL 8 s ⟨s, (z0 : Int), rd, true⟩ b L 1) g ⟨s, (z0 : Int), rd, true⟩ (nextK s ⟨s, (z0 : Int), rd, true⟩ b L) (nextN s ⟨s, (z0 : Int), rd, true⟩ b L k)) := hso2
            have HGK : Hid (GOk g) := HE.out.2.1.gok
            have HGL : Hid (g.l.length ≤ 2097152 ∧ z0 ≤ 1048576) := ⟨Nat.le_trans HE.out.2.1.many HQL.out.1, HZB.out⟩
            clear hso2
            generalize ansKK s ⟨s, (z0 : Int), rd, true⟩ b L = kk at *
            generalize errKK s ⟨s, (z0 : Int), rd, true⟩ b L = ee at *
            generalize goesK s ⟨s, (z0 : Int), rd, true⟩ b = gg at *
            generalize nextKL 8 s ⟨s, (z0 : Int), rd, true⟩ b L 1 = L2 at *
            generalize nextK s ⟨s, (z0 : Int), rd, true⟩ b L = b2 at *
            generalize nextN s ⟨s, (z0 : Int), rd, true⟩ b L k = k2 at *
            have wl : wrap64 ((g.l.length : Int) - (z0 : Int)) = (g.l.length : Int) - (z0 : Int) := by have h1 := HGL.out; exact z_wrap (by omega) (by omega)
            obtain ⟨st', seen, stamp, word, comp, err⟩ := b2
            simp only at hcs hend
            rcases hcs with ⟨rfl, hk1, hsm, hst4⟩ | ⟨rfl, hk1, hsm, hst4⟩ | ⟨rfl, rfl, hsm, hst4⟩ | ⟨rfl, hk1⟩
            · have q1 : (kk == 1) = false := by simpa using hk1
              clear hk1 hend
              go_wp2_with fail
              refine HT.out.mono ?_
              rintro e y6 ⟨rfl, h6⟩
              have HW6 : Hid (KW w (y6.alloc (.cells #[.int .i64 kk, .int .i64 3, .int .i64 0, .bool gg] 50)) bs (.pointer (some ⟨M, 0, none⟩)) L2 X Gk g ⟨s, (z0 : Int), rd, true⟩ ⟨st', seen, stamp, word, comp, err⟩ [(y6.heap.size, ansOE kk 3 gg), (Rb, rdO rd)]) := h6.more _
              clear h6 c0 c1
              obtain ⟨⟨ga, gcap, g1⟩, g3⟩ := HW6.out.cells
              obtain ⟨r0, r1, r2, r3, r4, r5, r6, r7⟩ := cells8 (HO.out ▸ HW6.out.row (B := Rb) (o := rdO rd) (by simp))
              go_wp2_with fail
              refine (HSH.out _ _ _ _ _ _ _ _ _ _ HW6.out HGK.out _ _).mono ?_
              rintro e y7 ⟨rfl, h7⟩
              have HW7 : Hid (KW w y7 bs (.pointer (some ⟨M, 0, none⟩)) L2 X Gk g ⟨s, (z0 : Int), rd, true⟩ ⟨st', seen, stamp, word, comp, err⟩ [(y6.heap.size, ansOE kk 3 gg), (Rb, rdO rd)]) := h7
              clear h7 g1 g3 r0 r1 r2 r3 r4 r5 r6 r7
              obtain ⟨⟨ga7, gcap7, g1⟩, g3⟩ := HW7.out.cells
              obtain ⟨a0, a1, a2, a3⟩ := ansE_cells (k := kk) (e := 3) (y := gg) (HW7.out.row (B := y6.heap.size) (o := ansOE kk 3 gg) (by simp))
              have HTS : Hid (∀ w', KW w w' bs (.pointer (some ⟨M, 0, none⟩)) L2 X Gk g ⟨s, (z0 : Int), rd, true⟩ ⟨st', seen, stamp, word, comp, err⟩ [(y6.heap.size, ansOE kk 3 gg), (Rb, rdO rd)] → Calls Try.prog 21 #[.pointer (some ⟨X, 0, none⟩)] w' fun e w'' => e = .returned (.tuple #[.int .i64 0, .int .i64 0, .bool false]) ∧ KW w w'' bs (.pointer (some ⟨M, 0, none⟩)) L2 X Gk g ⟨s, (z0 : Int), rd, true⟩ ⟨st', seen, stamp, word, comp, err⟩ [(y6.heap.size, ansOE kk 3 gg), (Rb, rdO rd)]) := fun w' h => by
                have := kw_start h
                simp only at this
                rw [if_neg hst4, if_neg hst4, decide_eq_false hst4] at this
                exact this
              go_wp2_with fail
              go_quiet (fail)
              go_wp2_with fail
              refine (HTS.out _ (HW7.out.later (by first | exact Below.refl _ _ | exact below_drawn (Below.refl _ _) _))).mono ?_
              rintro e y8 ⟨rfl, h8⟩
              have HW8 : Hid (KW w y8 bs (.pointer (some ⟨M, 0, none⟩)) L2 X Gk g ⟨s, (z0 : Int), rd, true⟩ ⟨st', seen, stamp, word, comp, err⟩ [(y6.heap.size, ansOE kk 3 gg), (Rb, rdO rd)]) := h8
              clear h8 g1 g3 a0 a1 a2 a3
              go_wp2
              go_roundw
              case rel => exact ⟨q + 1, L2, g, ⟨st', seen, stamp, word, comp, err⟩, k2, hlt, by rw [hw1]; go_num, (HW8.out.later (by first | exact Below.refl _ _ | exact below_drawn (Below.refl _ _) _)).less (fun z hz => by simp at hz; subst hz; simp), HRO2.out, HSO2.out⟩
              case measure => rw [hw1]; simp [intOf]; exact z_meas hlt
            · have q1 : (kk == 1) = false := by simpa using hk1
              have q2 : decide ((g.l.length : Int) - (z0 : Int) ≤ (s : Int)) = false := decide_eq_false (by omega)
              clear hk1 hsm hend
              go_wp2_with fail
              refine HT.out.mono ?_
              rintro e y6 ⟨rfl, h6⟩
              have HW6 : Hid (KW w (y6.alloc (.cells #[.int .i64 kk, .int .i64 4, .int .i64 0, .bool gg] 50)) bs (.pointer (some ⟨M, 0, none⟩)) L2 X Gk g ⟨s, (z0 : Int), rd, true⟩ ⟨st', seen, stamp, word, comp, err⟩ [(y6.heap.size, ansOE kk 4 gg), (Rb, rdO rd)]) := h6.more _
              clear h6 c0 c1
              obtain ⟨⟨ga, gcap, g1⟩, g3⟩ := HW6.out.cells
              obtain ⟨r0, r1, r2, r3, r4, r5, r6, r7⟩ := cells8 (HO.out ▸ HW6.out.row (B := Rb) (o := rdO rd) (by simp))
              go_wp2_with fail
              refine (HSH.out _ _ _ _ _ _ _ _ _ _ HW6.out HGK.out _ _).mono ?_
              rintro e y7 ⟨rfl, h7⟩
              have HW7 : Hid (KW w y7 bs (.pointer (some ⟨M, 0, none⟩)) L2 X Gk g ⟨s, (z0 : Int), rd, true⟩ ⟨st', seen, stamp, word, comp, err⟩ [(y6.heap.size, ansOE kk 4 gg), (Rb, rdO rd)]) := h7
              clear h7 g1 g3 r0 r1 r2 r3 r4 r5 r6 r7
              obtain ⟨⟨ga7, gcap7, g1⟩, g3⟩ := HW7.out.cells
              obtain ⟨a0, a1, a2, a3⟩ := ansE_cells (k := kk) (e := 4) (y := gg) (HW7.out.row (B := y6.heap.size) (o := ansOE kk 4 gg) (by simp))
              have HTS : Hid (∀ w', KW w w' bs (.pointer (some ⟨M, 0, none⟩)) L2 X Gk g ⟨s, (z0 : Int), rd, true⟩ ⟨st', seen, stamp, word, comp, err⟩ [(y6.heap.size, ansOE kk 4 gg), (Rb, rdO rd)] → Calls Try.prog 21 #[.pointer (some ⟨X, 0, none⟩)] w' fun e w'' => e = .returned (.tuple #[.int .i64 0, .int .i64 0, .bool false]) ∧ KW w w'' bs (.pointer (some ⟨M, 0, none⟩)) L2 X Gk g ⟨s, (z0 : Int), rd, true⟩ ⟨st', seen, stamp, word, comp, err⟩ [(y6.heap.size, ansOE kk 4 gg), (Rb, rdO rd)]) := fun w' h => by
                have := kw_start h
                simp only at this
                rw [if_neg hst4, if_neg hst4, decide_eq_false hst4] at this
                exact this
              go_wp2_with fail
              go_quiet (fail)
              go_wp2_with fail
              refine (HTS.out _ (HW7.out.later (by first | exact Below.refl _ _ | exact below_drawn (Below.refl _ _) _))).mono ?_
              rintro e y8 ⟨rfl, h8⟩
              have HW8 : Hid (KW w y8 bs (.pointer (some ⟨M, 0, none⟩)) L2 X Gk g ⟨s, (z0 : Int), rd, true⟩ ⟨st', seen, stamp, word, comp, err⟩ [(y6.heap.size, ansOE kk 4 gg), (Rb, rdO rd)]) := h8
              clear h8 g1 g3 a0 a1 a2 a3
              go_wp2
              go_roundw
              case rel => exact ⟨q + 1, L2, g, ⟨st', seen, stamp, word, comp, err⟩, k2, hlt, by rw [hw1]; go_num, (HW8.out.later (by first | exact Below.refl _ _ | exact below_drawn (Below.refl _ _) _)).less (fun z hz => by simp at hz; subst hz; simp), HRO2.out, HSO2.out⟩
              case measure => rw [hw1]; simp [intOf]; exact z_meas hlt
            · have q2 : (((g.done : Nat) : Int) == ((g.l.length : Nat) : Int)) = false := by simp; omega
              clear hsm hend
              go_wp2_with fail
              refine HT.out.mono ?_
              rintro e y6 ⟨rfl, h6⟩
              have HW6 : Hid (KW w (y6.alloc (.cells #[.int .i64 1, .int .i64 0, .int .i64 0, .bool gg] 50)) bs (.pointer (some ⟨M, 0, none⟩)) L2 X Gk g ⟨s, (z0 : Int), rd, true⟩ ⟨st', seen, stamp, word, comp, err⟩ [(y6.heap.size, ansOE 1 0 gg), (Rb, rdO rd)]) := h6.more _
              clear h6 c0 c1
              obtain ⟨⟨ga, gcap, g1⟩, g3⟩ := HW6.out.cells
              obtain ⟨r0, r1, r2, r3, r4, r5, r6, r7⟩ := cells8 (HO.out ▸ HW6.out.row (B := Rb) (o := rdO rd) (by simp))
              go_wp2_with fail
              refine (HSH.out _ _ _ _ _ _ _ _ _ _ HW6.out HGK.out _ _).mono ?_
              rintro e y7 ⟨rfl, h7⟩
              have HW7 : Hid (KW w y7 bs (.pointer (some ⟨M, 0, none⟩)) L2 X Gk g ⟨s, (z0 : Int), rd, true⟩ ⟨st', seen, stamp, word, comp, err⟩ [(y6.heap.size, ansOE 1 0 gg), (Rb, rdO rd)]) := h7
              clear h7 g1 g3 r0 r1 r2 r3 r4 r5 r6 r7
              obtain ⟨⟨ga7, gcap7, g1⟩, g3⟩ := HW7.out.cells
              obtain ⟨a0, a1, a2, a3⟩ := ansE_cells (k := 1) (e := 0) (y := gg) (HW7.out.row (B := y6.heap.size) (o := ansOE 1 0 gg) (by simp))
              have HTS : Hid (∀ w', KW w w' bs (.pointer (some ⟨M, 0, none⟩)) L2 X Gk g ⟨s, (z0 : Int), rd, true⟩ ⟨st', seen, stamp, word, comp, err⟩ [(y6.heap.size, ansOE 1 0 gg), (Rb, rdO rd)] → Calls Try.prog 21 #[.pointer (some ⟨X, 0, none⟩)] w' fun e w'' => e = .returned (.tuple #[.int .i64 0, .int .i64 0, .bool false]) ∧ KW w w'' bs (.pointer (some ⟨M, 0, none⟩)) L2 X Gk g ⟨s, (z0 : Int), rd, true⟩ ⟨st', seen, stamp, word, comp, err⟩ [(y6.heap.size, ansOE 1 0 gg), (Rb, rdO rd)]) := fun w' h => by
                have := kw_start h
                simp only at this
                rw [if_neg hst4, if_neg hst4, decide_eq_false hst4] at this
                exact this
              go_wp2_with fail
              go_quiet (fail)
              go_wp2_with fail
              refine (HTS.out _ (HW7.out.later (by first | exact Below.refl _ _ | exact below_drawn (Below.refl _ _) _))).mono ?_
              rintro e y8 ⟨rfl, h8⟩
              have HW8 : Hid (KW w y8 bs (.pointer (some ⟨M, 0, none⟩)) L2 X Gk g ⟨s, (z0 : Int), rd, true⟩ ⟨st', seen, stamp, word, comp, err⟩ [(y6.heap.size, ansOE 1 0 gg), (Rb, rdO rd)]) := h8
              clear h8 g1 g3 a0 a1 a2 a3
              go_wp2
              go_roundw
              case rel => exact ⟨q + 1, L2, g, ⟨st', seen, stamp, word, comp, err⟩, k2, hlt, by rw [hw1]; go_num, (HW8.out.later (by first | exact Below.refl _ _ | exact below_drawn (Below.refl _ _) _)).less (fun z hz => by simp at hz; subst hz; simp), HRO2.out, HSO2.out⟩
              case measure => rw [hw1]; simp [intOf]; exact z_meas hlt
            · have q1 : (kk == 1) = false := by simpa using hk1
              clear hk1
              by_cases hst4 : st' = 4
              · subst hst4
                obtain ⟨hn1, hn2, hn3, hn4⟩ := hend rfl
                have p1 : decide (comp < (z0 : Int)) = false := decide_eq_false (by omega)
                have p2 : decide (comp > (g.done : Int)) = false := decide_eq_false (by omega)
                have p3 : decide (seen > (g.l.length : Int)) = false := decide_eq_false (by omega)
                clear hend hn2 hn3 hn4
                go_wp2_with fail
                refine HT.out.mono ?_
                rintro e y6 ⟨rfl, h6⟩
                have HW6 : Hid (KW w (y6.alloc (.cells #[.int .i64 kk, .int .i64 0, .int .i64 0, .bool gg] 50)) bs (.pointer (some ⟨M, 0, none⟩)) L2 X Gk g ⟨s, (z0 : Int), rd, true⟩ ⟨4, seen, stamp, word, comp, err⟩ [(y6.heap.size, ansOE kk 0 gg), (Rb, rdO rd)]) := h6.more _
                clear h6 c0 c1
                obtain ⟨⟨ga, gcap, g1⟩, g3⟩ := HW6.out.cells
                obtain ⟨r0, r1, r2, r3, r4, r5, r6, r7⟩ := cells8 (HO.out ▸ HW6.out.row (B := Rb) (o := rdO rd) (by simp))
                go_wp2_with fail
                refine (HSH.out _ _ _ _ _ _ _ _ _ _ HW6.out HGK.out _ _).mono ?_
                rintro e y7 ⟨rfl, h7⟩
                have HW7 : Hid (KW w y7 bs (.pointer (some ⟨M, 0, none⟩)) L2 X Gk g ⟨s, (z0 : Int), rd, true⟩ ⟨4, seen, stamp, word, comp, err⟩ [(y6.heap.size, ansOE kk 0 gg), (Rb, rdO rd)]) := h7
                clear h7 g1 g3 r0 r1 r2 r3 r4 r5 r6 r7
                obtain ⟨⟨ga7, gcap7, g1⟩, g3⟩ := HW7.out.cells
                obtain ⟨a0, a1, a2, a3⟩ := ansE_cells (k := kk) (e := 0) (y := gg) (HW7.out.row (B := y6.heap.size) (o := ansOE kk 0 gg) (by simp))
                have HTS : Hid (∀ w', KW w w' bs (.pointer (some ⟨M, 0, none⟩)) L2 X Gk g ⟨s, (z0 : Int), rd, true⟩ ⟨4, seen, stamp, word, comp, err⟩ [(y6.heap.size, ansOE kk 0 gg), (Rb, rdO rd)] → Calls Try.prog 21 #[.pointer (some ⟨X, 0, none⟩)] w' fun e w'' => e = .returned (.tuple #[.int .i64 comp, .int .i64 seen, .bool true]) ∧ KW w w'' bs (.pointer (some ⟨M, 0, none⟩)) L2 X Gk g ⟨s, (z0 : Int), rd, true⟩ ⟨4, seen, stamp, word, comp, err⟩ [(y6.heap.size, ansOE kk 0 gg), (Rb, rdO rd)]) := fun w' h => by
                  have := kw_start h
                  exact this
                go_wp2_with fail
                go_quiet (fail)
                go_wp2_with fail
                refine (HTS.out _ (HW7.out.later (by first | exact Below.refl _ _ | exact below_drawn (Below.refl _ _) _))).mono ?_
                rintro e y8 ⟨rfl, h8⟩
                have HW8 : Hid (KW w y8 bs (.pointer (some ⟨M, 0, none⟩)) L2 X Gk g ⟨s, (z0 : Int), rd, true⟩ ⟨4, seen, stamp, word, comp, err⟩ [(y6.heap.size, ansOE kk 0 gg), (Rb, rdO rd)]) := h8
                clear h8 g1 g3 a0 a1 a2 a3
                obtain ⟨⟨ga8, gcap8, g1⟩, g3⟩ := HW8.out.cells
                obtain ⟨r0, r1, r2, r3, r4, r5, r6, r7⟩ := cells8 (HO.out ▸ HW8.out.row (B := Rb) (o := rdO rd) (by simp))
                have HSN : Hid (∀ w', KW w w' bs (.pointer (some ⟨M, 0, none⟩)) L2 X Gk g ⟨s, (z0 : Int), rd, true⟩ ⟨4, seen, stamp, word, comp, err⟩ [(y6.heap.size, ansOE kk 0 gg), (Rb, rdO rd)] → Calls Try.prog 25 #[.pointer (some ⟨Gk, 0, none⟩), .int .i64 (z0 : Int), .int .i64 seen, .agg #[.int .u64 ((m0 : Nat) : Int), .int .u64 ((m1 : Nat) : Int), .int .u64 ((m2 : Nat) : Int), .int .u64 ((m3 : Nat) : Int), .int .u64 ((m4 : Nat) : Int), .int .u64 ((m5 : Nat) : Int), .int .u64 ((m6 : Nat) : Int), .int .u64 ((m7 : Nat) : Int)]] w' fun e w'' => e = .returned (.bool false) ∧ KW w w'' bs (.pointer (some ⟨M, 0, none⟩)) L2 X Gk g ⟨s, (z0 : Int), rd, true⟩ ⟨4, seen, stamp, word, comp, err⟩ [(y6.heap.size, ansOE kk 0 gg), (Rb, rdO rd)]) := fun w' h => by
                  have := HSH.out _ _ _ _ _ _ _ _ _ _ h HGK.out (z0 : Int) seen
                  rw [hn1] at this
                  exact this
                go_wp2_with fail
                refine (HSN.out _ HW8.out).mono ?_
                rintro e y9 ⟨rfl, h9⟩
                have HW9 : Hid (KW w y9 bs (.pointer (some ⟨M, 0, none⟩)) L2 X Gk g ⟨s, (z0 : Int), rd, true⟩ ⟨4, seen, stamp, word, comp, err⟩ [(y6.heap.size, ansOE kk 0 gg), (Rb, rdO rd)]) := h9
                clear h9 g1 g3 r0 r1 r2 r3 r4 r5 r6 r7
                obtain ⟨⟨ga9, gcap9, g1⟩, g3⟩ := HW9.out.cells
                go_wp2
                go_roundw
                case rel => exact ⟨q + 1, L2, g, ⟨4, seen, stamp, word, comp, err⟩, k2, hlt, by rw [hw1]; go_num, (HW9.out.later (by first | exact Below.refl _ _ | exact below_drawn (Below.refl _ _) _)).less (fun z hz => by simp at hz; subst hz; simp), HRO2.out, HSO2.out⟩
                case measure => rw [hw1]; simp [intOf]; exact z_meas hlt
              · clear hend
                go_wp2_with fail
                refine HT.out.mono ?_
                rintro e y6 ⟨rfl, h6⟩
                have HW6 : Hid (KW w (y6.alloc (.cells #[.int .i64 kk, .int .i64 0, .int .i64 0, .bool gg] 50)) bs (.pointer (some ⟨M, 0, none⟩)) L2 X Gk g ⟨s, (z0 : Int), rd, true⟩ ⟨st', seen, stamp, word, comp, err⟩ [(y6.heap.size, ansOE kk 0 gg), (Rb, rdO rd)]) := h6.more _
                clear h6 c0 c1
                obtain ⟨⟨ga, gcap, g1⟩, g3⟩ := HW6.out.cells
                obtain ⟨r0, r1, r2, r3, r4, r5, r6, r7⟩ := cells8 (HO.out ▸ HW6.out.row (B := Rb) (o := rdO rd) (by simp))
                go_wp2_with fail
                refine (HSH.out _ _ _ _ _ _ _ _ _ _ HW6.out HGK.out _ _).mono ?_
                rintro e y7 ⟨rfl, h7⟩
                have HW7 : Hid (KW w y7 bs (.pointer (some ⟨M, 0, none⟩)) L2 X Gk g ⟨s, (z0 : Int), rd, true⟩ ⟨st', seen, stamp, word, comp, err⟩ [(y6.heap.size, ansOE kk 0 gg), (Rb, rdO rd)]) := h7
                clear h7 g1 g3 r0 r1 r2 r3 r4 r5 r6 r7
                obtain ⟨⟨ga7, gcap7, g1⟩, g3⟩ := HW7.out.cells
                obtain ⟨a0, a1, a2, a3⟩ := ansE_cells (k := kk) (e := 0) (y := gg) (HW7.out.row (B := y6.heap.size) (o := ansOE kk 0 gg) (by simp))
                have HTS : Hid (∀ w', KW w w' bs (.pointer (some ⟨M, 0, none⟩)) L2 X Gk g ⟨s, (z0 : Int), rd, true⟩ ⟨st', seen, stamp, word, comp, err⟩ [(y6.heap.size, ansOE kk 0 gg), (Rb, rdO rd)] → Calls Try.prog 21 #[.pointer (some ⟨X, 0, none⟩)] w' fun e w'' => e = .returned (.tuple #[.int .i64 0, .int .i64 0, .bool false]) ∧ KW w w'' bs (.pointer (some ⟨M, 0, none⟩)) L2 X Gk g ⟨s, (z0 : Int), rd, true⟩ ⟨st', seen, stamp, word, comp, err⟩ [(y6.heap.size, ansOE kk 0 gg), (Rb, rdO rd)]) := fun w' h => by
                  have := kw_start h
                  simp only at this
                  rw [if_neg hst4, if_neg hst4, decide_eq_false hst4] at this
                  exact this
                go_wp2_with fail
                go_quiet (fail)
                go_wp2_with fail
                refine (HTS.out _ (HW7.out.later (by first | exact Below.refl _ _ | exact below_drawn (Below.refl _ _) _))).mono ?_
                rintro e y8 ⟨rfl, h8⟩
                have HW8 : Hid (KW w y8 bs (.pointer (some ⟨M, 0, none⟩)) L2 X Gk g ⟨s, (z0 : Int), rd, true⟩ ⟨st', seen, stamp, word, comp, err⟩ [(y6.heap.size, ansOE kk 0 gg), (Rb, rdO rd)]) := h8
                clear h8 g1 g3 a0 a1 a2 a3
                go_wp2
                go_roundw
                case rel => exact ⟨q + 1, L2, g, ⟨st', seen, stamp, word, comp, err⟩, k2, hlt, by rw [hw1]; go_num, (HW8.out.later (by first | exact Below.refl _ _ | exact below_drawn (Below.refl _ _) _)).less (fun z hz => by simp at hz; subst hz; simp), HRO2.out, HSO2.out⟩
                case measure => rw [hw1]; simp [intOf]; exact z_meas hlt
          · have dk : (kd != 0) = true := by simpa using hk0
            have HAC : Hid (∀ w' kk, KW w w' bs (.pointer (some ⟨M, 0, none⟩)) L X Gk g ⟨s, (z0 : Int), rd, true⟩ b [(Rb, rdO rd)] → Calls Try.prog 23 #[.pointer (some ⟨Gk, 0, none⟩), (.pointer (some ⟨M, 0, none⟩)), .int .i64 kk, .slice ua nu ucap] w' fun e w'' => e = .returned (.tuple #[]) ∧ ∃ L2 g2, KW w w'' bs (.pointer (some ⟨M, 0, none⟩)) L2 X Gk g2 ⟨s, (z0 : Int), rd, true⟩ b [(Rb, rdO rd)] ∧ RingOk L2 g2 s (nf + (q + 1)) ∧ SafeOk L2 g2 ⟨s, (z0 : Int), rd, true⟩ b k) := fun w' kk h => by
              refine (kw_act h HQL.out.2 HE.out.2.1.gok kk (.slice ua nu ucap) Wl (HU.out _ h.bel)).mono ?_
              rintro e w'' ⟨rfl, h2⟩
              obtain ⟨h3, h4⟩ := ringOk_act HE.out.2.1 HQL.out.1 kk Wl
              exact ⟨rfl, _, _, h2, h3, HE.out.2.2.ok, sf_stay HE.out.2.2.sf HE.out.2.2.ok h4⟩
            have HWR := HE.out.1.later (below_drawn (Below.refl wr.heap.size wr) 1)
            clear hk0
            go_wp2_with fail
            go_region_with ((go_at_call 23; refine (HAC.out _ _ HWR).mono ?_; rintro e y6 ⟨rfl, h6⟩))
            all_goals
              have HW6 : Hid (∃ L2 g2, KW w y6 bs (.pointer (some ⟨M, 0, none⟩)) L2 X Gk g2 ⟨s, (z0 : Int), rd, true⟩ b [(Rb, rdO rd)] ∧ RingOk L2 g2 s (nf + (q + 1)) ∧ SafeOk L2 g2 ⟨s, (z0 : Int), rd, true⟩ b k) := h6
              clear h6 c0 c1
              go_wp2
              go_roundw
              case rel =>
                obtain ⟨L2, g2, h7, h8, h9⟩ := HW6.out
                exact ⟨q + 1, L2, g2, b, k, hlt, by rw [hw1]; go_num, h7, h8, h9⟩
              case measure => rw [hw1]; simp [intOf]; exact z_meas hlt
        · obtain rfl : q = n2 := by omega
          have d1 : decide ((q : Int) < (q : Int)) = false := by simp
          go_wp2
          go_ret
          exact ⟨rfl, HE.out.1.bel⟩
end Go.Proofs.Ytemdgknfedaaiaa
