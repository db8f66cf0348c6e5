/- CheckSafe walked. -/
import Derived.Test.YtcbcjliekbphmaaFsA
import Derived.Test.YtcbcjliekbphmaaGroH
import Derived.Test.YtcbcjliekbphmaaSigQ
namespace Go.Proofs.Ytcbcjliekbphmaa
open Go.ChangeShapes Go.WideShapes Go.ChangeAt Go.RowKit
attribute [local go_sem ↓] Go.wp_at_zero Go.wp_at_succ

/-- What is so of the ring behind q acts. -/
structure RingOk (L : List Ac) (g : GR) (s q : Nat) : Prop where
  gok : GOk g
  gz : Gz (wordOf L) g
  gs : Gs (wordOf L) g
  size : g.size = s
  len : L.length ≤ 14 * q
  many : g.l.length ≤ q
theorem ringOk_act {L : List Ac} {g : GR} {s q : Nat} (h : RingOk L g s q) (hq : q ≤ 2097152) (k : Int) (S : List Wt) : RingOk (actS 8 k S (g, L)).2 (actS 8 k S (g, L)).1 s (q + 1) ∧ Stay g (actS 8 k S (g, L)).1 := by
  have hm := h.many
  have hl := h.len
  obtain ⟨a1, a2, a3⟩ := act_grows (c := 8) (k := k) (S := S) (s := (g, L))
  obtain ⟨b1, b2⟩ := gs_act (c := 8) (k := k) (S := S) (s := (g, L)) h.gs h.gok
  have c1 := act_len (c := 8) (k := k) (S := S) (s := (g, L))
  exact ⟨⟨gok_act h.gok (by simp only; omega), gz_act h.gz h.gok, b1, a2.trans h.size, by simp only at c1; omega, by simp only at a3; omega⟩, b2⟩
theorem ringOk_load {L : List Ac} {g : GR} {s q : Nat} {C : Cp} {b : Ck} (h : RingOk L g s q) : RingOk (nextKL 8 C.s C b L 1) g s (q + 1) := by
  have hw : wordOf (nextKL 8 C.s C b L 1) = wordOf L := by
    unfold nextKL
    split
    · exact wordOf_load _ _ _ _ _
    · rfl
  have hl := nextKL_len 8 C.s C b L 1
  have := h.len
  have := h.many
  exact ⟨h.gok, by rw [hw]; exact h.gz, by rw [hw]; exact h.gs, h.size, by omega, by omega⟩
/-- What is so of the machine behind q turns. -/
structure SafeOk (L : List Ac) (g : GR) (C : Cp) (b : Ck) (k : Nat) : Prop where
  ok : KOk C b k
  sf : Sf g C b
theorem safe_cases {L : List Ac} {g : GR} {C : Cp} {b : Ck} {s q k : Nat} (h : SafeOk L g C b k) (hr : RingOk L g s q) (ho : ∀ e ∈ g.l, Sg.Ok e.s) :
    SafeOk (nextKL 8 C.s C b L 1) g C (nextK C.s C b L) (nextN C.s C b L k) ∧
    ((errKK C.s C b L = 3 ∧ ansKK C.s C b L ≠ 1 ∧ sharesV g C.z (g.l.length : Int) C.rd = true ∧ (nextK C.s C b L).st ≠ 4) ∨ (errKK C.s C b L = 4 ∧ ansKK C.s C b L ≠ 1 ∧ C.z + (s : Int) < (g.l.length : Int) ∧ (nextK C.s C b L).st ≠ 4) ∨ (errKK C.s C b L = 0 ∧ ansKK C.s C b L = 1 ∧ g.done ≠ g.l.length ∧ (nextK C.s C b L).st ≠ 4) ∨ (errKK C.s C b L = 0 ∧ ansKK C.s C b L ≠ 1)) ∧
    ((nextK C.s C b L).st = 4 → sharesV g C.z (nextK C.s C b L).seen C.rd = false ∧ C.z ≤ (nextK C.s C b L).comp ∧ (nextK C.s C b L).comp ≤ (g.done : Int) ∧ (nextK C.s C b L).seen ≤ (g.l.length : Int)) := by
  have hz0 := h.ok.p.z0
  have hend : ∀ b' : Ck, Sf g C b' → b'.st = 4 → sharesV g C.z b'.seen C.rd = false ∧ C.z ≤ b'.comp ∧ b'.comp ≤ (g.done : Int) ∧ b'.seen ≤ (g.l.length : Int) := fun b' hs e => by
    rcases hs.c with c | c | ⟨c, _⟩ | ⟨c, _⟩ | ⟨c, _⟩ | ⟨_, c1, c2, c3, c4⟩
    · omega
    · omega
    · omega
    · omega
    · omega
    · refine ⟨?_, c2, c3, c1⟩
      cases hh : sharesV g C.z b'.seen C.rd
      · rfl
      · exfalso
        obtain ⟨t, t1, t2, _, t4⟩ := (shares_iff ho h.ok.p.rd hz0).mp hh
        exact c4 t t1 (by omega) t4
  have hf1 : b.st = 1 → b.seen ≤ (g.l.length : Int) := fun e => by
    rcases h.sf.c with c | c | ⟨_, c, _⟩ | ⟨c, _⟩ | ⟨c, _⟩ | ⟨c, _⟩
    · omega
    · omega
    · exact c
    · omega
    · omega
    · omega
  have hvw : W64 (wordOf L (adK C b)) := adK_w h.sf.sz h.ok hr.gz hr.gs hr.gok hf1
  by_cases hgo : goesK C.s C b = true
  · obtain ⟨ht, _⟩ := goesK_iff.mp hgo
    obtain ⟨s1, s2, s3, s4⟩ := sf_step h.sf h.ok ht hr.gz hr.gs hr.gok ho
    have hks := kok_step h.ok hvw ht
    have e1 : nextK C.s C b L = stepK C b (wordOf L (adK C b)) := by unfold nextK; rw [if_pos hgo]
    have e2 : nextN C.s C b L k = if waitK b (wordOf L (adK C b)) then k else k + 1 := by unfold nextN; rw [if_pos hgo]
    have e3 : errKK C.s C b L = errK C b (wordOf L (adK C b)) := by unfold errKK; rw [if_pos hgo]
    have e4 : ansKK C.s C b L = kindK C b (wordOf L (adK C b)) := by unfold ansKK; rw [if_pos hgo]
    rw [e1, e2, e3, e4]
    refine ⟨⟨hks, s1⟩, ?_, hend _ s1⟩
    by_cases hw : waitK b (wordOf L (adK C b)) = true
    · have hb1 : b.st = 1 := by unfold waitK at hw; simp at hw; exact hw.1.1
      have hsame : stepK C b (wordOf L (adK C b)) = b := by
        unfold waitK at hw
        simp only [Bool.and_eq_true, Bool.not_eq_true', decide_eq_true_eq] at hw
        unfold stepK lookK
        rw [if_neg (by omega), if_pos hb1, if_neg (by simp [hw.1.2]), if_neg (by simp [hw.2])]
      refine Or.inr (Or.inr (Or.inl ⟨?_, ?_, s4 hw, by rw [hsame]; omega⟩))
      · unfold errK; rw [if_pos hw]
      · unfold kindK; rw [if_pos hw]
    · have hw' : waitK b (wordOf L (adK C b)) = false := by simpa using hw
      rw [if_neg hw] at hks
      rw [(kindK_of hw').1, (kindK_of hw').2]
      have hk1 : kindV (stepK C b (wordOf L (adK C b))) ≠ 1 := by
        unfold kindV
        split
        · decide
        · split <;> decide
      rcases kok_st hks with c | c | c | c | c | c
      · exact Or.inr (Or.inr (Or.inr ⟨by rw [kok_zero hks c]; rfl, hk1⟩))
      · exact Or.inr (Or.inr (Or.inr ⟨(kok_mid hks (Or.inl c)).1.e, hk1⟩))
      · exact Or.inr (Or.inr (Or.inr ⟨(kok_mid hks (Or.inr (Or.inl c))).1.e, hk1⟩))
      · exact Or.inr (Or.inr (Or.inr ⟨(kok_mid hks (Or.inr (Or.inr c))).1.e, hk1⟩))
      · refine Or.inr (Or.inr (Or.inr ⟨?_, hk1⟩))
        rcases hks.c with ⟨z, _⟩ | ⟨z, _⟩ | ⟨z, _⟩ | ⟨z, _⟩ | ⟨_, _, z⟩ | ⟨z, _⟩
        · rw [z] at c; simp [ckNew] at c
        · omega
        · omega
        · omega
        · exact z
        · omega
      · have hee : (stepK C b (wordOf L (adK C b))).err = 3 ∨ (stepK C b (wordOf L (adK C b))).err = 4 := by
          rcases hks.c with ⟨z, _⟩ | ⟨z, _⟩ | ⟨z, _⟩ | ⟨z, _⟩ | ⟨z, _⟩ | ⟨_, _, z⟩
          · rw [z] at c; simp [ckNew] at c
          · omega
          · omega
          · omega
          · omega
          · exact z
        rcases hee with z | z
        · obtain ⟨t, t1, t2, t3⟩ := s2 z
          exact Or.inl ⟨z, hk1, (shares_iff ho h.ok.p.rd hz0).mpr ⟨t, t1, by omega, t2, t3⟩, by omega⟩
        · exact Or.inr (Or.inl ⟨z, hk1, by have := s3 z; rw [hr.size] at this; exact this, by omega⟩)
  · have e1 : nextK C.s C b L = b := by unfold nextK; rw [if_neg hgo]
    have e2 : nextN C.s C b L k = k := by unfold nextN; rw [if_neg hgo]
    have e3 : errKK C.s C b L = 0 := by unfold errKK; rw [if_neg hgo]
    have e4 : ansKK C.s C b L = 0 := by unfold ansKK; rw [if_neg hgo]
    rw [e1, e2, e3, e4]
    exact ⟨⟨h.ok, h.sf⟩, Or.inr (Or.inr (Or.inr ⟨rfl, by decide⟩)), hend _ h.sf⟩
theorem fw_new {w0 w3 : World} {base : Nat} {p : Value} {F : List Nat} {s : Nat} (hb : Below w0.heap.size w0 w3) (hm : MemAt w3 base p 8 s [] F) (hlo : w0.heap.size ≤ base) (hsz : base ≤ w3.heap.size) :
    FW w0 (w3.alloc (.cells #[.int .i64 (s : Int), .slice none 0 0, .int .i64 0, .int .i64 0] 67)) base p [] w3.heap.size ⟨s, [], 0, 0⟩ := by
  have ba := below_a1 w3 (.cells #[.int .i64 (s : Int), .slice none 0 0, .int .i64 0, .int .i64 0] 67)
  refine ⟨⟨F, [w3.heap.size], ⟨hm.below ba, ⟨.slice none 0 0, [], heap_alloc_new _ _, World.ownsRow_nil _ _ _ _, rfl, fun i hi => by simp at hi, rfl, hsz, fun e he => by simp at he⟩, fun b hbF hp => ?_⟩⟩, below_then hb ba, hlo, by simp; omega⟩
  simp at hp
  have := (hm.lt _ hbF).2
  omega
theorem kw_new {w0 w w' : World} {base : Nat} {p : Value} {L : List Ac} {Gk : Nat} {g : GR} {C : Cp} {b : Ck} {X B : Nat} {o : Obj} (h : FW w0 w base p L Gk g) (hb : Below w.heap.size w w') (hX : w.heap.size ≤ X) (hx : KAt w' X C b) (hB : w.heap.size ≤ B) (hrow : w'.heap[B]? = some o) (hne : B ≠ X) : KW w0 w' base p L X Gk g C b [(B, o)] := by
  obtain ⟨F, P, h1⟩ := h.all
  have hlt : ∀ q ∈ F ++ P, q < w.heap.size := fun q hq => by
    rcases List.mem_append.1 hq with h3 | h3
    · exact (h1.mem.lt q h3).2
    · exact (h1.gr.lt q h3).2
  refine ⟨⟨F, P, h1.below hb, hx, fun e => by have := hlt _ e; omega, Nat.le_trans h.size hX, fun z hz => ?_⟩, below_then h.bel hb, h.lo, Nat.le_trans h.size hb.size⟩
  obtain rfl : z = (B, o) := by simpa using hz
  refine ⟨hrow, fun e => ?_⟩
  rcases List.mem_cons.1 e with e | e
  · exact hne e
  · have := hlt _ e; simp only at this; omega
theorem z_wrap {x : Int} (h1 : -9223372036854775808 ≤ x) (h2 : x ≤ 9223372036854775807) : wrap64 x = x := by unfold wrap64; omega

theorem z_turn {w : World} {va : Option Addr} {S : List Tn} (hl : S = [] ∨ ∃ x, va = some x ∧ x.block < w.heap.size ∧ ∀ i, i < S.length → w.cell? (x.add (i * 2)) = some (.int .i64 (S.getD i noTn).k) ∧ ∃ u, w.cell? ((x.add (i * 2)).add 1) = some u ∧ WLst w u (S.getD i noTn).l) : ∀ q, q < S.length → ∃ x, va = some x ∧ x.block < w.heap.size ∧ w.cell? (x.add (q * 2)) = some (.int .i64 (S.getD q noTn).k) ∧ ∃ u, w.cell? ((x.add (q * 2)).add 1) = some u ∧ WLst w u (S.getD q noTn).l := by
  intro q hq
  rcases hl with rfl | ⟨x, hx, hxb, hcc⟩
  · exact absurd hq (by simp)
  · exact ⟨x, hx, hxb, (hcc q hq).1, (hcc q hq).2⟩
theorem z_meas {q n : Nat} (h : q < n) : n - (q + 1) < n - q := by omega
theorem z_w1 {q n : Nat} (h : q < n) (hn : n ≤ 1048576) : wrap64 ((q : Int) + 1) = (q : Int) + 1 := z_wrap (by omega) (by omega)
end Go.Proofs.Ytcbcjliekbphmaa
