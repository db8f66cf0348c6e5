/- What a machine of layer 9 tells over a ring that grows; over one that nobody writes to. -/
import Derived.Test.YtcbcjliekbphmaaFsN
import Derived.Test.YtcbcjliekbphmaaFsB
import Derived.Test.YtcbcjliekbphmaaJFtBFtS
namespace Go.Proofs.Ytcbcjliekbphmaa

theorem stampOn_seen (P : Cp) (b : Ck) : (stampOn P b).seen = b.seen := by
  unfold stampOn
  split
  · rfl
  · split <;> rfl
theorem wordOn_seen (P : Cp) (b : Ck) : (wordOn P b).seen = b.seen := by
  unfold wordOn
  split
  · rfl
  · rw [stampOn_seen]
theorem onV_seen (P : Cp) (b : Ck) : (onV P b).seen = b.seen := by
  unfold onV
  split
  · rw [wordOn_seen]
  · split
    · rw [wordOn_seen]
    · split
      · rw [stampOn_seen]
      · rfl
theorem stepK_seen0 {P : Cp} {b : Ck} {v : Int} (h : b.st = 0) : (stepK P b v).seen = v := by
  unfold stepK seeK
  rw [if_pos h]
  split
  · rfl
  · split
    · rfl
    · rw [onV_seen]
theorem stepK_seen {P : Cp} {b : Ck} {v : Int} (h : b.st ≠ 0) : (stepK P b v).seen = b.seen := by
  unfold stepK
  rw [if_neg h]
  split
  · unfold lookK
    split
    · rw [onV_seen]
    · split <;> rfl
  · split
    · unfold holdK
      split
      · rfl
      · rw [onV_seen]
    · split
      · unfold againK
        split
        · rfl
        · rw [onV_seen]
      · rfl
theorem stepK_st0 {P : Cp} {b : Ck} {v : Int} {n : Nat} (h : KOk P b n) (hv : W64 v) (h0 : b.st = 0) : (stepK P b v).st ≠ 0 := fun e => by
  have hk := kok_step h hv (by unfold thr; omega)
  have hw : waitK b v = false := by unfold waitK; simp [h0]
  rw [hw] at hk
  rcases hk.c with ⟨_, c⟩ | ⟨c, _⟩ | ⟨c, _⟩ | ⟨c, _⟩ | ⟨c, _⟩ | ⟨c, _⟩
  · simp at c
  all_goals omega
theorem sf_look {g : GR} {P : Cp} {b : Ck} (h : Sf g P b) (v : Int) : Sf g (lookP P v) b := ⟨h.z, h.sz, h.last, h.c⟩
/-- What is so of the machine behind q turns. -/
structure TOk (L : List Ac) (g : GR) (P : Cp) (b : Ck) (k : Nat) (old held : Int) : Prop where
  ok : KOk P b k
  sf : Sf g P b
  gc : Gc (wordOf L) g
  un : P.read = false → b.st = 0
  c0 : 0 ≤ P.cell
  c8 : P.cell < 8
  ho : valueV g old P.z = held
  b1 : Sg.bit P.rd (Sg.sigN old) = true
  b2 : Sg.bit P.rd (Sg.sigN P.cell) = true
  lk : P.read = true → ∃ m : Nat, P.z ≤ (m : Int) ∧ m ≤ g.l.length ∧ (b.st = 0 ∨ (m : Int) ≤ b.seen) ∧ ((∀ t : Nat, P.z < (t : Int) → t ≤ m → ¬ Wrt g P.cell t) → P.val = valueV g P.cell P.z)
theorem tok_act {L : List Ac} {g : GR} {P : Cp} {b : Ck} {k s q : Nat} {old held : Int} (h : TOk L g P b k old held) (hr : RingOk L g s q) (hq : q ≤ 2097152) (kd : Int) (S : List Wt) : TOk (actS 8 kd S (g, L)).2 (actS 8 kd S (g, L)).1 P b k old held := by
  obtain ⟨_, hst⟩ := ringOk_act hr hq kd S
  obtain ⟨g1, g2⟩ := gc_act (k := kd) (S := S) (s := (g, L)) h.gc hr.gok
  have hda := hr.gok.da
  have han := hr.gok.an
  have hz := h.sf.z
  have hz0 := h.ok.p.z0
  refine ⟨h.ok, sf_stay h.sf h.ok hst, g1, h.un, h.c0, h.c8, by rw [valueV_stay g2 (by simp only; omega)]; exact h.ho, h.b1, h.b2, fun e => ?_⟩
  obtain ⟨m, m1, m2, m3, m4⟩ := h.lk e
  refine ⟨m, m1, Nat.le_trans m2 g2.1, m3, fun hno => ?_⟩
  rw [valueV_stay g2 (by simp only; omega)]
  exact m4 (fun t t1 t2 hw => hno t t1 t2 ((wrt_stay g2 (by omega) (by simp only; omega)).mpr hw))
theorem goesF_self {P : Cp} (h : P.cell < 8) : goesF 8 P.s P = true := by unfold goesF; simp [h]
theorem ringOk_loadF {L : List Ac} {g : GR} {s q : Nat} {P : Cp} {b : Ck} (h : RingOk L g s q) : RingOk (nextFL 8 P.s P b L 1) g s (q + 1) := by
  have hw := wordOf_nextFL 8 P.s P b L 1
  have hl := nextFL_len 8 P.s P b L 1
  have := h.len
  have := h.many
  exact ⟨h.gok, by rw [hw]; exact h.gz, by rw [hw]; exact h.gs, h.size, by omega, by omega⟩
theorem tok_w {L : List Ac} {g : GR} {P : Cp} {b : Ck} {k s q : Nat} (ho : KOk P b k) (hs : Sf g P b) (hr : RingOk L g s q) : W64 (wordOf L (adK P b)) :=
  adK_w hs.sz ho hr.gz hr.gs hr.gok (fun e => by
    rcases hs.c with c | c | ⟨_, c, _⟩ | ⟨c, _⟩ | ⟨c, _⟩ | ⟨c, _⟩
    · omega
    · omega
    · exact c
    · omega
    · omega
    · omega)
theorem next_seen {L : List Ac} {g : GR} {P : Cp} {b : Ck} {k s q : Nat} (ho : KOk P b k) (hs : Sf g P b) (hr : RingOk L g s q) : ((nextK P.s P b L).st = 0 → b.st = 0) ∧ (b.st = 0 → (nextK P.s P b L).st ≠ 0 ∧ (nextK P.s P b L).seen = (g.l.length : Int)) ∧ (b.st ≠ 0 → (nextK P.s P b L).seen = b.seen) := by
  have hw := tok_w ho hs hr
  have h0 : b.st = 0 → (nextK P.s P b L).st ≠ 0 ∧ (nextK P.s P b L).seen = (g.l.length : Int) := fun e => by
    have hgo : goesK P.s P b = true := goesK_iff.mpr ⟨by unfold thr; omega, rfl⟩
    have ha : adK P b = ⟨1, 0, 0⟩ := by unfold adK; rw [if_neg (by omega), if_neg (by omega)]
    unfold nextK
    rw [if_pos hgo]
    exact ⟨stepK_st0 ho hw e, by rw [stepK_seen0 e, ha, hr.gz.n]⟩
  have h1 : b.st ≠ 0 → (nextK P.s P b L).seen = b.seen := fun e => by
    unfold nextK
    split
    · exact stepK_seen e
    · rfl
  refine ⟨fun e => Classical.byContradiction fun hne => ?_, h0, h1⟩
  by_cases hgo : goesK P.s P b = true
  · have hnx : nextK P.s P b L = stepK P b (wordOf L (adK P b)) := by unfold nextK; rw [if_pos hgo]
    rw [hnx] at e
    have hk := kok_step ho hw (goesK_iff.mp hgo).1
    have hz := kok_zero hk e
    have hz2 := hk.c
    rcases hk.c with ⟨_, c⟩ | ⟨c, _⟩ | ⟨c, _⟩ | ⟨c, _⟩ | ⟨c, _⟩ | ⟨c, _⟩
    · by_cases hwt : waitK b (wordOf L (adK P b)) = true
      · rw [if_pos hwt] at c
        subst c
        have hb1 : b.st = 1 := by unfold waitK at hwt; simp at hwt; exact hwt.1.1
        have : stepK P b (wordOf L (adK P b)) = b := by
          unfold waitK at hwt
          simp only [Bool.and_eq_true, Bool.not_eq_true', decide_eq_true_eq] at hwt
          unfold stepK lookK
          rw [if_neg (by omega), if_pos hb1, if_neg (by simp [hwt.1.2]), if_neg (by simp [hwt.2])]
        rw [this] at e
        exact hne e
      · rw [if_neg hwt] at c
        simp at c
    all_goals omega
  · have hnx : nextK P.s P b L = b := by unfold nextK; rw [if_neg hgo]
    rw [hnx] at e
    exact hne e
theorem tok_step {L : List Ac} {g : GR} {P : Cp} {b : Ck} {k s q : Nat} {old held : Int} (h : TOk L g P b k old held) (hr : RingOk L g s q) (ho : ∀ e ∈ g.l, Sg.Ok e.s) :
    TOk (nextFL 8 P.s P b L 1) g (nextFP 8 P.s P L) (nextFB 8 P.s P b L) (nextFN 8 P.s P b L k) old held ∧
    ((errF 8 P.s P b L = 3 ∧ sharesV g P.z (g.l.length : Int) P.rd = true ∧ (nextFB 8 P.s P b L).st ≠ 4) ∨ (errF 8 P.s P b L = 4 ∧ P.z + (s : Int) < (g.l.length : Int) ∧ (nextFB 8 P.s P b L).st ≠ 4) ∨ errF 8 P.s P b L = 0) ∧
    ((nextFB 8 P.s P b L).st = 4 → (ansF 8 P.s P b L = 3 → valF 8 P.s P b L = valueV g P.cell (nextFB 8 P.s P b L).seen) ∧ valueV g old (nextFB 8 P.s P b L).seen = held ∧ (nextFB 8 P.s P b L).comp ≤ (g.done : Int)) := by
  have hg := goesF_self h.c8
  have hz0 := h.ok.p.z0
  have hda := hr.gok.da
  have han := hr.gok.an
  have hzd := h.sf.z
  unfold nextFL nextFP nextFB nextFN errF ansF valF
  simp only [if_pos hg]
  by_cases er : P.read = true
  · simp only [if_pos er]
    obtain ⟨s1, s2, s3⟩ := safe_cases (L := L) (q := q) ⟨h.ok, h.sf⟩ hr ho
    obtain ⟨n1, n2, n3⟩ := next_seen h.ok h.sf hr
    obtain ⟨m, m1, m2, m3, m4⟩ := h.lk er
    have hw : wordOf (nextKL 8 P.s P b L 1) = wordOf L := by
      unfold nextKL
      split
      · exact wordOf_load _ _ _ _ _
      · rfl
    have hm : (nextK P.s P b L).st = 0 ∨ (m : Int) ≤ (nextK P.s P b L).seen := by
      by_cases e0 : b.st = 0
      · exact Or.inr (by rw [(n2 e0).2]; omega)
      · rcases m3 with e | e
        · exact absurd e e0
        · exact Or.inr (by rw [n3 e0]; exact e)
    refine ⟨⟨s1.ok, s1.sf, by rw [hw]; exact h.gc, fun e => by rw [er] at e; simp at e, h.c0, h.c8, h.ho, h.b1, h.b2, fun _ => ⟨m, m1, m2, hm, m4⟩⟩, ?_, fun e4 => ?_⟩
    · rcases s2 with ⟨c1, _, c2, c3⟩ | ⟨c1, _, c2, c3⟩ | ⟨c1, _⟩ | ⟨c1, _⟩
      · exact Or.inl ⟨c1, c2, c3⟩
      · exact Or.inr (Or.inl ⟨c1, c2, c3⟩)
      · exact Or.inr (Or.inr c1)
      · exact Or.inr (Or.inr c1)
    · obtain ⟨_, d2, d3, d4⟩ := s3 e4
      have hcl : Clean g P ((nextK P.s P b L).seen + 1) := by
        rcases s1.sf.c with c | c | ⟨c, _⟩ | ⟨c, _⟩ | ⟨c, _⟩ | ⟨_, _, _, _, c⟩
        · omega
        · omega
        · omega
        · omega
        · omega
        · exact c
      have hms : (m : Int) ≤ (nextK P.s P b L).seen := by
        rcases hm with e | e
        · omega
        · exact e
      refine ⟨fun e3 => ?_, ?_, d3⟩
      · rw [if_pos e3, m4 (fun t t1 t2 => clean_wrt h.gc.w hz0 h.b2 hcl t1 (by omega) (by omega))]
        exact (valueV_none hz0 (by omega) d4 (fun t t1 t2 => clean_wrt h.gc.w hz0 h.b2 hcl t1 (by omega) (by omega))).symm
      · rw [valueV_none hz0 (by omega) d4 (fun t t1 t2 => clean_wrt h.gc.w hz0 h.b1 hcl t1 (by omega) (by omega))]
        exact h.ho
  · simp only [if_neg er]
    have e0 := h.un (by simpa using er)
    refine ⟨⟨kok_look h.ok _, sf_look h.sf _, by rw [wordOf_load]; exact h.gc, fun e => by simp [lookP] at e, h.c0, h.c8, h.ho, h.b1, h.b2, fun _ => ⟨g.l.length, ?_, Nat.le_refl _, Or.inl e0, fun hno => ?_⟩⟩, Or.inr (Or.inr trivial), fun e => by omega⟩
    · show P.z ≤ (g.l.length : Int)
      omega
    · show wordOf L (cellA P) = valueV g P.cell P.z
      unfold cellA
      rw [h.gc.v P.cell h.c0 h.c8]
      exact cellV_none hr.gok hz0 hzd hno
/-- What is so behind i steps over a ring that nobody writes to, all of whose entries are laid; V: the cell as it stands. -/
structure EOk (L : List Ac) (g : GR) (P : Cp) (b : Ck) (k i : Nat) (V : Int) : Prop where
  ok : KOk P b k
  sf : Sf g P b
  go : ¬ thr b
  c0 : 0 ≤ P.cell
  c8 : P.cell < 8
  se : b.st = 0 ∨ b.seen = (g.l.length : Int)
  v : wordOf L (cellA P) = V
  rd : (P.read = false ∧ i = 0 ∧ k = 0 ∧ b.st = 0) ∨ (P.read = true ∧ i = k + 1 ∧ P.val = V)
theorem eok_end {L : List Ac} {g : GR} {P : Cp} {b : Ck} {k i : Nat} {V : Int} (h : EOk L g P b k i V) : i < 3 + 9 * P.s := by
  have hn : k ≤ 1 + 9 * P.s := by
    have := h.go
    unfold thr at this
    rcases h.ok.c with ⟨_, c⟩ | ⟨_, km, c⟩ | ⟨_, km, _, c1, c⟩ | ⟨_, _, c⟩ | ⟨c, _⟩ | ⟨c, _⟩
    · omega
    · have := km.hi; have := km.far; omega
    · have := km.hi; have := km.far; omega
    · omega
    · omega
    · omega
  rcases h.rd with ⟨_, c, _⟩ | ⟨_, c, _⟩ <;> omega
theorem eok_step {L : List Ac} {g : GR} {P : Cp} {b : Ck} {k i s q : Nat} {V : Int} (h : EOk L g P b k i V) (hr : RingOk L g s q) (ho : ∀ e ∈ g.l, Sg.Ok e.s) (hl : g.laid = g.l.length) :
    (ansF 8 P.s P b L = 2 ∧ EOk (nextFL 8 P.s P b L 1) g (nextFP 8 P.s P L) (nextFB 8 P.s P b L) (nextFN 8 P.s P b L k) (i + 1) V) ∨
    (ansF 8 P.s P b L = 3 ∧ valF 8 P.s P b L = V ∧ sharesV g P.z (g.l.length : Int) P.rd = false) ∨
    (ansF 8 P.s P b L = 4 ∧ errF 8 P.s P b L = 4 ∧ P.z + (s : Int) < (g.l.length : Int)) ∨
    (ansF 8 P.s P b L = 4 ∧ errF 8 P.s P b L = 3 ∧ sharesV g P.z (g.l.length : Int) P.rd = true ∧ (g.l.length : Int) ≤ P.z + (s : Int)) := by
  have hg := goesF_self h.c8
  have hz0 := h.ok.p.z0
  have hsz : P.s = s := h.sf.sz.trans hr.size
  unfold nextFL nextFP nextFB nextFN errF ansF valF
  simp only [if_pos hg]
  rcases h.rd with ⟨er, rfl, rfl, e0⟩ | ⟨er, rfl, hV⟩
  · simp only [er, if_neg (show ¬ (false = true) by simp)]
    refine Or.inl ⟨trivial, kok_look h.ok _, sf_look h.sf _, h.go, h.c0, h.c8, h.se, ?_, Or.inr ⟨rfl, rfl, h.v⟩⟩
    rw [wordOf_load]; exact h.v
  · simp only [if_pos er]
    have hw := tok_w h.ok h.sf hr
    have hgo : goesK P.s P b = true := goesK_iff.mpr ⟨h.go, rfl⟩
    obtain ⟨s1, s2, s3⟩ := safe_cases (L := L) (q := q) ⟨h.ok, h.sf⟩ hr ho
    obtain ⟨n1, n2, n3⟩ := next_seen h.ok h.sf hr
    have hww : wordOf (nextKL 8 P.s P b L 1) = wordOf L := by
      unfold nextKL
      rw [if_pos hgo]
      exact wordOf_load _ _ _ _ _
    have hse : (nextK P.s P b L).seen = (g.l.length : Int) := by
      by_cases e0 : b.st = 0
      · exact (n2 e0).2
      · rw [n3 e0]
        rcases h.se with e | e
        · exact absurd e e0
        · exact e
    have hnw : waitK b (wordOf L (adK P b)) = false := by
      cases hwt : waitK b (wordOf L (adK P b))
      · rfl
      · exfalso
        have hb1 : b.st = 1 := by unfold waitK at hwt; simp at hwt; exact hwt.1.1
        have km := (kok_mid h.ok (Or.inl hb1)).1
        have hszz : sizeOk (P.s : Int) = true := by rw [h.sf.sz]; exact sizeOk_iff.mpr ⟨by have := hr.gok.s1; omega, by have := hr.gok.s16; omega⟩
        have ha : adK P b = ⟨2, b.stamp % (g.size : Int), 0⟩ := by unfold adK slotV; rw [if_pos hb1, if_pos hszz, h.sf.sz]
        have hsl : b.seen = (g.l.length : Int) := by
          rcases h.se with e | e
          · omega
          · exact e
        have klo := km.lo
        have khi := km.hi
        have hh := gz_head hr.gz hr.gok b.stamp (by omega) (by omega)
        rw [← ha] at hh
        unfold waitK at hwt
        simp only [Bool.and_eq_true, Bool.not_eq_true', decide_eq_true_eq] at hwt
        have h1 : ¬ (wordOf L (adK P b) / 2 = b.stamp) := fun e => by
          have : laidV (wordOf L (adK P b)) b.stamp = true := by unfold laidV; simp [e]
          rw [this] at hwt; simp at hwt
        have h2 : ¬ (b.stamp < wordOf L (adK P b) / 2) := fun e => by
          have : overV (wordOf L (adK P b)) b.stamp = true := by unfold overV; simp; omega
          rw [this] at hwt; simp at hwt
        rcases hh with ⟨_, _, c, _⟩ | ⟨_, c⟩ | ⟨c, _⟩
        · exact h1 c
        · exact h2 c
        · omega
    have hnx : nextK P.s P b L = stepK P b (wordOf L (adK P b)) := by unfold nextK; rw [if_pos hgo]
    have hnn : nextN P.s P b L k = k + 1 := by unfold nextN; rw [if_pos hgo, hnw]; rfl
    have han : ansKK P.s P b L = kindV (nextK P.s P b L) := by unfold ansKK; rw [if_pos hgo, (kindK_of hnw).1, hnx]
    have hen : errKK P.s P b L = (nextK P.s P b L).err := by unfold errKK; rw [if_pos hgo, (kindK_of hnw).2, hnx]
    have hok := s1.ok
    rw [hnn] at hok
    rcases kok_st hok with c | c | c | c | c | c
    · exfalso
      have := n1 c
      exact (n2 this).1 c
    · refine Or.inl ⟨by rw [han]; unfold kindV; rw [if_neg (by omega), if_neg (by omega)], by rw [hnn]; exact hok, s1.sf, by unfold thr; omega, h.c0, h.c8, Or.inr hse, by rw [hww]; exact h.v, Or.inr ⟨er, by rw [hnn], hV⟩⟩
    · refine Or.inl ⟨by rw [han]; unfold kindV; rw [if_neg (by omega), if_neg (by omega)], by rw [hnn]; exact hok, s1.sf, by unfold thr; omega, h.c0, h.c8, Or.inr hse, by rw [hww]; exact h.v, Or.inr ⟨er, by rw [hnn], hV⟩⟩
    · refine Or.inl ⟨by rw [han]; unfold kindV; rw [if_neg (by omega), if_neg (by omega)], by rw [hnn]; exact hok, s1.sf, by unfold thr; omega, h.c0, h.c8, Or.inr hse, by rw [hww]; exact h.v, Or.inr ⟨er, by rw [hnn], hV⟩⟩
    · have a3 : ansKK P.s P b L = 3 := by rw [han]; unfold kindV; rw [if_pos c]
      refine Or.inr (Or.inl ⟨a3, by rw [if_pos a3]; exact hV, ?_⟩)
      rw [← hse]; exact (s3 c).1
    · have a4 : ansKK P.s P b L = 4 := by rw [han]; unfold kindV; rw [if_neg (by omega), if_pos c]
      rcases s2 with ⟨c1, _, c2, _⟩ | ⟨c1, _, c2, _⟩ | ⟨c1, c2, _⟩ | ⟨c1, _⟩
      · refine Or.inr (Or.inr (Or.inr ⟨a4, c1, c2, ?_⟩))
        rw [hen, hnx] at c1
        have he3 := err3 h.ok h.go c1
        have km := (kok_mid h.ok (Or.inr (Or.inl he3.1))).1
        have hsl : b.seen = (g.l.length : Int) := by
          rcases h.se with e | e
          · omega
          · exact e
        have := km.far
        omega
      · exact Or.inr (Or.inr (Or.inl ⟨a4, c1, c2⟩))
      · omega
      · exfalso
        rw [hen] at c1
        rcases hok.c with ⟨z, _⟩ | ⟨z, _⟩ | ⟨z, _⟩ | ⟨z, _⟩ | ⟨z, _⟩ | ⟨_, _, z⟩
        · rw [z] at c; simp [ckNew] at c
        all_goals omega
end Go.Proofs.Ytcbcjliekbphmaa
