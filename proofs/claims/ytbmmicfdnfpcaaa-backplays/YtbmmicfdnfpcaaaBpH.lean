/- The document's machine of layer 11 makes the step that the program's machine makes. -/
import Derived.Test.YtbmmicfdnfpcaaaBpG
namespace Go.Proofs.Ytbmmicfdnfpcaaa
open Go.ChangeShapes Go.WideShapes Go.ChangeAt Go.RowKit

/-- Words are words. -/
def Gd (L : List Ac) : Prop := ∀ a, W64 (wordOf L a)
theorem gd_nil : Gd [] := fun a => by
  rw [wordOf_nil]
  unfold W64 first
  split <;> decide
theorem gd_store {c r : Nat} {L : List Ac} {t z : Int} {a : Ad} (h : Gd L) (hz : W64 z) : Gd (storeL c r L t a z) := fun x => by
  unfold storeL
  split
  · rw [wordOf_hit (Or.inl rfl)]
    unfold upd
    split
    · exact hz
    · exact h x
  · exact h x
theorem valB_w {P : Bp} {b : Bk} (h : BkOk P b) : W64 (valB P b) := by
  have h1 := h.p.st1
  have h2 := h.p.st2
  unfold valB
  split
  · unfold W64 wrap64; omega
  · split
    · next e =>
      have hm : P.W.getD b.wr noWt ∈ P.W := by rw [List.getD_eq_getElem?_getD, List.getElem?_eq_getElem (h.wr6 e)]; simp
      exact (h.p.cell _ hm).2.2
    · split
      · unfold W64; omega
      · unfold W64; omega
theorem gd_next {c r : Nat} {P : Bp} {b : Bk} {L : List Ac} {t : Int} (hk : BkOk P b) (hg : Gd L) : Gd (nextBL c r P b L t) := fun a => by
  rw [nextBL_word hk]
  split
  · unfold upd
    split
    · exact valB_w hk
    · exact hg a
  · exact hg a
theorem goes_same {c r : Nat} {P : Bp} {mu : Bool} {b : Bk} {x : Dc} (h : DR P mu b x) : goesB c r P b = goD c r P x := by
  have hk := h.ok
  have hnx := hk.nx
  have hwr := hk.wr
  have he : decide (b.nx ≠ 0) = decide (x.n ≠ P.W.length + 10) := by
    by_cases e : b.nx = 0
    · have := h.n0 e
      rw [decide_eq_false (by simpa using e), decide_eq_false (by simpa using this)]
    · have : x.n ≠ P.W.length + 10 := by
        have hcs : b.nx = 1 ∨ b.nx = 2 ∨ (b.nx = 3 ∨ b.nx = 4 ∨ b.nx = 5) ∨ (b.nx = 6 ∨ b.nx = 7 ∨ b.nx = 8) := by omega
        rcases hcs with q | q | q | q
        · have := h.n1 q; have := hk.w1 q; omega
        · have := h.n2 q; omega
        · have := h.n3 q; omega
        · have := h.n6 q; omega
      rw [decide_eq_true e, decide_eq_true this]
  unfold goesB goD
  rw [he, Bool.and_assoc]
theorem DDoes.mono {w : World} {base : Nat} {q : Value} {c r : Nat} {K : List Nat} {Y : Nat} {P : Bp} {mu : Bool} {G : List Nat} {t k k' : Int} {L L' : List Ac} {x x' : Dc} (h : DDoes w base q c r K Y P mu G t k L x) (h1 : k = k') (h2 : L = L') (h3 : x = x') : DDoes w base q c r K Y P mu G t k' L' x' := by
  subst h1 h2 h3
  exact h
theorem rdstep_go {w : World} {base : Nat} {q : Value} {c r : Nat} {L : List Ac} {K : List Nat} {Y : Nat} {P : Bp} {mu : Bool} {x : Dc} {G : List Nat} {b : Bk} (h : DJ w base q c r L K Y P mu x G) (hb : base ≤ w.heap.size) (hL : L.length < 3298534883328) (hd : DR P mu b x) (hgd : Gd L) (hwl : ∀ v ∈ x.l, W64 v) (hg : goesB c r P b = true) (t : Int) :
    DDoes w base q c r K Y P mu G t (if waitB P b (wordOf L (adB P b)) then 1 else if b.nx = 8 then 3 else 2) (accL c r P b L t) (stepD P mu x (wordOf L (adB P b))) := by
  have hk := hd.ok
  have hp := hk.p
  have hnx := hk.nx
  have hgD : goD c r P x = true := by rw [← goes_same hd]; exact hg
  obtain ⟨g0, g1, g2⟩ := goesB_iff.mp hg
  have had := adB_is hk hg
  have hcs : b.nx = 1 ∨ b.nx = 2 ∨ (b.nx = 3 ∨ b.nx = 4 ∨ b.nx = 5) ∨ b.nx = 6 ∨ b.nx = 7 ∨ b.nx = 8 := by omega
  rcases hcs with e | e | e | e | e | e
  · have hxn := hd.n1 e
    have hwd := hk.w1 e
    refine (dstep_word h hp hb hL hgD g1 (by omega) t).mono ?_ ?_ ?_
    · have hw : waitB P b (wordOf L (adB P b)) = false := by unfold waitB; simp [e]
      rw [hw, if_neg (by simp), if_neg (by omega)]
    · unfold accL adB valB ldB
      simp [e, hxn]
    · unfold stepD; rw [if_pos (by omega)]
  · have hxn := hd.n2 e
    refine (dstep_head h hp hb hL hgD g1 hxn t).mono ?_ ?_ ?_
    · have hw : waitB P b (wordOf L (adB P b)) = false := by unfold waitB; simp [e]
      rw [hw, if_neg (by simp), if_neg (by omega)]
    · unfold accL adB valB ldB
      simp [e]
    · unfold stepD; rw [if_pos (by omega)]
  · have hxn := hd.n3 e
    obtain ⟨o1, o2, o3, o4, o5⟩ := dr_lo hd e
    have hld : ldB b = true := by unfold ldB; rcases e with e | e | e <;> simp [e]
    have hac : accL c r P b L t = loadL c r L t (adB P b) := by unfold accL; rw [hld]; rfl
    have h8 : ¬ b.nx = 8 := by omega
    have hwt : ((lkD P mu x.l).hd && !overV (wordOf L (lkD P mu x.l).a) (lkD P mu x.l).st && ((lkD P mu x.l).me || !laidV (wordOf L (lkD P mu x.l).a) (lkD P mu x.l).st)) = waitB P b (wordOf L (adB P b)) := by
      rw [o2, o3, o4, o5]
      unfold waitB
      rcases e with e | e | e <;> simp [e]
    have hst : stepD P mu x (wordOf L (adB P b)) = if waitB P b (wordOf L (adB P b)) then x else ⟨x.n, x.l ++ [wordOf L (adB P b)], x.sn⟩ := by
      rw [← hwt]
      unfold stepD
      rw [if_neg (by omega), if_pos o1, o3]
    cases hw : waitB P b (wordOf L (adB P b))
    · rw [hw] at hwt
      refine (dstep_on (th := (lkD P mu x.l).th) (kn := (lkD P mu x.l).kn) (me := (lkD P mu x.l).me) (hd0 := (lkD P mu x.l).hd) (ls := (lkD P mu x.l).st) (la := (lkD P mu x.l).a) (hlo := rfl) h hp hb hL hgD g1 hxn hwl hd.len o1 (by rw [o3]; exact had) (hgd _) hwt t).mono ?_ ?_ ?_
      · rw [if_neg (by simp), if_neg h8]
      · rw [hac, o3]
      · rw [hst, hw, if_neg (by simp), o3]
    · rw [hw] at hwt
      refine (dstep_wait (th := (lkD P mu x.l).th) (kn := (lkD P mu x.l).kn) (me := (lkD P mu x.l).me) (hd0 := (lkD P mu x.l).hd) (ls := (lkD P mu x.l).st) (la := (lkD P mu x.l).a) (hlo := rfl) h hp hb hL hgD g1 hxn hwl hd.len o1 (by rw [o3]; exact had) (hgd _) hwt t).mono ?_ ?_ ?_
      · rw [if_pos rfl]
      · rw [hac, o3]
      · rw [hst, hw, if_pos rfl]
  · have hxn := hd.n6 (by omega)
    obtain ⟨k, hl, hkn⟩ := hd.l6 (by omega)
    have hwr := hk.wr6 e
    have hm : P.W.getD b.wr noWt ∈ P.W := by rw [List.getD_eq_getElem?_getD, List.getElem?_eq_getElem hwr]; simp
    refine (dstep_write h hp hb hL hgD g1 hwl hd.len hl hwr hxn ⟨(hp.cell _ hm).1, g2 _ hm⟩ t).mono ?_ ?_ ?_
    · have hw : waitB P b (wordOf L (adB P b)) = false := by unfold waitB; simp [e]
      rw [hw, if_neg (by simp), if_neg (by omega)]
    · unfold accL adB valB ldB
      simp [e]
    · unfold stepD; rw [if_neg (by omega), hl, if_neg (by simp [loT]), if_pos (by omega)]
  · have hxn := hd.n6 (by omega)
    obtain ⟨k, hl, hkn⟩ := hd.l6 (by omega)
    have hwr := hk.late (by omega)
    have h7 := hk.n7 e
    have hks : k = false ∧ x.sn = false := by rw [h7] at hkn; cases k <;> cases hx : x.sn <;> rw [hx] at hkn <;> simp at hkn ⊢
    have hada : adB P b = ⟨2, slotV (P.st - 1) P.s, 0⟩ := by unfold adB; simp [e]
    have hac : accL c r P b L t = loadL c r L t ⟨2, slotV (P.st - 1) P.s, 0⟩ := by unfold accL ldB; rw [hada]; simp [e]
    have hst : ∀ v, stepD P mu x v = ⟨x.n, x.l, overV v (P.st - 1)⟩ := fun v => by unfold stepD; rw [if_neg (by omega), hl, if_neg (by simp [loT]), if_neg (by omega), if_pos ⟨hks.1, hks.2⟩]
    have hwt : waitB P b (wordOf L (adB P b)) = !overV (wordOf L ⟨2, slotV (P.st - 1) P.s, 0⟩) (P.st - 1) := by unfold waitB; rw [hada]; simp [e]
    cases hov : overV (wordOf L ⟨2, slotV (P.st - 1) P.s, 0⟩) (P.st - 1)
    · refine (dstep_unseen h hp hb hL hgD g1 hwl hd.len hl hks.1 (by omega) hks.2 (hgd _) hov t).mono ?_ ?_ ?_
      · rw [hwt, hov]; rfl
      · rw [hac]
      · rw [hst, hada, hov]
    · refine (dstep_seen h hp hb hL hgD g1 hwl hd.len hl hks.1 (by omega) hks.2 (hgd _) hov t).mono ?_ ?_ ?_
      · rw [hwt, hov, if_neg (by simp), if_neg (by omega)]
      · rw [hac]
      · rw [hst, hada, hov]
  · have hxn := hd.n6 (by omega)
    obtain ⟨k, hl, hkn⟩ := hd.l6 (by omega)
    have hwr := hk.late (by omega)
    have h8 := hk.n8 (Or.inl e)
    refine (dstep_done h hp hb hL hgD g1 hwl hd.len hl (by omega) (by rw [← hkn]; exact h8) t).mono ?_ ?_ ?_
    · have hw : waitB P b (wordOf L (adB P b)) = false := by unfold waitB; simp [e]
      rw [hw, if_neg (by simp), if_pos e]
    · unfold accL adB valB ldB
      simp [e]
    · unfold stepD
      rw [if_neg (by omega), hl, if_neg (by simp [loT]), if_neg (by omega), if_neg (fun q => by have q1 : k = false := q.1; rw [q1, q.2, h8] at hkn; simp at hkn)]
theorem rdstep {w : World} {base : Nat} {q : Value} {c r : Nat} {L : List Ac} {K : List Nat} {Y : Nat} {P : Bp} {mu : Bool} {x : Dc} {G : List Nat} {b : Bk} (h : DJ w base q c r L K Y P mu x G) (hb : base ≤ w.heap.size) (hL : L.length < 3298534883328) (hd : DR P mu b x) (hgd : Gd L) (hwl : ∀ v ∈ x.l, W64 v) (t : Int) :
    Calls Try.prog 16 #[.pointer (some ⟨Y, 0, none⟩), q, .int .i64 t] w fun e w' => e = .returned (.int .i64 (ansBk c r P b L)) ∧ ∃ x' K' G', DJ w' base q c r (nextBL c r P b L t) K' Y P mu x' G' ∧ DR P mu (nextBk c r P b L) x' ∧ (∀ v ∈ x'.l, W64 v) ∧ Next (G ++ K) (G' ++ K') w w' := by
  by_cases hg : goesB c r P b = true
  · have h1 : ansBk c r P b L = if waitB P b (wordOf L (adB P b)) then 1 else if b.nx = 8 then 3 else 2 := by unfold ansBk; rw [if_pos hg]
    have h2 : nextBL c r P b L t = accL c r P b L t := by unfold nextBL; rw [if_pos hg]
    have h3 : nextBk c r P b L = stepB P b (wordOf L (adB P b)) := by unfold nextBk; rw [if_pos hg]
    rw [h1, h2, h3]
    refine Calls.mono (rdstep_go h hb hL hd hgd hwl hg t) ?_
    rintro e w' ⟨rfl, K', G', h4, h5⟩
    refine ⟨rfl, _, K', G', h4, dr_step hd (goesB_iff.mp hg).1 _, fun v hv => ?_, h5⟩
    unfold stepD at hv
    split at hv
    · exact hwl v hv
    · split at hv
      · split at hv
        · exact hwl v hv
        · simp only [List.mem_append, List.mem_singleton] at hv
          rcases hv with hv | hv
          · exact hwl v hv
          · rw [hv]; exact hgd _
      · split at hv
        · exact hwl v hv
        · split at hv
          · exact hwl v hv
          · exact hwl v hv
  · have h1 : ansBk c r P b L = 0 := by unfold ansBk; rw [if_neg hg]
    have h2 : nextBL c r P b L t = L := by unfold nextBL; rw [if_neg hg]
    have h3 : nextBk c r P b L = b := by unfold nextBk; rw [if_neg hg]
    rw [h1, h2, h3]
    have hgd2 : goD c r P x = false := by rw [← goes_same hd]; simpa using hg
    refine (dstep_none h hd.ok.p hgd2 t).mono ?_
    rintro e w' ⟨rfl, h4⟩
    exact ⟨rfl, x, K, G, h.below h4, hd, hwl, Next.of_below h4 _⟩
/-- How many are left. -/
theorem left_same {P : Bp} {mu : Bool} {b : Bk} {x : Dc} (h : DR P mu b x) : lfD x.n P.W.length = b.wr ∧ x.n ≤ 34 := by
  have hk := h.ok
  have hnx := hk.nx
  have hwr := hk.wr
  have hl := hk.p.len
  have hcs : b.nx = 1 ∨ b.nx = 2 ∨ (b.nx = 3 ∨ b.nx = 4 ∨ b.nx = 5) ∨ (b.nx = 6 ∨ b.nx = 7 ∨ b.nx = 8) ∨ b.nx = 0 := by omega
  unfold lfD
  rcases hcs with q | q | q | q | q
  · have h1 := h.n1 q; have := hk.w1 q; have h0 := hk.early (by omega)
    rw [if_pos (by omega)]; omega
  · have h1 := h.n2 q; have h0 := hk.early (by omega)
    rw [if_pos (by omega)]; omega
  · have h1 := h.n3 q; have h0 := hk.early (by omega)
    rw [if_neg (by omega), if_neg (by omega)]; omega
  · have h1 := h.n6 q
    rw [if_neg (by omega), if_neg (by omega)]; omega
  · have h1 := h.n0 q; have h0 := hk.late (by omega)
    rw [if_neg (by omega), if_pos (by omega)]; omega
end Go.Proofs.Ytbmmicfdnfpcaaa
