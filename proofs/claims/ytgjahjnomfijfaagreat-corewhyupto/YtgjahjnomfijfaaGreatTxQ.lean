/- A step keeps what is so of a transaction at all times. -/
import Derived.Test.YtgjahjnomfijfaaGreatJTxMTxO
import Derived.Test.YtgjahjnomfijfaaGreatJTxATxH
import Derived.Test.YtgjahjnomfijfaaGreatCwM
import Derived.Test.YtgjahjnomfijfaaGreatJWlRWlU
namespace Go.Proofs.YtgjahjnomfijfaaGreat
open Go.RowKit (wrap64)
theorem onV_cs (P : Fe.Cp) (b : Fe.Ck) : (Fe.onV P b).comp = b.comp ∧ (Fe.onV P b).seen = b.seen := by
 have h1 : ∀ b : Fe.Ck, (Fe.stampOn P b).comp = b.comp ∧ (Fe.stampOn P b).seen = b.seen := fun b => by
  unfold Fe.stampOn
  split
  ·exact ⟨rfl, rfl⟩
  ·split <;> exact ⟨rfl, rfl⟩
 have h2 : ∀ b : Fe.Ck, (Fe.wordOn P b).comp = b.comp ∧ (Fe.wordOn P b).seen = b.seen := fun b => by
  unfold Fe.wordOn
  split
  ·exact ⟨rfl, rfl⟩
  ·exact h1 _
 unfold Fe.onV
 split
 ·exact h2 _
 ·split
  ·exact h2 _
  ·split
   ·exact h1 _
   ·exact ⟨rfl, rfl⟩
theorem stepK_cs (P : Fe.Cp) (b : Fe.Ck) (v : Int) : ((Fe.stepK P b v).comp = b.comp ∨ (b.st = 1 ∧ (Fe.stepK P b v).comp = b.stamp)) ∧ ((b.st = 0 ∧ (Fe.stepK P b v).seen = v) ∨ (b.st ≠ 0 ∧ (Fe.stepK P b v).seen = b.seen)) := by
 unfold Fe.stepK
 split
 ·next e =>
  unfold Fe.seeK
  split
  ·exact ⟨Or.inl rfl, Or.inl ⟨e, rfl⟩⟩
  ·split
   ·exact ⟨Or.inl rfl, Or.inl ⟨e, rfl⟩⟩
   ·have := onV_cs P ⟨b.st, v, b.stamp, b.word, b.comp, b.err⟩
    exact ⟨Or.inl this.1, Or.inl ⟨e, this.2⟩⟩
 ·next e =>
  split
  ·next e1 =>
   unfold Fe.lookK
   split
   ·have := onV_cs P ⟨b.st, b.seen, b.stamp, b.word, Fe.compV b v, b.err⟩
    refine ⟨?_, Or.inr ⟨e, this.2⟩⟩
    rw [this.1]
    unfold Fe.compV
    simp only
    split
    ·exact Or.inr ⟨e1, rfl⟩
    ·exact Or.inl rfl
   ·split
    ·exact ⟨Or.inl rfl, Or.inr ⟨e, rfl⟩⟩
    ·exact ⟨Or.inl rfl, Or.inr ⟨e, rfl⟩⟩
  ·split
   ·unfold Fe.holdK
    split
    ·exact ⟨Or.inl rfl, Or.inr ⟨e, rfl⟩⟩
    ·exact ⟨Or.inl (onV_cs P b).1, Or.inr ⟨e, (onV_cs P b).2⟩⟩
   ·split
    ·unfold Fe.againK
     split
     ·exact ⟨Or.inl rfl, Or.inr ⟨e, rfl⟩⟩
     ·exact ⟨Or.inl (onV_cs P b).1, Or.inr ⟨e, (onV_cs P b).2⟩⟩
    ·exact ⟨Or.inl rfl, Or.inr ⟨e, rfl⟩⟩
theorem stepK_bd {P : Fe.Cp} {b : Fe.Ck} {n : Nat} {v : Int} (h : Fe.KOk P b n) (ht : ¬ Fe.thr b) (hv : W64 v) : 0 ≤ (Fe.stepK P b v).comp ∧ (Fe.stepK P b v).comp ≤ 9223372036854775807 ∧ W64 (Fe.stepK P b v).seen := by
 obtain ⟨h1, h2⟩ := stepK_cs P b v
 have z0 := h.p.z0
 have z1 := h.p.z1
 unfold Fe.thr at ht
 unfold W64 at hv ⊢
 rcases h.c with ⟨rfl, _⟩ | ⟨e, k, _⟩ | ⟨e, k, _⟩ | ⟨e, k, _⟩ | ⟨e, _⟩ | ⟨e, _⟩
 ·simp only [Fe.ckNew] at h1 h2 ⊢
  omega
 ·have := k.lo; have := k.hi; have := k.w; have := k.c1; have := k.c2; omega
 ·have := k.lo; have := k.hi; have := k.w; have := k.c1; have := k.c2; omega
 ·have := k.lo; have := k.hi; have := k.w; have := k.c1; have := k.c2; omega
 ·omega
 ·omega
theorem stepV_bd {s : Nat} {b : Bg} {v : Int} (h : BOk s b) (hv : W64 v) (h2 : (stepV s b v).st = 2) (hn : b.st ≠ 2) : 0 ≤ (stepV s b v).stamp ∧ (stepV s b v).stamp ≤ 9223372036854775807 ∧ W64 (stepV s b v).seen := by
 have h' := bok_step h hv
 have hle : (stepV s b v).stamp ≤ 9223372036854775807 := by
  unfold W64 at hv
  unfold stepV
  split
  ·unfold seeV
   split
   ·simp
   ·simp only; omega
  ·split
   ·next e1 =>
    rcases h.c with ⟨c, _⟩ | ⟨_, c1, c2, c3, c4⟩ | ⟨c, _⟩
    ·omega
    ·unfold W64 at c4
     unfold lookV
     split
     ·simp only; omega
     ·split <;> (simp only; omega)
    ·omega
   ·rcases h.c with ⟨c, _⟩ | ⟨c, _⟩ | ⟨c, _⟩ <;> omega
 rcases h'.c with ⟨c, _⟩ | ⟨c, _⟩ | ⟨_, c1, _, c3⟩
 ·omega
 ·omega
 ·exact ⟨c1, hle, c3⟩
theorem fe_go {r : Nat} {P : Fe.Cp} {b : Fe.Ck} {L : List Ac} (hg : Fe.goesK r P b = true) : (Fe.thr (Fe.nextK r P b L) ↔ Fe.ansKK r P b L = 3 ∨ Fe.ansKK r P b L = 4) ∧ (Fe.ansKK r P b L = 3 → (Fe.nextK r P b L).st = 4) ∧ Fe.ansKK r P b L ≠ 0 := by
 unfold Fe.ansKK Fe.nextK
 rw [if_pos hg, if_pos hg]
 have ht := (Fe.goesK_iff.mp hg).1
 unfold Fe.kindK
 by_cases hw : Fe.waitK b (wordOf L (Fe.adK P b)) = true
 ·rw [if_pos hw]
  have hs : Fe.stepK P b (wordOf L (Fe.adK P b)) = b := by
   have h' := hw
   unfold Fe.waitK at h'
   simp only [Bool.and_eq_true, Bool.not_eq_true', decide_eq_true_eq] at h'
   unfold Fe.stepK Fe.lookK
   rw [if_neg (by omega), if_pos h'.1.1, h'.1.2, h'.2]
   simp
  rw [hs]
  exact ⟨⟨fun e => absurd e ht, fun e => by omega⟩, fun e => by omega, by omega⟩
 ·rw [if_neg hw]
  unfold Fe.kindV Fe.thr
  split
  ·next e => exact ⟨by simp [e], fun _ => e, by omega⟩
  ·next e =>
   split
   ·next e2 => exact ⟨by simp [e2], fun e => by omega, by omega⟩
   ·next e2 => exact ⟨by simp [e, e2], fun e => by omega, by omega⟩
theorem cu_end {r : Nat} {P : Co.Cp} {b : Co.Ck} {u : Co.Cu} {L : List Ac} (h0 : u.st ≠ 3) (h : (Co.nextU r P b u L).st = 3) : Co.ansZ r P b u L = 3 ∨ Co.ansZ r P b u L = 4 := by
 unfold Co.nextU at h
 unfold Co.ansZ
 split at h
 ·next hg =>
  rw [if_pos hg]
  split at h
  ·next e0 =>
   rw [if_pos e0]
   unfold Co.holdU at h
   unfold Co.holdA
   split at h
   ·next k4 => rw [if_neg (by omega)]; exact Or.inr k4
   ·split at h
    ·next k3 =>
     rw [if_pos k3]
     unfold Co.heldU at h
     unfold Co.heldK
     split at h
     ·next hs => rw [if_pos hs]; exact Or.inr rfl
     ·split at h <;> simp at h
    ·omega
  ·next e0 =>
   rw [if_neg e0]
   split at h
   ·next e1 =>
    unfold Co.lookU at h
    split at h
    ·simp at h
    ·omega
   ·next e1 =>
    rw [if_neg e1]
    unfold Co.swapU at h
    split at h
    ·next hs => rw [if_pos hs]; exact Or.inl rfl
    ·simp at h
 ·omega
theorem bk_end {c r : Nat} {P : Ba.Bp} {b : Ba.Bk} {L : List Ac} (hk : Ba.BkOk P b) (h0 : b.nx ≠ 0) (h : (Ba.nextBk c r P b L).nx = 0) : Ba.ansBk c r P b L = 3 := by
 have hx := hk.nx
 unfold Ba.nextBk at h
 unfold Ba.ansBk
 split at h
 ·next hg =>
  rw [if_pos hg]
  by_cases hw : Ba.waitB P b (wordOf L (Ba.adB P b)) = true
  ·rw [step_wait hw] at h; omega
  ·rw [if_neg hw]
   rw [step_run (by simpa using hw)] at h
   by_cases e8 : b.nx = 8
   ·rw [if_pos e8]
   ·exfalso
    split at h
    ·simp only at h; split at h <;> omega
    ·split at h
     ·split at h
      ·have := goB_wr P b; omega
      ·have := lookAt_wr P b (P.st - 1); omega
     ·split at h
      ·split at h
       ·unfold Ba.overB at h
        have := goB_wr P ⟨b.nx, b.wd, b.old, b.old == P.st - 1, b.wr⟩; omega
       ·have := toWord_wr P ⟨b.nx, 0, b.old, b.kn, b.wr⟩; omega
      ·split at h
       ·split at h
        ·simp at h
        ·have := toWord_wr P ⟨b.nx, b.wd + 1, b.old, b.kn, b.wr⟩; omega
       ·split at h
        ·unfold Ba.overB at h
         have := goB_wr P ⟨b.nx, b.wd, b.old, b.old == P.st - 1, b.wr⟩; omega
        ·split at h
         ·have := goB_wr P ⟨b.nx, b.wd, b.old, b.kn, b.wr + 1⟩; omega
         ·split at h
          ·have := goB_wr P ⟨b.nx, b.wd, b.old, true, b.wr⟩; omega
          ·omega
 ·omega
theorem valB_w {P : Ba.Bp} {b : Ba.Bk} (h : Ba.BkOk P b) : W64 (Ba.valB P b) := by
 have h1 := h.p.st1
 have h2 := h.p.st2
 unfold Ba.valB
 split
 ·unfold W64 wrap64; omega
 ·split
  ·next e =>
   have hl := h.wr6 e
   refine (h.p.cell _ ?_).2.2
   rw [List.getD_eq_getElem?_getD, List.getElem?_eq_getElem hl]; exact List.getElem_mem _
  ·split
   ·unfold W64; omega
   ·unfold W64; omega
theorem toW_ok {x : Tx} (hx : XOk x) : ∀ y ∈ toW x.tb.R, 0 ≤ y.c ∧ y.c < 1024 ∧ W64 y.v := fun y hy => by
 unfold toW at hy
 obtain ⟨z, hz, rfl⟩ := List.mem_map.1 hy
 obtain ⟨i, hi, e⟩ := List.getElem_of_mem hz
 have := hx.inv.right i hi
 rw [e] at this
 exact ⟨this.1, this.2, hx.val z hz⟩
theorem wy_keep {x : Tx} (h : XOk x) {y : Wy} (hp : ({ x with wy := y } : Tx).phase = x.phase) (hy : wyOk { x with wy := y }) : XOk { x with wy := y } :=
 ⟨h.s1, h.s16, h.n1, h.n2, h.inv, h.val, h.rd, h.z0, h.z1, h.seen, fun e => h.non (by rw [hp] at e; exact e), fun a b => h.liv (by rw [hp] at a; exact a) (by rw [hp] at b; exact b), fun e => h.ne (by rw [hp] at e; exact e), hy⟩
theorem xok_step {c r : Nat} {x : Tx} {L : List Ac} {t : Int} (h : XOk x) (hd : Wd L) : XOk (stepX c r x L t).x ∧ Wd (stepX c r x L t).L ∧ (stepX c r x L t).L.length ≤ L.length + 1 ∧ (stepX c r x L t).x.ev.length ≤ x.ev.length + 1 := by
 have hw := h.wy
 unfold wyOk at hw
 have fin : ∀ (a : Ms), a = stepM c r x L t → Wd a.L → a.L.length ≤ L.length + 1 → (a.k = 3 → XOk (finX x a.v a.wy).1) → (a.k ≠ 3 → a.k ≠ 4 → XOk { x with wy := a.wy }) → XOk (stepX c r x L t).x ∧ Wd (stepX c r x L t).L ∧ (stepX c r x L t).L.length ≤ L.length + 1 ∧ (stepX c r x L t).x.ev.length ≤ x.ev.length + 1 := fun a ha w1 w2 k3 k0 => by
  unfold stepX
  rw [← ha]
  unfold goOn
  split
  ·exact ⟨xok_fin h _, w1, w2, by simp [Tx.finis, Tx.reset, Tx.tell]⟩
  ·next e4 =>
   split
   ·next e3 =>
    have hl : (finX x a.v a.wy).1.ev.length ≤ x.ev.length + 1 := by
     unfold finX
     split <;> simp [Tx.live, Tx.tell, Tx.reset]
    split
    ·exact ⟨k3 e3, w1, w2, hl⟩
    ·exact ⟨k3 e3, w1, w2, hl⟩
   ·next e3 => exact ⟨k0 e3 e4, w1, w2, by simp⟩
 cases hy : x.wy with
 | no =>
  rw [hy] at hw
  have e : stepM c r x L t = ⟨.no, L, 0, 0, 0, false⟩ := by unfold stepM; rw [hy]
  refine fin _ e.symm hd (by simp) (fun e3 => by simp at e3) (fun _ _ => ?_)
  exact wy_keep h (by unfold Tx.phase; rw [hy]) trivial
 | bg b =>
  rw [hy] at hw
  obtain ⟨h1, h2⟩ := hw
  have e : stepM c r x L t = ⟨.bg (Be.nextB r x.s b L), Be.nextL c r x.s b L t, Be.ansK r x.s b L, 0, 0, Be.goesB r x.s b⟩ := by unfold stepM; rw [hy]
  refine fin _ e.symm ?_ ?_ (fun e3 => ?_) (fun e3 _ => ?_)
  ·simp only; unfold Be.nextL; split
   ·exact hd.load
   ·exact hd
  ·simp only; unfold Be.nextL; split
   ·unfold loadL; split <;> simp
   ·simp
  ·simp only at e3 ⊢
   unfold Be.ansK at e3
   unfold Be.nextB
   split at e3
   ·next hg =>
    rw [if_pos hg]
    split at e3
    ·next h4 =>
     obtain ⟨a1, a2, a3⟩ := stepV_bd h1 (hd _) h4 h2
     exact xok_tell (xok_live h a1 a2 a3) _
    ·simp at e3
   ·simp at e3
  ·simp only at e3 ⊢
   refine wy_keep h (by unfold Tx.phase; rw [hy]) ?_
   unfold Be.ansK at e3
   unfold Be.nextB
   split at e3
   ·next hg =>
    rw [if_pos hg]
    split at e3
    ·simp at e3
    ·next h4 => exact ⟨bok_step h1 (hd _), h4⟩
   ·next hg =>
    rw [if_neg hg]
    exact ⟨h1, h2⟩
 | rd P b =>
  rw [hy] at hw
  obtain ⟨w1, w2, w3, w4, ⟨n, w5⟩, w6, w7, w8, w9⟩ := hw
  have e : stepM c r x L t = ⟨.rd (Fe.nextFP c r P L) (Fe.nextFB c r P b L), Fe.nextFL c r P b L t, Fe.ansF c r P b L, Fe.errF c r P b L, Fe.valF c r P b L, Fe.accF c r P b⟩ := by unfold stepM; rw [hy]
  refine fin _ e.symm ?_ ?_ (fun e3 => ?_) (fun e3 e4 => ?_)
  ·simp only; unfold Fe.nextFL Fe.nextKL
   split
   ·split
    ·split
     ·exact hd.load
     ·exact hd
    ·exact hd.load
   ·exact hd
  ·simp only; unfold Fe.nextFL Fe.nextKL loadL
   split
   ·split
    ·split
     ·split <;> simp
     ·simp
    ·split <;> simp
   ·simp
  ·simp only at e3 ⊢
   unfold Fe.ansF at e3
   split at e3
   ·next hg =>
    split at e3
    ·next hr =>
     have hgo : Fe.goesK r P b = true := by
      unfold Fe.ansKK at e3
      split at e3
      ·next h => exact h
      ·simp at e3
     have hb : Fe.nextFB c r P b L = Fe.stepK P b (wordOf L (Fe.adK P b)) := by unfold Fe.nextFB Fe.nextK; rw [if_pos hg, if_pos hr, if_pos hgo]
     obtain ⟨a1, a2, a3⟩ := stepK_bd w5 w6 (hd (Fe.adK P b))
     rw [hb]
     exact xok_tell (xok_live h a1 a2 a3) _
    ·simp at e3
   ·simp at e3
  ·simp only at e3 e4 ⊢
   refine wy_keep h (by unfold Tx.phase; rw [hy]) ?_
   unfold Fe.ansF at e3 e4
   by_cases hg : Fe.goesF c r P = true
   ·rw [if_pos hg] at e3 e4
    by_cases hr : P.read = true
    ·rw [if_pos hr] at e3 e4
     have hP : Fe.nextFP c r P L = P := by unfold Fe.nextFP; rw [if_pos hg, if_pos hr]
     have hB : Fe.nextFB c r P b L = Fe.nextK r P b L := by unfold Fe.nextFB; rw [if_pos hg, if_pos hr]
     rw [hP, hB]
     refine ⟨w1, w2, w3, w4, ?_, ?_, w7, w8, fun e => by rw [hr] at e; simp at e⟩
     ·unfold Fe.nextK
      split
      ·exact ⟨_, Fe.kok_step w5 (hd _) w6⟩
      ·exact ⟨n, w5⟩
     ·intro ht
      by_cases hgo : Fe.goesK r P b = true
      ·rcases ((fe_go hgo).1).mp ht with h3 | h3
       ·exact e3 h3
       ·exact e4 h3
      ·unfold Fe.nextK at ht; rw [if_neg hgo] at ht; exact w6 ht
    ·have hP : Fe.nextFP c r P L = Fe.lookP P (wordOf L (Fe.cellA P)) := by unfold Fe.nextFP; rw [if_pos hg, if_neg hr]
     have hB : Fe.nextFB c r P b L = b := by unfold Fe.nextFB; rw [if_pos hg, if_neg hr]
     rw [hP, hB]
     exact ⟨w1, w2, w3, w4, ⟨n, Fe.kok_look w5 _⟩, w6, w7, w8, fun e => by simp [Fe.lookP] at e⟩
   ·have hP : Fe.nextFP c r P L = P := by unfold Fe.nextFP; rw [if_neg hg]
    have hB : Fe.nextFB c r P b L = b := by unfold Fe.nextFB; rw [if_neg hg]
    rw [hP, hB]
    exact ⟨w1, w2, w3, w4, ⟨n, w5⟩, w6, w7, w8, w9⟩
 | cm P b u =>
  rw [hy] at hw
  obtain ⟨w1, w2, w3, w4, w5, w6, w7⟩ := hw
  have e : stepM c r x L t = ⟨.cm P (Co.nextCB r P b u L) (Co.nextU r P b u L), Co.nextCL c r P b u L t, Co.ansZ r P b u L, Co.errZ r P b u L, Co.valZ r P u L, Co.goesC r P u⟩ := by unfold stepM; rw [hy]
  have hph : x.phase = 4 := by unfold Tx.phase; rw [hy]
  refine fin _ e.symm (Co.gd_nextC w4 hd) (Co.nextCL_len c r P b u L t) (fun e3 => ?_) (fun e3 e4 => ?_)
  ·obtain ⟨a1, a2⟩ := cm_done w4 e3
   have hbp : Ba.BpOk (backP x (Co.nextU r P b u L).stamp) := ⟨h.s1, h.s16, a1, a2, by show (toW x.tb.R).length ≤ 24; rw [toW_len]; have := h.inv.len; have := h.inv.m24; omega, toW_ok h, rfl⟩
   exact xok_tell (x := { x with wy := .wr (backP x (Co.nextU r P b u L).stamp) (Ba.bkNew (backP x (Co.nextU r P b u L).stamp) x.mu) }) ⟨h.s1, h.s16, h.n1, h.n2, h.inv, h.val, h.rd, h.z0, h.z1, h.seen, fun e => by simp [Tx.phase] at e, fun _ _ => h.liv (by omega) (by omega), fun _ => h.ne (Or.inl hph), rfl, rfl, Ba.bk_new hbp _, by simp [Ba.bkNew]⟩ _
  ·simp only at e3 e4 ⊢
   refine wy_keep h (by unfold Tx.phase; rw [hy]) ⟨w1, w2, w3, Co.cok_next w4 (fun _ _ => hd _), fun e => ?_, w6, w7⟩
   rcases cu_end w5 e with h3 | h3
   ·exact e3 h3
   ·exact e4 h3
 | wr P b =>
  rw [hy] at hw
  obtain ⟨w1, w2, w3, w4⟩ := hw
  have e : stepM c r x L t = ⟨.wr P (Ba.nextBk c r P b L), Ba.nextBL c r P b L t, Ba.ansBk c r P b L, 0, 0, Ba.goesB c r P b⟩ := by unfold stepM; rw [hy]
  refine fin _ e.symm ?_ Ba.nextBL_len (fun e3 => ?_) (fun e3 e4 => ?_)
  ·simp only; unfold Ba.nextBL Ba.accL
   split
   ·split
    ·exact hd.load
    ·exact wd_store hd (valB_w w3)
   ·exact hd
  ·exact xok_reset (xok_tell h _)
  ·simp only at e3 ⊢
   exact wy_keep h (by unfold Tx.phase; rw [hy]) ⟨w1, w2, Ba.bk_next w3 c r L, fun e => e3 (bk_end w3 w4 e)⟩
end Go.Proofs.YtgjahjnomfijfaaGreat
