/- A step keeps what is so of a transaction at all times. -/
import Derived.Test.YtdkpgdkjohjcaaaGreatJTxMTxH
import Derived.Test.YtdkpgdkjohjcaaaGreatCwM
import Derived.Test.YtdkpgdkjohjcaaaGreatJWlRWlU
import Derived.Test.YtdkpgdkjohjcaaaGreatWlV
import Derived.Test.YtdkpgdkjohjcaaaGreatJFcCFtB
namespace Go.Proofs.YtdkpgdkjohjcaaaGreat
open Go.RowKit (wrap64)
theorem onV_cs (P:Fe.Cp) (b:Fe.Ck):(Fe.onV P b).comp=b.comp∧(Fe.onV P b).seen=b.seen:=by
 have h1 : ∀ b:Fe.Ck,(Fe.stampOn P b).comp=b.comp∧(Fe.stampOn P b).seen=b.seen:=fun b=>by
  unfold Fe.stampOn
  split
  ·exact ⟨rfl,rfl⟩
  ·split <;> exact ⟨rfl,rfl⟩
 have h2 : ∀ b:Fe.Ck,(Fe.wordOn P b).comp=b.comp∧(Fe.wordOn P b).seen=b.seen:=fun b=>by
  unfold Fe.wordOn
  split
  ·exact ⟨rfl,rfl⟩
  ·exact h1 _
 unfold Fe.onV
 split
 ·exact h2 _
 ·split
  ·exact h2 _
  ·split
   ·exact h1 _
   ·exact ⟨rfl,rfl⟩
theorem stepK_cs (P:Fe.Cp) (b:Fe.Ck) (v:Int):((Fe.stepK P b v).comp=b.comp∨(b.st=1∧(Fe.stepK P b v).comp=b.stamp))∧((b.st=0∧(Fe.stepK P b v).seen=v)∨(b.st≠0∧(Fe.stepK P b v).seen=b.seen)):=by
 unfold Fe.stepK
 split
 ·next e =>
  unfold Fe.seeK
  split
  ·exact ⟨Or.inl rfl,Or.inl ⟨e,rfl⟩⟩
  ·split
   ·exact ⟨Or.inl rfl,Or.inl ⟨e,rfl⟩⟩
   ·have:=onV_cs P ⟨b.st,v,b.stamp,b.word,b.comp,b.err⟩
    exact ⟨Or.inl this.1,Or.inl ⟨e,this.2⟩⟩
 ·next e =>
  split
  ·next e1 =>
   unfold Fe.lookK
   split
   ·have:=onV_cs P ⟨b.st,b.seen,b.stamp,b.word,Fe.compV b v,b.err⟩
    refine ⟨?_,Or.inr ⟨e,this.2⟩⟩
    rw [this.1]
    unfold Fe.compV
    simp only
    split
    ·exact Or.inr ⟨e1,rfl⟩
    ·exact Or.inl rfl
   ·split
    ·exact ⟨Or.inl rfl,Or.inr ⟨e,rfl⟩⟩
    ·exact ⟨Or.inl rfl,Or.inr ⟨e,rfl⟩⟩
  ·split
   ·unfold Fe.holdK
    split
    ·exact ⟨Or.inl rfl,Or.inr ⟨e,rfl⟩⟩
    ·exact ⟨Or.inl (onV_cs P b).1,Or.inr ⟨e,(onV_cs P b).2⟩⟩
   ·split
    ·unfold Fe.againK
     split
     ·exact ⟨Or.inl rfl,Or.inr ⟨e,rfl⟩⟩
     ·exact ⟨Or.inl (onV_cs P b).1,Or.inr ⟨e,(onV_cs P b).2⟩⟩
    ·exact ⟨Or.inl rfl,Or.inr ⟨e,rfl⟩⟩
theorem stepK_bd {P:Fe.Cp} {b:Fe.Ck} {n:Nat} {v:Int} (h:Fe.KOk P b n) (ht : ¬ Fe.thr b) (hv:W64 v):0≤(Fe.stepK P b v).comp∧(Fe.stepK P b v).comp≤9223372036854775807∧W64 (Fe.stepK P b v).seen:=by
 obtain ⟨h1,h2⟩:=stepK_cs P b v
 have z0:=h.p.z0
 have z1:=h.p.z1
 unfold Fe.thr at ht
 unfold W64 at hv ⊢
 rcases h.c with ⟨rfl,_⟩ | ⟨e,k,_⟩ | ⟨e,k,_⟩ | ⟨e,k,_⟩ | ⟨e,_⟩ | ⟨e,_⟩
 ·simp only [Fe.ckNew] at h1 h2 ⊢
  omega
 ·have:=k.lo; have:=k.hi; have:=k.w; have:=k.c1; have:=k.c2; omega
 ·have:=k.lo; have:=k.hi; have:=k.w; have:=k.c1; have:=k.c2; omega
 ·have:=k.lo; have:=k.hi; have:=k.w; have:=k.c1; have:=k.c2; omega
 ·omega
 ·omega
theorem stepV_bd {s:Nat} {b:Bg} {v:Int} (h:BOk s b) (hv:W64 v) (h2:(stepV s b v).st=2) (hn:b.st≠2):0≤(stepV s b v).stamp∧(stepV s b v).stamp≤9223372036854775807∧W64 (stepV s b v).seen:=by
 have h':=bok_step h hv
 have hle:(stepV s b v).stamp≤9223372036854775807:=by
  unfold W64 at hv
  unfold stepV
  split
  ·unfold seeV
   split
   ·simp
   ·simp only; omega
  ·split
   ·next e1 =>
    rcases h.c with ⟨c,_⟩ | ⟨_,c1,c2,c3,c4⟩ | ⟨c,_⟩
    ·omega
    ·unfold W64 at c4
     unfold lookV
     split
     ·simp only; omega
     ·split <;> (simp only; omega)
    ·omega
   ·rcases h.c with ⟨c,_⟩ | ⟨c,_⟩ | ⟨c,_⟩ <;> omega
 rcases h'.c with ⟨c,_⟩ | ⟨c,_⟩ | ⟨_,c1,_,c3⟩
 ·omega
 ·omega
 ·exact ⟨c1,hle,c3⟩
theorem fe_go {r:Nat} {P:Fe.Cp} {b:Fe.Ck} {L:List Ac} (hg:Fe.goesK r P b=true):(Fe.thr (Fe.nextK r P b L) ↔ Fe.ansKK r P b L=3∨Fe.ansKK r P b L=4)∧(Fe.ansKK r P b L=3→(Fe.nextK r P b L).st=4)∧Fe.ansKK r P b L≠0:=by
 unfold Fe.ansKK Fe.nextK
 rw [if_pos hg,if_pos hg]
 have ht:=(Fe.goesK_iff.mp hg).1
 unfold Fe.kindK
 by_cases hw:Fe.waitK b (wordOf L (Fe.adK P b))=true
 ·rw [if_pos hw]
  have hs:Fe.stepK P b (wordOf L (Fe.adK P b))=b:=by
   have h':=hw
   unfold Fe.waitK at h'
   simp only [Bool.and_eq_true, Bool.not_eq_true', decide_eq_true_eq] at h'
   unfold Fe.stepK Fe.lookK
   rw [if_neg (by omega),if_pos h'.1.1,h'.1.2,h'.2]
   simp
  rw [hs]
  exact ⟨⟨fun e=>absurd e ht,fun e=>by omega⟩,fun e=>by omega,by omega⟩
 ·rw [if_neg hw]
  unfold Fe.kindV Fe.thr
  split
  ·next e=>exact ⟨by simp [e],fun _=>e,by omega⟩
  ·next e =>
   split
   ·next e2=>exact ⟨by simp [e2],fun e=>by omega,by omega⟩
   ·next e2=>exact ⟨by simp [e,e2],fun e=>by omega,by omega⟩
theorem cu_end {r:Nat} {P:Co.Cp} {b:Co.Ck} {u:Co.Cu} {L:List Ac} (h0:u.st≠3) (h:(Co.nextU r P b u L).st=3):Co.ansZ r P b u L=3∨Co.ansZ r P b u L=4:=by
 unfold Co.nextU at h
 unfold Co.ansZ
 split at h
 ·next hg =>
  rw [if_pos hg]
  split at h
  ·next e0 =>
   rw [if_pos e0]
   unfold Co.holdU at h
   unfold Co.holdA
   split at h
   ·next k4=>rw [if_neg (by omega)]; exact Or.inr k4
   ·split at h
    ·next k3 =>
     rw [if_pos k3]
     unfold Co.heldU at h
     unfold Co.heldK
     split at h
     ·next hs=>rw [if_pos hs]; exact Or.inr rfl
     ·split at h <;> simp at h
    ·omega
  ·next e0 =>
   rw [if_neg e0]
   split at h
   ·next e1 =>
    unfold Co.lookU at h
    split at h
    ·simp at h
    ·omega
   ·next e1 =>
    rw [if_neg e1]
    unfold Co.swapU at h
    split at h
    ·next hs=>rw [if_pos hs]; exact Or.inl rfl
    ·simp at h
 ·omega
theorem bk_end {c r:Nat} {P:Ba.Bp} {b:Ba.Bk} {L:List Ac} (hk:Ba.BkOk P b) (h0:b.nx≠0) (h:(Ba.nextBk c r P b L).nx=0):Ba.ansBk c r P b L=3:=by
 have hx:=hk.nx
 unfold Ba.nextBk at h
 unfold Ba.ansBk
 split at h
 ·next hg =>
  rw [if_pos hg]
  by_cases hw:Ba.waitB P b (wordOf L (Ba.adB P b))=true
  ·rw [step_wait hw] at h; omega
  ·rw [if_neg hw]
   rw [step_run (by simpa using hw)] at h
   by_cases e8:b.nx=8
   ·rw [if_pos e8]
   ·exfalso
    split at h
    ·simp only at h; split at h <;> omega
    ·split at h
     ·split at h
      ·have:=goB_wr P b; omega
      ·have:=lookAt_wr P b (P.st - 1); omega
     ·split at h
      ·split at h
       ·unfold Ba.overB at h
        have:=goB_wr P ⟨b.nx,b.wd,b.old,b.old == P.st - 1,b.wr⟩; omega
       ·have:=toWord_wr P ⟨b.nx,0,b.old,b.kn,b.wr⟩; omega
      ·split at h
       ·split at h
        ·simp at h
        ·have:=toWord_wr P ⟨b.nx,b.wd+1,b.old,b.kn,b.wr⟩; omega
       ·split at h
        ·unfold Ba.overB at h
         have:=goB_wr P ⟨b.nx,b.wd,b.old,b.old == P.st - 1,b.wr⟩; omega
        ·split at h
         ·have:=goB_wr P ⟨b.nx,b.wd,b.old,b.kn,b.wr+1⟩; omega
         ·split at h
          ·have:=goB_wr P ⟨b.nx,b.wd,b.old,true,b.wr⟩; omega
          ·omega
 ·omega
theorem valB_w {P:Ba.Bp} {b:Ba.Bk} (h:Ba.BkOk P b):W64 (Ba.valB P b):=by
 have h1:=h.p.st1
 have h2:=h.p.st2
 unfold Ba.valB
 split
 ·unfold W64 wrap64; omega
 ·split
  ·next e =>
   have hl:=h.wr6 e
   refine (h.p.cell _ ?_).2.2
   rw [List.getD_eq_getElem?_getD,List.getElem?_eq_getElem hl]; exact List.getElem_mem _
  ·split
   ·unfold W64; omega
   ·unfold W64; omega
theorem toW_ok {x:Tx} (hx:XOk x) : ∀ y ∈ toW x.tb.R,0≤y.c∧y.c < 1024∧W64 y.v:=fun y hy=>by
 unfold toW at hy
 obtain ⟨z,hz,rfl⟩:=List.mem_map.1 hy
 obtain ⟨i,hi,e⟩:=List.getElem_of_mem hz
 have:=hx.inv.right i hi
 rw [e] at this
 exact ⟨this.1,this.2,hx.val z hz⟩
theorem wy_keep {x:Tx} (h:XOk x) {y:Wy} (hp:({ x with wy:=y }:Tx).phase=x.phase) (hy:wyOk { x with wy:=y }):XOk { x with wy:=y } :=
 ⟨h.s1,h.s16,h.n1,h.n2,h.inv,h.val,h.rd,h.z0,h.z1,h.seen,fun e=>h.non (by rw [hp] at e; exact e),fun a b=>h.liv (by rw [hp] at a; exact a) (by rw [hp] at b; exact b),fun e=>h.ne (by rw [hp] at e; exact e),hy⟩
theorem xok_step {c r:Nat} {x:Tx} {L:List Ac} {t:Int} (h:XOk x) (hd:Wd L):XOk (stepX c r x L t).x∧Wd (stepX c r x L t).L∧(stepX c r x L t).L.length≤L.length+1∧(stepX c r x L t).x.ev.length≤x.ev.length+1:=by
 have hw:=h.wy
 unfold wyOk at hw
 have fin : ∀ (a:Ms),a=stepM c r x L t→Wd a.L→a.L.length≤L.length+1→(a.k=3→XOk (finX x a.v a.wy).1)→(a.k≠3→a.k≠4→XOk { x with wy:=a.wy })→XOk (stepX c r x L t).x∧Wd (stepX c r x L t).L∧(stepX c r x L t).L.length≤L.length+1∧(stepX c r x L t).x.ev.length≤x.ev.length+1:=fun a ha w1 w2 k3 k0=>by
  unfold stepX
  rw [← ha]
  unfold goOn
  split
  ·exact ⟨xok_fin h _,w1,w2,by simp [Tx.finis,Tx.reset,Tx.tell]⟩
  ·next e4 =>
   split
   ·next e3 =>
    have hl:(finX x a.v a.wy).1.ev.length≤x.ev.length+1:=by
     unfold finX
     split <;> simp [Tx.live,Tx.tell,Tx.reset]
    split
    ·exact ⟨k3 e3,w1,w2,hl⟩
    ·exact ⟨k3 e3,w1,w2,hl⟩
   ·next e3=>exact ⟨k0 e3 e4,w1,w2,by simp⟩
 cases hy:x.wy with
 | no =>
  rw [hy] at hw
  have e:stepM c r x L t=⟨.no,L,0,0,0,false⟩:=by unfold stepM; rw [hy]
  refine fin _ e.symm hd (by simp) (fun e3=>by simp at e3) (fun _ _ => ?_)
  exact wy_keep h (by unfold Tx.phase; rw [hy]) trivial
 | bg b =>
  rw [hy] at hw
  obtain ⟨h1,h2⟩:=hw
  have e:stepM c r x L t=⟨.bg (Be.nextB r x.s b L),Be.nextL c r x.s b L t,Be.ansK r x.s b L,0,0,Be.goesB r x.s b⟩:=by unfold stepM; rw [hy]
  refine fin _ e.symm ?_ ?_ (fun e3 => ?_) (fun e3 _ => ?_)
  ·simp only; unfold Be.nextL; split
   ·exact hd.load
   ·exact hd
  ·simp only; unfold Be.nextL; split
   ·unfold loadL; split <;> simp
   ·simp
  ·simp only at e3 ⊢
   unfold Be.ansK at e3
   unfold Be.nextB
   split at e3
   ·next hg =>
    rw [if_pos hg]
    split at e3
    ·next h4 =>
     obtain ⟨a1,a2,a3⟩:=stepV_bd h1 (hd _) h4 h2
     exact xok_tell (xok_live h a1 a2 a3) _
    ·simp at e3
   ·simp at e3
  ·simp only at e3 ⊢
   refine wy_keep h (by unfold Tx.phase; rw [hy]) ?_
   unfold Be.ansK at e3
   unfold Be.nextB
   split at e3
   ·next hg =>
    rw [if_pos hg]
    split at e3
    ·simp at e3
    ·next h4=>exact ⟨bok_step h1 (hd _),h4⟩
   ·next hg =>
    rw [if_neg hg]
    exact ⟨h1,h2⟩
 | rd P b =>
  rw [hy] at hw
  obtain ⟨w1,w2,w3,w4,⟨n,w5⟩,w6,w7,w8,w9⟩:=hw
  have e:stepM c r x L t=⟨.rd (Fe.nextFP c r P L) (Fe.nextFB c r P b L),Fe.nextFL c r P b L t,Fe.ansF c r P b L,Fe.errF c r P b L,Fe.valF c r P b L,Fe.accF c r P b⟩:=by unfold stepM; rw [hy]
  refine fin _ e.symm ?_ ?_ (fun e3 => ?_) (fun e3 e4 => ?_)
  ·simp only; unfold Fe.nextFL Fe.nextKL
   split
   ·split
    ·split
     ·exact hd.load
     ·exact hd
    ·exact hd.load
   ·exact hd
  ·simp only; unfold Fe.nextFL Fe.nextKL loadL
   split
   ·split
    ·split
     ·split <;> simp
     ·simp
    ·split <;> simp
   ·simp
  ·simp only at e3 ⊢
   unfold Fe.ansF at e3
   split at e3
   ·next hg =>
    split at e3
    ·next hr =>
     have hgo:Fe.goesK r P b=true:=by
      unfold Fe.ansKK at e3
      split at e3
      ·next h=>exact h
      ·simp at e3
     have hb:Fe.nextFB c r P b L=Fe.stepK P b (wordOf L (Fe.adK P b)):=by unfold Fe.nextFB Fe.nextK; rw [if_pos hg,if_pos hr,if_pos hgo]
     obtain ⟨a1,a2,a3⟩:=stepK_bd w5 w6 (hd (Fe.adK P b))
     rw [hb]
     exact xok_tell (xok_live h a1 a2 a3) _
    ·simp at e3
   ·simp at e3
  ·simp only at e3 e4 ⊢
   refine wy_keep h (by unfold Tx.phase; rw [hy]) ?_
   unfold Fe.ansF at e3 e4
   by_cases hg:Fe.goesF c r P=true
   ·rw [if_pos hg] at e3 e4
    by_cases hr:P.read=true
    ·rw [if_pos hr] at e3 e4
     have hP:Fe.nextFP c r P L=P:=by unfold Fe.nextFP; rw [if_pos hg,if_pos hr]
     have hB:Fe.nextFB c r P b L=Fe.nextK r P b L:=by unfold Fe.nextFB; rw [if_pos hg,if_pos hr]
     rw [hP,hB]
     refine ⟨w1,w2,w3,w4, ?_, ?_,w7,w8,fun e=>by rw [hr] at e; simp at e⟩
     ·unfold Fe.nextK
      split
      ·exact ⟨_,Fe.kok_step w5 (hd _) w6⟩
      ·exact ⟨n,w5⟩
     ·intro ht
      by_cases hgo:Fe.goesK r P b=true
      ·rcases ((fe_go hgo).1).mp ht with h3 | h3
       ·exact e3 h3
       ·exact e4 h3
      ·unfold Fe.nextK at ht; rw [if_neg hgo] at ht; exact w6 ht
    ·have hP:Fe.nextFP c r P L=Fe.lookP P (wordOf L (Fe.cellA P)):=by unfold Fe.nextFP; rw [if_pos hg,if_neg hr]
     have hB:Fe.nextFB c r P b L=b:=by unfold Fe.nextFB; rw [if_pos hg,if_neg hr]
     rw [hP,hB]
     exact ⟨w1,w2,w3,w4,⟨n,Fe.kok_look w5 _⟩,w6,w7,w8,fun e=>by simp [Fe.lookP] at e⟩
   ·have hP:Fe.nextFP c r P L=P:=by unfold Fe.nextFP; rw [if_neg hg]
    have hB:Fe.nextFB c r P b L=b:=by unfold Fe.nextFB; rw [if_neg hg]
    rw [hP,hB]
    exact ⟨w1,w2,w3,w4,⟨n,w5⟩,w6,w7,w8,w9⟩
 | cm P b u =>
  rw [hy] at hw
  obtain ⟨w1,w2,w3,w4,w5,w6,w7⟩:=hw
  have e:stepM c r x L t=⟨.cm P (Co.nextCB r P b u L) (Co.nextU r P b u L),Co.nextCL c r P b u L t,Co.ansZ r P b u L,Co.errZ r P b u L,Co.valZ r P u L,Co.goesC r P u⟩:=by unfold stepM; rw [hy]
  have hph:x.phase=4:=by unfold Tx.phase; rw [hy]
  refine fin _ e.symm (Co.gd_nextC w4 hd) (Co.nextCL_len c r P b u L t) (fun e3 => ?_) (fun e3 e4 => ?_)
  ·obtain ⟨a1,a2⟩:=cm_done w4 e3
   have hbp:Ba.BpOk (backP x (Co.nextU r P b u L).stamp):=⟨h.s1,h.s16,a1,a2,by show (toW x.tb.R).length≤24; rw [toW_len]; have:=h.inv.len; have:=h.inv.m24; omega,toW_ok h,rfl⟩
   exact xok_tell (x:={ x with wy:=.wr (backP x (Co.nextU r P b u L).stamp) (Ba.bkNew (backP x (Co.nextU r P b u L).stamp) x.mu) }) ⟨h.s1,h.s16,h.n1,h.n2,h.inv,h.val,h.rd,h.z0,h.z1,h.seen,fun e=>by simp [Tx.phase] at e,fun _ _=>h.liv (by omega) (by omega),fun _=>h.ne (Or.inl hph),rfl,rfl,Ba.bk_new hbp _,by simp [Ba.bkNew]⟩ _
  ·simp only at e3 e4 ⊢
   refine wy_keep h (by unfold Tx.phase; rw [hy]) ⟨w1,w2,w3,Co.cok_next w4 (fun _ _=>hd _),fun e => ?_,w6,w7⟩
   rcases cu_end w5 e with h3 | h3
   ·exact e3 h3
   ·exact e4 h3
 | wr P b =>
  rw [hy] at hw
  obtain ⟨w1,w2,w3,w4⟩:=hw
  have e:stepM c r x L t=⟨.wr P (Ba.nextBk c r P b L),Ba.nextBL c r P b L t,Ba.ansBk c r P b L,0,0,Ba.goesB c r P b⟩:=by unfold stepM; rw [hy]
  refine fin _ e.symm ?_ Ba.nextBL_len (fun e3 => ?_) (fun e3 e4 => ?_)
  ·simp only; unfold Ba.nextBL Ba.accL
   split
   ·split
    ·exact hd.load
    ·exact wd_store hd (valB_w w3)
   ·exact hd
  ·exact xok_reset (xok_tell h _)
  ·simp only at e3 ⊢
   exact wy_keep h (by unfold Tx.phase; rw [hy]) ⟨w1,w2,Ba.bk_next w3 c r L,fun e=>e3 (bk_end w3 w4 e)⟩
end Go.Proofs.YtdkpgdkjohjcaaaGreat
namespace Go.Proofs.YtdkpgdkjohjcaaaGreat.Fe
open Go.RowKit (wrap64)
def Clash (g:Vw) (rd:List Nat) (t:Nat):Prop:=∃ j,j < 8∧(g.e t j &&& rd.getD j 0)≠0
def Clean (g:Vw) (P:Cp) (u:Int):Prop:=∀ t:Nat,P.z < (t:Int)→(t:Int) < u → ¬ Clash g P.rd t
structure Sf (g:Vw) (P:Cp) (b:Ck):Prop where
 z:P.z≤(g.d:Int)
 sz:P.s=g.size
 last:P.last=true
 c:b.st=0∨b.st=5 ∨
  (b.st=1∧b.seen≤(g.n:Int)∧b.comp≤(g.d:Int)∧((g.n:Int)≤P.z+(g.size:Int)→Clean g P b.stamp)) ∨
  (b.st=2∧b.seen≤(g.n:Int)∧b.comp≤(g.d:Int)∧g.laid b.stamp∧((g.n:Int)≤P.z+(g.size:Int)→Clean g P b.stamp ∧ ∀ j:Nat,(j:Int) < b.word→(g.e b.stamp.toNat j &&& P.rd.getD j 0)=0)) ∨
  (b.st=3∧b.seen≤(g.n:Int)∧b.comp≤(g.d:Int)∧((g.n:Int)≤P.z+(g.size:Int)→Clean g P (b.seen+1))) ∨
  (b.st=4∧b.seen≤(g.n:Int)∧P.z≤b.comp∧b.comp≤(g.d:Int)∧Clean g P (b.seen+1))
theorem clean_stay {g g':Vw} {P:Cp} {u:Int} (hs:Stay g g') (hz:0≤P.z) (hu:u≤(g.n:Int)+1) (h:Clean g P u):Clean g' P u:=fun t h1 h2 hc=>by
 obtain ⟨j,hj,hc⟩:=hc
 rw [hs.2.2.2.2 t j (by omega) (by omega)] at hc
 exact h t h1 h2 ⟨j,hj,hc⟩
theorem sf_stay {g g':Vw} {P:Cp} {b:Ck} {n:Nat} (h:Sf g P b) (hk:KOk P b n) (hs:Stay g g'):Sf g' P b:=by
 obtain ⟨s1,s2,s3,s4,s5⟩:=id hs
 have hz:=hk.p.z0
 have hz':=h.z
 refine ⟨by omega,by rw [h.sz,s4],h.last, ?_⟩
 rcases h.c with e | e | ⟨e,h1,h2,h3⟩ | ⟨e,h1,h2,h3,h4⟩ | ⟨e,h1,h2,h3⟩ | ⟨e,h1,h2,h3,h4⟩
 ·exact Or.inl e
 ·exact Or.inr (Or.inl e)
 ·have km:=(kok_mid hk (Or.inl e)).1.hi
  exact Or.inr (Or.inr (Or.inl ⟨e,by omega,by omega,fun hl=>clean_stay hs hz (by omega) (h3 (by rw [s4] at hl; omega))⟩))
 ·have km:=(kok_mid hk (Or.inr (Or.inl e))).1.hi
  have kl:=(kok_mid hk (Or.inr (Or.inl e))).1.lo
  refine Or.inr (Or.inr (Or.inr (Or.inl ⟨e,by omega,by omega,s2 _ (by omega) h3,fun hl => ?_⟩)))
  obtain ⟨c1,c2⟩:=h4 (by rw [s4] at hl; omega)
  exact ⟨clean_stay hs hz (by omega) c1,fun j hj=>by rw [s5 _ j (by omega) (by omega)]; exact c2 j hj⟩
 ·exact Or.inr (Or.inr (Or.inr (Or.inr (Or.inl ⟨e,by omega,by omega,fun hl=>clean_stay hs hz (by omega) (h3 (by rw [s4] at hl; omega))⟩))))
 ·exact Or.inr (Or.inr (Or.inr (Or.inr (Or.inr ⟨e,by omega,h2,by omega,clean_stay hs hz (by omega) h4⟩))))
theorem wrapU_64 {x:Nat} (h:x < 18446744073709551616):(IntKind.u64.wrap (wrap64 (x:Int))).toNat=x:=by
 rw [IntKind.wrap_u64]
 unfold wrap64
 omega
theorem hit_is {rd:List Nat} {j x:Nat} (h:x < 18446744073709551616):hitV rd j (wrap64 (x:Int))=((x &&& rd.getD j 0) != 0):=by unfold hitV; rw [wrapU_64 h]
theorem nx_zero {rd:List Nat} {k j:Nat} (h:k≤8) (h1:k≤j) (h2:j < nxW rd k):rd.getD j 0=0:=(nxW_hit rd k h).2 j h1 h2
theorem sf_on {g:Vw} {P:Cp} {b:Ck} (hz:P.z≤(g.d:Int)) (hs:P.s=g.size) (hl:P.last=true) (h1:b.seen≤(g.n:Int)) (h2:b.comp≤(g.d:Int)) (hle:b.stamp≤b.seen) (h3:(g.n:Int)≤P.z+(g.size:Int)→Clean g P (b.stamp+1)):Sf g P (stampOn P b):=by
 refine ⟨hz,hs,hl, ?_⟩
 unfold stampOn
 by_cases e:b.stamp < b.seen
 ·rw [if_pos e]
  exact Or.inr (Or.inr (Or.inl ⟨rfl,h1,h2,h3⟩))
 ·rw [if_neg e,if_pos hl]
  have he:b.stamp=b.seen:=by omega
  exact Or.inr (Or.inr (Or.inr (Or.inr (Or.inl ⟨rfl,h1,h2,fun h=>by simp only; rw [← he]; exact h3 h⟩))))
theorem sf_word {g:Vw} {P:Cp} {b:Ck} (hz:P.z≤(g.d:Int)) (hs:P.s=g.size) (hl:P.last=true) (hw : -1≤b.word∧b.word≤7) (h0:1≤b.stamp) (h1:b.seen≤(g.n:Int)) (h2:b.comp≤(g.d:Int)) (hle:b.stamp≤b.seen) (hla:g.laid b.stamp)
  (h3:(g.n:Int)≤P.z+(g.size:Int)→Clean g P b.stamp ∧ ∀ j:Nat,(j:Int) < b.word+1→(g.e b.stamp.toNat j &&& P.rd.getD j 0)=0):Sf g P (wordOn P b):=by
 obtain ⟨hw1,hw2⟩:=hw
 have hb:=nxW_bd P.rd (b.word+1).toNat (by omega)
 have hall:(g.n:Int)≤P.z+(g.size:Int) → ∀ j:Nat,j < nxW P.rd (b.word+1).toNat→(g.e b.stamp.toNat j &&& P.rd.getD j 0)=0:=fun h j hj=>by
  by_cases e:(j:Int) < b.word+1
  ·exact (h3 h).2 j e
  ·rw [nx_zero (k:=(b.word+1).toNat) (by omega) (by omega) hj]; simp
 unfold wordOn
 by_cases e:nxW P.rd (b.word+1).toNat < 8
 ·rw [if_pos e]
  exact ⟨hz,hs,hl,Or.inr (Or.inr (Or.inr (Or.inl ⟨rfl,h1,h2,hla,fun h=>⟨(h3 h).1,fun j hj=>hall h j (by simp only at hj; omega)⟩⟩)))⟩
 ·rw [if_neg e]
  refine sf_on hz hs hl h1 h2 hle (fun h t t1 t2 hc => ?_)
  simp only at t2
  by_cases et:(t:Int) < b.stamp
  ·exact (h3 h).1 t t1 et hc
  ·obtain rfl:t=b.stamp.toNat:=by omega
   obtain ⟨j,hj,hc⟩:=hc
   exact hc (hall h j (by omega))
theorem sf_step {f:Ad→Int} {g:Vw} {P:Cp} {b:Ck} {n:Nat} (h:Sf g P b) (hk:KOk P b n) (ht : ¬ thr b) (hv:VI f g) :
  Sf g P (stepK P b (f (adK P b)))∧((stepK P b (f (adK P b))).err=3 → ∃ t:Nat,P.z < (t:Int)∧t≤g.n∧Clash g P.rd t)∧((stepK P b (f (adK P b))).err=4→P.z+(g.size:Int) < (g.n:Int))∧(waitK b (f (adK P b))=true→g.d≠g.n):=by
 have hs1:=hv.s1
 have hda:=hv.dn
 have hsz:sizeOk (P.s:Int)=true:=by rw [h.sz]; exact sizeOk_iff.mpr ⟨by omega,by have:=hv.s16; omega⟩
 have hzz:=h.z
 have hp0:=hk.p.z0
 have hlt:=hv.lt
 rcases h.c with e | e | ⟨e,h1,h2,h3⟩ | ⟨e,h1,h2,h3,h4⟩ | ⟨e,h1,h2,h3⟩ | ⟨e,_⟩
 ·have hb:=kok_zero hk e
  have ha:adK P b=⟨1,0,0⟩:=by unfold adK; rw [if_neg (by omega),if_neg (by omega)]
  rw [ha,hv.nw]
  have hS:stepK P b (g.n:Int)=seeK P (ckNew P) (g.n:Int):=by unfold stepK; rw [if_pos e,hb]
  rw [hS]
  refine ⟨?_, ?_, ?_,fun hw=>by unfold waitK at hw; simp [e] at hw⟩
  all_goals unfold seeK
  ·split
   ·next hc =>
    refine ⟨hzz,h.sz,h.last,Or.inr (Or.inr (Or.inr (Or.inr (Or.inr ⟨rfl,Int.le_refl _,Int.le_refl _,hzz,fun t t1 t2 hcl => ?_⟩))))⟩
    obtain ⟨j,hj,hcl⟩:=hcl
    rcases hc with hc | hc
    ·rw [hc] at hcl
     have:Sg.nought.getD j 0=0:=by
      rcases j with _ | _ | _ | _ | _ | _ | _ | _ | j
      all_goals first
       | rfl
       | omega
     rw [this] at hcl
     simp at hcl
    ·simp only at t2; omega
   ·next hc =>
    split
    ·exact ⟨hzz,h.sz,h.last,Or.inr (Or.inl rfl)⟩
    ·unfold onV
     rw [if_neg (by simp [ckNew]),if_neg (by simp [ckNew]),if_pos (show (ckNew P).st=0 from rfl)]
     exact sf_on hzz h.sz h.last (Int.le_refl _) hzz (by simp only [ckNew]; omega) (fun _ t t1 t2=>by simp only [ckNew] at t2; omega)
  ·split
   ·intro hc; simp [ckNew] at hc
   ·split
    ·intro hc; simp [failV] at hc
    ·intro hc; rw [onV_err] at hc; simp [ckNew] at hc
  ·split
   ·intro hc; simp [ckNew] at hc
   ·split
    ·next hf=>intro _; unfold farV at hf; simp at hf; rw [h.sz] at hf; omega
    ·intro hc; rw [onV_err] at hc; simp [ckNew] at hc
 ·exact absurd (Or.inr e) ht
 ·have km:=(kok_mid hk (Or.inl e)).1
  have kl:=km.lo
  have kh:=km.hi
  have kc:=km.c2
  have ha:adK P b=⟨2,b.stamp % (g.size:Int),0⟩:=by unfold adK slotV; rw [if_pos e,if_pos hsz,h.sz]
  rw [ha]
  have hh:=hv.head b.stamp (by omega) (by omega)
  generalize f ⟨2,b.stamp % (g.size:Int),0⟩=v at *
  have hS:stepK P b v=lookK P b v:=by unfold stepK; rw [if_neg (by omega),if_pos e]
  rw [hS]
  have hla:laidV v b.stamp=true ↔ v / 2=b.stamp:=by unfold laidV; simp
  have hov:overV v b.stamp=true ↔ (v / 2 > b.stamp∨v / 2=b.stamp∧v % 2=1):=by
   unfold overV laidV
   simp
   omega
  rcases hh with ⟨a1,a2,a3,a4⟩ | ⟨a1,a2⟩ | ⟨a1,a2⟩
  ·have hL:laidV v b.stamp=true:=hla.mpr a3
   have hK:lookK P b v=wordOn P ⟨b.st,b.seen,b.stamp,-1,compV b v,b.err⟩:=by unfold lookK onV; rw [if_pos hL]; simp only; rw [if_pos e]
   rw [hK]
   have hcv:compV b v≤(g.d:Int):=by
    unfold compV
    split
    ·next hc =>
     have:=hov.mp hc.1
     have h5:v % 2=1:=by omega
     exact a4.mp h5
    ·exact h2
   refine ⟨sf_word hzz h.sz h.last ⟨by simp,by simp⟩ (by simp only; omega) h1 hcv kh a1 (fun hl=>⟨h3 hl,fun j hj=>by simp only at hj; omega⟩),fun hc => ?_,fun hc => ?_,fun hw => ?_⟩
   ·rw [wordOn_err] at hc; simp only at hc; rw [km.e] at hc; omega
   ·rw [wordOn_err] at hc; simp only at hc; rw [km.e] at hc; omega
   ·unfold waitK at hw; rw [hL] at hw; simp at hw
  ·have hL : ¬ laidV v b.stamp=true:=fun hc=>by have:=hla.mp hc; omega
   have hO:overV v b.stamp=true:=hov.mpr (Or.inl a2)
   have hK:lookK P b v=failV b 4:=by unfold lookK; rw [if_neg hL,if_pos hO]
   rw [hK]
   refine ⟨⟨hzz,h.sz,h.last,Or.inr (Or.inl rfl)⟩,fun hc=>by simp [failV] at hc,fun _=>by omega,fun hw => ?_⟩
   unfold waitK at hw; rw [hO] at hw; simp at hw
  ·have hL : ¬ laidV v b.stamp=true:=fun hc=>by have:=hla.mp hc; omega
   have hO : ¬ overV v b.stamp=true:=fun hc=>by have:=hov.mp hc; omega
   have hK:lookK P b v=b:=by unfold lookK; rw [if_neg hL,if_neg hO]
   rw [hK]
   exact ⟨h,fun hc=>by rw [km.e] at hc; omega,fun hc=>by rw [km.e] at hc; omega,fun _ hd=>by omega⟩
 ·obtain ⟨km,hwd⟩:=kok_mid hk (Or.inr (Or.inl e))
  obtain ⟨w1,w2⟩:=hwd e
  have kl:=km.lo
  have kh:=km.hi
  obtain ⟨j,hj⟩ : ∃ j:Nat,b.word=(j:Int):=⟨b.word.toNat,by omega⟩
  have ha:adK P b=⟨3,b.stamp % (g.size:Int),(j:Int)⟩:=by unfold adK slotV; rw [if_neg (by omega),if_pos e,if_pos hsz,h.sz,hj]
  obtain ⟨u,u1,u2,u3,u4⟩:=hv.word b.stamp (by omega) (by omega) h3 j (by omega)
  rw [ha,u4]
  have hS:stepK P b (wrap64 ((g.e u j:Nat):Int))=holdK P b (wrap64 ((g.e u j:Nat):Int)):=by unfold stepK; rw [if_neg (by omega),if_neg (by omega),if_pos e]
  rw [hS]
  have hH:hitV P.rd b.word.toNat (wrap64 ((g.e u j:Nat):Int))=((g.e u j &&& P.rd.getD j 0) != 0):=by rw [hj,Int.toNat_natCast]; exact hit_is (hlt u j)
  have hwt : ∀ v,¬ waitK b v=true:=fun v hw=>by unfold waitK at hw; simp [e] at hw
  by_cases hc:(g.e u j &&& P.rd.getD j 0)=0
  ·have hK:holdK P b (wrap64 ((g.e u j:Nat):Int))=wordOn P b:=by
    unfold holdK onV
    rw [hH,hc,if_neg (by decide),if_neg (by omega),if_pos e]
   rw [hK]
   refine ⟨sf_word hzz h.sz h.last ⟨by omega,by omega⟩ (by omega) h1 h2 kh h3 (fun hl=>⟨(h4 hl).1,fun q hq => ?_⟩),fun hx => ?_,fun hx => ?_,fun hw=>absurd hw (hwt _)⟩
   ·by_cases eq:(q:Int) < b.word
    ·exact (h4 hl).2 q eq
    ·obtain rfl:q=j:=by omega
     have:(u:Int)=b.stamp:=u3 (by omega)
     rw [show b.stamp.toNat=u by omega]
     exact hc
   ·rw [wordOn_err,km.e] at hx; omega
   ·rw [wordOn_err,km.e] at hx; omega
  ·have hK:holdK P b (wrap64 ((g.e u j:Nat):Int))=failV b 3:=by
    unfold holdK
    rw [hH,if_pos (bne_iff_ne.2 hc)]
   rw [hK]
   exact ⟨⟨hzz,h.sz,h.last,Or.inr (Or.inl rfl)⟩,fun _=>⟨u,by omega,by omega,j,by omega,hc⟩,fun hx=>by simp [failV] at hx,fun hw=>absurd hw (hwt _)⟩
 ·have km:=(kok_mid hk (Or.inr (Or.inr e))).1
  have kc:=km.c1
  have ha:adK P b=⟨1,0,0⟩:=by unfold adK; rw [if_neg (by omega),if_neg (by omega)]
  rw [ha,hv.nw]
  have hS:stepK P b (g.n:Int)=againK P b (g.n:Int):=by unfold stepK; rw [if_neg (by omega),if_neg (by omega),if_neg (by omega),if_pos e]
  rw [hS]
  by_cases hf:farV P (g.n:Int)=true
  ·have hK:againK P b (g.n:Int)=failV b 4:=by unfold againK; rw [if_pos hf]
   rw [hK]
   exact ⟨⟨hzz,h.sz,h.last,Or.inr (Or.inl rfl)⟩,fun hx=>by simp [failV] at hx,fun _=>by unfold farV at hf; simp at hf; rw [h.sz] at hf; omega,fun hw=>by unfold waitK at hw; simp [e] at hw⟩
  ·have hK:againK P b (g.n:Int)=⟨4,b.seen,b.stamp,b.word,b.comp,b.err⟩:=by
    unfold againK onV
    rw [if_neg hf,if_neg (by omega),if_neg (by omega),if_neg (by omega)]
   rw [hK]
   have hn:(g.n:Int)≤P.z+(g.size:Int):=by
    unfold farV at hf
    rw [h.sz] at hf
    simp only [Bool.and_eq_true,decide_eq_true_eq,not_and] at hf
    omega
   exact ⟨⟨hzz,h.sz,h.last,Or.inr (Or.inr (Or.inr (Or.inr (Or.inr ⟨rfl,h1,kc,h2,h3 hn⟩))))⟩,fun hx=>by simp only at hx; rw [km.e] at hx; omega,fun hx=>by simp only at hx; rw [km.e] at hx; omega,fun hw=>by unfold waitK at hw; simp [e] at hw⟩
 ·exact absurd (Or.inl e) ht
end Go.Proofs.YtdkpgdkjohjcaaaGreat.Fe
