/- A step keeps what is so of a transaction at all times. -/
import Derived.Test.YtigfjedohdgjfaaGreatDoorJTxATxO
import Derived.Test.YtigfjedohdgjfaaGreatDoorWlV
import Derived.Test.YtigfjedohdgjfaaGreatDoorJCqJCmM
import Derived.Test.YtigfjedohdgjfaaGreatDoorJWlRWlU
namespace Go.Proofs.YtigfjedohdgjfaaGreatDoor
open Go.RowKit (wrap64)
theorem onV_cs (P:Fe.Cp) (b:Fe.Ck):(Fe.onV P b).comp=b.comp∧(Fe.onV P b).seen=b.seen:=by
 have h1 : ∀ b:Fe.Ck,(Fe.stampOn P b).comp=b.comp∧(Fe.stampOn P b).seen=b.seen:=fun b=>by
  unfold Fe.stampOn
  split
  ·exact ⟨rfl,rfl⟩
  ·split <;> exact ⟨rfl,rfl⟩
 have h2 : ∀ b:Fe.Ck,(Fe.wordOn P b).comp=b.comp∧(Fe.wordOn P b).seen=b.seen:=fun b=>by
  unfold Fe.wordOn
  split
  ·exact ⟨rfl,rfl⟩
  ·exact h1 _
 unfold Fe.onV
 split
 ·exact h2 _
 ·split
  ·exact h2 _
  ·split
   ·exact h1 _
   ·exact ⟨rfl,rfl⟩
theorem stepK_cs (P:Fe.Cp) (b:Fe.Ck) (v:Int):((Fe.stepK P b v).comp=b.comp∨(b.st=1∧(Fe.stepK P b v).comp=b.stamp))∧((b.st=0∧(Fe.stepK P b v).seen=v)∨(b.st≠0∧(Fe.stepK P b v).seen=b.seen)):=by
 unfold Fe.stepK
 split
 ·next e =>
  unfold Fe.seeK
  split
  ·exact ⟨Or.inl rfl,Or.inl ⟨e,rfl⟩⟩
  ·split
   ·exact ⟨Or.inl rfl,Or.inl ⟨e,rfl⟩⟩
   ·have:=onV_cs P ⟨b.st,v,b.stamp,b.word,b.comp,b.err⟩
    exact ⟨Or.inl this.1,Or.inl ⟨e,this.2⟩⟩
 ·next e =>
  split
  ·next e1 =>
   unfold Fe.lookK
   split
   ·have:=onV_cs P ⟨b.st,b.seen,b.stamp,b.word,Fe.compV b v,b.err⟩
    refine ⟨?_,Or.inr ⟨e,this.2⟩⟩
    rw [this.1]
    unfold Fe.compV
    simp only
    split
    ·exact Or.inr ⟨e1,rfl⟩
    ·exact Or.inl rfl
   ·split
    ·exact ⟨Or.inl rfl,Or.inr ⟨e,rfl⟩⟩
    ·exact ⟨Or.inl rfl,Or.inr ⟨e,rfl⟩⟩
  ·split
   ·unfold Fe.holdK
    split
    ·exact ⟨Or.inl rfl,Or.inr ⟨e,rfl⟩⟩
    ·exact ⟨Or.inl (onV_cs P b).1,Or.inr ⟨e,(onV_cs P b).2⟩⟩
   ·split
    ·unfold Fe.againK
     split
     ·exact ⟨Or.inl rfl,Or.inr ⟨e,rfl⟩⟩
     ·exact ⟨Or.inl (onV_cs P b).1,Or.inr ⟨e,(onV_cs P b).2⟩⟩
    ·exact ⟨Or.inl rfl,Or.inr ⟨e,rfl⟩⟩
theorem stepK_bd {P:Fe.Cp} {b:Fe.Ck} {n:Nat} {v:Int} (h:Fe.KOk P b n) (ht : ¬ Fe.thr b) (hv:W64 v):0≤(Fe.stepK P b v).comp∧(Fe.stepK P b v).comp≤9223372036854775807∧W64 (Fe.stepK P b v).seen:=by
 obtain ⟨h1,h2⟩:=stepK_cs P b v
 have z0:=h.p.z0
 have z1:=h.p.z1
 unfold Fe.thr at ht
 unfold W64 at hv ⊢
 rcases h.c with ⟨rfl,_⟩ | ⟨e,k,_⟩ | ⟨e,k,_⟩ | ⟨e,k,_⟩ | ⟨e,_⟩ | ⟨e,_⟩
 ·simp only [Fe.ckNew] at h1 h2 ⊢
  omega
 ·have:=k.lo; have:=k.hi; have:=k.w; have:=k.c1; have:=k.c2; omega
 ·have:=k.lo; have:=k.hi; have:=k.w; have:=k.c1; have:=k.c2; omega
 ·have:=k.lo; have:=k.hi; have:=k.w; have:=k.c1; have:=k.c2; omega
 ·omega
 ·omega
theorem stepV_bd {s:Nat} {b:Bg} {v:Int} (h:BOk s b) (hv:W64 v) (h2:(stepV s b v).st=2) (hn:b.st≠2):0≤(stepV s b v).stamp∧(stepV s b v).stamp≤9223372036854775807∧W64 (stepV s b v).seen:=by
 have h':=bok_step h hv
 have hle:(stepV s b v).stamp≤9223372036854775807:=by
  unfold W64 at hv
  unfold stepV
  split
  ·unfold seeV
   split
   ·simp
   ·simp only; omega
  ·split
   ·next e1 =>
    rcases h.c with ⟨c,_⟩ | ⟨_,c1,c2,c3,c4⟩ | ⟨c,_⟩
    ·omega
    ·unfold W64 at c4
     unfold lookV
     split
     ·simp only; omega
     ·split <;> (simp only; omega)
    ·omega
   ·rcases h.c with ⟨c,_⟩ | ⟨c,_⟩ | ⟨c,_⟩ <;> omega
 rcases h'.c with ⟨c,_⟩ | ⟨c,_⟩ | ⟨_,c1,_,c3⟩
 ·omega
 ·omega
 ·exact ⟨c1,hle,c3⟩
theorem fe_go {r:Nat} {P:Fe.Cp} {b:Fe.Ck} {L:List Ac} (hg:Fe.goesK r P b=true):(Fe.thr (Fe.nextK r P b L) ↔ Fe.ansKK r P b L=3∨Fe.ansKK r P b L=4)∧(Fe.ansKK r P b L=3→(Fe.nextK r P b L).st=4)∧Fe.ansKK r P b L≠0:=by
 unfold Fe.ansKK Fe.nextK
 rw [if_pos hg,if_pos hg]
 have ht:=(Fe.goesK_iff.mp hg).1
 unfold Fe.kindK
 by_cases hw:Fe.waitK b (wordOf L (Fe.adK P b))=true
 ·rw [if_pos hw]
  have hs:Fe.stepK P b (wordOf L (Fe.adK P b))=b:=by
   have h':=hw
   unfold Fe.waitK at h'
   simp only [Bool.and_eq_true, Bool.not_eq_true', decide_eq_true_eq] at h'
   unfold Fe.stepK Fe.lookK
   rw [if_neg (by omega),if_pos h'.1.1,h'.1.2,h'.2]
   simp
  rw [hs]
  exact ⟨⟨fun e=>absurd e ht,fun e=>by omega⟩,fun e=>by omega,by omega⟩
 ·rw [if_neg hw]
  unfold Fe.kindV Fe.thr
  split
  ·next e=>exact ⟨by simp [e],fun _=>e,by omega⟩
  ·next e =>
   split
   ·next e2=>exact ⟨by simp [e2],fun e=>by omega,by omega⟩
   ·next e2=>exact ⟨by simp [e,e2],fun e=>by omega,by omega⟩
theorem cu_end {r:Nat} {P:Co.Cp} {b:Co.Ck} {u:Co.Cu} {L:List Ac} (h0:u.st≠3) (h:(Co.nextU r P b u L).st=3):Co.ansZ r P b u L=3∨Co.ansZ r P b u L=4:=by
 unfold Co.nextU at h
 unfold Co.ansZ
 split at h
 ·next hg =>
  rw [if_pos hg]
  split at h
  ·next e0 =>
   rw [if_pos e0]
   unfold Co.holdU at h
   unfold Co.holdA
   split at h
   ·next k4=>rw [if_neg (by omega)]; exact Or.inr k4
   ·split at h
    ·next k3 =>
     rw [if_pos k3]
     unfold Co.heldU at h
     unfold Co.heldK
     split at h
     ·next hs=>rw [if_pos hs]; exact Or.inr rfl
     ·split at h <;> simp at h
    ·omega
  ·next e0 =>
   rw [if_neg e0]
   split at h
   ·next e1 =>
    unfold Co.lookU at h
    split at h
    ·simp at h
    ·omega
   ·next e1 =>
    rw [if_neg e1]
    unfold Co.swapU at h
    split at h
    ·next hs=>rw [if_pos hs]; exact Or.inl rfl
    ·simp at h
 ·omega
theorem bk_end {c r:Nat} {P:Ba.Bp} {b:Ba.Bk} {L:List Ac} (hk:Ba.BkOk P b) (h0:b.nx≠0) (h:(Ba.nextBk c r P b L).nx=0):Ba.ansBk c r P b L=3:=by
 have hx:=hk.nx
 unfold Ba.nextBk at h
 unfold Ba.ansBk
 split at h
 ·next hg =>
  rw [if_pos hg]
  by_cases hw:Ba.waitB P b (wordOf L (Ba.adB P b))=true
  ·rw [step_wait hw] at h; omega
  ·rw [if_neg hw]
   rw [step_run (by simpa using hw)] at h
   by_cases e8:b.nx=8
   ·rw [if_pos e8]
   ·exfalso
    split at h
    ·simp only at h; split at h <;> omega
    ·split at h
     ·split at h
      ·have:=goB_wr P b; omega
      ·have:=lookAt_wr P b (P.st - 1); omega
     ·split at h
      ·split at h
       ·unfold Ba.overB at h
        have:=goB_wr P ⟨b.nx,b.wd,b.old,b.old == P.st - 1,b.wr⟩; omega
       ·have:=toWord_wr P ⟨b.nx,0,b.old,b.kn,b.wr⟩; omega
      ·split at h
       ·split at h
        ·simp at h
        ·have:=toWord_wr P ⟨b.nx,b.wd+1,b.old,b.kn,b.wr⟩; omega
       ·split at h
        ·unfold Ba.overB at h
         have:=goB_wr P ⟨b.nx,b.wd,b.old,b.old == P.st - 1,b.wr⟩; omega
        ·split at h
         ·have:=goB_wr P ⟨b.nx,b.wd,b.old,b.kn,b.wr+1⟩; omega
         ·split at h
          ·have:=goB_wr P ⟨b.nx,b.wd,b.old,true,b.wr⟩; omega
          ·omega
 ·omega
theorem valB_w {P:Ba.Bp} {b:Ba.Bk} (h:Ba.BkOk P b):W64 (Ba.valB P b):=by
 have h1:=h.p.st1
 have h2:=h.p.st2
 unfold Ba.valB
 split
 ·unfold W64 wrap64; omega
 ·split
  ·next e =>
   have hl:=h.wr6 e
   refine (h.p.cell _ ?_).2.2
   rw [List.getD_eq_getElem?_getD,List.getElem?_eq_getElem hl]; exact List.getElem_mem _
  ·split
   ·unfold W64; omega
   ·unfold W64; omega
theorem toW_ok {x:Tx} (hx:XOk x) : ∀ y ∈ toW x.tb.R,0≤y.c∧y.c < 1024∧W64 y.v:=fun y hy=>by
 unfold toW at hy
 obtain ⟨z,hz,rfl⟩:=List.mem_map.1 hy
 obtain ⟨i,hi,e⟩:=List.getElem_of_mem hz
 have:=hx.inv.right i hi
 rw [e] at this
 exact ⟨this.1,this.2,hx.val z hz⟩
theorem wy_keep {x:Tx} (h:XOk x) {y:Wy} (hp:({ x with wy:=y }:Tx).phase=x.phase) (hy:wyOk { x with wy:=y }):XOk { x with wy:=y } :=
 ⟨h.s1,h.s16,h.n1,h.n2,h.inv,h.val,h.rd,h.z0,h.z1,h.seen,fun e=>h.non (by rw [hp] at e; exact e),fun a b=>h.liv (by rw [hp] at a; exact a) (by rw [hp] at b; exact b),fun e=>h.ne (by rw [hp] at e; exact e),hy⟩
theorem xok_step {c r:Nat} {x:Tx} {L:List Ac} {t:Int} (h:XOk x) (hd:Wd L):XOk (stepX c r x L t).x∧Wd (stepX c r x L t).L∧(stepX c r x L t).L.length≤L.length+1∧(stepX c r x L t).x.ev.length≤x.ev.length+1:=by
 have hw:=h.wy
 unfold wyOk at hw
 have fin : ∀ (a:Ms),a=stepM c r x L t→Wd a.L→a.L.length≤L.length+1→(a.k=3→XOk (finX x a.v a.wy).1)→(a.k≠3→a.k≠4→XOk { x with wy:=a.wy })→XOk (stepX c r x L t).x∧Wd (stepX c r x L t).L∧(stepX c r x L t).L.length≤L.length+1∧(stepX c r x L t).x.ev.length≤x.ev.length+1:=fun a ha w1 w2 k3 k0=>by
  unfold stepX
  rw [← ha]
  unfold goOn
  split
  ·exact ⟨xok_fin h _,w1,w2,by simp [Tx.finis,Tx.reset,Tx.tell]⟩
  ·next e4 =>
   split
   ·next e3 =>
    have hl:(finX x a.v a.wy).1.ev.length≤x.ev.length+1:=by
     unfold finX
     split <;> simp [Tx.live,Tx.tell,Tx.reset]
    split
    ·exact ⟨k3 e3,w1,w2,hl⟩
    ·exact ⟨k3 e3,w1,w2,hl⟩
   ·next e3=>exact ⟨k0 e3 e4,w1,w2,by simp⟩
 cases hy:x.wy with
 | no =>
  rw [hy] at hw
  have e:stepM c r x L t=⟨.no,L,0,0,0,false⟩:=by unfold stepM; rw [hy]
  refine fin _ e.symm hd (by simp) (fun e3=>by simp at e3) (fun _ _ => ?_)
  exact wy_keep h (by unfold Tx.phase; rw [hy]) trivial
 | bg b =>
  rw [hy] at hw
  obtain ⟨h1,h2⟩:=hw
  have e:stepM c r x L t=⟨.bg (Be.nextB r x.s b L),Be.nextL c r x.s b L t,Be.ansK r x.s b L,0,0,Be.goesB r x.s b⟩:=by unfold stepM; rw [hy]
  refine fin _ e.symm ?_ ?_ (fun e3 => ?_) (fun e3 _ => ?_)
  ·simp only; unfold Be.nextL; split
   ·exact hd.load
   ·exact hd
  ·simp only; unfold Be.nextL; split
   ·unfold loadL; split <;> simp
   ·simp
  ·simp only at e3 ⊢
   unfold Be.ansK at e3
   unfold Be.nextB
   split at e3
   ·next hg =>
    rw [if_pos hg]
    split at e3
    ·next h4 =>
     obtain ⟨a1,a2,a3⟩:=stepV_bd h1 (hd _) h4 h2
     exact xok_tell (xok_live h a1 a2 a3) _
    ·simp at e3
   ·simp at e3
  ·simp only at e3 ⊢
   refine wy_keep h (by unfold Tx.phase; rw [hy]) ?_
   unfold Be.ansK at e3
   unfold Be.nextB
   split at e3
   ·next hg =>
    rw [if_pos hg]
    split at e3
    ·simp at e3
    ·next h4=>exact ⟨bok_step h1 (hd _),h4⟩
   ·next hg =>
    rw [if_neg hg]
    exact ⟨h1,h2⟩
 | rd P b =>
  rw [hy] at hw
  obtain ⟨w1,w2,w3,w4,⟨n,w5⟩,w6,w7,w8,w9⟩:=hw
  have e:stepM c r x L t=⟨.rd (Fe.nextFP c r P L) (Fe.nextFB c r P b L),Fe.nextFL c r P b L t,Fe.ansF c r P b L,Fe.errF c r P b L,Fe.valF c r P b L,Fe.accF c r P b⟩:=by unfold stepM; rw [hy]
  refine fin _ e.symm ?_ ?_ (fun e3 => ?_) (fun e3 e4 => ?_)
  ·simp only; unfold Fe.nextFL Fe.nextKL
   split
   ·split
    ·split
     ·exact hd.load
     ·exact hd
    ·exact hd.load
   ·exact hd
  ·simp only; unfold Fe.nextFL Fe.nextKL loadL
   split
   ·split
    ·split
     ·split <;> simp
     ·simp
    ·split <;> simp
   ·simp
  ·simp only at e3 ⊢
   unfold Fe.ansF at e3
   split at e3
   ·next hg =>
    split at e3
    ·next hr =>
     have hgo:Fe.goesK r P b=true:=by
      unfold Fe.ansKK at e3
      split at e3
      ·next h=>exact h
      ·simp at e3
     have hb:Fe.nextFB c r P b L=Fe.stepK P b (wordOf L (Fe.adK P b)):=by unfold Fe.nextFB Fe.nextK; rw [if_pos hg,if_pos hr,if_pos hgo]
     obtain ⟨a1,a2,a3⟩:=stepK_bd w5 w6 (hd (Fe.adK P b))
     rw [hb]
     exact xok_tell (xok_live h a1 a2 a3) _
    ·simp at e3
   ·simp at e3
  ·simp only at e3 e4 ⊢
   refine wy_keep h (by unfold Tx.phase; rw [hy]) ?_
   unfold Fe.ansF at e3 e4
   by_cases hg:Fe.goesF c r P=true
   ·rw [if_pos hg] at e3 e4
    by_cases hr:P.read=true
    ·rw [if_pos hr] at e3 e4
     have hP:Fe.nextFP c r P L=P:=by unfold Fe.nextFP; rw [if_pos hg,if_pos hr]
     have hB:Fe.nextFB c r P b L=Fe.nextK r P b L:=by unfold Fe.nextFB; rw [if_pos hg,if_pos hr]
     rw [hP,hB]
     refine ⟨w1,w2,w3,w4, ?_, ?_,w7,w8,fun e=>by rw [hr] at e; simp at e⟩
     ·unfold Fe.nextK
      split
      ·exact ⟨_,Fe.kok_step w5 (hd _) w6⟩
      ·exact ⟨n,w5⟩
     ·intro ht
      by_cases hgo:Fe.goesK r P b=true
      ·rcases ((fe_go hgo).1).mp ht with h3 | h3
       ·exact e3 h3
       ·exact e4 h3
      ·unfold Fe.nextK at ht; rw [if_neg hgo] at ht; exact w6 ht
    ·have hP:Fe.nextFP c r P L=Fe.lookP P (wordOf L (Fe.cellA P)):=by unfold Fe.nextFP; rw [if_pos hg,if_neg hr]
     have hB:Fe.nextFB c r P b L=b:=by unfold Fe.nextFB; rw [if_pos hg,if_neg hr]
     rw [hP,hB]
     exact ⟨w1,w2,w3,w4,⟨n,Fe.kok_look w5 _⟩,w6,w7,w8,fun e=>by simp [Fe.lookP] at e⟩
   ·have hP:Fe.nextFP c r P L=P:=by unfold Fe.nextFP; rw [if_neg hg]
    have hB:Fe.nextFB c r P b L=b:=by unfold Fe.nextFB; rw [if_neg hg]
    rw [hP,hB]
    exact ⟨w1,w2,w3,w4,⟨n,w5⟩,w6,w7,w8,w9⟩
 | cm P b u =>
  rw [hy] at hw
  obtain ⟨w1,w2,w3,w4,w5,w6,w7⟩:=hw
  have e:stepM c r x L t=⟨.cm P (Co.nextCB r P b u L) (Co.nextU r P b u L),Co.nextCL c r P b u L t,Co.ansZ r P b u L,Co.errZ r P b u L,Co.valZ r P u L,Co.goesC r P u⟩:=by unfold stepM; rw [hy]
  have hph:x.phase=4:=by unfold Tx.phase; rw [hy]
  refine fin _ e.symm (Co.gd_nextC w4 hd) (Co.nextCL_len c r P b u L t) (fun e3 => ?_) (fun e3 e4 => ?_)
  ·obtain ⟨a1,a2⟩:=cm_done w4 e3
   have hbp:Ba.BpOk (backP x (Co.nextU r P b u L).stamp):=⟨h.s1,h.s16,a1,a2,by show (toW x.tb.R).length≤24; rw [toW_len]; have:=h.inv.len; have:=h.inv.m24; omega,toW_ok h,rfl⟩
   exact xok_tell (x:={ x with wy:=.wr (backP x (Co.nextU r P b u L).stamp) (Ba.bkNew (backP x (Co.nextU r P b u L).stamp) x.mu) }) ⟨h.s1,h.s16,h.n1,h.n2,h.inv,h.val,h.rd,h.z0,h.z1,h.seen,fun e=>by simp [Tx.phase] at e,fun _ _=>h.liv (by omega) (by omega),fun _=>h.ne (Or.inl hph),rfl,rfl,Ba.bk_new hbp _,by simp [Ba.bkNew]⟩ _
  ·simp only at e3 e4 ⊢
   refine wy_keep h (by unfold Tx.phase; rw [hy]) ⟨w1,w2,w3,Co.cok_next w4 (fun _ _=>hd _),fun e => ?_,w6,w7⟩
   rcases cu_end w5 e with h3 | h3
   ·exact e3 h3
   ·exact e4 h3
 | wr P b =>
  rw [hy] at hw
  obtain ⟨w1,w2,w3,w4⟩:=hw
  have e:stepM c r x L t=⟨.wr P (Ba.nextBk c r P b L),Ba.nextBL c r P b L t,Ba.ansBk c r P b L,0,0,Ba.goesB c r P b⟩:=by unfold stepM; rw [hy]
  refine fin _ e.symm ?_ Ba.nextBL_len (fun e3 => ?_) (fun e3 e4 => ?_)
  ·simp only; unfold Ba.nextBL Ba.accL
   split
   ·split
    ·exact hd.load
    ·exact wd_store hd (valB_w w3)
   ·exact hd
  ·exact xok_reset (xok_tell h _)
  ·simp only at e3 ⊢
   exact wy_keep h (by unfold Tx.phase; rw [hy]) ⟨w1,w2,Ba.bk_next w3 c r L,fun e=>e3 (bk_end w3 w4 e)⟩
end Go.Proofs.YtigfjedohdgjfaaGreatDoor
namespace Go.Proofs.YtigfjedohdgjfaaGreatDoor
open Go.ChangeShapes Go.WideShapes Go.ChangeAt Go.RowKit
attribute [local go_sem ↓] Go.wp_at_zero Go.wp_at_succ
set_option linter.unusedVariables false
theorem put_same {s:Tl.Tb} {c v:Int} (h:Tl.writeE s c=5):Tl.put s c v=s:=by
 have h2:Tl.putE s c=2:=by
  unfold Tl.writeE at h
  split at h
  ·next e=>exact e
  ·unfold Tl.putE at h
   split at h
   ·split at h
    ·simp at h
    ·split at h <;> simp at h
   ·simp at h
 unfold Tl.putE at h2
 unfold Tl.put
 split at h2
 ·next hr =>
  rw [if_pos hr]
  split at h2
  ·simp at h2
  ·next e =>
   split at h2
   ·next hm=>rw [if_pos hm]
   ·simp at h2
 ·simp at h2
theorem xok_put {x:Tx} (h:XOk x) (hp:x.phase=2) {c v:Int} (hv:W64 v):XOk { x with tb:=Tl.put x.tb c v }:=by
 have hw:x.wy = .no:=by
  unfold Tx.phase at hp
  cases e:x.wy with
  | no=>rfl
  | _=>rw [e] at hp; simp at hp
 have hph:({ x with tb:=Tl.put x.tb c v }:Tx).phase=2:=hp
 exact ⟨h.s1,h.s16,h.n1,h.n2,Tl.put_inv h.inv c v,put_val h.val hv,h.rd,h.z0,h.z1,h.seen,fun e=>by rw [hph] at e; omega,fun _ _=>h.liv (by omega) (by omega),fun e=>by rw [hph] at e; omega,by unfold wyOk; rw [show ({ x with tb:=Tl.put x.tb c v }:Tx).wy = .no from hw]; trivial⟩
set_option maxRecDepth 100000 in
theorem do_no {w:World} {base:Nat} {p:Value} {c r:Nat} {L:List Ac} {F:List Nat} {T:Nat} {x:Tx} {G:List Nat} (h:TM w base p c r L F T x G) (a:Wa) (hn:takesX c r x a=false) (t:Int) :
  Calls Tryz.prog 42 #[.pointer (some ⟨T,0,none⟩),p,.int .i64 t,waV a] w fun e w' => e = .returned (anV 4 1 0 false)∧TM w' base p c r L F T x G∧Next (G++F) (G++F) w w':=by
 have HTK : Hid (∀ w', Below w.heap.size w w' → Calls Tryz.prog 55 #[.pointer (some ⟨T, 0, none⟩), p, waV a] w' fun e w'' => e = .returned (.bool false) ∧ Below w'.heap.size w' w'') := fun w' k => by rw [← hn]; exact takesT (h.below k) a
 have HQ0:Hid (TM w base p c r L F T x G):=h
 obtain ⟨M,rfl⟩:=h.mem.ptr
 have hlt:=h.lt
 have HLT:Hid (∀ q ∈ G++F,q < w.heap.size):=fun q hq=>(hlt q hq).2
 clear h hlt hn
 obtain ⟨kd,cl,va,co⟩:=a
 unfold waV anV at *
 obtain ⟨w0,hw0⟩ : ∃ w0,w0=(w.alloc (.cells #[.int .i64 kd,.int .i64 cl,.int .i64 va,.int .i64 co] 63)).alloc (.cells #[.int .i64 0,.int .i64 0,.int .i64 0,.bool false] 51):=⟨_,rfl⟩
 have HB0:Hid (Below w.heap.size w w0):=by rw [hw0]; exact below_then (below_a1 _ _) (below_a1 _ _)
 have HW0:Hid (w0.heap[w.heap.size]? = some (.cells #[.int .i64 kd,.int .i64 cl,.int .i64 va,.int .i64 co] 63 (0,0))):=by rw [hw0]; exact row_on (heap_alloc_new _ _) (below_a1 _ _)
 have HR0:Hid (w0.heap[w.heap.size+1]? = some (.cells #[.int .i64 0,.int .i64 0,.int .i64 0,.bool false] 51 (0,0))∧w.heap.size+1 ∉ G++F):=⟨by rw [hw0]; exact heap_alloc2_new w _ _,fun e=>by have:=HLT.out _ e; omega⟩
 go_enter Tryz.func42,Tryz.ntmps42
 go_wp2_with fail
 rw [← hw0]
 clear hw0
 refine (HTK.out _ HB0.out).mono ?_
 rintro e w1 ⟨rfl,hb1⟩
 have HB1:Hid (Below w.heap.size w w1):=below_then HB0.out hb1
 have HW1:Hid (w1.heap[w.heap.size]? = some (.cells #[.int .i64 kd,.int .i64 cl,.int .i64 va,.int .i64 co] 63 (0,0))):=row_on HW0.out hb1
 have HR1:Hid (w1.heap[w.heap.size+1]? = some (.cells #[.int .i64 0,.int .i64 0,.int .i64 0,.bool false] 51 (0,0))∧w.heap.size+1 ∉ G++F):=⟨row_on HR0.out.1 hb1,HR0.out.2⟩
 have k0:w1.cell? ⟨w.heap.size,0,none⟩=some (.int .i64 kd):=by rw [cell_at HW1.out]; rfl
 have k1:w1.cell? ⟨w.heap.size,1,none⟩=some (.int .i64 cl):=by rw [cell_at HW1.out]; rfl
 have k2:w1.cell? ⟨w.heap.size,2,none⟩=some (.int .i64 va):=by rw [cell_at HW1.out]; rfl
 have k3:w1.cell? ⟨w.heap.size,3,none⟩=some (.int .i64 co):=by rw [cell_at HW1.out]; rfl
 have hW1:=heap_lt HW1.out
 clear hb1
 obtain ⟨⟨a0,a1,a2,a3⟩,g0,g1,g2,g3⟩:=ans_cells HR1.out.1
 have hBa:=heap_lt HR1.out.1
 go_wp2
 have qf:=(HQ0.out.below HB1.out).other (Co.keepWB (w:=w1) (B:=w.heap.size+1) 4 1 0 false) (fun q hq e=>HR1.out.2 (by simp only [List.mem_singleton] at e; rw [← e]; exact hq))
 exact ret_ans rfl rfl (Co.ansW_set rfl HR1.out.1 4 1 0 false) rfl rfl ⟨rfl,qf,nx_other (Next.of_below HB1.out _) (Nat.le_succ _) (Co.keepWB (w:=w1) (B:=w.heap.size+1) 4 1 0 false)⟩
set_option maxRecDepth 100000 in
theorem do_1 {w:World} {base:Nat} {p:Value} {c r:Nat} {L:List Ac} {F:List Nat} {T:Nat} {x:Tx} {G:List Nat} (h:TM w base p c r L F T x G) (a:Wa) (hn:takesX c r x a=true) (hk:a.kind=1) (t:Int) {x':Tx} {L':List Ac} {kk ee vv:Int} {gg:Bool}
  (HIN : ∀ w', Below w.heap.size w w' → Calls Tryz.prog 56 #[.pointer (some ⟨T, 0, none⟩), p, .int .i64 t] w' fun e w'' => e = .returned (anV kk ee vv gg) ∧ ∃ F' G', TM w'' base p c r L' F' T x' G' ∧ Next (G ++ F) (G' ++ F') w' w'') :
  Calls Tryz.prog 42 #[.pointer (some ⟨T, 0, none⟩), p, .int .i64 t, waV a] w fun e w' => e = .returned (anV kk ee vv gg) ∧ ∃ F' G', TM w' base p c r L' F' T x' G' ∧ Next (G ++ F) (G' ++ F') w w' := by
 have HTK : Hid (∀ w', Below w.heap.size w w' → Calls Tryz.prog 55 #[.pointer (some ⟨T, 0, none⟩), p, waV a] w' fun e w'' => e = .returned (.bool true) ∧ Below w'.heap.size w' w'') := fun w' k => by rw [← hn]; exact takesT (h.below k) a
 obtain ⟨M,rfl⟩:=h.mem.ptr
 have hlt:=h.lt
 have HLT:Hid (∀ q ∈ G++F,q < w.heap.size):=fun q hq=>(hlt q hq).2
 clear h hlt hn
 obtain ⟨kd,cl,va,co⟩:=a
 unfold waV anV at *
 simp only at hk
 subst hk
 obtain ⟨w0,hw0⟩ : ∃ w0,w0=(w.alloc (.cells #[.int .i64 1,.int .i64 cl,.int .i64 va,.int .i64 co] 63)).alloc (.cells #[.int .i64 0,.int .i64 0,.int .i64 0,.bool false] 51):=⟨_,rfl⟩
 have HB0:Hid (Below w.heap.size w w0):=by rw [hw0]; exact below_then (below_a1 _ _) (below_a1 _ _)
 have HW0:Hid (w0.heap[w.heap.size]? = some (.cells #[.int .i64 1,.int .i64 cl,.int .i64 va,.int .i64 co] 63 (0,0))):=by rw [hw0]; exact row_on (heap_alloc_new _ _) (below_a1 _ _)
 have HR0:Hid (w0.heap[w.heap.size+1]? = some (.cells #[.int .i64 0,.int .i64 0,.int .i64 0,.bool false] 51 (0,0))∧w.heap.size+1 ∉ G++F):=⟨by rw [hw0]; exact heap_alloc2_new w _ _,fun e=>by have:=HLT.out _ e; omega⟩
 go_enter Tryz.func42,Tryz.ntmps42
 go_wp2_with fail
 rw [← hw0]
 clear hw0
 refine (HTK.out _ HB0.out).mono ?_
 rintro e w1 ⟨rfl,hb1⟩
 have HB1:Hid (Below w.heap.size w w1):=below_then HB0.out hb1
 have HW1:Hid (w1.heap[w.heap.size]? = some (.cells #[.int .i64 1,.int .i64 cl,.int .i64 va,.int .i64 co] 63 (0,0))):=row_on HW0.out hb1
 have HR1:Hid (w1.heap[w.heap.size+1]? = some (.cells #[.int .i64 0,.int .i64 0,.int .i64 0,.bool false] 51 (0,0))∧w.heap.size+1 ∉ G++F):=⟨row_on HR0.out.1 hb1,HR0.out.2⟩
 have k0:w1.cell? ⟨w.heap.size,0,none⟩=some (.int .i64 1):=by rw [cell_at HW1.out]; rfl
 have k1:w1.cell? ⟨w.heap.size,1,none⟩=some (.int .i64 cl):=by rw [cell_at HW1.out]; rfl
 have k2:w1.cell? ⟨w.heap.size,2,none⟩=some (.int .i64 va):=by rw [cell_at HW1.out]; rfl
 have k3:w1.cell? ⟨w.heap.size,3,none⟩=some (.int .i64 co):=by rw [cell_at HW1.out]; rfl
 have hW1:=heap_lt HW1.out
 clear hb1
 go_wp2_with fail
 refine (HIN _ HB1.out).mono ?_
 rintro e w2 ⟨rfl,F2,G2,q2,n2⟩
 have HQ2:Hid (TM w2 base (.pointer (some ⟨M,0,none⟩)) c r L' F2 T x' G2):=q2
 have HR2:Hid (w2.heap[w.heap.size+1]? = some (.cells #[.int .i64 0,.int .i64 0,.int .i64 0,.bool false] 51 (0,0))∧w.heap.size+1 ∉ G2++F2):=row_next0 HR1.out.1 HR1.out.2 n2
 have HN2:Hid (Next (G++F) (G2++F2) w w2):=(Next.of_below HB1.out _).trans n2
 clear q2 n2 k0 k1 k2 k3
 obtain ⟨⟨a0,a1,a2,a3⟩,g0,g1,g2,g3⟩:=ans_cells HR2.out.1
 have hBa:=heap_lt HR2.out.1
 go_wp2
 have qf:=HQ2.out.other (Co.keepWB (w:=w2) (B:=w.heap.size+1) kk ee vv gg) (fun q hq e=>HR2.out.2 (by simp only [List.mem_singleton] at e; rw [← e]; exact hq))
 exact ret_ans rfl rfl (Co.ansW_set rfl HR2.out.1 kk ee vv gg) rfl rfl ⟨rfl,F2,G2,qf,nx_other HN2.out (Nat.le_succ _) (Co.keepWB (w:=w2) (B:=w.heap.size+1) kk ee vv gg)⟩
set_option maxRecDepth 100000 in
theorem do_2 {w:World} {base:Nat} {p:Value} {c r:Nat} {L:List Ac} {F:List Nat} {T:Nat} {x:Tx} {G:List Nat} (h:TM w base p c r L F T x G) (a:Wa) (hn:takesX c r x a=true) (hk:a.kind=2) (t:Int) {x':Tx} {L':List Ac} {kk ee vv:Int} {gg:Bool}
  (HIN : ∀ w', Below w.heap.size w w' → Calls Tryz.prog 57 #[.pointer (some ⟨T, 0, none⟩), p, .int .i64 t, .int .i64 a.cell] w' fun e w'' => e = .returned (anV kk ee vv gg) ∧ ∃ F' G', TM w'' base p c r L' F' T x' G' ∧ Next (G ++ F) (G' ++ F') w' w'') :
  Calls Tryz.prog 42 #[.pointer (some ⟨T, 0, none⟩), p, .int .i64 t, waV a] w fun e w' => e = .returned (anV kk ee vv gg) ∧ ∃ F' G', TM w' base p c r L' F' T x' G' ∧ Next (G ++ F) (G' ++ F') w w' := by
 have HTK : Hid (∀ w', Below w.heap.size w w' → Calls Tryz.prog 55 #[.pointer (some ⟨T, 0, none⟩), p, waV a] w' fun e w'' => e = .returned (.bool true) ∧ Below w'.heap.size w' w'') := fun w' k => by rw [← hn]; exact takesT (h.below k) a
 obtain ⟨M,rfl⟩:=h.mem.ptr
 have hlt:=h.lt
 have HLT:Hid (∀ q ∈ G++F,q < w.heap.size):=fun q hq=>(hlt q hq).2
 clear h hlt hn
 obtain ⟨kd,cl,va,co⟩:=a
 unfold waV anV at *
 simp only at hk
 subst hk
 obtain ⟨w0,hw0⟩ : ∃ w0,w0=(w.alloc (.cells #[.int .i64 2,.int .i64 cl,.int .i64 va,.int .i64 co] 63)).alloc (.cells #[.int .i64 0,.int .i64 0,.int .i64 0,.bool false] 51):=⟨_,rfl⟩
 have HB0:Hid (Below w.heap.size w w0):=by rw [hw0]; exact below_then (below_a1 _ _) (below_a1 _ _)
 have HW0:Hid (w0.heap[w.heap.size]? = some (.cells #[.int .i64 2,.int .i64 cl,.int .i64 va,.int .i64 co] 63 (0,0))):=by rw [hw0]; exact row_on (heap_alloc_new _ _) (below_a1 _ _)
 have HR0:Hid (w0.heap[w.heap.size+1]? = some (.cells #[.int .i64 0,.int .i64 0,.int .i64 0,.bool false] 51 (0,0))∧w.heap.size+1 ∉ G++F):=⟨by rw [hw0]; exact heap_alloc2_new w _ _,fun e=>by have:=HLT.out _ e; omega⟩
 go_enter Tryz.func42,Tryz.ntmps42
 go_wp2_with fail
 rw [← hw0]
 clear hw0
 refine (HTK.out _ HB0.out).mono ?_
 rintro e w1 ⟨rfl,hb1⟩
 have HB1:Hid (Below w.heap.size w w1):=below_then HB0.out hb1
 have HW1:Hid (w1.heap[w.heap.size]? = some (.cells #[.int .i64 2,.int .i64 cl,.int .i64 va,.int .i64 co] 63 (0,0))):=row_on HW0.out hb1
 have HR1:Hid (w1.heap[w.heap.size+1]? = some (.cells #[.int .i64 0,.int .i64 0,.int .i64 0,.bool false] 51 (0,0))∧w.heap.size+1 ∉ G++F):=⟨row_on HR0.out.1 hb1,HR0.out.2⟩
 have k0:w1.cell? ⟨w.heap.size,0,none⟩=some (.int .i64 2):=by rw [cell_at HW1.out]; rfl
 have k1:w1.cell? ⟨w.heap.size,1,none⟩=some (.int .i64 cl):=by rw [cell_at HW1.out]; rfl
 have k2:w1.cell? ⟨w.heap.size,2,none⟩=some (.int .i64 va):=by rw [cell_at HW1.out]; rfl
 have k3:w1.cell? ⟨w.heap.size,3,none⟩=some (.int .i64 co):=by rw [cell_at HW1.out]; rfl
 have hW1:=heap_lt HW1.out
 clear hb1
 go_wp2_with fail
 refine (HIN _ HB1.out).mono ?_
 rintro e w2 ⟨rfl,F2,G2,q2,n2⟩
 have HQ2:Hid (TM w2 base (.pointer (some ⟨M,0,none⟩)) c r L' F2 T x' G2):=q2
 have HR2:Hid (w2.heap[w.heap.size+1]? = some (.cells #[.int .i64 0,.int .i64 0,.int .i64 0,.bool false] 51 (0,0))∧w.heap.size+1 ∉ G2++F2):=row_next0 HR1.out.1 HR1.out.2 n2
 have HN2:Hid (Next (G++F) (G2++F2) w w2):=(Next.of_below HB1.out _).trans n2
 clear q2 n2 k0 k1 k2 k3
 obtain ⟨⟨a0,a1,a2,a3⟩,g0,g1,g2,g3⟩:=ans_cells HR2.out.1
 have hBa:=heap_lt HR2.out.1
 go_wp2
 have qf:=HQ2.out.other (Co.keepWB (w:=w2) (B:=w.heap.size+1) kk ee vv gg) (fun q hq e=>HR2.out.2 (by simp only [List.mem_singleton] at e; rw [← e]; exact hq))
 exact ret_ans rfl rfl (Co.ansW_set rfl HR2.out.1 kk ee vv gg) rfl rfl ⟨rfl,F2,G2,qf,nx_other HN2.out (Nat.le_succ _) (Co.keepWB (w:=w2) (B:=w.heap.size+1) kk ee vv gg)⟩
set_option maxRecDepth 100000 in
theorem do_3 {w:World} {base:Nat} {p:Value} {c r:Nat} {L:List Ac} {F:List Nat} {T:Nat} {x:Tx} {G:List Nat} (h:TM w base p c r L F T x G) (a:Wa) (hn:takesX c r x a=true) (hk:a.kind=3) (t:Int) {x':Tx} {L':List Ac} {kk ee vv:Int} {gg:Bool}
  (HIN : ∀ w', Below w.heap.size w w' → Calls Tryz.prog 58 #[.pointer (some ⟨T, 0, none⟩), .int .i64 a.cell, .int .i64 a.value] w' fun e w'' => e = .returned (anV kk ee vv gg) ∧ ∃ F' G', TM w'' base p c r L' F' T x' G' ∧ Next (G ++ F) (G' ++ F') w' w'') :
  Calls Tryz.prog 42 #[.pointer (some ⟨T, 0, none⟩), p, .int .i64 t, waV a] w fun e w' => e = .returned (anV kk ee vv gg) ∧ ∃ F' G', TM w' base p c r L' F' T x' G' ∧ Next (G ++ F) (G' ++ F') w w' := by
 have HTK : Hid (∀ w', Below w.heap.size w w' → Calls Tryz.prog 55 #[.pointer (some ⟨T, 0, none⟩), p, waV a] w' fun e w'' => e = .returned (.bool true) ∧ Below w'.heap.size w' w'') := fun w' k => by rw [← hn]; exact takesT (h.below k) a
 obtain ⟨M,rfl⟩:=h.mem.ptr
 have hlt:=h.lt
 have HLT:Hid (∀ q ∈ G++F,q < w.heap.size):=fun q hq=>(hlt q hq).2
 clear h hlt hn
 obtain ⟨kd,cl,va,co⟩:=a
 unfold waV anV at *
 simp only at hk
 subst hk
 obtain ⟨w0,hw0⟩ : ∃ w0,w0=(w.alloc (.cells #[.int .i64 3,.int .i64 cl,.int .i64 va,.int .i64 co] 63)).alloc (.cells #[.int .i64 0,.int .i64 0,.int .i64 0,.bool false] 51):=⟨_,rfl⟩
 have HB0:Hid (Below w.heap.size w w0):=by rw [hw0]; exact below_then (below_a1 _ _) (below_a1 _ _)
 have HW0:Hid (w0.heap[w.heap.size]? = some (.cells #[.int .i64 3,.int .i64 cl,.int .i64 va,.int .i64 co] 63 (0,0))):=by rw [hw0]; exact row_on (heap_alloc_new _ _) (below_a1 _ _)
 have HR0:Hid (w0.heap[w.heap.size+1]? = some (.cells #[.int .i64 0,.int .i64 0,.int .i64 0,.bool false] 51 (0,0))∧w.heap.size+1 ∉ G++F):=⟨by rw [hw0]; exact heap_alloc2_new w _ _,fun e=>by have:=HLT.out _ e; omega⟩
 go_enter Tryz.func42,Tryz.ntmps42
 go_wp2_with fail
 rw [← hw0]
 clear hw0
 refine (HTK.out _ HB0.out).mono ?_
 rintro e w1 ⟨rfl,hb1⟩
 have HB1:Hid (Below w.heap.size w w1):=below_then HB0.out hb1
 have HW1:Hid (w1.heap[w.heap.size]? = some (.cells #[.int .i64 3,.int .i64 cl,.int .i64 va,.int .i64 co] 63 (0,0))):=row_on HW0.out hb1
 have HR1:Hid (w1.heap[w.heap.size+1]? = some (.cells #[.int .i64 0,.int .i64 0,.int .i64 0,.bool false] 51 (0,0))∧w.heap.size+1 ∉ G++F):=⟨row_on HR0.out.1 hb1,HR0.out.2⟩
 have k0:w1.cell? ⟨w.heap.size,0,none⟩=some (.int .i64 3):=by rw [cell_at HW1.out]; rfl
 have k1:w1.cell? ⟨w.heap.size,1,none⟩=some (.int .i64 cl):=by rw [cell_at HW1.out]; rfl
 have k2:w1.cell? ⟨w.heap.size,2,none⟩=some (.int .i64 va):=by rw [cell_at HW1.out]; rfl
 have k3:w1.cell? ⟨w.heap.size,3,none⟩=some (.int .i64 co):=by rw [cell_at HW1.out]; rfl
 have hW1:=heap_lt HW1.out
 clear hb1
 go_wp2_with fail
 refine (HIN _ HB1.out).mono ?_
 rintro e w2 ⟨rfl,F2,G2,q2,n2⟩
 have HQ2:Hid (TM w2 base (.pointer (some ⟨M,0,none⟩)) c r L' F2 T x' G2):=q2
 have HR2:Hid (w2.heap[w.heap.size+1]? = some (.cells #[.int .i64 0,.int .i64 0,.int .i64 0,.bool false] 51 (0,0))∧w.heap.size+1 ∉ G2++F2):=row_next0 HR1.out.1 HR1.out.2 n2
 have HN2:Hid (Next (G++F) (G2++F2) w w2):=(Next.of_below HB1.out _).trans n2
 clear q2 n2 k0 k1 k2 k3
 obtain ⟨⟨a0,a1,a2,a3⟩,g0,g1,g2,g3⟩:=ans_cells HR2.out.1
 have hBa:=heap_lt HR2.out.1
 go_wp2
 have qf:=HQ2.out.other (Co.keepWB (w:=w2) (B:=w.heap.size+1) kk ee vv gg) (fun q hq e=>HR2.out.2 (by simp only [List.mem_singleton] at e; rw [← e]; exact hq))
 exact ret_ans rfl rfl (Co.ansW_set rfl HR2.out.1 kk ee vv gg) rfl rfl ⟨rfl,F2,G2,qf,nx_other HN2.out (Nat.le_succ _) (Co.keepWB (w:=w2) (B:=w.heap.size+1) kk ee vv gg)⟩
set_option maxRecDepth 100000 in
theorem do_4 {w:World} {base:Nat} {p:Value} {c r:Nat} {L:List Ac} {F:List Nat} {T:Nat} {x:Tx} {G:List Nat} (h:TM w base p c r L F T x G) (a:Wa) (hn:takesX c r x a=true) (hk:a.kind=4) (t:Int) {x':Tx} {L':List Ac} {kk ee vv:Int} {gg:Bool}
  (HIN : ∀ w', Below w.heap.size w w' → Calls Tryz.prog 59 #[.pointer (some ⟨T, 0, none⟩), p, .int .i64 t] w' fun e w'' => e = .returned (anV kk ee vv gg) ∧ ∃ F' G', TM w'' base p c r L' F' T x' G' ∧ Next (G ++ F) (G' ++ F') w' w'') :
  Calls Tryz.prog 42 #[.pointer (some ⟨T, 0, none⟩), p, .int .i64 t, waV a] w fun e w' => e = .returned (anV kk ee vv gg) ∧ ∃ F' G', TM w' base p c r L' F' T x' G' ∧ Next (G ++ F) (G' ++ F') w w' := by
 have HTK : Hid (∀ w', Below w.heap.size w w' → Calls Tryz.prog 55 #[.pointer (some ⟨T, 0, none⟩), p, waV a] w' fun e w'' => e = .returned (.bool true) ∧ Below w'.heap.size w' w'') := fun w' k => by rw [← hn]; exact takesT (h.below k) a
 obtain ⟨M,rfl⟩:=h.mem.ptr
 have hlt:=h.lt
 have HLT:Hid (∀ q ∈ G++F,q < w.heap.size):=fun q hq=>(hlt q hq).2
 clear h hlt hn
 obtain ⟨kd,cl,va,co⟩:=a
 unfold waV anV at *
 simp only at hk
 subst hk
 obtain ⟨w0,hw0⟩ : ∃ w0,w0=(w.alloc (.cells #[.int .i64 4,.int .i64 cl,.int .i64 va,.int .i64 co] 63)).alloc (.cells #[.int .i64 0,.int .i64 0,.int .i64 0,.bool false] 51):=⟨_,rfl⟩
 have HB0:Hid (Below w.heap.size w w0):=by rw [hw0]; exact below_then (below_a1 _ _) (below_a1 _ _)
 have HW0:Hid (w0.heap[w.heap.size]? = some (.cells #[.int .i64 4,.int .i64 cl,.int .i64 va,.int .i64 co] 63 (0,0))):=by rw [hw0]; exact row_on (heap_alloc_new _ _) (below_a1 _ _)
 have HR0:Hid (w0.heap[w.heap.size+1]? = some (.cells #[.int .i64 0,.int .i64 0,.int .i64 0,.bool false] 51 (0,0))∧w.heap.size+1 ∉ G++F):=⟨by rw [hw0]; exact heap_alloc2_new w _ _,fun e=>by have:=HLT.out _ e; omega⟩
 go_enter Tryz.func42,Tryz.ntmps42
 go_wp2_with fail
 rw [← hw0]
 clear hw0
 refine (HTK.out _ HB0.out).mono ?_
 rintro e w1 ⟨rfl,hb1⟩
 have HB1:Hid (Below w.heap.size w w1):=below_then HB0.out hb1
 have HW1:Hid (w1.heap[w.heap.size]? = some (.cells #[.int .i64 4,.int .i64 cl,.int .i64 va,.int .i64 co] 63 (0,0))):=row_on HW0.out hb1
 have HR1:Hid (w1.heap[w.heap.size+1]? = some (.cells #[.int .i64 0,.int .i64 0,.int .i64 0,.bool false] 51 (0,0))∧w.heap.size+1 ∉ G++F):=⟨row_on HR0.out.1 hb1,HR0.out.2⟩
 have k0:w1.cell? ⟨w.heap.size,0,none⟩=some (.int .i64 4):=by rw [cell_at HW1.out]; rfl
 have k1:w1.cell? ⟨w.heap.size,1,none⟩=some (.int .i64 cl):=by rw [cell_at HW1.out]; rfl
 have k2:w1.cell? ⟨w.heap.size,2,none⟩=some (.int .i64 va):=by rw [cell_at HW1.out]; rfl
 have k3:w1.cell? ⟨w.heap.size,3,none⟩=some (.int .i64 co):=by rw [cell_at HW1.out]; rfl
 have hW1:=heap_lt HW1.out
 clear hb1
 go_wp2_with fail
 refine (HIN _ HB1.out).mono ?_
 rintro e w2 ⟨rfl,F2,G2,q2,n2⟩
 have HQ2:Hid (TM w2 base (.pointer (some ⟨M,0,none⟩)) c r L' F2 T x' G2):=q2
 have HR2:Hid (w2.heap[w.heap.size+1]? = some (.cells #[.int .i64 0,.int .i64 0,.int .i64 0,.bool false] 51 (0,0))∧w.heap.size+1 ∉ G2++F2):=row_next0 HR1.out.1 HR1.out.2 n2
 have HN2:Hid (Next (G++F) (G2++F2) w w2):=(Next.of_below HB1.out _).trans n2
 clear q2 n2 k0 k1 k2 k3
 obtain ⟨⟨a0,a1,a2,a3⟩,g0,g1,g2,g3⟩:=ans_cells HR2.out.1
 have hBa:=heap_lt HR2.out.1
 go_wp2
 have qf:=HQ2.out.other (Co.keepWB (w:=w2) (B:=w.heap.size+1) kk ee vv gg) (fun q hq e=>HR2.out.2 (by simp only [List.mem_singleton] at e; rw [← e]; exact hq))
 exact ret_ans rfl rfl (Co.ansW_set rfl HR2.out.1 kk ee vv gg) rfl rfl ⟨rfl,F2,G2,qf,nx_other HN2.out (Nat.le_succ _) (Co.keepWB (w:=w2) (B:=w.heap.size+1) kk ee vv gg)⟩
set_option maxRecDepth 100000 in
theorem do_5 {w:World} {base:Nat} {p:Value} {c r:Nat} {L:List Ac} {F:List Nat} {T:Nat} {x:Tx} {G:List Nat} (h:TM w base p c r L F T x G) (a:Wa) (hn:takesX c r x a=true) (hk:a.kind≠1∧a.kind≠2∧a.kind≠3∧a.kind≠4) (t:Int) {x':Tx} {L':List Ac} {kk ee vv:Int} {gg:Bool}
  (HIN : ∀ w', Below w.heap.size w w' → Calls Tryz.prog 60 #[.pointer (some ⟨T, 0, none⟩), .int .i64 a.code] w' fun e w'' => e = .returned (anV kk ee vv gg) ∧ ∃ F' G', TM w'' base p c r L' F' T x' G' ∧ Next (G ++ F) (G' ++ F') w' w'') :
  Calls Tryz.prog 42 #[.pointer (some ⟨T, 0, none⟩), p, .int .i64 t, waV a] w fun e w' => e = .returned (anV kk ee vv gg) ∧ ∃ F' G', TM w' base p c r L' F' T x' G' ∧ Next (G ++ F) (G' ++ F') w w' := by
 have HTK : Hid (∀ w', Below w.heap.size w w' → Calls Tryz.prog 55 #[.pointer (some ⟨T, 0, none⟩), p, waV a] w' fun e w'' => e = .returned (.bool true) ∧ Below w'.heap.size w' w'') := fun w' k => by rw [← hn]; exact takesT (h.below k) a
 obtain ⟨M,rfl⟩:=h.mem.ptr
 have hlt:=h.lt
 have HLT:Hid (∀ q ∈ G++F,q < w.heap.size):=fun q hq=>(hlt q hq).2
 clear h hlt hn
 obtain ⟨kd,cl,va,co⟩:=a
 unfold waV anV at *
 simp only at hk
 have d1:(kd == 1)=false:=by simp; omega
 have d2:(kd == 2)=false:=by simp; omega
 have d3:(kd == 3)=false:=by simp; omega
 have d4:(kd == 4)=false:=by simp; omega
 obtain ⟨w0,hw0⟩ : ∃ w0,w0=(w.alloc (.cells #[.int .i64 kd,.int .i64 cl,.int .i64 va,.int .i64 co] 63)).alloc (.cells #[.int .i64 0,.int .i64 0,.int .i64 0,.bool false] 51):=⟨_,rfl⟩
 have HB0:Hid (Below w.heap.size w w0):=by rw [hw0]; exact below_then (below_a1 _ _) (below_a1 _ _)
 have HW0:Hid (w0.heap[w.heap.size]? = some (.cells #[.int .i64 kd,.int .i64 cl,.int .i64 va,.int .i64 co] 63 (0,0))):=by rw [hw0]; exact row_on (heap_alloc_new _ _) (below_a1 _ _)
 have HR0:Hid (w0.heap[w.heap.size+1]? = some (.cells #[.int .i64 0,.int .i64 0,.int .i64 0,.bool false] 51 (0,0))∧w.heap.size+1 ∉ G++F):=⟨by rw [hw0]; exact heap_alloc2_new w _ _,fun e=>by have:=HLT.out _ e; omega⟩
 go_enter Tryz.func42,Tryz.ntmps42
 go_wp2_with fail
 rw [← hw0]
 clear hw0
 refine (HTK.out _ HB0.out).mono ?_
 rintro e w1 ⟨rfl,hb1⟩
 have HB1:Hid (Below w.heap.size w w1):=below_then HB0.out hb1
 have HW1:Hid (w1.heap[w.heap.size]? = some (.cells #[.int .i64 kd,.int .i64 cl,.int .i64 va,.int .i64 co] 63 (0,0))):=row_on HW0.out hb1
 have HR1:Hid (w1.heap[w.heap.size+1]? = some (.cells #[.int .i64 0,.int .i64 0,.int .i64 0,.bool false] 51 (0,0))∧w.heap.size+1 ∉ G++F):=⟨row_on HR0.out.1 hb1,HR0.out.2⟩
 have k0:w1.cell? ⟨w.heap.size,0,none⟩=some (.int .i64 kd):=by rw [cell_at HW1.out]; rfl
 have k1:w1.cell? ⟨w.heap.size,1,none⟩=some (.int .i64 cl):=by rw [cell_at HW1.out]; rfl
 have k2:w1.cell? ⟨w.heap.size,2,none⟩=some (.int .i64 va):=by rw [cell_at HW1.out]; rfl
 have k3:w1.cell? ⟨w.heap.size,3,none⟩=some (.int .i64 co):=by rw [cell_at HW1.out]; rfl
 have hW1:=heap_lt HW1.out
 clear hb1
 go_wp2_with fail
 refine (HIN _ HB1.out).mono ?_
 rintro e w2 ⟨rfl,F2,G2,q2,n2⟩
 have HQ2:Hid (TM w2 base (.pointer (some ⟨M,0,none⟩)) c r L' F2 T x' G2):=q2
 have HR2:Hid (w2.heap[w.heap.size+1]? = some (.cells #[.int .i64 0,.int .i64 0,.int .i64 0,.bool false] 51 (0,0))∧w.heap.size+1 ∉ G2++F2):=row_next0 HR1.out.1 HR1.out.2 n2
 have HN2:Hid (Next (G++F) (G2++F2) w w2):=(Next.of_below HB1.out _).trans n2
 clear q2 n2 k0 k1 k2 k3
 obtain ⟨⟨a0,a1,a2,a3⟩,g0,g1,g2,g3⟩:=ans_cells HR2.out.1
 have hBa:=heap_lt HR2.out.1
 go_wp2
 have qf:=HQ2.out.other (Co.keepWB (w:=w2) (B:=w.heap.size+1) kk ee vv gg) (fun q hq e=>HR2.out.2 (by simp only [List.mem_singleton] at e; rw [← e]; exact hq))
 exact ret_ans rfl rfl (Co.ansW_set rfl HR2.out.1 kk ee vv gg) rfl rfl ⟨rfl,F2,G2,qf,nx_other HN2.out (Nat.le_succ _) (Co.keepWB (w:=w2) (B:=w.heap.size+1) kk ee vv gg)⟩
theorem takes_iff {c r:Nat} {x:Tx} {a:Wa} (h:takesX c r x a=true):r=x.s∧(a.kind=1→x.phase=0)∧(a.kind=2∨a.kind=3→x.phase=2∧0≤a.cell∧a.cell < (c:Int))∧(a.kind=4→x.phase=2)∧(a.kind≠1→a.kind≠2→a.kind≠3→a.kind≠4→a.kind=5∧x.phase=2∧(a.code=8∨a.code=7)):=by
 unfold takesX at h
 simp only [Bool.and_eq_true,decide_eq_true_eq] at h
 obtain ⟨h1,h2⟩:=h
 refine ⟨h1,fun e => ?_,fun e => ?_,fun e => ?_,fun e1 e2 e3 e4 => ?_⟩
 ·rw [if_pos e] at h2; simpa using h2
 ·rw [if_neg (by omega),if_pos e] at h2
  simp only [Bool.and_eq_true,decide_eq_true_eq] at h2
  exact ⟨h2.1.1,h2.1.2,h2.2⟩
 ·rw [if_neg (by omega),if_neg (by omega),if_pos e] at h2; simpa using h2
 ·rw [if_neg e1,if_neg (by omega),if_neg e4] at h2
  split at h2
  ·next e5 =>
   simp only [Bool.and_eq_true,Bool.or_eq_true,decide_eq_true_eq] at h2
   exact ⟨e5,h2⟩
  ·simp at h2
theorem do_any {w:World} {base:Nat} {p:Value} {c r:Nat} {L:List Ac} {F:List Nat} {T:Nat} {x:Tx} {G:List Nat} (h:TM w base p c r L F T x G) (hb:base≤w.heap.size) (hL:L.length < 3298534883328) (hE:x.ev.length+1 < 1073741824) (hx:XOk x) (hd:Wd L) (hc:c≤1024) (a:Wa) (t:Int) :
  Calls Tryz.prog 42 #[.pointer (some ⟨T, 0, none⟩), p, .int .i64 t, waV a] w fun e w' => e = .returned (anV (doX c r x L t a).k (doX c r x L t a).e (doX c r x L t a).v (doX c r x L t a).y) ∧ ∃ F' G', TM w' base p c r (doX c r x L t a).L F' T (doX c r x L t a).x G' ∧ Next (G ++ F) (G' ++ F') w w' := by
 unfold doX
 cases hn:takesX c r x a
 ·rw [if_neg (by decide)]
  refine (do_no h a hn t).mono ?_
  rintro e w' ⟨rfl,h1,h2⟩
  exact ⟨rfl,F,G,h1,h2⟩
 ·rw [if_pos rfl]
  obtain ⟨hr,t1,t2,t4,t5⟩:=takes_iff hn
  by_cases k1:a.kind=1
  ·rw [if_pos k1]
   exact do_1 h a hn k1 t (fun w' k=>open_any (h.below k) (Nat.le_trans hb k.size) hL hE hx.s1 hx.s16 (xok_open hx (t1 k1)) hd t)
  ·rw [if_neg k1]
   by_cases k2:a.kind=2
   ·rw [if_pos k2]
    obtain ⟨p2,c0,c1⟩:=t2 (Or.inl k2)
    cases hy:Tl.getY x.tb a.cell
    ·rw [if_neg (by decide)]
     exact do_2 h a hn k2 t (fun w' k=>readF_any (h.below k) (Nat.le_trans hb k.size) hL (by omega) hx.s1 hx.s16 hx.z0 hx.z1 hd c0 (by omega) (xok_read hx p2 c0 (by omega)) hy t)
    ·rw [if_pos rfl]
     refine do_2 h a hn k2 t (fun w' k=>(readO_any (h.below k) (Nat.le_trans hb k.size) (by omega) hy t).mono ?_)
     rintro e w'' ⟨rfl, G', h1, h2⟩
     exact ⟨rfl, F, G', h1, h2⟩
   ·rw [if_neg k2]
    by_cases k3:a.kind=3
    ·rw [if_pos k3]
     by_cases h5:Tl.writeE x.tb a.cell=5
     ·rw [if_pos h5]
      have hp:Tl.put x.tb a.cell a.value=x.tb:=put_same h5
      refine do_3 h a hn k3 t (fun w' k=>(wrote_any (h.below k) (Nat.le_trans hb k.size) (by omega) a.cell a.value).mono ?_)
      rintro e w'' ⟨rfl, G', h1, h2⟩
      rw [if_pos h5,hp] at h1
      rw [if_pos h5]
      exact ⟨rfl, F, G', h1, h2⟩
     ·rw [if_neg h5]
      refine do_3 h a hn k3 t (fun w' k=>(wrote_any (h.below k) (Nat.le_trans hb k.size) (by omega) a.cell a.value).mono ?_)
      rintro e w'' ⟨rfl, G', h1, h2⟩
      rw [if_neg h5] at h1
      rw [if_neg h5]
      exact ⟨rfl, F, G', h1, h2⟩
    ·rw [if_neg k3]
     by_cases k4:a.kind=4
     ·rw [if_pos k4]
      by_cases h0:x.tb.R.length=0
      ·rw [if_pos h0]
       refine do_4 h a hn k4 t (fun w' k=>(commN_any (h.below k) (Nat.le_trans hb k.size) (by omega) h0 t).mono ?_)
       rintro e w'' ⟨rfl, G', h1, h2⟩
       exact ⟨rfl, F, G', h1, h2⟩
      ·rw [if_neg h0]
       exact do_4 h a hn k4 t (fun w' k=>commF_any (h.below k) (Nat.le_trans hb k.size) hL (by omega) hx.s1 hx.s16 hx.z0 hx.z1 hd hx.n1 hx.n2 (xok_comm hx (t4 k4) h0) h0 t)
     ·rw [if_neg k4]
      refine do_5 h a hn ⟨k1,k2,k3,k4⟩ t (fun w' k=>(abort_any (h.below k) (Nat.le_trans hb k.size) (by omega) a.code).mono ?_)
      rintro e w'' ⟨rfl, G', h1, h2⟩
      exact ⟨rfl, F, G', h1, h2⟩
theorem xok_do {c r:Nat} {x:Tx} {L:List Ac} {t:Int} {a:Wa} (h:XOk x) (hd:Wd L) (hc:c≤1024) (hv:W64 a.value):XOk (doX c r x L t a).x∧Wd (doX c r x L t a).L∧(doX c r x L t a).L.length≤L.length+1∧(doX c r x L t a).x.ev.length≤x.ev.length+2:=by
 unfold doX
 cases hn:takesX c r x a
 ·rw [if_neg (by decide)]; exact ⟨h,hd,by simp,by simp⟩
 ·rw [if_pos rfl]
  obtain ⟨hr,t1,t2,t4,t5⟩:=takes_iff hn
  have fin : ∀ why,XOk (x.finis why)∧Wd L∧L.length≤L.length+1∧(x.finis why).ev.length≤x.ev.length+2:=fun why=>⟨xok_fin h _,hd,by omega,by simp [Tx.finis,Tx.reset,Tx.tell]⟩
  by_cases k1:a.kind=1
  ·rw [if_pos k1]
   obtain ⟨a1,a2,a3,a4⟩:=xok_step (c:=c) (r:=r) (t:=t) (xok_open h (t1 k1)) hd
   exact ⟨a1,a2,a3,by have e1:(openX x).ev.length=x.ev.length+1:=(by simp [openX]); omega⟩
  ·rw [if_neg k1]
   by_cases k2:a.kind=2
   ·rw [if_pos k2]
    obtain ⟨p2,c0,c1⟩:=t2 (Or.inl k2)
    cases hy:Tl.getY x.tb a.cell
    ·rw [if_neg (by decide)]
     obtain ⟨a1,a2,a3,a4⟩:=xok_step (c:=c) (r:=r) (t:=t) (xok_read h p2 c0 (by omega)) hd
     exact ⟨a1,a2,a3,by have e1:(readX x a.cell).ev.length=x.ev.length:=rfl; omega⟩
    ·rw [if_pos rfl]
     exact ⟨xok_tell h _,hd,by simp,by simp [Tx.tell]⟩
   ·rw [if_neg k2]
    by_cases k3:a.kind=3
    ·rw [if_pos k3]
     obtain ⟨p2,c0,c1⟩:=t2 (Or.inr k3)
     by_cases h5:Tl.writeE x.tb a.cell=5
     ·rw [if_pos h5]; exact fin 5
     ·rw [if_neg h5]
      refine ⟨xok_tell (x:={ x with tb:=Tl.put x.tb a.cell a.value }) (xok_put h p2 hv) _,hd,by simp,by simp [Tx.tell]⟩
    ·rw [if_neg k3]
     by_cases k4:a.kind=4
     ·rw [if_pos k4]
      by_cases h0:x.tb.R.length=0
      ·rw [if_pos h0]; exact fin 0
      ·rw [if_neg h0]
       obtain ⟨a1,a2,a3,a4⟩:=xok_step (c:=c) (r:=r) (t:=t) (xok_comm h (t4 k4) h0) hd
       exact ⟨a1,a2,a3,by have e1:(commX x).ev.length=x.ev.length:=rfl; omega⟩
     ·rw [if_neg k4]; exact fin a.code
end Go.Proofs.YtigfjedohdgjfaaGreatDoor
namespace Go.Proofs.YtigfjedohdgjfaaGreatDoor
open Go.ChangeShapes Go.WideShapes Go.ChangeAt Go.RowKit
attribute [local go_sem ↓] Go.wp_at_zero Go.wp_at_succ
def confT (raw s wr n:Int) (mu:Bool) (tr:Int) (v:Value):Value:=.agg #[.int .i64 raw,.int .i64 s,.int .i64 wr,.int .i64 n,.bool mu,.int .i64 tr,v]
set_option maxRecDepth 100000 in
theorem newT_yes (w:World) (base:Nat) (hb:base≤w.heap.size) (raw:Int) (s m:Nat) (n:Int) (mu:Bool) (tr:Int) (v:Value) (h1:1≤s) (h2:s≤16) (h3:1≤n) (h4:n≤1099511627776) (m1:1≤m) (m2:m≤24) :
  Calls Tryz.prog 34 #[confT raw (s:Int) (m:Int) n mu tr v] w fun e w' => ∃ T G,e = .returned (.tuple #[.pointer (some ⟨T,0,none⟩),.int .i64 0])∧TxAt w' base T (newX s n mu m) G∧(∀ q ∈ G,w.heap.size≤q)∧Below w.heap.size w w':=by
 have HLN : Hid (∀ w', Calls Tryz.prog 54 #[.int .i64 (m : Int)] w' fun e w'' => ∃ L B, e = .returned (.tuple #[.pointer (some ⟨L, 0, none⟩), .int .i64 0]) ∧ w'.heap.size ≤ L ∧ w'.heap.size ≤ B ∧ Tl.LogAt w'' L B (Tl.empty m) Sg.nought ∧ Below w'.heap.size w' w'') := fun w' => Tl.lnew_yes w' m m1 m2
 have d1:decide ((s:Int) < 1)=false:=by simp; omega
 have d2:decide ((16:Int) < (s:Int))=false:=by simp; omega
 have d3:decide (n < 1)=false:=by simp; omega
 have d4:decide ((1099511627776:Int) < n)=false:=by simp; omega
 clear h1 h2 h3 h4 m1 m2
 unfold confT
 go_enter Tryz.func34,Tryz.ntmps34
 go_wp2_with fail
 refine (HLN.out _).mono ?_
 rintro e w1 ⟨lg,tk,rfl,hl1,hl2,hl,hb1⟩
 have HB1:Hid (Below w.heap.size w w1):=below_then (below_a1 _ _) hb1
 have HC1:Hid (w1.heap[w.heap.size]? = some (.cells #[.int .i64 raw,.int .i64 (s:Int),.int .i64 (m:Int),.int .i64 n,.bool mu,.int .i64 tr,v] 32 (0,0))):=row_on (heap_alloc_new _ _) hb1
 have HL1:Hid (Tl.LogAt w1 lg tk (Tl.empty m) Sg.nought∧w.heap.size≤lg∧w.heap.size≤tk):=⟨hl,by simp at hl1; omega,by simp at hl2; omega⟩
 have y1:w1.cell? ⟨w.heap.size,1,none⟩=some (.int .i64 (s:Int)):=by rw [cell_at HC1.out]; rfl
 have y3:w1.cell? ⟨w.heap.size,3,none⟩=some (.int .i64 n):=by rw [cell_at HC1.out]; rfl
 have y4:w1.cell? ⟨w.heap.size,4,none⟩=some (.bool mu):=by rw [cell_at HC1.out]; rfl
 have hW:=heap_lt HC1.out
 clear hl1 hl2 hl hb1
 go_wp2
 have hs1:=HB1.out.size
 have HB3 : ∀ o1 o2,Below w1.heap.size w1 ((w1.alloc o1).alloc o2):=fun o1 o2=>below_then (below_a1 _ _) (below_a1 _ _)
 go_ret2
 refine ⟨w1.heap.size+1,_,rfl,⟨lg,tk,.slice none 0 0,.nilIface,[],tx_build (x:=newX s n mu m) (heap_alloc2_new w1 _ _) (HL1.out.1.below (HB3 _ _)) ⟨rfl,Or.inl ⟨rfl,rfl⟩⟩ ⟨rfl,rfl⟩ (by omega) (by have:=HL1.out.2.1; omega) (by have:=HL1.out.2.2; omega) List.nodup_nil (by simp) (by simp) (by simp) (fun _ _=>by simp)⟩,fun q hq => ?_,below_then HB1.out (HB3 _ _)⟩
 simp [Value.ownBlock] at hq
 have a1:=HL1.out.2.1
 have a2:=HL1.out.2.2
 omega
end Go.Proofs.YtigfjedohdgjfaaGreatDoor
