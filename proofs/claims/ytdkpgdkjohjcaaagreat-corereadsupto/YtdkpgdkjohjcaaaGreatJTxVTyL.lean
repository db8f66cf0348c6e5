/- A transaction in a ring: what is so of it while others go on. -/
import Derived.Test.YtdkpgdkjohjcaaaGreatJTxQFwM
import Derived.Test.YtdkpgdkjohjcaaaGreatJWlWWlX
import Derived.Test.YtdkpgdkjohjcaaaGreatJTxMTxH
import Derived.Test.YtdkpgdkjohjcaaaGreatJGroABkO
import Derived.RegionTactic
import Derived.BigRegion
import Derived.Test.YtdkpgdkjohjcaaaGreatJBkMBkJ
set_option maxHeartbeats 3200000
set_option maxRecDepth 100000
namespace Go.Proofs.YtdkpgdkjohjcaaaGreat
open Go.RowKit (wrap64)
structure Gr (g g':Rg):Prop where
 st:Stay g.vw g'.vw
 w : ∀ t,1≤t→t≤g.n→g'.w t=g.w t
 v : ∀ c u,u≤g.n→g'.val c u=g.val c u
theorem gr_set (g:Rg) (t:Nat) (b:Ba.Bk) (h:3≤(g.bk t).nx→3≤b.nx):Gr g (g.set t b):=⟨stay_set g t b h,fun _ _ _=>rfl,fun _ _ _=>rfl⟩
theorem gr_don (g:Rg):Gr g g.don:=⟨stay_don g,fun _ _ _=>rfl,fun _ _ _=>rfl⟩
theorem gr_pub (g:Rg) (W:List Wt):Gr g (g.pub W):=⟨stay_pub g W,fun _ h1 h2=>pub_w g W h1 h2,fun c _ h=>pub_val g W c h⟩
theorem Gr.n {g g':Rg} (h:Gr g g'):g.n≤g'.n:=h.st.1
theorem Gr.d {g g':Rg} (h:Gr g g'):g.d≤g'.d:=h.st.2.2.1
theorem Gr.writ {g g':Rg} (h:Gr g g') {t:Nat} {c:Int} (h1:1≤t) (h2:t≤g.n):Writ g' t c ↔ Writ g t c:=by unfold Writ; rw [h.w t h1 h2]
theorem Gr.sg {g g':Rg} (h:Gr g g') {t:Nat} (h1:1≤t) (h2:t≤g.n):g'.sg t=g.sg t:=by unfold Rg.sg; rw [h.w t h1 h2]
def Cln (g:Rg) (rd:List Nat) (z u:Int):Prop:=∀ t:Nat,z < (t:Int)→(t:Int)≤u → ¬ Fe.Clash g.vw rd t
theorem cln_grow {g g':Rg} (h:Gr g g') {rd:List Nat} {z u:Int} (hz:0≤z) (hu:u≤(g.n:Int)) (hc:Cln g rd z u):Cln g' rd z u:=fun t t1 t2 ⟨j,hj,e⟩=>hc t t1 t2 ⟨j,hj,by
  have hs:=h.sg (t:=t) (by omega) (by omega)
  simp only [Rg.vw] at e ⊢
  rw [hs] at e; exact e⟩
theorem cln_writ {g:Rg} {rd:List Nat} {z u:Int} (hc:Cln g rd z u) {c:Int} (hb:Sg.bit rd (Sg.sigN c)=true) {t:Nat} (t1:z < (t:Int)) (t2:(t:Int)≤u) : ¬ Writ g t c:=fun ⟨x,hx,e⟩=>hc t t1 t2 (by
  have:=bit_sg hx
  rw [e] at this
  obtain ⟨j,hj,hh⟩:=bits_meet (Sg.sigN_lt c) this hb
  exact ⟨j,hj,hh⟩)
def RdOk (g:Rg) (x:Tx) (R:List (Int × Int)):Prop:=∀ q ∈ R,Sg.bit x.rd (Sg.sigN q.1)=true∧q.2=g.val q.1 x.z.toNat
structure LI (g:Rg) (x:Tx):Prop where
 z:x.z≤(g.d:Int)
 zs:x.z≤x.seen
 sn:x.seen≤(g.n:Int)
 cl:Cln g x.rd x.z x.seen
structure FI (g:Rg) (P:Fe.Cp) (b:Fe.Ck):Prop where
 sf:Fe.Sf g.vw P b
 bit:Sg.bit P.rd (Sg.sigN P.cell)=true
 lk:P.read=true → ∃ m:Nat,P.z≤(m:Int)∧m≤g.n∧(b.st=0∨(m:Int)≤b.seen)∧((∀ t:Nat,P.z < (t:Int)→t≤m → ¬ Writ g t P.cell)→P.val=g.val P.cell P.z.toNat)
def TI (c:Nat) (g:Rg) (x:Tx) (R:List (Int × Int)):Prop:=(∀ y ∈ x.tb.R,y.c < (c:Int))∧match x.wy with
 | .no=>x.begun=true→LI g x∧RdOk g x R
 | .bg b=>Sn g.vw b
 | .rd P b=>P.cell < (c:Int)∧FI g P b∧RdOk g x R
 | .cm P b u=>Co.Sc g.vw P b u∧u.stamp=0∧x.z≤(g.d:Int)∧RdOk g x R
 | .wr _ _=>True
theorem rd_grow {g g':Rg} (h:Gr g g') {x:Tx} {R:List (Int × Int)} (hz0:0≤x.z) (hz:x.z≤(g.n:Int)) (hr:RdOk g x R):RdOk g' x R:=fun q hq=>by
 obtain ⟨a1,a2⟩:=hr q hq
 exact ⟨a1,by rw [h.v _ _ (by omega)]; exact a2⟩
theorem ti_grow {f:Ad→Int} {c:Nat} {g g':Rg} {x:Tx} {R:List (Int × Int)} (hf:RI f g) (h:Gr g g') (hx:XOk x) (ht:TI c g x R):TI c g' x R:=by
 have hn:=h.n
 have hd:=h.d
 have hdn:=hf.dn
 have hw:=hx.wy
 unfold wyOk at hw
 unfold TI at ht ⊢
 refine ⟨ht.1, ?_⟩
 have ht2:=ht.2
 cases hy:x.wy with
 | no =>
  rw [hy] at ht2
  intro hb
  obtain ⟨l,r⟩:=ht2 hb
  have:=l.z
  have:=l.sn
  exact ⟨⟨by omega,l.zs,by omega,cln_grow h hx.z0 l.sn l.cl⟩,rd_grow h hx.z0 (by omega) r⟩
 | bg b =>
  rw [hy] at ht2
  exact sn_stay ht2 h.st
 | rd P b =>
  rw [hy] at ht2 hw
  obtain ⟨w1,w2,w3,w4,⟨n,w5⟩,w6,w7,w8,w9⟩:=hw
  obtain ⟨l0,l,r⟩:=ht2
  have hz:=l.sf.z
  simp only [Rg.vw] at hz
  have hz0:=w5.p.z0
  refine ⟨l0,⟨Fe.sf_stay l.sf w5 h.st,l.bit,fun e => ?_⟩,rd_grow h hx.z0 (by omega) r⟩
  obtain ⟨m,m1,m2,m3,m4⟩:=l.lk e
  refine ⟨m,m1,by omega,m3,fun hno => ?_⟩
  rw [h.v _ _ (by omega)]
  exact m4 (fun t t1 t2 hw' => hno t t1 t2 ((h.writ (by omega) (by omega)).mpr hw'))
 | cm P b u =>
  rw [hy] at ht2 hw
  obtain ⟨l,l0,l1,r⟩:=ht2
  exact ⟨Co.sc_stay l hw.2.2.2.1 h.st,l0,by omega,rd_grow h hx.z0 (by omega) r⟩
 | wr P b=>trivial
set_option linter.unusedVariables false
theorem loadL_len {c r:Nat} {L:List Ac} {t:Int} {a:Ad} (h:isAd c r a=true):(loadL c r L t a).length=L.length+1:=by unfold loadL; rw [if_pos h]; simp
theorem st_bg {c:Nat} {g:Rg} {x:Tx} {L:List Ac} {t:Int} {R:List (Int × Int)} {b:Bg} (hf:RI (wordOf L) g) (hs:x.s=g.s) (hx:XOk x) (hd:Wd L) (ht:TI c g x R) (hy:x.wy = .bg b) :
  wordOf (stepX c g.s x L t).L=wordOf L∧(stepX c g.s x L t).L.length=L.length+1∧(stepX c g.s x L t).y=true ∧
  (((stepX c g.s x L t).k=2∧(stepX c g.s x L t).x.ev=x.ev∧(stepX c g.s x L t).x.phase=1∧TI c g (stepX c g.s x L t).x R) ∨
     ((stepX c g.s x L t).k=3∧(stepX c g.s x L t).x.ev=x.ev ++ [{ kind:=1,start:=(stepX c g.s x L t).x.z,seen:=(stepX c g.s x L t).x.seen }] ∧ (stepX c g.s x L t).x.phase=2∧(stepX c g.s x L t).x.z≤(stepX c g.s x L t).x.seen∧(stepX c g.s x L t).x.seen≤(g.n:Int)∧TI c g (stepX c g.s x L t).x [])):=by
 have hw:=hx.wy
 unfold wyOk at hw
 rw [hy] at hw
 obtain ⟨h1,h2⟩:=hw
 have ht2:=ht.2
 rw [hy] at ht2
 have ht2:Sn g.vw b:=ht2
 have hgo:Be.goesB g.s x.s b=true:=by unfold Be.goesB; simp [hs,h2]
 have hn:=sn_step ht2 hf.vi h2
 have hsz:g.vw.size=x.s:=hs.symm
 rw [hsz] at hn
 obtain ⟨n1,n2,n3,n4,n5⟩:=hx.non (Or.inr (by unfold Tx.phase; rw [hy]))
 have hM:stepM c g.s x L t=⟨.bg (stepV x.s b (wordOf L (adV x.s b))),loadL c g.s L t (adV x.s b),if (stepV x.s b (wordOf L (adV x.s b))).st=2 then 3 else 2,0,0,true⟩:=by
  unfold stepM
  rw [hy]
  simp only [Be.nextB,Be.nextL,Be.ansK,hgo,if_true]
 unfold stepX
 rw [hM]
 unfold goOn
 have hle:(loadL c g.s L t (adV x.s b)).length=L.length+1:=loadL_len (by rw [← hs]; exact adV_is h1)
 have hwo:wordOf (loadL c g.s L t (adV x.s b))=wordOf L:=funext fun a=>by rw [wordOf_load]
 generalize hb':stepV x.s b (wordOf L (adV x.s b))=b' at *
 by_cases e:b'.st=2
 ·simp only [if_pos e,show ¬ ((3:Int)=4) by decide,if_false,if_true,finX]
  refine ⟨hwo,hle,trivial,Or.inr ⟨trivial,rfl,rfl, ?_, ?_,ht.1,fun _=>⟨?_,fun q hq=>by simp at hq⟩⟩⟩
  all_goals
   rcases hn.c with c1 | ⟨c1,c2,⟨c3,_⟩ | ⟨_,c4,c5,c6⟩⟩
   ·rw [c1] at e; simp [bgNew] at e
   ·omega
  ·exact c5
  ·exact c1
  ·refine ⟨c6,c5,c1,fun q q1 q2 hq => ?_⟩
   obtain ⟨j,hj,hc⟩:=hq
   have:(Tx.live x b'.stamp b'.seen).rd=Sg.nought:=n3
   have hz:Sg.nought.getD j 0=0:=Co.nought_getD j hj
   have hc':(g.vw.e q j &&& x.rd.getD j 0)≠0:=hc
   rw [n3,hz] at hc'
   simp at hc'
 ·simp only [if_neg e,show ¬ ((2:Int)=4) by decide,show ¬ ((2:Int)=3) by decide,if_false]
  exact ⟨hwo,hle,trivial,Or.inl ⟨trivial,trivial,rfl,ht.1,hn⟩⟩
structure RdS (c:Nat) (g:Rg) (x:Tx) (L:List Ac) (R:List (Int × Int)) (cell:Int) (o:Out):Prop where
 w:wordOf o.L=wordOf L
 len:o.L.length=L.length+1
 y:o.y=true
 c:(o.k=1∧o.x.ev=x.ev∧o.x.phase=3∧TI c g o.x R∧g.d≠g.n)∨(o.k=2∧o.x.ev=x.ev∧o.x.phase=3∧TI c g o.x R) ∨
  (o.k=3∧o.x.ev=x.ev ++ [{ kind:=2,cell:=cell,value:=o.v,start:=o.x.z,seen:=o.x.seen }] ∧ o.x.phase=2∧TI c g o.x (R ++ [(cell,o.v)]) ∧ ∀ q ∈ R ++ [(cell,o.v)],q.2=g.val q.1 o.x.seen.toNat) ∨
  (o.k=4∧o.x=x.finis o.e∧((o.e=3 ∧ ∃ t:Nat,x.z < (t:Int)∧t≤g.n∧Fe.Clash g.vw x.rd t)∨(o.e=4∧x.z+(g.s:Int) < (g.n:Int))))
theorem ti_none {c:Nat} {g:Rg} {x:Tx} {R:List (Int × Int)} (why:Int):TI c g (x.finis why) R:=⟨fun y hy=>by simp [Tx.finis,Tx.reset,Tl.empty] at hy,fun hb=>by simp [Tx.finis,Tx.reset] at hb⟩
theorem sf_look {g:Vw} {P:Fe.Cp} {b:Fe.Ck} (h:Fe.Sf g P b) (v:Int):Fe.Sf g (Fe.lookP P v) b:=⟨h.z,h.sz,h.last,h.c⟩
theorem st_rd {c:Nat} {g:Rg} {x:Tx} {L:List Ac} {t:Int} {R:List (Int × Int)} {P:Fe.Cp} {b:Fe.Ck} (hf:RI (wordOf L) g) (hs:x.s=g.s) (hx:XOk x) (hd:Wd L) (ht:TI c g x R) (hy:x.wy = .rd P b):RdS c g x L R P.cell (stepX c g.s x L t):=by
 have hw:=hx.wy
 unfold wyOk at hw
 rw [hy] at hw
 obtain ⟨w1,w2,w3,w4,⟨n,w5⟩,w6,w7,w8,w9⟩:=hw
 have ht2:=ht.2
 rw [hy] at ht2
 obtain ⟨hc,fi,hr⟩:P.cell < (c:Int)∧FI g P b∧RdOk g x R:=ht2
 have hps:P.s=g.s:=w1.trans hs
 have hgf:Fe.goesF c g.s P=true:=by unfold Fe.goesF; simp [hps,hc]
 have hdn:=hf.dn
 have hz:=fi.sf.z
 have hz:P.z≤(g.d:Int):=hz
 have hz0:=w5.p.z0
 have hM:stepM c g.s x L t=⟨.rd (Fe.nextFP c g.s P L) (Fe.nextFB c g.s P b L),Fe.nextFL c g.s P b L t,Fe.ansF c g.s P b L,Fe.errF c g.s P b L,Fe.valF c g.s P b L,Fe.accF c g.s P b⟩:=by unfold stepM; rw [hy]
 unfold stepX
 rw [hM]
 by_cases er:P.read=true
 ·have hgk:Fe.goesK g.s P b=true:=Fe.goesK_iff.mpr ⟨w6,hps.symm⟩
  simp only [Fe.nextFP,Fe.nextFB,Fe.nextFL,Fe.ansF,Fe.errF,Fe.valF,Fe.accF,hgf,er,if_true,Fe.nextK,Fe.nextKL,Fe.ansKK,Fe.errKK,hgk]
  obtain ⟨s1,s2,s3,s4⟩:=Fe.sf_step fi.sf w5 w6 hf.vi
  have hcs:=stepK_cs P b (wordOf L (Fe.adK P b))
  have hok:=Fe.kok_step w5 (hd (Fe.adK P b)) w6
  have hle:(loadL c g.s L t (Fe.adK P b)).length=L.length+1:=loadL_len (by rw [← hps]; exact Fe.adK_is w5 w6)
  have hwo:wordOf (loadL c g.s L t (Fe.adK P b))=wordOf L:=funext fun a=>by rw [wordOf_load]
  obtain ⟨m,m1,m2,m3,m4⟩:=fi.lk er
  have hn0:b.st=0→wordOf L (Fe.adK P b)=(g.n:Int):=fun e=>by
   have ha:Fe.adK P b=⟨1,0,0⟩:=by unfold Fe.adK; rw [if_neg (by omega),if_neg (by omega)]
   rw [ha]; exact hf.nw
  generalize hv:wordOf L (Fe.adK P b)=v at *
  generalize hb':Fe.stepK P b v=b' at *
  have m3':b'.st=0∨(m:Int)≤b'.seen:=by
   rcases hcs.2 with ⟨a1,a2⟩ | ⟨a1,a2⟩
   ·right; rw [a2,hn0 a1]; omega
   ·right; rw [a2]
    rcases m3 with e | e
    ·exact absurd e a1
    ·exact e
  have fi' : FI g P b' := ⟨s1, fi.bit, fun _ => ⟨m, m1, m2, m3', m4⟩⟩
  have hti : TI c g { x with wy := .rd P b' } R := ⟨ht.1, hc, fi', hr⟩
  unfold goOn Fe.kindK Fe.errK
  by_cases hwt:Fe.waitK b v=true
  ·simp only [hwt,if_true,show ¬ ((1:Int)=4) by decide,show ¬ ((1:Int)=3) by decide,if_false]
   exact ⟨hwo,hle,rfl,Or.inl ⟨rfl,rfl,rfl,hti,s4 hwt⟩⟩
  ·simp only [hwt]
   rw [hb']
   unfold Fe.kindV
   by_cases e4:b'.st=4
   ·simp only [e4,if_true,Bool.false_eq_true,if_false,show ¬ ((3:Int)=4) by decide,finX]
    have hcl:b'.seen≤(g.n:Int)∧P.z≤b'.comp∧b'.comp≤(g.d:Int)∧Fe.Clean g.vw P (b'.seen+1):=by
     rcases s1.c with q | q | ⟨q,_⟩ | ⟨q,_⟩ | ⟨q,_⟩ | ⟨_,q⟩
     ·omega
     ·omega
     ·omega
     ·omega
     ·omega
     ·exact q
    obtain ⟨l1,l2,l3,l4⟩:=hcl
    have hcomp:b'.comp≤b'.seen:=by
     rcases w5.c with ⟨q,_⟩ | ⟨q,k,_⟩ | ⟨q,k,_⟩ | ⟨q,k,_⟩ | ⟨q,_⟩ | ⟨q,_⟩
     ·have q0:b.st=0:=by rw [q]; rfl
      have qc:b.comp=P.z:=by rw [q]; rfl
      have:=hn0 q0
      rcases hcs.1 with a | ⟨a,_⟩
      ·rcases hcs.2 with ⟨_,a2⟩ | ⟨a1,_⟩
       ·omega
       ·exact absurd q0 a1
      ·omega
     ·have:=k.hi; have:=k.c2
      rcases hcs.2 with ⟨a1,_⟩ | ⟨_,a2⟩
      ·omega
      ·rcases hcs.1 with a | ⟨_,a⟩ <;> omega
     ·have:=k.hi; have:=k.c2
      rcases hcs.2 with ⟨a1,_⟩ | ⟨_,a2⟩
      ·omega
      ·rcases hcs.1 with a | ⟨_,a⟩ <;> omega
     ·have:=k.hi; have:=k.c2
      rcases hcs.2 with ⟨a1,_⟩ | ⟨_,a2⟩
      ·omega
      ·rcases hcs.1 with a | ⟨_,a⟩ <;> omega
     ·exact absurd (Or.inl q) w6
     ·exact absurd (Or.inr q) w6
    have hC:Cln g x.rd P.z b'.seen:=fun q q1 q2 hq=>l4 q q1 (by omega) (by rw [w7]; exact hq)
    have hms:(m:Int)≤b'.seen:=by
     rcases m3' with e | e
     ·omega
     ·exact e
    have hval : ∀ (cc:Int) (u:Nat),Sg.bit x.rd (Sg.sigN cc)=true→P.z≤(u:Int)→(u:Int)≤b'.seen→g.val cc u=g.val cc P.z.toNat:=fun cc u hb u1 u2=>val_none g cc (by omega) (by omega) (fun q q1 q2=>cln_writ hC hb (by omega) (by omega))
    have hbit:Sg.bit x.rd (Sg.sigN P.cell)=true:=by rw [← w7]; exact fi.bit
    have hpv:P.val=g.val P.cell P.z.toNat:=m4 (fun q q1 q2=>cln_writ hC hbit q1 (by omega))
    have hall : ∀ q ∈ R ++ [(P.cell,P.val)],Sg.bit x.rd (Sg.sigN q.1)=true∧q.2=g.val q.1 P.z.toNat:=fun q hq=>by
     rcases List.mem_append.1 hq with h1 | h1
     ·obtain ⟨a1,a2⟩:=hr q h1
      exact ⟨a1,by rw [w8]; exact a2⟩
     ·simp at h1
      subst h1
      exact ⟨hbit,hpv⟩
    refine ⟨hwo,hle,rfl,Or.inr (Or.inr (Or.inl ⟨rfl,rfl,rfl,⟨ht.1,fun _=>⟨⟨l3,hcomp,l1,fun q q1 q2=>hC q (by have:b'.comp < (q:Int):=q1; omega) q2⟩,fun q hq=>⟨(hall q hq).1, ?_⟩⟩⟩,fun q hq => ?_⟩))⟩
    ·rw [(hall q hq).2]
     exact (hval q.1 b'.comp.toNat (hall q hq).1 (by omega) (by omega)).symm
    ·rw [(hall q hq).2]
     exact (hval q.1 b'.seen.toNat (hall q hq).1 (by omega) (by omega)).symm
   ·by_cases e5:b'.st=5
    ·simp only [e5,if_true,Bool.false_eq_true,if_false,show ¬ ((5:Int)=4) by decide]
     have hko:=hok
     simp only [hwt] at hko
     refine ⟨hwo,hle,rfl,Or.inr (Or.inr (Or.inr ⟨rfl,rfl, ?_⟩))⟩
     have herr:b'.err=3∨b'.err=4:=by
      rcases hko.c with ⟨q,_⟩ | ⟨q,_⟩ | ⟨q,_⟩ | ⟨q,_⟩ | ⟨q,_⟩ | ⟨_,_,q⟩
      ·rw [q] at e5; simp [Fe.ckNew] at e5
      ·omega
      ·omega
      ·omega
      ·omega
      ·exact q
     rcases herr with e | e
     ·left
      obtain ⟨q,q1,q2,q3⟩:=s2 e
      exact ⟨e,q,by omega,q2,by rw [← w7]; exact q3⟩
     ·right
      have:=s3 e
      have h3:P.z+(g.s:Int) < (g.n:Int):=this
      exact ⟨e,by omega⟩
    ·simp only [e4,e5,Bool.false_eq_true,if_false,show ¬ ((2:Int)=4) by decide,show ¬ ((2:Int)=3) by decide]
     exact ⟨hwo,hle,rfl,Or.inr (Or.inl ⟨rfl,rfl,rfl,hti⟩)⟩
 ·have er':P.read=false:=by simpa using er
  have hb0:=w9 er'
  simp only [Fe.nextFP, Fe.nextFB, Fe.nextFL, Fe.ansF, Fe.errF, Fe.valF, Fe.accF, hgf, er', if_true, Bool.false_eq_true, if_false]
  unfold goOn
  simp only [show ¬ ((2:Int)=4) by decide,show ¬ ((2:Int)=3) by decide,if_false]
  have hle:(loadL c g.s L t (Fe.cellA P)).length=L.length+1:=loadL_len (Fe.cellA_is w3 hc)
  have hwo:wordOf (loadL c g.s L t (Fe.cellA P))=wordOf L:=funext fun a=>by rw [wordOf_load]
  obtain ⟨u,u1,u2,u3,_⟩:=hf.cell P.cell w3 w4
  refine ⟨hwo,hle,rfl,Or.inr (Or.inl ⟨rfl,rfl,rfl,ht.1,hc,⟨sf_look fi.sf _,fi.bit,fun _=>⟨u,by show P.z≤_; omega,u2,Or.inl (by rw [hb0]; rfl),fun hno => ?_⟩⟩,hr⟩)⟩
  show wordOf L (Fe.cellA P)=g.val P.cell P.z.toNat
  unfold Fe.cellA
  rw [u3]
  exact val_none g P.cell u2 (by omega) (fun q q1 q2=>hno q (by show P.z < _; omega) q2)
theorem cm_pub {c r:Nat} {P:Co.Cp} {b:Co.Ck} {u:Co.Cu} {L:List Ac} {t:Int} (h0:u.stamp=0) (h:(Co.nextU r P b u L).stamp≠0):wordOf L Co.nwA=u.seen∧wordOf (Co.nextCL c r P b u L t)=upd (wordOf L) ⟨1,0,0⟩ (u.seen+1)∧(Co.nextU r P b u L).stamp=u.seen+1:=by
 unfold Co.nextU at h ⊢
 unfold Co.nextCL
 split at h
 ·next hg =>
  rw [if_pos hg,if_pos hg]
  split at h
  ·next e0 =>
   exfalso
   apply h
   unfold Co.holdU Co.heldU
   split
   ·exact h0
   ·split
    ·split
     ·exact h0
     ·split <;> exact h0
    ·exact h0
  ·next e0 =>
   rw [if_neg e0,if_neg e0]
   split at h
   ·next e1 =>
    exfalso
    apply h
    unfold Co.lookU
    split <;> exact h0
   ·next e1 =>
    rw [if_neg e1,if_neg e1]
    unfold Co.swapU at h ⊢
    split at h
    ·next hs =>
     rw [if_pos hs]
     have hs':=hs
     unfold Co.swapsY at hs'
     refine ⟨by simpa using hs', ?_, rfl⟩
     unfold swapL
     rw [if_pos (show isAd c r Co.nwA=true from rfl)]
     exact wordOf_hit (Or.inr ⟨rfl,hs'⟩)
    ·exact absurd h0 h
 ·exact absurd h0 h
theorem cl_len {c r:Nat} {P:Co.Cp} {b:Co.Ck} {u:Co.Cu} {L:List Ac} {t:Int} (hk:Co.COk P b u) (hg:Co.goesC r P u=true):(Co.nextCL c r P b u L t).length=L.length+1:=by
 obtain ⟨e3,er⟩:=Co.goesC_iff.mp hg
 obtain ⟨n,kk⟩:=hk.k
 unfold Co.nextCL
 rw [if_pos hg]
 split
 ·next e0 =>
  have ht : ¬ Co.thr b:=by
   rcases hk.c with c | c | c
   ·exact c.2
   ·omega
   ·omega
  unfold Co.nextKL
  rw [if_pos (Co.goesK_iff.mpr ⟨ht,er⟩)]
  exact loadL_len (by rw [er]; exact Co.adK_is kk ht)
 ·split
  ·refine loadL_len ?_
   have:=slotV_bd (Co.lookS P u) (P.s:Int) (sizeOk_iff.mpr ⟨by have:=kk.p.s1; omega,by have:=kk.p.s16; omega⟩)
   unfold Co.lookA
   rw [er]
   simp [isAd,this]
  ·unfold swapL
   rw [if_pos (show isAd c r Co.nwA=true from rfl)]
   simp
theorem en_of {x:Tx} (hx:XOk x):EnOk (toW x.tb.R):=by
 refine ⟨by rw [toW_len]; have:=hx.inv.len; have:=hx.inv.m24; omega,toW_ok hx,fun i j hi hj e => ?_⟩
 rw [toW_len] at hi hj
 have key : ∀ k,(hk:k < x.tb.R.length)→((toW x.tb.R).getD k noWt).c=x.tb.R[k].c:=fun k hk=>by
  unfold toW
  rw [List.getD_eq_getElem?_getD,List.getElem?_map,List.getElem?_eq_getElem hk]
  rfl
 rw [key i hi,key j hj] at e
 exact hx.inv.inj i j hi hj e
theorem wrS_sg (tb:Tl.Tb):Tl.wrS tb=Ba.sgOf (toW tb.R):=by
 unfold Tl.wrS Sg.ofAll Ba.sgOf toW
 rw [List.foldl_map,List.foldl_map]
structure CmS (c:Nat) (g:Rg) (x:Tx) (L:List Ac) (R:List (Int × Int)) (o:Out):Prop where
 len:o.L.length=L.length+1
 y:o.y=true
 c:(o.k=1∧wordOf o.L=wordOf L∧o.x.ev=x.ev∧o.x.phase=4∧TI c g o.x R∧g.d≠g.n)∨(o.k=2∧wordOf o.L=wordOf L∧o.x.ev=x.ev∧o.x.phase=4∧TI c g o.x R) ∨
  (o.k=4∧wordOf o.L=wordOf L∧o.x=x.finis o.e∧((o.e=3 ∧ ∃ t:Nat,x.z < (t:Int)∧t≤g.n∧Fe.Clash g.vw x.rd t)∨(o.e=4∧x.z+(g.s:Int) < (g.n:Int))∨(o.e=6∧x.n≤(g.n:Int)))) ∨
  (o.k=2∧o.x = { x with wy:=.wr ((g.pub (toW x.tb.R)).P (g.n+1)) ((g.pub (toW x.tb.R)).bk (g.n+1)) }.tell { kind:=4,stamp:=(g.n:Int)+1,sig:=Tl.wrS x.tb }∧RI (wordOf o.L) (g.pub (toW x.tb.R))∧(g.n:Int)+1≤x.n ∧ ∀ q ∈ R,q.2=g.val q.1 g.n)
theorem st_cm {c:Nat} {g:Rg} {x:Tx} {L:List Ac} {t:Int} {R:List (Int × Int)} {P:Co.Cp} {b:Co.Ck} {u:Co.Cu} (hf:RI (wordOf L) g) (hs:x.s=g.s) (hm:x.mu=g.mu) (hx:XOk x) (hd:Wd L) (ht:TI c g x R) (hy:x.wy = .cm P b u):CmS c g x L R (stepX c g.s x L t):=by
 have hw:=hx.wy
 unfold wyOk at hw
 rw [hy] at hw
 obtain ⟨w1,w2,w3,w4,w5,w6,w7⟩:=hw
 have ht2:=ht.2
 rw [hy] at ht2
 obtain ⟨sc,hu,hzd,hr⟩:Co.Sc g.vw P b u∧u.stamp=0∧x.z≤(g.d:Int)∧RdOk g x R:=ht2
 have hps:P.s=g.s:=w1.trans hs
 have hgo:Co.goesC g.s P u=true:=Co.goesC_iff.mpr ⟨w5,hps.symm⟩
 have hdn:=hf.dn
 obtain ⟨s1,s2,s3,s4,s5,s6⟩:=Co.sc_step sc w4 hf.vi hd hu
 have hzc:=Co.z_cases (r:=g.s) w4 (hd (Co.adK P b))
 have hne:=Co.ansZ_ne (r:=g.s) (L:=L) w4
 rw [hgo] at hne
 have hne:Co.ansZ g.s P b u L≠0:=by simpa using hne
 have hle:=cl_len (c:=c) (L:=L) (t:=t) w4 hgo
 have hM:stepM c g.s x L t=⟨.cm P (Co.nextCB g.s P b u L) (Co.nextU g.s P b u L),Co.nextCL c g.s P b u L t,Co.ansZ g.s P b u L,Co.errZ g.s P b u L,Co.valZ g.s P u L,Co.goesC g.s P u⟩:=by unfold stepM; rw [hy]
 have s1:Co.errZ g.s P b u L=3 → ∃ t:Nat,P.z < (t:Int)∧t≤g.n∧Co.Clash g.vw P.rd t:=s1
 have s2:Co.errZ g.s P b u L=4→P.z+(g.s:Int) < (g.n:Int):=s2
 have s3:Co.errZ g.s P b u L=6→P.ex.n≤(g.n:Int):=s3
 have s4:Co.ansZ g.s P b u L=1→g.d≠g.n:=s4
 have s5:(Co.nextU g.s P b u L).stamp=0→Co.ansZ g.s P b u L≠3∧Co.Sc g.vw P (Co.nextCB g.s P b u L) (Co.nextU g.s P b u L) ∧ ∀ c t a,wordOf (Co.nextCL c g.s P b u L t) a=wordOf L a:=s5
 have hcp:=cm_pub (c:=c) (r:=g.s) (P:=P) (b:=b) (u:=u) (L:=L) (t:=t) hu
 unfold stepX
 rw [hM,hgo]
 by_cases hst:(Co.nextU g.s P b u L).stamp=0
 ·obtain ⟨a1,a2,a3⟩:=s5 hst
  have hwo:wordOf (Co.nextCL c g.s P b u L t)=wordOf L:=funext fun a=>a3 c t a
  have hti:TI c g { x with wy:=.cm P (Co.nextCB g.s P b u L) (Co.nextU g.s P b u L) } R:=⟨ht.1,a2,hst,hzd,hr⟩
  unfold goOn
  rcases hzc with ⟨k4,e4⟩ | ⟨e0,k0⟩
  ·simp only [k4,if_true]
   refine ⟨hle,rfl,Or.inr (Or.inr (Or.inl ⟨rfl,hwo,rfl, ?_⟩))⟩
   rcases e4 with e | e | e
   ·left
    obtain ⟨q,q1,q2,j,hj,q3⟩:=s1 e
    exact ⟨e,q,by omega,q2,j,hj,by rw [← w6]; exact q3⟩
   ·have:=s2 e; right; left; exact ⟨e,by omega⟩
   ·have:=s3 e; right; right; exact ⟨e,by omega⟩
  ·have hk:Co.ansZ g.s P b u L=1∨Co.ansZ g.s P b u L=2:=by
    rcases k0 with k | k | k | k
    ·exact absurd k hne
    ·exact Or.inl k
    ·exact Or.inr k
    ·exact absurd k a1
   rcases hk with k | k
   ·simp only [k,show ¬ ((1:Int)=4) by decide,show ¬ ((1:Int)=3) by decide,if_false]
    exact ⟨hle,rfl,Or.inl ⟨rfl,hwo,rfl,rfl,hti,s4 k⟩⟩
   ·simp only [k,show ¬ ((2:Int)=4) by decide,show ¬ ((2:Int)=3) by decide,if_false]
    exact ⟨hle,rfl,Or.inr (Or.inl ⟨rfl,hwo,rfl,rfl,hti⟩)⟩
 ·obtain ⟨a1,a2,a3,a4,a5,a6,a7,a8⟩:=s6 hst
  obtain ⟨b1,b2,b3⟩:=hcp hst
  have hn:u.seen=(g.n:Int):=by rw [← b1]; exact hf.nw
  have a1:Co.ansZ g.s P b u L=3:=a1
  have a3:(Co.nextU g.s P b u L).stamp=(g.n:Int)+1:=a3
  have a6:(g.n:Int) - (g.d:Int) < (g.s:Int):=a6
  have a7:P.ex.mu=false→g.d=g.n:=a7
  have a8:(g.n:Int)+1≤P.ex.n:=a8
  have hn2:=hx.n2
  have hri:RI (wordOf (Co.nextCL c g.s P b u L t)) (g.pub (toW x.tb.R)):=by
   rw [b2,hn]
   exact ri_pub hf (fun _=>by omega) (fun e=>a7 (by rw [w3,hm]; exact e)) (en_of hx) (by omega)
  have hbp:backP x ((g.n:Int)+1)=(g.pub (toW x.tb.R)).P (g.n+1):=by
   unfold backP Rg.P Rg.sg
   rw [pub_new,hs]
   rfl
  have hbk:Ba.bkNew (backP x ((g.n:Int)+1)) x.mu=(g.pub (toW x.tb.R)).bk (g.n+1):=by
   unfold Rg.pub backP
   simp only [if_true]
   rw [hs,hm]
   rfl
  have hC:Cln g x.rd P.z (g.n:Int):=fun q q1 q2 ⟨j,hj,hq⟩=>a5 q q1 (by simp only [Rg.vw]; omega) ⟨j,hj,by rw [w6]; exact hq⟩
  unfold goOn finX
  simp only [a1,a3,show ¬ ((3:Int)=4) by decide,if_false,if_true,Bool.false_eq_true]
  refine ⟨hle,rfl,Or.inr (Or.inr (Or.inr ⟨rfl, ?_,hri,by omega,fun q hq => ?_⟩))⟩
  ·rw [hbk,hbp]
  ·obtain ⟨q1,q2⟩:=hr q hq
   rw [q2]
   exact (val_none g q.1 (Nat.le_refl _) (by omega) (fun s t1 t2=>cln_writ hC q1 (by omega) (by omega))).symm
theorem nx3 {P:Ba.Bp} {b:Ba.Bk} {v:Int} (hk:Ba.BkOk P b) (h3:3≤b.nx) (h8:b.nx≠8):3≤(Ba.stepB P b v).nx:=by
 have hx:=hk.nx
 by_cases hw:Ba.waitB P b v=true
 ·rw [step_wait hw]; exact h3
 ·rw [step_run (by simpa using hw),if_neg (by omega),if_neg (by omega)]
  split
  ·split
   ·unfold Ba.overB
    have:=goB_wr P ⟨b.nx,b.wd,b.old,b.old == P.st - 1,b.wr⟩; omega
   ·have:=toWord_wr P ⟨b.nx,0,b.old,b.kn,b.wr⟩; omega
  ·split
   ·split
    ·simp
    ·have:=toWord_wr P ⟨b.nx,b.wd+1,b.old,b.kn,b.wr⟩; omega
   ·split
    ·unfold Ba.overB
     have:=goB_wr P ⟨b.nx,b.wd,b.old,b.old == P.st - 1,b.wr⟩; omega
    ·split
     ·have:=goB_wr P ⟨b.nx,b.wd,b.old,b.kn,b.wr+1⟩; omega
     ·split
      ·have:=goB_wr P ⟨b.nx,b.wd,b.old,true,b.wr⟩; omega
      ·omega
structure WrS (g:Rg) (x:Tx) (L:List Ac) (q:Nat) (o:Out):Prop where
 len:o.L.length=L.length+1
 y:o.y=true
 c:(o.k=1∧wordOf o.L=wordOf L∧o.x=x∧q≠g.d+1) ∨
  (o.k = 2 ∧ ∃ b', RI (wordOf o.L) (g.set q b') ∧ Gr g (g.set q b') ∧ o.x = { x with wy := .wr (g.P q) b' }) ∨
  (o.k=3∧q=g.d+1∧RI (wordOf o.L) g.don∧o.x=(x.tell { kind:=5,stamp:=(q:Int) }).reset)
theorem st_wr {c:Nat} {g:Rg} {x:Tx} {L:List Ac} {t:Int} {q:Nat} (hf:RI (wordOf L) g) (hx:XOk x) (hc : ∀ y ∈ x.tb.R,y.c < (c:Int)) (h1:g.d < q) (h2:q≤g.n) (hy:x.wy = .wr (g.P q) (g.bk q)):WrS g x L q (stepX c g.s x L t):=by
 have hw:=hx.wy
 unfold wyOk at hw
 rw [hy] at hw
 obtain ⟨w1,w2,w3,w4⟩:=hw
 have hgo:Ba.goesB c g.s (g.P q) (g.bk q)=true:=by
  refine Ba.goesB_iff.mpr ⟨w4,rfl,fun y hm => ?_⟩
  rw [w2] at hm
  unfold toW at hm
  obtain ⟨z,hz,rfl⟩:=List.mem_map.1 hm
  exact hc z hz
 have hM:stepM c g.s x L t=⟨.wr (g.P q) (Ba.stepB (g.P q) (g.bk q) (wordOf L (Ba.adB (g.P q) (g.bk q)))),Ba.accL c g.s (g.P q) (g.bk q) L t,if Ba.waitB (g.P q) (g.bk q) (wordOf L (Ba.adB (g.P q) (g.bk q))) then 1 else if (g.bk q).nx=8 then 3 else 2,0,0,true⟩:=by
  unfold stepM
  rw [hy]
  simp only [Ba.nextBk,Ba.nextBL,Ba.ansBk,hgo,if_true]
 have had:isAd c g.s (Ba.adB (g.P q) (g.bk q))=true:=Ba.adB_is w3 hgo
 have hle:(Ba.accL c g.s (g.P q) (g.bk q) L t).length=L.length+1:=by
  unfold Ba.accL
  split
  ·exact loadL_len had
  ·unfold storeL; rw [if_pos had]; simp
 have hwo:=Ba.nextBL_word (c:=c) (r:=g.s) (L:=L) (t:=t) w3
 rw [show Ba.nextBL c g.s (g.P q) (g.bk q) L t=Ba.accL c g.s (g.P q) (g.bk q) L t by unfold Ba.nextBL; rw [if_pos hgo]] at hwo
 unfold stepX
 rw [hM]
 unfold goOn
 have hnx:=w3.nx
 by_cases hwt:Ba.waitB (g.P q) (g.bk q) (wordOf L (Ba.adB (g.P q) (g.bk q)))=true
 ·have hld:Ba.ldB (g.bk q)=true:=by
   unfold Ba.waitB at hwt
   unfold Ba.ldB
   split at hwt
   ·next e=>simp [e]
   ·split at hwt
    ·next e=>simp [e]
    ·split at hwt
     ·next e=>simp [e]
     ·simp at hwt
  rw [if_neg (by simp [hld])] at hwo
  simp only [hwt,if_true,show ¬ ((1:Int)=4) by decide,show ¬ ((1:Int)=3) by decide,if_false]
  refine ⟨hle,rfl,Or.inl ⟨rfl,hwo, ?_,ri_wait hf h1 h2 hwt⟩⟩
  rw [step_wait hwt,← hy]
 ·by_cases e8:(g.bk q).nx=8
  ·have hld:Ba.ldB (g.bk q)=false:=by unfold Ba.ldB; rw [e8]; rfl
   rw [if_pos ⟨hgo,hld⟩] at hwo
   obtain ⟨d1,d2⟩:=ri_done hf h1 h2 e8
   simp only [hwt,e8,if_true,if_false,show ¬ ((3:Int)=4) by decide,finX,Bool.false_eq_true]
   refine ⟨hle,rfl,Or.inr (Or.inr ⟨rfl,d1, ?_,rfl⟩)⟩
   rw [hwo]; exact d2
  ·simp only [hwt,e8,if_false,show ¬ ((2:Int)=4) by decide,show ¬ ((2:Int)=3) by decide,Bool.false_eq_true]
   refine ⟨hle,rfl,Or.inr (Or.inl ⟨rfl,_, ?_,gr_set g q _ (fun h3=>nx3 w3 h3 e8),rfl⟩)⟩
   cases hld:Ba.ldB (g.bk q)
   ·rw [if_pos ⟨hgo,hld⟩] at hwo
    rw [hwo]
    have hc':(g.bk q).nx=1∨(g.bk q).nx=2∨(g.bk q).nx=6:=by
     unfold Ba.ldB at hld
     simp only [Bool.or_eq_false_iff,beq_eq_false_iff_ne] at hld
     omega
    rcases hc' with e | e | e
    ·exact ri_lay hf h1 h2 e _
    ·exact ri_head hf h1 h2 e _
    ·exact ri_back hf h1 h2 e _
   ·rw [if_neg (by simp [hld])] at hwo
    rw [hwo]
    exact ri_ld hf h1 h2 hld
def setT {α:Type} (T:Nat→α) (k:Nat) (x:α):Nat→α:=fun j=>if j=k then x else T j
theorem setT_self {α:Type} (T:Nat→α) (k:Nat) (x:α):setT T k x k=x:=by simp [setT]
theorem setT_else {α:Type} (T:Nat→α) {k j:Nat} (x:α) (h:j≠k):setT T k x j=T j:=by simp [setT,h]
structure Cf (N:Int) (m:Nat) (g:Rg) (x:Tx):Prop where
 s:x.s=g.s
 mu:x.mu=g.mu
 n:x.n=N
 m:x.tb.m=m
structure WI (c:Nat) (N:Int) (m:Nat) (L:List Ac) (g:Rg) (T:Nat→Tx) (R:Nat→List (Int × Int)):Prop where
 ri:RI (wordOf L) g
 wd:Wd L
 ok : ∀ k,k < 4→XOk (T k)
 cf : ∀ k,k < 4→Cf N m g (T k)
 nm:(g.n:Int)≤N
 ti : ∀ k,k < 4→TI c g (T k) (R k)
 own : ∀ t,g.d < t→t≤g.n → ∃ k,k < 4∧(T k).wy = .wr (g.P t) (g.bk t)
 wr : ∀ k,k < 4 → ∀ P b,(T k).wy = .wr P b → ∃ t,g.d < t∧t≤g.n∧P=g.P t∧b=g.bk t
 one : ∀ k j P b P' b', k < 4 → j < 4 → (T k).wy = .wr P b → (T j).wy = .wr P' b' → P.st = P'.st → k = j
 rdo : ∀ k,k < 4 → ∀ P b,(T k).wy = .rd P b→Tl.getY (T k).tb P.cell=false
theorem rdo_put {T:Nat→Tx} {k:Nat} {x:Tx} (h : ∀ k,k < 4 → ∀ P b,(T k).wy = .rd P b→Tl.getY (T k).tb P.cell=false) (ro : ∀ P b,x.wy = .rd P b→Tl.getY x.tb P.cell=false) : ∀ j,j < 4 → ∀ P b,(setT T k x j).wy = .rd P b→Tl.getY (setT T k x j).tb P.cell=false:=fun j hj P b e=>by
 by_cases ej:j=k
 ·rw [ej,setT_self] at e ⊢; exact ro P b e
 ·rw [setT_else _ _ ej] at e ⊢; exact h j hj P b e
theorem wi_mem {c:Nat} {N:Int} {m:Nat} {L L':List Ac} {g:Rg} {T:Nat→Tx} {R:Nat→List (Int × Int)} (h:WI c N m L g T R) (e:wordOf L'=wordOf L):WI c N m L' g T R :=
 ⟨by rw [e]; exact h.ri,fun a=>by rw [e]; exact h.wd a,h.ok,h.cf,h.nm,h.ti,h.own,h.wr,h.one,h.rdo⟩
theorem wi_put {c:Nat} {N:Int} {m:Nat} {L:List Ac} {g:Rg} {T:Nat→Tx} {R:Nat→List (Int × Int)} {k:Nat} {x:Tx} {r:List (Int × Int)} (h:WI c N m L g T R) (hk:k < 4) (hx:XOk x) (hc:Cf N m g x) (ti:TI c g x r) (n1 : ∀ P b,(T k).wy ≠ .wr P b) (n2 : ∀ P b,x.wy ≠ .wr P b) (ro : ∀ P b,x.wy = .rd P b→Tl.getY x.tb P.cell=false):WI c N m L g (setT T k x) (setT R k r):=by
 refine ⟨h.ri,h.wd,fun j hj => ?_,fun j hj => ?_,h.nm,fun j hj => ?_,fun t t1 t2 => ?_,fun j hj P b e => ?_,fun i j P b P' b' hi hj ei ej es => ?_,rdo_put h.rdo ro⟩
 ·by_cases e:j=k
  ·rw [e,setT_self]; exact hx
  ·rw [setT_else _ _ e]; exact h.ok j hj
 ·by_cases e:j=k
  ·rw [e,setT_self]; exact hc
  ·rw [setT_else _ _ e]; exact h.cf j hj
 ·by_cases e:j=k
  ·rw [e,setT_self,setT_self]; exact ti
  ·rw [setT_else _ _ e,setT_else _ _ e]; exact h.ti j hj
 ·obtain ⟨j,hj,ej⟩:=h.own t t1 t2
  exact ⟨j,hj,by rw [setT_else _ _ (fun e=>n1 _ _ (by rw [← e]; exact ej))]; exact ej⟩
 ·by_cases e':j=k
  ·rw [e', setT_self] at e; exact absurd e (n2 _ _)
  ·rw [setT_else _ _ e'] at e; exact h.wr j hj P b e
 ·by_cases a:i=k
  ·rw [a,setT_self] at ei; exact absurd ei (n2 _ _)
  ·by_cases b:j=k
   ·rw [b,setT_self] at ej; exact absurd ej (n2 _ _)
   ·rw [setT_else _ _ a] at ei
    rw [setT_else _ _ b] at ej
    exact h.one i j _ _ _ _ hi hj ei ej es
theorem cf_grow {N:Int} {m:Nat} {g g':Rg} {x:Tx} (hs:g'.s=g.s) (hm:g'.mu=g.mu) (h:Cf N m g x):Cf N m g' x:=⟨h.s.trans hs.symm,h.mu.trans hm.symm,h.n,h.m⟩
theorem wi_pub {c:Nat} {N:Int} {m:Nat} {L L':List Ac} {g:Rg} {T:Nat→Tx} {R:Nat→List (Int × Int)} {k:Nat} {x:Tx} {W:List Wt} (h:WI c N m L g T R) (hk:k < 4) (n1 : ∀ P b,(T k).wy ≠ .wr P b) (hr:RI (wordOf L') (g.pub W)) (hd:Wd L') (hx:XOk x) (hc:Cf N m g x) (hy:x.wy = .wr ((g.pub W).P (g.n+1)) ((g.pub W).bk (g.n+1))) (hcell : ∀ y ∈ x.tb.R,y.c < (c:Int)) (hN:(g.n:Int)+1≤N) :
  WI c N m L' (g.pub W) (setT T k x) R:=by
 have hst : ∀ j,j < 4 → ∀ P b,(T j).wy = .wr P b→P.st≤(g.n:Int):=fun j hj P b e=>by
  obtain ⟨t,t1,t2,rfl,_⟩:=h.wr j hj P b e
  show (t:Int)≤_
  omega
 refine ⟨hr,hd,fun j hj => ?_,fun j hj => ?_,by rw [pub_n]; omega,fun j hj => ?_,fun t t1 t2 => ?_,fun j hj P b e => ?_,fun i j P b P' b' hi hj ei ej es => ?_,rdo_put h.rdo (fun P b e=>by rw [hy] at e; cases e)⟩
 ·by_cases e:j=k
  ·rw [e,setT_self]; exact hx
  ·rw [setT_else _ _ e]; exact h.ok j hj
 ·by_cases e:j=k
  ·rw [e,setT_self]; exact cf_grow (g:=g) rfl rfl hc
  ·rw [setT_else _ _ e]; exact cf_grow (g:=g) rfl rfl (h.cf j hj)
 ·by_cases e:j=k
  ·rw [e,setT_self]; exact ⟨hcell,by rw [hy]; trivial⟩
  ·rw [setT_else _ _ e]; exact ti_grow h.ri (gr_pub g W) (h.ok j hj) (h.ti j hj)
 ·rw [pub_n] at t2
  have t1':g.d < t:=t1
  by_cases e:t=g.n+1
  ·exact ⟨k,hk,by rw [setT_self,e]; exact hy⟩
  ·obtain ⟨j,hj,ej⟩:=h.own t t1' (by omega)
   exact ⟨j,hj,by rw [setT_else _ _ (fun e=>n1 _ _ (by rw [← e]; exact ej)),pub_P g W (by omega) (by omega),pub_bk g W (by omega)]; exact ej⟩
 ·by_cases e':j=k
  ·rw [e', setT_self, hy] at e
   injection e with e1 e2
   exact ⟨g.n+1,by have:=h.ri.dn; show g.d < _; omega,by rw [pub_n]; omega,e1.symm,e2.symm⟩
  ·rw [setT_else _ _ e'] at e
   obtain ⟨t,t1,t2,t3,t4⟩:=h.wr j hj P b e
   exact ⟨t,t1,by rw [pub_n]; omega,by rw [pub_P g W (by omega) t2]; exact t3,by rw [pub_bk g W t2]; exact t4⟩
 ·have hst':((g.pub W).P (g.n+1)).st=(g.n:Int)+1:=by unfold Rg.P; simp
  by_cases a:i=k
  ·by_cases b:j=k
   ·rw [a,b]
   ·rw [a,setT_self,hy] at ei
    injection ei with e1 e2
    rw [setT_else _ _ b] at ej
    have:=hst j hj _ _ ej
    rw [← es,← e1,hst'] at this
    omega
  ·rw [setT_else _ _ a] at ei
   by_cases b:j=k
   ·rw [b,setT_self,hy] at ej
    injection ej with e1 e2
    have:=hst i hi _ _ ei
    rw [es,← e1,hst'] at this
    omega
   ·rw [setT_else _ _ b] at ej
    exact h.one i j _ _ _ _ hi hj ei ej es
theorem wi_set {c:Nat} {N:Int} {m:Nat} {L L':List Ac} {g:Rg} {T:Nat→Tx} {R:Nat→List (Int × Int)} {k q:Nat} {b':Ba.Bk} (h:WI c N m L g T R) (hk:k < 4) (q1:g.d < q) (q2:q≤g.n) (hy:(T k).wy = .wr (g.P q) (g.bk q)) (hr:RI (wordOf L') (g.set q b')) (hg:Gr g (g.set q b')) (hd:Wd L') (hx:XOk { T k with wy:=.wr (g.P q) b' }) :
  WI c N m L' (g.set q b') (setT T k { T k with wy:=.wr (g.P q) b' }) R:=by
 have hu : ∀ j,j < 4 → ∀ b,(T j).wy = .wr (g.P q) b→j=k:=fun j hj b e=>h.one j k _ _ _ _ hj hk e hy rfl
 refine ⟨hr,hd,fun j hj => ?_,fun j hj => ?_,h.nm,fun j hj => ?_,fun t t1 t2 => ?_,fun j hj P b e => ?_,fun i j P b P' b'' hi hj ei ej es => ?_,rdo_put h.rdo (fun P b e=>by cases e)⟩
 ·by_cases e:j=k
  ·rw [e,setT_self]; exact hx
  ·rw [setT_else _ _ e]; exact h.ok j hj
 ·by_cases e:j=k
  ·rw [e,setT_self]; exact ⟨(h.cf k hk).s,(h.cf k hk).mu,(h.cf k hk).n,(h.cf k hk).m⟩
  ·rw [setT_else _ _ e]; exact cf_grow (g:=g) rfl rfl (h.cf j hj)
 ·by_cases e:j=k
  ·rw [e,setT_self]; exact ⟨(h.ti k hk).1,trivial⟩
  ·rw [setT_else _ _ e]; exact ti_grow h.ri hg (h.ok j hj) (h.ti j hj)
 ·by_cases e:t=q
  ·exact ⟨k,hk,by rw [setT_self,e,set_self]; rfl⟩
  ·obtain ⟨j,hj,ej⟩:=h.own t t1 t2
   have hjk:j≠k:=fun e' => by
    rw [e', hy] at ej
    injection ej with e1 e2
    have:((q:Nat):Int)=(t:Int):=congrArg Ba.Bp.st e1
    omega
   exact ⟨j,hj,by rw [setT_else _ _ hjk,set_else g b' e]; exact ej⟩
 ·by_cases e':j=k
  ·rw [e', setT_self] at e
   injection e with e1 e2
   exact ⟨q,q1,q2,e1.symm,by rw [set_self]; exact e2.symm⟩
  ·rw [setT_else _ _ e'] at e
   obtain ⟨t,t1,t2,t3,t4⟩:=h.wr j hj P b e
   have htq:t≠q:=fun e2=>e' (hu j hj b (by rw [e,t3,e2]))
   exact ⟨t,t1,t2,t3,by rw [set_else g b' htq]; exact t4⟩
 ·have key : ∀ i P b,i < 4→(setT T k { T k with wy:=.wr (g.P q) b' } i).wy = .wr P b → ∃ b0,(T i).wy = .wr P b0:=fun i P b hi e=>by
   by_cases a:i=k
   ·rw [a,setT_self] at e
    injection e with e1 e2
    exact ⟨g.bk q,by rw [a,hy,e1]⟩
   ·rw [setT_else _ _ a] at e; exact ⟨b,e⟩
  obtain ⟨c1,h1⟩:=key i P b hi ei
  obtain ⟨c2,h2⟩:=key j P' b'' hj ej
  exact h.one i j _ _ _ _ hi hj h1 h2 es
theorem wi_don {c:Nat} {N:Int} {m:Nat} {L L':List Ac} {g:Rg} {T:Nat→Tx} {R:Nat→List (Int × Int)} {k:Nat} {x:Tx} (h:WI c N m L g T R) (hk:k < 4) (q2:g.d+1≤g.n) (hy:(T k).wy = .wr (g.P (g.d+1)) (g.bk (g.d+1))) (hr:RI (wordOf L') g.don) (hd:Wd L') (hx:XOk x) (hc:Cf N m g x) (ti:TI c g.don x (R k)) (n2 : ∀ P b,x.wy ≠ .wr P b) (n3 : ∀ P b,x.wy ≠ .rd P b) :
  WI c N m L' g.don (setT T k x) R:=by
 refine ⟨hr,hd,fun j hj => ?_,fun j hj => ?_,h.nm,fun j hj => ?_,fun t t1 t2 => ?_,fun j hj P b e => ?_,fun i j P b P' b' hi hj ei ej es => ?_,rdo_put h.rdo (fun P b e=>absurd e (n3 P b))⟩
 ·by_cases e:j=k
  ·rw [e,setT_self]; exact hx
  ·rw [setT_else _ _ e]; exact h.ok j hj
 ·by_cases e:j=k
  ·rw [e,setT_self]; exact cf_grow (g:=g) rfl rfl hc
  ·rw [setT_else _ _ e]; exact cf_grow (g:=g) rfl rfl (h.cf j hj)
 ·by_cases e:j=k
  ·rw [e,setT_self]; exact ti
  ·rw [setT_else _ _ e]; exact ti_grow h.ri (gr_don g) (h.ok j hj) (h.ti j hj)
 ·have t1':g.d+1 < t:=t1
  obtain ⟨j,hj,ej⟩:=h.own t (by omega) t2
  have hjk:j≠k:=fun e' => by
   rw [e', hy] at ej
   injection ej with e1 e2
   have:(((g.d+1:Nat)):Int)=(t:Int):=congrArg Ba.Bp.st e1
   omega
  exact ⟨j,hj,by rw [setT_else _ _ hjk]; exact ej⟩
 ·by_cases e':j=k
  ·rw [e', setT_self] at e; exact absurd e (n2 _ _)
  ·rw [setT_else _ _ e'] at e
   obtain ⟨t,t1,t2,t3,t4⟩:=h.wr j hj P b e
   refine ⟨t, ?_,t2,t3,t4⟩
   show g.d+1 < t
   have:t≠g.d+1:=fun e2=>e' (h.one j k _ _ _ _ hj hk e hy (by rw [t3,e2]))
   omega
 ·by_cases a:i=k
  ·rw [a,setT_self] at ei; exact absurd ei (n2 _ _)
  ·by_cases b:j=k
   ·rw [b,setT_self] at ej; exact absurd ej (n2 _ _)
   ·rw [setT_else _ _ a] at ei
    rw [setT_else _ _ b] at ej
    exact h.one i j _ _ _ _ hi hj ei ej es
end Go.Proofs.YtdkpgdkjohjcaaaGreat
namespace Go.Proofs.YtdkpgdkjohjcaaaGreat
open Go.ChangeShapes Go.WideShapes Go.ChangeAt Go.RowKit
attribute [local go_sem ↓] Go.wp_at_zero Go.wp_at_succ
theorem stepX_no {c r:Nat} {x:Tx} {L:List Ac} {t:Int} (hy:x.wy = .no):stepX c r x L t=⟨x,L,0,0,0,false⟩:=by
 unfold stepX goOn stepM
 rw [hy]
 simp only [show ¬ ((0:Int)=4) by decide,show ¬ ((0:Int)=3) by decide,if_false]
 obtain ⟨s,n,mu,tb,rd,ev,wy,bg,z,seen⟩:=x
 simp only at hy
 subst hy
 rfl
theorem wv_no {w:World} {base s:Nat} {wv:Value} {G:List Nat} {y:Wy} (h:WyAt w base s wv G y) (hy:y ≠ .no) : ∃ t v,wv = .iface t v:=by
 cases y with
 | no=>exact absurd rfl hy
 | bg b=>obtain ⟨X,e,_⟩:=h; exact ⟨_,_,e⟩
 | rd P b=>obtain ⟨X,e,_⟩:=h; exact ⟨_,_,e⟩
 | cm P b u=>obtain ⟨Z,X,e,_⟩:=h; exact ⟨_,_,e⟩
 | wr P b=>obtain ⟨Z,lv,e,_⟩:=h; exact ⟨_,_,e⟩
theorem step_any {w:World} {base:Nat} {p:Value} {c r:Nat} {L:List Ac} {F:List Nat} {T:Nat} {x:Tx} {G:List Nat} (h:TM w base p c r L F T x G) (hb:base≤w.heap.size) (hL:L.length < 3298534883328) (hE:x.ev.length < 1073741824) (hx:XOk x) (hd:Wd L) (t:Int) :
  Calls Tryz.prog 19 #[.pointer (some ⟨T, 0, none⟩), p, .int .i64 t] w fun e w' => e = .returned (anV (stepX c r x L t).k (stepX c r x L t).e (stepX c r x L t).v (stepX c r x L t).y) ∧ ∃ F' G', TM w' base p c r (stepX c r x L t).L F' T (stepX c r x L t).x G' ∧ Next (G ++ F) (G' ++ F') w w' := by
 by_cases hy:x.wy = .no
 ·rw [stepX_no hy]
  have HQ:Hid (TM w base p c r L F T x G):=h
  obtain ⟨hm,⟨lg,tk,ev,wv,Gm,h'⟩,ho⟩:=h
  have hw:=h'.wy
  rw [hy] at hw
  obtain ⟨rfl,rfl⟩:=hw
  obtain ⟨M,rfl⟩:=hm.ptr
  obtain ⟨x0,x1,x2,x3,x4,x5,x6,x7,x8,x9,x10,x11,x12⟩:=h'.raw.cells
  have hT:=heap_lt h'.raw
  clear h' x0 x1 x2 x3 x4 x5 x6 x7 x8 x10 x11 x12 hm hd hL hE hx hy ho
  unfold anV
  go_enter Tryz.func19,Tryz.ntmps19
  go_wp2
  exact ret_ans rfl rfl (heap_alloc_new w _) rfl rfl ⟨rfl,F,G,HQ.out.below (below_a1 _ _),Next.of_below (below_a1 _ _) _⟩
 ·have HG : Hid (∀ w', Below w.heap.size w w' → Calls Tryz.prog 29 #[.pointer (some ⟨T, 0, none⟩), p, .int .i64 t] w' fun e w'' => e = .returned (anV (stepX c r x L t).k (stepX c r x L t).e (stepX c r x L t).v (stepX c r x L t).y) ∧ ∃ F' G', TM w'' base p c r (stepX c r x L t).L F' T (stepX c r x L t).x G' ∧ Next (G ++ F) (G' ++ F') w' w'') := fun w' k => goOn_any (h.below k) (Nat.le_trans hb k.size) hL hE hx hy hd t
  have hlt:=h.lt
  have HLT:Hid (∀ q ∈ G++F,q < w.heap.size):=fun q hq=>(hlt q hq).2
  obtain ⟨hm,⟨lg,tk,ev,wv,Gm,h'⟩,ho⟩:=h
  obtain ⟨ty,va,rfl⟩:=wv_no h'.wy hy
  obtain ⟨M,rfl⟩:=hm.ptr
  obtain ⟨x0,x1,x2,x3,x4,x5,x6,x7,x8,x9,x10,x11,x12⟩:=h'.raw.cells
  have hT:=heap_lt h'.raw
  clear h' x0 x1 x2 x3 x4 x5 x6 x7 x8 x10 x11 x12 hm hd hL hE hx hy ho hlt
  generalize stepX c r x L t=a at *
  obtain ⟨x', L', kk, ee, vv, gg⟩ := a
  unfold anV at *
  simp only at HG ⊢
  go_enter Tryz.func19,Tryz.ntmps19
  go_wp2_with fail
  refine (HG.out _ (below_a1 _ _)).mono ?_
  rintro e w1 ⟨rfl,F1,G1,q1,k1⟩
  have HQ1:Hid (TM w1 base (.pointer (some ⟨M,0,none⟩)) c r L' F1 T x' G1):=q1
  have HR1:Hid (w1.heap[w.heap.size]? = some (.cells #[.int .i64 0,.int .i64 0,.int .i64 0,.bool false] 55 (0,0))∧w.heap.size ∉ G1++F1):=row_next HLT.out (Nat.le_refl _) (heap_alloc_new w _) k1
  have HK1:Hid (Next (G++F) (G1++F1) w w1):=(Next.of_below (below_a1 _ _) _).trans k1
  clear q1 k1 x9
  obtain ⟨⟨a0,a1,a2,a3⟩,g0,g1,g2,g3⟩:=ans_cells HR1.out.1
  have hBa:=heap_lt HR1.out.1
  go_wp2
  have qf:=HQ1.out.other (Co.keepWB (w:=w1) (B:=w.heap.size) kk ee vv gg) (fun q hq e=>HR1.out.2 (by simp only [List.mem_singleton] at e; rw [← e]; exact hq))
  exact ret_ans rfl rfl (Co.ansW_set rfl HR1.out.1 kk ee vv gg) rfl rfl ⟨rfl,F1,G1,qf,nx_other HK1.out (Nat.le_refl _) (Co.keepWB (w:=w1) (B:=w.heap.size) kk ee vv gg)⟩
theorem phase0_any {w:World} {base T:Nat} {x:Tx} {G:List Nat} (h:TxAt w base T x G):Calls Tryz.prog 27 #[.pointer (some ⟨T,0,none⟩)] w fun e w' => e = .returned (.int .i64 x.phase)∧Below w.heap.size w w':=by
 obtain ⟨lg,tk,ev,wv,Gm,h'⟩:=h
 obtain ⟨x0,x1,x2,x3,x4,x5,x6,x7,x8,x9,x10,x11,x12⟩:=h'.raw.cells
 have hT:=heap_lt h'.raw
 have hw:=h'.wy
 unfold Tx.phase
 clear h' x0 x1 x2 x3 x4 x5 x6 x7 x8 x11 x12
 cases hy:x.wy with
 | no =>
  rw [hy] at hw
  obtain ⟨rfl,rfl⟩:=hw
  have qa : ∀ w,(Instr.typeAssert .nilIface 78 98 true).run Tryz.prog w = .ok (.tuple #[.pointer none,.bool false]) w:=fun w=>(ta_n w).1
  have qb : ∀ w,(Instr.typeAssert .nilIface 78 101 true).run Tryz.prog w = .ok (.tuple #[.agg #[.pointer none,.int .i64 0],.bool false]) w:=fun w=>(ta_n w).2.1
  have qc : ∀ w,(Instr.typeAssert .nilIface 78 102 true).run Tryz.prog w = .ok (.tuple #[.pointer none,.bool false]) w:=fun w=>(ta_n w).2.2.1
  have qd : ∀ w,(Instr.typeAssert .nilIface 78 105 true).run Tryz.prog w = .ok (.tuple #[.agg #[.pointer none,.int .i64 0],.bool false]) w:=fun w=>(ta_n w).2.2.2
  simp only
  generalize x.begun=bb at *
  cases bb
  all_goals
   go_enter Tryz.func27,Tryz.ntmps27
   go_wp2
   go_ret
   exact ⟨rfl,Below.refl _ _⟩
 | bg b =>
  rw [hy] at hw
  obtain ⟨X,rfl,_⟩:=hw
  have qa : ∀ w,(Instr.typeAssert (.iface 98 (.pointer (some ⟨X,0,none⟩))) 78 98 true).run Tryz.prog w = .ok (.tuple #[.pointer (some ⟨X,0,none⟩),.bool true]) w:=fun w=>ta_b_b w _
  clear hy
  go_enter Tryz.func27,Tryz.ntmps27
  go_wp2
  go_ret
  exact ⟨rfl,Below.refl _ _⟩
 | rd P b =>
  rw [hy] at hw
  obtain ⟨X,rfl,_⟩:=hw
  have qa : ∀ w,(Instr.typeAssert (.iface 101 (.agg #[.pointer (some ⟨X,0,none⟩),.int .i64 P.cell])) 78 98 true).run Tryz.prog w = .ok (.tuple #[.pointer none,.bool false]) w:=fun w=>ta_r_b w _ _
  have qb : ∀ w,(Instr.typeAssert (.iface 101 (.agg #[.pointer (some ⟨X,0,none⟩),.int .i64 P.cell])) 78 101 true).run Tryz.prog w = .ok (.tuple #[.agg #[.pointer (some ⟨X,0,none⟩),.int .i64 P.cell],.bool true]) w:=fun w=>ta_r_r w _ _
  clear hy
  go_enter Tryz.func27,Tryz.ntmps27
  go_wp2
  go_ret
  exact ⟨rfl,Below.refl _ _⟩
 | cm P b u =>
  rw [hy] at hw
  obtain ⟨Z,X,rfl,_⟩:=hw
  have qa : ∀ w,(Instr.typeAssert (.iface 102 (.pointer (some ⟨Z,0,none⟩))) 78 98 true).run Tryz.prog w = .ok (.tuple #[.pointer none,.bool false]) w:=fun w=>ta_c_b w _
  have qb : ∀ w,(Instr.typeAssert (.iface 102 (.pointer (some ⟨Z,0,none⟩))) 78 101 true).run Tryz.prog w = .ok (.tuple #[.agg #[.pointer none,.int .i64 0],.bool false]) w:=fun w=>ta_c_r w _
  have qc : ∀ w,(Instr.typeAssert (.iface 102 (.pointer (some ⟨Z,0,none⟩))) 78 102 true).run Tryz.prog w = .ok (.tuple #[.pointer (some ⟨Z,0,none⟩),.bool true]) w:=fun w=>ta_c_c w _
  clear hy
  go_enter Tryz.func27,Tryz.ntmps27
  go_wp2
  go_ret
  exact ⟨rfl,Below.refl _ _⟩
 | wr P b =>
  rw [hy] at hw
  obtain ⟨Z,lv,rfl,_⟩:=hw
  have qa : ∀ w,(Instr.typeAssert (.iface 105 (.agg #[.pointer (some ⟨Z,0,none⟩),.int .i64 P.st])) 78 98 true).run Tryz.prog w = .ok (.tuple #[.pointer none,.bool false]) w:=fun w=>ta_w_b w _ _
  have qb : ∀ w,(Instr.typeAssert (.iface 105 (.agg #[.pointer (some ⟨Z,0,none⟩),.int .i64 P.st])) 78 101 true).run Tryz.prog w = .ok (.tuple #[.agg #[.pointer none,.int .i64 0],.bool false]) w:=fun w=>ta_w_r w _ _
  have qc : ∀ w,(Instr.typeAssert (.iface 105 (.agg #[.pointer (some ⟨Z,0,none⟩),.int .i64 P.st])) 78 102 true).run Tryz.prog w = .ok (.tuple #[.pointer none,.bool false]) w:=fun w=>ta_w_c w _ _
  have qd : ∀ w,(Instr.typeAssert (.iface 105 (.agg #[.pointer (some ⟨Z,0,none⟩),.int .i64 P.st])) 78 105 true).run Tryz.prog w = .ok (.tuple #[.agg #[.pointer (some ⟨Z,0,none⟩),.int .i64 P.st],.bool true]) w:=fun w=>ta_w_w w _ _
  clear hy
  go_enter Tryz.func27,Tryz.ntmps27
  go_wp2
  go_ret
  exact ⟨rfl,Below.refl _ _⟩
theorem phase_any {w:World} {base T:Nat} {x:Tx} {G:List Nat} (h:TxAt w base T x G):Calls Tryz.prog 16 #[.pointer (some ⟨T,0,none⟩)] w fun e w' => e = .returned (.int .i64 x.phase)∧Below w.heap.size w w':=by
 have HP:Hid (Calls Tryz.prog 27 #[.pointer (some ⟨T,0,none⟩)] w fun e w' => e = .returned (.int .i64 x.phase)∧Below w.heap.size w w'):=phase0_any h
 clear h
 go_enter Tryz.func16,Tryz.ntmps16
 go_wp2_with fail
 refine HP.out.mono ?_
 rintro e w1 ⟨rfl,hb⟩
 go_wp2
 go_ret
 exact ⟨rfl,hb⟩
theorem start_any {w:World} {base T:Nat} {x:Tx} {G:List Nat} (h:TxAt w base T x G):Calls Tryz.prog 15 #[.pointer (some ⟨T,0,none⟩)] w fun e w' => e = .returned (.tuple #[.int .i64 x.z,.int .i64 x.seen])∧Below w.heap.size w w':=by
 obtain ⟨lg,tk,ev,wv,Gm,h'⟩:=h
 obtain ⟨x0,x1,x2,x3,x4,x5,x6,x7,x8,x9,x10,x11,x12⟩:=h'.raw.cells
 have hT:=heap_lt h'.raw
 clear h'
 go_enter Tryz.func15,Tryz.ntmps15
 go_wp2
 first | (go_ret2; exact ⟨rfl,Below.refl _ _⟩) | (go_quiet (fail); go_wp2; go_ret2; exact ⟨rfl,below_drawn (Below.refl _ _) _⟩)
theorem xreads_any {w:World} {base T:Nat} {x:Tx} {G:List Nat} (h:TxAt w base T x G):Calls Tryz.prog 12 #[.pointer (some ⟨T,0,none⟩)] w fun e w' => e = .returned (Sg.sv x.rd)∧Below w.heap.size w w':=by
 obtain ⟨lg,tk,ev,wv,Gm,h'⟩:=h
 have HRD : Hid (∀ w', Below w.heap.size w w' → Calls Tryz.prog 26 #[.pointer (some ⟨lg, 0, none⟩)] w' fun e w'' => e = .returned (.agg #[swV x.rd 0, swV x.rd 1, swV x.rd 2, swV x.rd 3, swV x.rd 4, swV x.rd 5, swV x.rd 6, swV x.rd 7]) ∧ Below w'.heap.size w' w'') := fun w' k => by
  rw [← sv_eight h'.log.ok]; exact Tl.reads_any (h'.log.below k)
 rw [sv_eight h'.log.ok]
 unfold swV at *
 obtain ⟨x0,x1,x2,x3,x4,x5,x6,x7,x8,x9,x10,x11,x12⟩:=h'.raw.cells
 have hT:=heap_lt h'.raw
 clear h' x0 x1 x2 x3 x4 x5 x6 x8 x9 x10 x11 x12
 generalize x.rd.getD 0 0=n0 at *
 generalize x.rd.getD 1 0=n1 at *
 generalize x.rd.getD 2 0=n2 at *
 generalize x.rd.getD 3 0=n3 at *
 generalize x.rd.getD 4 0=n4 at *
 generalize x.rd.getD 5 0=n5 at *
 generalize x.rd.getD 6 0=n6 at *
 generalize x.rd.getD 7 0=n7 at *
 go_enter Tryz.func12,Tryz.ntmps12
 go_wp2_with fail
 refine (HRD.out _ (below_a1 _ _)).mono ?_
 rintro e w1 ⟨rfl,hb⟩
 have HR:Hid (w1.heap[w.heap.size]? = some (.cells #[.int .u64 0,.int .u64 0,.int .u64 0,.int .u64 0,.int .u64 0,.int .u64 0,.int .u64 0,.int .u64 0] 51 (0,0))):=row_on (heap_alloc_new _ _) hb
 have HB:Hid (Below w.heap.size w w1):=below_then (below_a1 _ _) hb
 obtain ⟨⟨a0,a1,a2,a3,a4,a5,a6,a7⟩,g0,g1,g2,g3,g4,g5,g6,g7⟩:=Fe.sig_cells HR.out
 have hB:=heap_lt HR.out
 clear hb
 go_wp2
 exact Sg.ret_sig rfl rfl (Fe.laidS_row HR.out _ _ _ _ _ _ _ _) rfl rfl ⟨rfl,Fe.belowS HB.out (Nat.le_refl _) _ _ _ _ _ _ _ _⟩
theorem xwrites_any {w:World} {base T:Nat} {x:Tx} {G:List Nat} (h:TxAt w base T x G):Calls Tryz.prog 11 #[.pointer (some ⟨T,0,none⟩)] w fun e w' => ∃ v,e = .returned v∧w'.ownsRow w.heap.size 60 2 v x.tb.R.length (Tl.rowsC x.tb.R)∧Below w.heap.size w w':=by
 obtain ⟨lg,tk,ev,wv,Gm,h'⟩:=h
 have HWR:Hid (Calls Tryz.prog 25 #[.pointer (some ⟨lg,0,none⟩)] w fun e w' => ∃ v,e = .returned v∧w'.ownsRow w.heap.size 60 2 v x.tb.R.length (Tl.rowsC x.tb.R)∧Below w.heap.size w w'):=Tl.writes_any h'.log
 obtain ⟨x0,x1,x2,x3,x4,x5,x6,x7,x8,x9,x10,x11,x12⟩:=h'.raw.cells
 have hT:=heap_lt h'.raw
 clear h' x0 x1 x2 x3 x4 x5 x6 x8 x9 x10 x11 x12
 go_enter Tryz.func11,Tryz.ntmps11
 go_wp2_with fail
 refine HWR.out.mono ?_
 rintro e w1 ⟨v,rfl,ho,hb⟩
 go_wp2
 go_ret
 exact ⟨v,rfl,ho,hb⟩
def waV (a:Wa):Value:=.agg #[.int .i64 a.kind,.int .i64 a.cell,.int .i64 a.value,.int .i64 a.code]
theorem takesT {w:World} {base:Nat} {p:Value} {c r:Nat} {L:List Ac} {F:List Nat} {T:Nat} {x:Tx} {G:List Nat} (h:TM w base p c r L F T x G) (a:Wa) :
  Calls Tryz.prog 31 #[.pointer (some ⟨T,0,none⟩),p,waV a] w fun e w' => e = .returned (.bool (takesX c r x a))∧Below w.heap.size w w':=by
 have HS : Hid (∀ w', Below w.heap.size w w' → Calls Tryz.prog 44 #[p] w' fun e w'' => e = .returned (.tuple #[.int .i64 (c : Int), .int .i64 (r : Int)]) ∧ Below w'.heap.size w' w'') := fun w' k => sizes_any (h.mem.below k)
 have HP : Hid (∀ w', Below w.heap.size w w' → Calls Tryz.prog 27 #[.pointer (some ⟨T, 0, none⟩)] w' fun e w'' => e = .returned (.int .i64 x.phase) ∧ Below w'.heap.size w' w'') := fun w' k => phase0_any (h.tx.below k)
 obtain ⟨hm,⟨lg,tk,ev,wv,Gm,h'⟩,ho⟩:=h
 have HCE : Hid (∀ w', Below w.heap.size w w' → w'.cell? ⟨T, 1, none⟩ = some (.int .i64 (x.s : Int))) := fun w' k => (h'.raw.below k).cells.2.1
 obtain ⟨M,rfl⟩:=hm.ptr
 have hT:=heap_lt h'.raw
 clear h' hm ho
 obtain ⟨kd,cl,va,co⟩:=a
 unfold takesX waV
 simp only
 generalize x.phase=ph at *
 by_cases hr:r=x.s
 ·subst hr
  have dr:((x.s:Int) != (x.s:Int))=false:=by simp
  simp only [decide_true,Bool.true_and]
  go_enter Tryz.func31,Tryz.ntmps31
  go_wp2_with fail
  refine (HS.out _ (below_a1 _ _)).mono ?_
  rintro e w1 ⟨rfl,hb1⟩
  have HB1:Hid (Below w.heap.size w w1):=below_then (below_a1 _ _) hb1
  have HW1:Hid (w1.heap[w.heap.size]? = some (.cells #[.int .i64 kd,.int .i64 cl,.int .i64 va,.int .i64 co] 32 (0,0))):=row_on (heap_alloc_new _ _) hb1
  have t1:=HCE.out _ HB1.out
  have hT1:T < w1.heap.size:=Nat.lt_of_lt_of_le hT HB1.out.size
  clear hb1
  go_wp2_with fail
  refine (HP.out _ HB1.out).mono ?_
  rintro e w2 ⟨rfl,hb2⟩
  have HB2:Hid (Below w.heap.size w w2):=below_then HB1.out hb2
  have HW2:Hid (w2.heap[w.heap.size]? = some (.cells #[.int .i64 kd,.int .i64 cl,.int .i64 va,.int .i64 co] 32 (0,0))):=row_on HW1.out hb2
  have k0:w2.cell? ⟨w.heap.size,0,none⟩=some (.int .i64 kd):=by rw [cell_at HW2.out]; rfl
  have k1:w2.cell? ⟨w.heap.size,1,none⟩=some (.int .i64 cl):=by rw [cell_at HW2.out]; rfl
  have k3:w2.cell? ⟨w.heap.size,3,none⟩=some (.int .i64 co):=by rw [cell_at HW2.out]; rfl
  have hW2:=heap_lt HW2.out
  clear hb2 t1 dr
  have hc:kd=1∨kd=2∨kd=3∨kd=4∨kd=5∨(¬ kd=1 ∧ ¬ kd=2 ∧ ¬ kd=3 ∧ ¬ kd=4 ∧ ¬ kd=5):=by omega
  rcases hc with rfl | rfl | rfl | rfl | rfl | ⟨n1,n2,n3,n4,n5⟩
  ·go_wp2
   go_ret
   exact ⟨rfl,HB2.out⟩
  iterate 2
   ·by_cases e2:ph=2
    ·have q2:(ph == 2)=true:=by simpa using e2
     by_cases c0:0≤cl
     ·have q3:decide (0≤cl)=true:=by simpa using c0
      go_wp2
      go_ret
      exact ⟨by first | rfl | (rw [decide_eq_true e2,q3]; rfl),HB2.out⟩
     ·have q3:decide (0≤cl)=false:=by simpa using c0
      go_wp2
      go_ret
      exact ⟨by first | rfl | (rw [decide_eq_true e2,q3]; rfl),HB2.out⟩
    ·have q2:(ph == 2)=false:=by simpa using e2
     go_wp2
     go_ret
     exact ⟨by first | rfl | (rw [decide_eq_false e2]; rfl),HB2.out⟩
  ·go_wp2
   go_ret
   exact ⟨rfl,HB2.out⟩
  ·by_cases e2:ph=2
   ·have q2:(ph == 2)=true:=by simpa using e2
    by_cases c0:co=8
    ·have q3:(co == 8)=true:=by simpa using c0
     go_wp2
     go_ret
     exact ⟨by first | rfl | (rw [decide_eq_true e2,decide_eq_true c0]; rfl),HB2.out⟩
    ·have q3:(co == 8)=false:=by simpa using c0
     go_wp2
     go_ret
     exact ⟨by first | rfl | (rw [decide_eq_true e2,decide_eq_false c0]; rfl),HB2.out⟩
   ·have q2:(ph == 2)=false:=by simpa using e2
    go_wp2
    go_ret
    exact ⟨by first | rfl | (rw [decide_eq_false e2]; rfl),HB2.out⟩
  ·have q1:(kd == 1)=false:=by simpa using n1
   have q2:(kd == 2)=false:=by simpa using n2
   have q3:(kd == 3)=false:=by simpa using n3
   have q4:(kd == 4)=false:=by simpa using n4
   have q5:(kd == 5)=false:=by simpa using n5
   go_wp2
   go_ret
   exact ⟨by first | rfl | (rw [if_neg n1,if_neg (by omega),if_neg n4,if_neg n5]; rfl),HB2.out⟩
 ·have dr:((r:Int) == (x.s:Int))=false:=by simp; omega
  rw [decide_eq_false hr]
  clear hr
  go_enter Tryz.func31,Tryz.ntmps31
  go_wp2_with fail
  refine (HS.out _ (below_a1 _ _)).mono ?_
  rintro e w1 ⟨rfl,hb1⟩
  have HB1:Hid (Below w.heap.size w w1):=below_then (below_a1 _ _) hb1
  have t1:=HCE.out _ HB1.out
  have hT1:T < w1.heap.size:=Nat.lt_of_lt_of_le hT HB1.out.size
  clear hb1
  go_wp2
  all_goals
   go_ret
   exact ⟨rfl,HB1.out⟩
theorem row_next0 {w0 w2:World} {G G':List Nat} {B:Nat} {o:Obj} (hr:w0.heap[B]? = some o) (h1:B ∉ G) (hn:Next G G' w0 w2):w2.heap[B]? = some o∧B ∉ G' :=
 ⟨(hn.1.block B (heap_lt hr) h1).trans hr,fun e=>by
    rcases hn.2 B e with e | e
    · exact h1 e
    · have:=heap_lt hr; omega⟩
theorem open_any {w:World} {base:Nat} {p:Value} {c r:Nat} {L:List Ac} {F:List Nat} {T:Nat} {x:Tx} {G:List Nat} (h:TM w base p c r L F T x G) (hb:base≤w.heap.size) (hL:L.length < 3298534883328) (hE:x.ev.length+1 < 1073741824) (h1:1≤x.s) (h2:x.s≤16) (hx:XOk (openX x)) (hd:Wd L) (t:Int) :
  Calls Tryz.prog 32 #[.pointer (some ⟨T, 0, none⟩), p, .int .i64 t] w fun e w' => e = .returned (anV (stepX c r (openX x) L t).k (stepX c r (openX x) L t).e (stepX c r (openX x) L t).v (stepX c r (openX x) L t).y) ∧ ∃ F' G', TM w' base p c r (stepX c r (openX x) L t).L F' T (stepX c r (openX x) L t).x G' ∧ Next (G ++ F) (G' ++ F') w w' := by
 have HG : Hid (∀ w' G', TM w' base p c r L F T (openX x) G' → base ≤ w'.heap.size → Calls Tryz.prog 29 #[.pointer (some ⟨T, 0, none⟩), p, .int .i64 t] w' fun e w'' => e = .returned (anV (stepX c r (openX x) L t).k (stepX c r (openX x) L t).e (stepX c r (openX x) L t).v (stepX c r (openX x) L t).y) ∧ ∃ F' G'', TM w'' base p c r (stepX c r (openX x) L t).L F' T (stepX c r (openX x) L t).x G'' ∧ Next (G' ++ F) (G'' ++ F') w' w'') := fun w' G' hq hb' => goOn_any hq hb' hL (by simp [openX]; omega) hx (by simp [openX]) hd t
 have hlt:=h.lt
 have HLT:Hid (∀ q ∈ G++F,q < w.heap.size):=fun q hq=>(hlt q hq).2
 have HQ0:Hid (TM w base p c r L F T x G):=h
 obtain ⟨hm,⟨lg,tk,ev,wv,Gm,h'⟩,ho⟩:=h
 have HX0:Hid (TxAt' w base T x G lg tk ev wv Gm):=h'
 have HBN : Hid (∀ w', Calls Tryz.prog 45 #[.int .i64 (x.s : Int)] w' fun e w'' => e = .returned (.tuple #[.pointer (some ⟨w'.heap.size, 0, none⟩), .int .i64 0]) ∧ Be.BAt w'' w'.heap.size x.s bgNew ∧ Below w'.heap.size w' w'') := fun w' => Be.bnew_yes w' x.s h1 h2
 obtain ⟨M,rfl⟩:=hm.ptr
 obtain ⟨w0,hw0⟩ : ∃ w0,w0=w.alloc (.cells #[.int .i64 0,.int .i64 0,.int .i64 0,.bool false] 55):=⟨_,rfl⟩
 have HB0:Hid (Below w.heap.size w w0):=by rw [hw0]; exact below_a1 _ _
 have HR0:Hid (w0.heap[w.heap.size]? = some (.cells #[.int .i64 0,.int .i64 0,.int .i64 0,.bool false] 55 (0,0))∧w.heap.size ∉ G++F):=⟨by rw [hw0]; exact heap_alloc_new _ _,fun e=>by have:=HLT.out _ e; omega⟩
 have HX1:Hid (TxAt' w0 base T x G lg tk ev wv Gm):=h'.below HB0.out
 have HCE : Hid (∀ w', Below w0.heap.size w0 w' → TRaw w' T (x.s : Int) x.n x.mu (.pointer (some ⟨lg, 0, none⟩)) ev wv x.begun x.z x.seen) := fun w' k => HX1.out.raw.below k
 obtain ⟨x0,x1,x2,x3,x4,x5,x6,x7,x8,x9,x10,x11,x12⟩:=h'.raw.cells
 have hT:=heap_lt h'.raw
 have hT0:T < w0.heap.size:=Nat.lt_of_lt_of_le hT HB0.out.size
 clear h' hm ho hlt hL hx hd x0 x2 x3 x4 x5 x6 x7 x8 x9 x10 x11 x12
 generalize stepX c r (openX x) L t=a at *
 obtain ⟨x', L', kk, ee, vv, gg⟩ := a
 unfold anV at *
 simp only at HG ⊢
 go_enter Tryz.func32,Tryz.ntmps32
 go_wp2_with fail
 rw [← hw0]
 clear hw0
 refine (HBN.out _).mono ?_
 rintro e w1 ⟨rfl,hbt,hb1⟩
 have HR1:Hid (TRaw w1 T (x.s:Int) x.n x.mu (.pointer (some ⟨lg,0,none⟩)) ev wv x.begun x.z x.seen):=HCE.out _ hb1
 have HW1:Hid (∃ G2,TxAt' (w1.setCell ⟨T,9,none⟩ (.iface 98 (.pointer (some ⟨w0.heap.size,0,none⟩)))) base T { x with wy:=.bg bgNew } G2 lg tk ev (.iface 98 (.pointer (some ⟨w0.heap.size,0,none⟩))) [w0.heap.size] ∧ Next G G2 w0 (w1.setCell ⟨T,9,none⟩ (.iface 98 (.pointer (some ⟨w0.heap.size,0,none⟩))))):=by
  have ks:Keep [T] w1 (w1.setCell ⟨T,9,none⟩ (.iface 98 (.pointer (some ⟨w0.heap.size,0,none⟩)))):=(Keep.refl _ _).setCell _ _ (Or.inl (by simp))
  exact tx_way HX1.out ((tset HR1.out).2.1 _) ((Keep.of_below hb1 [T]).trans ks (fun b hb=>Or.inl hb)) ⟨_,rfl,rfl,hbt.keep ks (by simp; omega),Nat.le_trans hb HB0.out.size⟩ (fun q hq=>by simp at hq; omega) (by simp)
 obtain ⟨x0,x1,x2,x3,x4,x5,x6,x7,x8,x9,x10,x11,x12⟩:=HR1.out.cells
 have f9:=HR1.out.fz 9
 have hT1:T < w1.heap.size:=heap_lt HR1.out
 clear hbt hb1 x0 x1 x2 x3 x4 x5 x6 x7 x8 x10 x11 x12
 go_wp2_with fail
 obtain ⟨G2,q2,k2⟩:=HW1.out
 clear HW1
 obtain ⟨w2,hw2⟩ : ∃ w2,w2=w1.setCell ⟨T,9,none⟩ (.iface 98 (.pointer (some ⟨w0.heap.size,0,none⟩))):=⟨_,rfl⟩
 rw [← hw2] at q2 k2 ⊢
 have hb2:base≤w2.heap.size:=Nat.le_trans hb (Nat.le_trans HB0.out.size k2.1.size)
 refine (tx_tell0 q2 hb2 (by show x.ev.length < _; omega) { kind:=7 }).mono ?_
 rintro e w3 ⟨rfl,G3,v3,q3,k3⟩
 have k30:Next G G3 w0 w3:=k2.trans k3
 obtain ⟨m3,k33⟩:=(HQ0.out.below HB0.out).onTx (x':=openX x) (G':=G3) ⟨_,_,_,_,_,q3⟩ k30
 have HM3:Hid (TM w3 base (.pointer (some ⟨M,0,none⟩)) c r L F T (openX x) G3):=m3
 have HK3:Hid (Next (G++F) (G3++F) w0 w3):=k33
 have hb3:base≤w3.heap.size:=Nat.le_trans hb2 k3.1.size
 clear q2 k2 q3 k3 k30 m3 k33 hw2 x9 f9 HR1 HCE HX0 HX1 HQ0 HBN
 go_wp2_with fail
 refine (HG.out _ _ HM3.out hb3).mono ?_
 rintro e w4 ⟨rfl,F4,G4,q4,k4⟩
 have HQ4:Hid (TM w4 base (.pointer (some ⟨M,0,none⟩)) c r L' F4 T x' G4):=q4
 have HK4:Hid (Next (G++F) (G4++F4) w0 w4):=HK3.out.trans k4
 have HR4:Hid (w4.heap[w.heap.size]? = some (.cells #[.int .i64 0,.int .i64 0,.int .i64 0,.bool false] 55 (0,0))∧w.heap.size ∉ G4++F4):=row_next0 HR0.out.1 HR0.out.2 HK4.out
 have HN4:Hid (Next (G++F) (G4++F4) w w4):=(Next.of_below HB0.out _).trans HK4.out
 clear q4 k4
 obtain ⟨⟨a0,a1,a2,a3⟩,g0,g1,g2,g3⟩:=ans_cells HR4.out.1
 have hBa:=heap_lt HR4.out.1
 go_wp2
 have qf:=HQ4.out.other (Co.keepWB (w:=w4) (B:=w.heap.size) kk ee vv gg) (fun q hq e=>HR4.out.2 (by simp only [List.mem_singleton] at e; rw [← e]; exact hq))
 exact ret_ans rfl rfl (Co.ansW_set rfl HR4.out.1 kk ee vv gg) rfl rfl ⟨rfl,F4,G4,qf,nx_other HN4.out (Nat.le_refl _) (Co.keepWB (w:=w4) (B:=w.heap.size) kk ee vv gg)⟩
set_option linter.unusedVariables false
theorem tx_log {w w':World} {base T:Nat} {x:Tx} {G:List Nat} {lg tk:Nat} {ev wv:Value} {Gm:List Nat} {tb:Tl.Tb} {rd:List Nat} (h:TxAt' w base T x G lg tk ev wv Gm) (hl:Tl.LogAt w' lg tk tb rd) (hk:Keep [lg,tk] w w'):TxAt' w' base T { x with tb:=tb,rd:=rd } G lg tk ev wv Gm∧Next G G w w':=by
 obtain ⟨n1,n2,n3,n4,n5,n6,n7,n8⟩:=h.ne
 refine ⟨⟨h.raw.keep hk (by simp; exact ⟨n1,n2⟩),hl,own_keep h.evs hk (fun b hb=>by have:=n4 b hb; simp; exact ⟨this.2.1,this.2.2.1⟩),h.wy.keep hk (fun q hq=>by simp; exact ⟨fun e=>n6 (e ▸ hq),fun e=>n7 (e ▸ hq)⟩),h.eG,h.bT,h.bl,h.bk,h.nd⟩,hk.mono (fun b hb=>by rw [h.eG]; simp at hb ⊢; grind),fun b hb=>Or.inl hb⟩
theorem abort_any {w:World} {base:Nat} {p:Value} {c r:Nat} {L:List Ac} {F:List Nat} {T:Nat} {x:Tx} {G:List Nat} (h:TM w base p c r L F T x G) (hb:base≤w.heap.size) (hE:x.ev.length < 1073741824) (why:Int) :
  Calls Tryz.prog 36 #[.pointer (some ⟨T, 0, none⟩), .int .i64 why] w fun e w' => e = .returned (anV 4 why 0 false) ∧ ∃ G', TM w' base p c r L F T (x.finis why) G' ∧ Next (G ++ F) (G' ++ F) w w' := by
 have hlt:=h.lt
 have HLT:Hid (∀ q ∈ G++F,q < w.heap.size):=fun q hq=>(hlt q hq).2
 have HQ0:Hid (TM w base p c r L F T x G):=h
 clear hlt
 obtain ⟨w0,hw0⟩ : ∃ w0,w0=w.alloc (.cells #[.int .i64 0,.int .i64 0,.int .i64 0,.bool false] 55):=⟨_,rfl⟩
 have HB0:Hid (Below w.heap.size w w0):=by rw [hw0]; exact below_a1 _ _
 have HR0:Hid (w0.heap[w.heap.size]? = some (.cells #[.int .i64 0,.int .i64 0,.int .i64 0,.bool false] 55 (0,0))∧w.heap.size ∉ G++F):=⟨by rw [hw0]; exact heap_alloc_new _ _,fun e=>by have:=HLT.out _ e; omega⟩
 have HEN : Hid (Calls Tryz.prog 41 #[.pointer (some ⟨T, 0, none⟩), .int .i64 why] w0 fun e w' => e = .returned (.tuple #[]) ∧ ∃ G', TxAt w' base T (x.finis why) G' ∧ Next G G' w0 w') := end_any (h.tx.below HB0.out) (Nat.le_trans hb HB0.out.size) hE why
 clear h
 unfold anV
 go_enter Tryz.func36,Tryz.ntmps36
 go_wp2_with fail
 rw [← hw0]
 clear hw0
 refine HEN.out.mono ?_
 rintro e w1 ⟨rfl,G1,q1,k1⟩
 obtain ⟨m1,k11⟩:=(HQ0.out.below HB0.out).onTx q1 k1
 have HQN:Hid (TM w1 base p c r L F T (x.finis why) G1):=m1
 have HKN:Hid (Next (G++F) (G1++F) w0 w1):=k11
 clear q1 k1 m1 k11
 have HRN:Hid (w1.heap[w.heap.size]? = some (.cells #[.int .i64 0,.int .i64 0,.int .i64 0,.bool false] 55 (0,0))∧w.heap.size ∉ G1++F):=row_next0 HR0.out.1 HR0.out.2 HKN.out
 have HNN:Hid (Next (G++F) (G1++F) w w1):=(Next.of_below HB0.out _).trans HKN.out
 obtain ⟨⟨a0,a1,a2,a3⟩,g0,g1,g2,g3⟩:=ans_cells HRN.out.1
 have hBa:=heap_lt HRN.out.1
 go_wp2
 have qf:=HQN.out.other (Co.keepWB (w:=w1) (B:=w.heap.size) 4 why 0 false) (fun q hq e=>HRN.out.2 (by simp only [List.mem_singleton] at e; rw [← e]; exact hq))
 exact ret_ans rfl rfl (Co.ansW_set rfl HRN.out.1 4 why 0 false) rfl rfl ⟨rfl,G1,qf,nx_other HNN.out (Nat.le_refl _) (Co.keepWB (w:=w1) (B:=w.heap.size) 4 why 0 false)⟩
theorem wrote_any {w:World} {base:Nat} {p:Value} {c r:Nat} {L:List Ac} {F:List Nat} {T:Nat} {x:Tx} {G:List Nat} (h:TM w base p c r L F T x G) (hb:base≤w.heap.size) (hE:x.ev.length < 1073741824) (cl va:Int) :
  Calls Tryz.prog 34 #[.pointer (some ⟨T, 0, none⟩), .int .i64 cl, .int .i64 va] w fun e w' => e = .returned (if Tl.writeE x.tb cl = 5 then anV 4 5 0 false else anV 3 0 0 false) ∧ ∃ G', TM w' base p c r L F T (if Tl.writeE x.tb cl = 5 then { x with tb := Tl.put x.tb cl va }.finis 5 else { x with tb := Tl.put x.tb cl va }.tell { kind := 3, cell := cl, value := va }) G' ∧ Next (G ++ F) (G' ++ F) w w' := by
 have hlt:=h.lt
 have HLT:Hid (∀ q ∈ G++F,q < w.heap.size):=fun q hq=>(hlt q hq).2
 have HQ0:Hid (TM w base p c r L F T x G):=h
 clear hlt
 obtain ⟨w0,hw0⟩ : ∃ w0,w0=w.alloc (.cells #[.int .i64 0,.int .i64 0,.int .i64 0,.bool false] 55):=⟨_,rfl⟩
 have HB0:Hid (Below w.heap.size w w0):=by rw [hw0]; exact below_a1 _ _
 have HR0:Hid (w0.heap[w.heap.size]? = some (.cells #[.int .i64 0,.int .i64 0,.int .i64 0,.bool false] 55 (0,0))∧w.heap.size ∉ G++F):=⟨by rw [hw0]; exact heap_alloc_new _ _,fun e=>by have:=HLT.out _ e; omega⟩
 obtain ⟨hm,⟨lg,tk,ev,wv,Gm,h'⟩,ho⟩:=h
 have HX1:Hid (TxAt' w0 base T x G lg tk ev wv Gm):=h'.below HB0.out
 have HWR : Hid (Calls Tryz.prog 50 #[.pointer (some ⟨lg, 0, none⟩), .int .i64 cl, .int .i64 va] w0 fun e w' => e = .returned (.int .i64 (Tl.writeE x.tb cl)) ∧ ∃ G', TxAt' w' base T { x with tb := Tl.put x.tb cl va } G' lg tk ev wv Gm ∧ TM w' base p c r L F T { x with tb := Tl.put x.tb cl va } G' ∧ Next (G ++ F) (G' ++ F) w0 w') := by
  refine (Tl.write_any HX1.out.log cl va).mono ?_
  rintro e w' ⟨rfl,l1,k1⟩
  obtain ⟨t1,t2⟩:=tx_log HX1.out l1 ((tl_keep k1).mono (fun b hb=>by simp at hb ⊢; exact Or.inr hb))
  obtain ⟨m1,m2⟩:=(HQ0.out.below HB0.out).onTx ⟨_,_,_,_,_,t1⟩ t2
  exact ⟨rfl,G,t1,m1,m2⟩
 have HBB:Hid (base≤w0.heap.size):=Nat.le_trans hb HB0.out.size
 obtain ⟨x0,x1,x2,x3,x4,x5,x6,x7,x8,x9,x10,x11,x12⟩:=h'.raw.cells
 have hT:=heap_lt h'.raw
 clear h' hm ho x0 x1 x2 x3 x4 x5 x6 x8 x9 x10 x11 x12
 unfold anV
 generalize Tl.writeE x.tb cl=we at *
 by_cases h5:we=5
 ·subst h5
  rw [if_pos rfl,if_pos rfl]
  go_enter Tryz.func34,Tryz.ntmps34
  go_wp2_with fail
  rw [← hw0]
  clear hw0
  refine HWR.out.mono ?_
  rintro e w1 ⟨rfl,G1,q1,m1,k1⟩
  have HM1:Hid (TM w1 base p c r L F T { x with tb:=Tl.put x.tb cl va } G1):=m1
  have HK1:Hid (Next (G++F) (G1++F) w0 w1):=k1
  have hb1:base≤w1.heap.size:=Nat.le_trans HBB.out k1.1.size
  clear q1 m1 k1
  go_wp2_with fail
  refine (abort_any HM1.out hb1 hE 5).mono ?_
  unfold anV
  rintro e w2 ⟨rfl,G2,q2,k2⟩
  have HQN:Hid (TM w2 base p c r L F T ({ x with tb:=Tl.put x.tb cl va }.finis 5) G2):=q2
  have HKN:Hid (Next (G++F) (G2++F) w0 w2):=HK1.out.trans k2
  clear q2 k2
  have HRN:Hid (w2.heap[w.heap.size]? = some (.cells #[.int .i64 0,.int .i64 0,.int .i64 0,.bool false] 55 (0,0))∧w.heap.size ∉ G2++F):=row_next0 HR0.out.1 HR0.out.2 HKN.out
  have HNN:Hid (Next (G++F) (G2++F) w w2):=(Next.of_below HB0.out _).trans HKN.out
  obtain ⟨⟨a0,a1,a2,a3⟩,g0,g1,g2,g3⟩:=ans_cells HRN.out.1
  have hBa:=heap_lt HRN.out.1
  go_wp2
  have qf:=HQN.out.other (Co.keepWB (w:=w2) (B:=w.heap.size) 4 5 0 false) (fun q hq e=>HRN.out.2 (by simp only [List.mem_singleton] at e; rw [← e]; exact hq))
  exact ret_ans rfl rfl (Co.ansW_set rfl HRN.out.1 4 5 0 false) rfl rfl ⟨rfl,G2,qf,nx_other HNN.out (Nat.le_refl _) (Co.keepWB (w:=w2) (B:=w.heap.size) 4 5 0 false)⟩
 ·rw [if_neg h5,if_neg h5]
  have d5:(we == 5)=false:=by simpa using h5
  go_enter Tryz.func34,Tryz.ntmps34
  go_wp2_with fail
  rw [← hw0]
  clear hw0
  refine HWR.out.mono ?_
  rintro e w1 ⟨rfl,G1,q1,m1,k1⟩
  have HM1:Hid (TM w1 base p c r L F T { x with tb:=Tl.put x.tb cl va } G1):=m1
  have HK1:Hid (Next (G++F) (G1++F) w0 w1):=k1
  have HTL : Hid (Calls Tryz.prog 46 #[.pointer (some ⟨T, 0, none⟩), .agg #[.int .i64 0, .int .i64 0, .int .i64 0, .int .i64 3, .int .i64 cl, .int .i64 va, .bool false, .int .i64 0, .int .i64 0, .int .i64 0, .int .u64 0, .int .u64 0, .int .u64 0, .int .u64 0, .int .u64 0, .int .u64 0, .int .u64 0, .int .u64 0, .int .i64 0]] w1 fun e w'' => e = .returned (.tuple #[]) ∧ ∃ G', TxAt w'' base T ({ x with tb := Tl.put x.tb cl va }.tell { kind := 3, cell := cl, value := va }) G' ∧ Next G1 G' w1 w'') := tx_tell m1.tx (Nat.le_trans HBB.out k1.1.size) hE { kind := 3, cell := cl, value := va }
  clear q1 m1 k1
  go_wp2_with fail
  refine HTL.out.mono ?_
  rintro e w2 ⟨rfl,G2,q2,k2⟩
  obtain ⟨m2,k22⟩:=HM1.out.onTx q2 k2
  have HQN:Hid (TM w2 base p c r L F T ({ x with tb:=Tl.put x.tb cl va }.tell { kind:=3,cell:=cl,value:=va }) G2):=m2
  have HKN:Hid (Next (G++F) (G2++F) w0 w2):=HK1.out.trans k22
  clear q2 k2 m2 k22
  have HRN:Hid (w2.heap[w.heap.size]? = some (.cells #[.int .i64 0,.int .i64 0,.int .i64 0,.bool false] 55 (0,0))∧w.heap.size ∉ G2++F):=row_next0 HR0.out.1 HR0.out.2 HKN.out
  have HNN:Hid (Next (G++F) (G2++F) w w2):=(Next.of_below HB0.out _).trans HKN.out
  obtain ⟨⟨a0,a1,a2,a3⟩,g0,g1,g2,g3⟩:=ans_cells HRN.out.1
  have hBa:=heap_lt HRN.out.1
  go_wp2
  have qf:=HQN.out.other (Co.keepWB (w:=w2) (B:=w.heap.size) 3 0 0 false) (fun q hq e=>HRN.out.2 (by simp only [List.mem_singleton] at e; rw [← e]; exact hq))
  exact ret_ans rfl rfl (Co.ansW_set rfl HRN.out.1 3 0 0 false) rfl rfl ⟨rfl,G2,qf,nx_other HNN.out (Nat.le_refl _) (Co.keepWB (w:=w2) (B:=w.heap.size) 3 0 0 false)⟩
theorem readO_any {w:World} {base:Nat} {p:Value} {c r:Nat} {L:List Ac} {F:List Nat} {T:Nat} {x:Tx} {G:List Nat} (h:TM w base p c r L F T x G) (hb:base≤w.heap.size) (hE:x.ev.length < 1073741824) {cl:Int} (hy:Tl.getY x.tb cl=true) (t:Int) :
  Calls Tryz.prog 33 #[.pointer (some ⟨T, 0, none⟩), p, .int .i64 t, .int .i64 cl] w fun e w' => e = .returned (anV 3 0 (Tl.getV x.tb cl) false) ∧ ∃ G', TM w' base p c r L F T (x.tell (ownE x cl)) G' ∧ Next (G ++ F) (G' ++ F) w w' := by
 have hlt:=h.lt
 have HLT:Hid (∀ q ∈ G++F,q < w.heap.size):=fun q hq=>(hlt q hq).2
 have HQ0:Hid (TM w base p c r L F T x G):=h
 clear hlt
 obtain ⟨w0,hw0⟩ : ∃ w0,w0=w.alloc (.cells #[.int .i64 0,.int .i64 0,.int .i64 0,.bool false] 55):=⟨_,rfl⟩
 have HB0:Hid (Below w.heap.size w w0):=by rw [hw0]; exact below_a1 _ _
 have HR0:Hid (w0.heap[w.heap.size]? = some (.cells #[.int .i64 0,.int .i64 0,.int .i64 0,.bool false] 55 (0,0))∧w.heap.size ∉ G++F):=⟨by rw [hw0]; exact heap_alloc_new _ _,fun e=>by have:=HLT.out _ e; omega⟩
 obtain ⟨hm,⟨lg,tk,ev,wv,Gm,h'⟩,ho⟩:=h
 have HX1:Hid (TxAt' w0 base T x G lg tk ev wv Gm):=h'.below HB0.out
 have HBB:Hid (base≤w0.heap.size):=Nat.le_trans hb HB0.out.size
 have HOW:Hid (Calls Tryz.prog 47 #[.pointer (some ⟨lg,0,none⟩),.int .i64 cl] w0 fun e w' => e = .returned (.tuple #[.int .i64 (Tl.getV x.tb cl),.bool true])∧Below w0.heap.size w0 w'):=by rw [← hy]; exact Tl.own_any HX1.out.log cl
 have HTL : Hid (∀ w', Below w0.heap.size w0 w' → Calls Tryz.prog 46 #[.pointer (some ⟨T, 0, none⟩), .agg #[.int .i64 0, .int .i64 0, .int .i64 0, .int .i64 2, .int .i64 cl, .int .i64 (Tl.getV x.tb cl), .bool true, .int .i64 x.z, .int .i64 x.seen, .int .i64 0, .int .u64 0, .int .u64 0, .int .u64 0, .int .u64 0, .int .u64 0, .int .u64 0, .int .u64 0, .int .u64 0, .int .i64 0]] w' fun e w'' => e = .returned (.tuple #[]) ∧ ∃ G' v', TxAt' w'' base T (x.tell (ownE x cl)) G' lg tk v' wv Gm ∧ Next G G' w' w'') := fun w' k => tx_tell0 (HX1.out.below k) (Nat.le_trans HBB.out k.size) hE (ownE x cl)
 have HCE : Hid (∀ w', Below w0.heap.size w0 w' → TRaw w' T (x.s : Int) x.n x.mu (.pointer (some ⟨lg, 0, none⟩)) ev wv x.begun x.z x.seen) := fun w' k => HX1.out.raw.below k
 have HCC : Hid (∀ w' G' v', TxAt' w' base T (x.tell (ownE x cl)) G' lg tk v' wv Gm → w'.cell? ⟨T, 11, none⟩ = some (.int .i64 x.z) ∧ w'.cell? ⟨T, 12, none⟩ = some (.int .i64 x.seen)) := fun w' G' v' q => q.raw.cells.2.2.2.2.2.2.2.2.2.2.2
 obtain ⟨M,rfl⟩:=hm.ptr
 obtain ⟨x0,x1,x2,x3,x4,x5,x6,x7,x8,x9,x10,x11,x12⟩:=h'.raw.cells
 have hT:=heap_lt h'.raw
 clear h' hm ho x0 x1 x2 x3 x4 x5 x6 x8 x9 x10 x11 x12 hy
 unfold anV
 generalize Tl.getV x.tb cl=gv at *
 go_enter Tryz.func33,Tryz.ntmps33
 go_wp2_with fail
 rw [← hw0]
 clear hw0
 refine HOW.out.mono ?_
 rintro e w1 ⟨rfl,hb1⟩
 obtain ⟨_,_,_,_,_,_,_,_,_,_,_,y11,y12⟩:=(HCE.out _ hb1).cells
 have hT1:T < w1.heap.size:=heap_lt (HCE.out _ hb1)
 have HB1:Hid (Below w0.heap.size w0 w1):=hb1
 clear x7 hb1 HOW HCE
 go_wp2_with fail
 go_region_held3 (fun w' => w'.cell? ⟨T,11,none⟩=some (.int .i64 x.z)∧w'.cell? ⟨T,12,none⟩=some (.int .i64 x.seen)) (first | go_keep | exact hS) (first
    | (go_at_call 46; refine (HTL.out _ (below_then HB1.out (bl_drew _))).mono ?_; rintro e w5 ⟨rfl,G5,v5,q5,k5⟩; have hS:=HCC.out _ _ _ q5))
 obtain ⟨m5,k55⟩:=(HQ0.out.below HB0.out).onTx (x':=x.tell (ownE x cl)) (G':=G5) ⟨_,_,_,_,_,q5⟩ ((Next.of_below (below_then HB1.out (bl_drew _)) _).trans k5)
 have HQN:Hid (TM w5 base (.pointer (some ⟨M,0,none⟩)) c r L F T (x.tell (ownE x cl)) G5):=m5
 have HKN:Hid (Next (G++F) (G5++F) w0 w5):=k55
 clear q5 k5 m5 k55 hS y11 y12
 have HRN:Hid (w5.heap[w.heap.size]? = some (.cells #[.int .i64 0,.int .i64 0,.int .i64 0,.bool false] 55 (0,0))∧w.heap.size ∉ G5++F):=row_next0 HR0.out.1 HR0.out.2 HKN.out
 have HNN:Hid (Next (G++F) (G5++F) w w5):=(Next.of_below HB0.out _).trans HKN.out
 obtain ⟨⟨a0,a1,a2,a3⟩,g0,g1,g2,g3⟩:=ans_cells HRN.out.1
 have hBa:=heap_lt HRN.out.1
 go_wp2
 have qf:=HQN.out.other (Co.keepWB (w:=w5) (B:=w.heap.size) 3 0 gv false) (fun q hq e=>HRN.out.2 (by simp only [List.mem_singleton] at e; rw [← e]; exact hq))
 exact ret_ans rfl rfl (Co.ansW_set rfl HRN.out.1 3 0 gv false) rfl rfl ⟨rfl,G5,qf,nx_other HNN.out (Nat.le_refl _) (Co.keepWB (w:=w5) (B:=w.heap.size) 3 0 gv false)⟩
theorem readF_any {w:World} {base:Nat} {p:Value} {c r:Nat} {L:List Ac} {F:List Nat} {T:Nat} {x:Tx} {G:List Nat} (h:TM w base p c r L F T x G) (hb:base≤w.heap.size) (hL:L.length < 3298534883328) (hE:x.ev.length < 1073741824) (h1:1≤x.s) (h2:x.s≤16) (hz0:0≤x.z) (hz1:x.z≤9223372036854775807) (hd:Wd L) {cl:Int} (c0:0≤cl) (c1:cl < 1024) (hx:XOk (readX x cl)) (hy:Tl.getY x.tb cl=false) (t:Int) :
  Calls Tryz.prog 33 #[.pointer (some ⟨T, 0, none⟩), p, .int .i64 t, .int .i64 cl] w fun e w' => e = .returned (anV (stepX c r (readX x cl) L t).k (stepX c r (readX x cl) L t).e (stepX c r (readX x cl) L t).v (stepX c r (readX x cl) L t).y) ∧ ∃ F' G', TM w' base p c r (stepX c r (readX x cl) L t).L F' T (stepX c r (readX x cl) L t).x G' ∧ Next (G ++ F) (G' ++ F') w w' := by
 have HG : Hid (∀ w' G', TM w' base p c r L F T (readX x cl) G' → base ≤ w'.heap.size → Calls Tryz.prog 29 #[.pointer (some ⟨T, 0, none⟩), p, .int .i64 t] w' fun e w'' => e = .returned (anV (stepX c r (readX x cl) L t).k (stepX c r (readX x cl) L t).e (stepX c r (readX x cl) L t).v (stepX c r (readX x cl) L t).y) ∧ ∃ F' G'', TM w'' base p c r (stepX c r (readX x cl) L t).L F' T (stepX c r (readX x cl) L t).x G'' ∧ Next (G' ++ F) (G'' ++ F') w' w'') := fun w' G' hq hb' => goOn_any hq hb' hL hE hx (by simp [readX]) hd t
 have hlt:=h.lt
 have HLT:Hid (∀ q ∈ G++F,q < w.heap.size):=fun q hq=>(hlt q hq).2
 have HQ0:Hid (TM w base p c r L F T x G):=h
 clear hlt
 obtain ⟨w0,hw0⟩ : ∃ w0,w0=w.alloc (.cells #[.int .i64 0,.int .i64 0,.int .i64 0,.bool false] 55):=⟨_,rfl⟩
 have HB0:Hid (Below w.heap.size w w0):=by rw [hw0]; exact below_a1 _ _
 have HR0:Hid (w0.heap[w.heap.size]? = some (.cells #[.int .i64 0,.int .i64 0,.int .i64 0,.bool false] 55 (0,0))∧w.heap.size ∉ G++F):=⟨by rw [hw0]; exact heap_alloc_new _ _,fun e=>by have:=HLT.out _ e; omega⟩
 obtain ⟨hm,⟨lg,tk,ev,wv,Gm,h'⟩,ho⟩:=h
 have HX1:Hid (TxAt' w0 base T x G lg tk ev wv Gm):=h'.below HB0.out
 have HBB:Hid (base≤w0.heap.size):=Nat.le_trans hb HB0.out.size
 have HOW:Hid (Calls Tryz.prog 47 #[.pointer (some ⟨lg,0,none⟩),.int .i64 cl] w0 fun e w' => e = .returned (.tuple #[.int .i64 (Tl.getV x.tb cl),.bool false])∧Below w0.heap.size w0 w'):=by rw [← hy]; exact Tl.own_any HX1.out.log cl
 have HRE : Hid (∀ w', Below w0.heap.size w0 w' → Calls Tryz.prog 48 #[.pointer (some ⟨lg, 0, none⟩), .int .i64 cl] w' fun e w'' => e = .returned (.tuple #[]) ∧ TxAt' w'' base T { x with rd := Tl.readR x.rd cl } G lg tk ev wv Gm ∧ Next G G w0 w'') := fun w' k => by
  refine (Tl.read_any (HX1.out.below k).log cl).mono ?_
  rintro e w'' ⟨rfl,l1,k1⟩
  obtain ⟨t1,t2⟩:=tx_log (HX1.out.below k) l1 ((tl_keep k1).mono (fun b hb=>by simp at hb ⊢; exact Or.inl hb))
  exact ⟨rfl,t1,(Next.of_below k _).trans t2⟩
 have hro:Sg.Ok (Tl.readR x.rd cl):=Tl.readR_ok h'.log.ok cl
 have HFN : Hid (∀ w', Calls Tryz.prog 49 #[.int .i64 (x.s : Int), .int .i64 x.z, .agg #[swV (Tl.readR x.rd cl) 0, swV (Tl.readR x.rd cl) 1, swV (Tl.readR x.rd cl) 2, swV (Tl.readR x.rd cl) 3, swV (Tl.readR x.rd cl) 4, swV (Tl.readR x.rd cl) 5, swV (Tl.readR x.rd cl) 6, swV (Tl.readR x.rd cl) 7], .int .i64 cl] w' fun e w'' => ∃ X, e = .returned (.tuple #[.pointer (some ⟨X, 0, none⟩), .int .i64 0]) ∧ w'.heap.size ≤ X ∧ Fe.KAt w'' X (readP x cl) (Fe.ckNew (readP x cl)) ∧ Below w'.heap.size w' w'') := fun w' => Fe.fnew_yes w' h1 h2 hz0 hz1 hro c0 c1
 have HRD : Hid (∀ w2 w', TxAt' w2 base T { x with rd := Tl.readR x.rd cl } G lg tk ev wv Gm → Below w2.heap.size w2 w' → Calls Tryz.prog 26 #[.pointer (some ⟨lg, 0, none⟩)] w' fun e w'' => e = .returned (.agg #[swV (Tl.readR x.rd cl) 0, swV (Tl.readR x.rd cl) 1, swV (Tl.readR x.rd cl) 2, swV (Tl.readR x.rd cl) 3, swV (Tl.readR x.rd cl) 4, swV (Tl.readR x.rd cl) 5, swV (Tl.readR x.rd cl) 6, swV (Tl.readR x.rd cl) 7]) ∧ Below w'.heap.size w' w'') := fun w2 w' q k => by
  rw [← sv_eight hro]; exact Tl.reads_any (q.log.below k)
 have HCE : Hid (∀ w', Below w0.heap.size w0 w' → TRaw w' T (x.s : Int) x.n x.mu (.pointer (some ⟨lg, 0, none⟩)) ev wv x.begun x.z x.seen) := fun w' k => HX1.out.raw.below k
 obtain ⟨M,rfl⟩:=hm.ptr
 obtain ⟨x0,x1,x2,x3,x4,x5,x6,x7,x8,x9,x10,x11,x12⟩:=h'.raw.cells
 have hT:=heap_lt h'.raw
 clear h' hm ho x0 x1 x2 x3 x4 x5 x6 x8 x9 x10 x11 x12 hy hro hx hd hL hE h1 h2 hz0 hz1 c0 c1
 generalize stepX c r (readX x cl) L t=a at *
 obtain ⟨x', L', kk, ee, vv, gg⟩ := a
 unfold anV at *
 simp only at HG ⊢
 go_enter Tryz.func33,Tryz.ntmps33
 go_wp2_with fail
 rw [← hw0]
 clear hw0
 refine HOW.out.mono ?_
 rintro e w1 ⟨rfl,hb1⟩
 obtain ⟨_,_,_,_,_,_,_,y7,_,_,_,_,_⟩:=(HCE.out _ hb1).cells
 have hT1:T < w1.heap.size:=heap_lt (HCE.out _ hb1)
 clear x7 HOW
 go_wp2_with fail
 refine (HRE.out _ hb1).mono ?_
 rintro e w2 ⟨rfl,q2,k2⟩
 have HX2:Hid (TxAt' w2 base T { x with rd:=Tl.readR x.rd cl } G lg tk ev wv Gm):=q2
 have HK2:Hid (Next G G w0 w2):=k2
 have HC2 : Hid (∀ w', Below w2.heap.size w2 w' → TRaw w' T (x.s : Int) x.n x.mu (.pointer (some ⟨lg, 0, none⟩)) ev wv x.begun x.z x.seen) := fun w' k => HX2.out.raw.below k
 obtain ⟨_,z1,_,_,_,_,_,z7,_,_,_,z11,_⟩:=(HC2.out w2 (Below.refl _ _)).cells
 have hT2:T < w2.heap.size:=heap_lt q2.raw
 clear y7 hb1 q2 k2 hT1 HRE HCE HX1
 go_wp2_with fail
 go_region_held3 (fun w' => w'.cell? ⟨T,1,none⟩=some (.int .i64 (x.s:Int))∧w'.cell? ⟨T,7,none⟩=some (.pointer (some ⟨lg,0,none⟩))∧w'.cell? ⟨T,11,none⟩=some (.int .i64 x.z)) (first | go_keep | exact hS) (first
    | (go_at_call 26; refine (HRD.out _ _ HX2.out (bl_drew _)).mono ?_; rintro e w3 ⟨rfl,hb3⟩; have hB3:Below w2.heap.size w2 w3:=below_then (bl_drew _) hb3; obtain ⟨_,s1,_,_,_,_,_,s7,_,_,_,s11,_⟩:=(HC2.out _ hB3).cells; have hS:=And.intro s1 (And.intro s7 s11); clear s1 s7 s11)
    | (go_at_call 49; refine (HFN.out _).mono ?_; rintro e w4 ⟨X,rfl,hX1,hX2,hb4⟩; have hB4:Below w2.heap.size w2 w4:=below_then hB3 hb4; obtain ⟨_,s1,_,_,_,_,_,s7,_,_,_,s11,_⟩:=(HC2.out _ hB4).cells; have hS:=And.intro s1 (And.intro s7 s11); clear s1 s7 s11))
 have HR4:Hid (TRaw w4 T (x.s:Int) x.n x.mu (.pointer (some ⟨lg,0,none⟩)) ev wv x.begun x.z x.seen):=HC2.out _ hB4
 have HW4:Hid (∃ G5,TxAt' (w4.setCell ⟨T,9,none⟩ (.iface 101 (.agg #[.pointer (some ⟨X,0,none⟩),.int .i64 cl]))) base T (readX x cl) G5 lg tk ev (.iface 101 (.agg #[.pointer (some ⟨X,0,none⟩),.int .i64 cl])) [X] ∧ Next G G5 w0 (w4.setCell ⟨T,9,none⟩ (.iface 101 (.agg #[.pointer (some ⟨X,0,none⟩),.int .i64 cl])))):=by
  have ks:Keep [T] w4 (w4.setCell ⟨T,9,none⟩ (.iface 101 (.agg #[.pointer (some ⟨X,0,none⟩),.int .i64 cl]))):=(Keep.refl _ _).setCell _ _ (Or.inl (by simp))
  have hs3:=hB3.size
  obtain ⟨G5,a1,a2⟩:=tx_way (y:=.rd (readP x cl) (Fe.ckNew (readP x cl))) HX2.out ((tset HR4.out).2.1 _) ((Keep.of_below hB4 [T]).trans ks (fun b hb=>Or.inl hb)) ⟨X,rfl,rfl,hX2.keep ks (by simp; omega),Nat.le_trans HBB.out (Nat.le_trans HK2.out.1.size (by omega))⟩ (fun q hq=>by simp at hq; omega) (by simp)
  exact ⟨G5,a1,HK2.out.trans a2⟩
 obtain ⟨_,_,_,_,_,_,_,_,_,v9,_,_,_⟩:=HR4.out.cells
 have f9:=HR4.out.fz 9
 have hT4:T < w4.heap.size:=heap_lt HR4.out
 clear hS hX1 hX2 hb3 hb4 hB3 hB4 z1 z7 z11 hT2
 go_wp2_with fail
 obtain ⟨G5,q5,k5⟩:=HW4.out
 clear HW4
 obtain ⟨w5,hw5⟩ : ∃ w5,w5=w4.setCell ⟨T,9,none⟩ (.iface 101 (.agg #[.pointer (some ⟨X,0,none⟩),.int .i64 cl])):=⟨_,rfl⟩
 rw [← hw5] at q5 k5 ⊢
 obtain ⟨m5,k55⟩:=(HQ0.out.below HB0.out).onTx (x':=readX x cl) (G':=G5) ⟨_,_,_,_,_,q5⟩ k5
 have HM3:Hid (TM w5 base (.pointer (some ⟨M,0,none⟩)) c r L F T (readX x cl) G5):=m5
 have HK3:Hid (Next (G++F) (G5++F) w0 w5):=k55
 have hb3:base≤w5.heap.size:=Nat.le_trans HBB.out k5.1.size
 clear q5 k5 m5 k55 hw5 v9 f9
 refine (HG.out _ _ HM3.out hb3).mono ?_
 rintro e w4 ⟨rfl,F4,G4,q4,k4⟩
 have HQN:Hid (TM w4 base (.pointer (some ⟨M,0,none⟩)) c r L' F4 T x' G4):=q4
 have HKN:Hid (Next (G++F) (G4++F4) w0 w4):=HK3.out.trans k4
 clear q4 k4
 have HRN:Hid (w4.heap[w.heap.size]? = some (.cells #[.int .i64 0,.int .i64 0,.int .i64 0,.bool false] 55 (0,0))∧w.heap.size ∉ G4++F4):=row_next0 HR0.out.1 HR0.out.2 HKN.out
 have HNN:Hid (Next (G++F) (G4++F4) w w4):=(Next.of_below HB0.out _).trans HKN.out
 obtain ⟨⟨a0,a1,a2,a3⟩,g0,g1,g2,g3⟩:=ans_cells HRN.out.1
 have hBa:=heap_lt HRN.out.1
 go_wp2
 have qf:=HQN.out.other (Co.keepWB (w:=w4) (B:=w.heap.size) kk ee vv gg) (fun q hq e=>HRN.out.2 (by simp only [List.mem_singleton] at e; rw [← e]; exact hq))
 exact ret_ans rfl rfl (Co.ansW_set rfl HRN.out.1 kk ee vv gg) rfl rfl ⟨rfl,F4,G4,qf,nx_other HNN.out (Nat.le_refl _) (Co.keepWB (w:=w4) (B:=w.heap.size) kk ee vv gg)⟩
theorem commN_any {w:World} {base:Nat} {p:Value} {c r:Nat} {L:List Ac} {F:List Nat} {T:Nat} {x:Tx} {G:List Nat} (h:TM w base p c r L F T x G) (hb:base≤w.heap.size) (hE:x.ev.length < 1073741824) (hy:x.tb.R.length=0) (t:Int) :
  Calls Tryz.prog 35 #[.pointer (some ⟨T, 0, none⟩), p, .int .i64 t] w fun e w' => e = .returned (anV 3 0 0 false) ∧ ∃ G', TM w' base p c r L F T (x.finis 0) G' ∧ Next (G ++ F) (G' ++ F) w w' := by
 have hlt:=h.lt
 have HLT:Hid (∀ q ∈ G++F,q < w.heap.size):=fun q hq=>(hlt q hq).2
 have HQ0:Hid (TM w base p c r L F T x G):=h
 clear hlt
 obtain ⟨w0,hw0⟩ : ∃ w0,w0=w.alloc (.cells #[.int .i64 0,.int .i64 0,.int .i64 0,.bool false] 55):=⟨_,rfl⟩
 have HB0:Hid (Below w.heap.size w w0):=by rw [hw0]; exact below_a1 _ _
 have HR0:Hid (w0.heap[w.heap.size]? = some (.cells #[.int .i64 0,.int .i64 0,.int .i64 0,.bool false] 55 (0,0))∧w.heap.size ∉ G++F):=⟨by rw [hw0]; exact heap_alloc_new _ _,fun e=>by have:=HLT.out _ e; omega⟩
 have HEN : Hid (∀ w', Below w0.heap.size w0 w' → Calls Tryz.prog 41 #[.pointer (some ⟨T, 0, none⟩), .int .i64 0] w' fun e w'' => e = .returned (.tuple #[]) ∧ ∃ G', TxAt w'' base T (x.finis 0) G' ∧ Next G G' w' w'') := fun w' k => end_any ((h.tx.below HB0.out).below k) (Nat.le_trans hb (Nat.le_trans HB0.out.size k.size)) hE 0
 obtain ⟨hm,⟨lg,tk,ev,wv,Gm,h'⟩,ho⟩:=h
 have HX1:Hid (TxAt' w0 base T x G lg tk ev wv Gm):=h'.below HB0.out
 have HLN:Hid (Calls Tryz.prog 51 #[.pointer (some ⟨tk,0,none⟩)] w0 fun e w' => e = .returned (.int .i64 0)∧Below w0.heap.size w0 w'):=by
  refine (Tl.len_any HX1.out.log.tab).mono ?_
  rintro e w' ⟨rfl,rfl⟩
  exact ⟨by rw [hy]; rfl,Below.refl _ _⟩
 obtain ⟨M,rfl⟩:=hm.ptr
 have y0:w0.cell? ⟨lg,0,none⟩=some (.pointer (some ⟨tk,0,none⟩)):=HX1.out.log.ptr
 have y7:w0.cell? ⟨T,7,none⟩=some (.pointer (some ⟨lg,0,none⟩)):=HX1.out.raw.cells.2.2.2.2.2.2.2.1
 rw [hw0] at y0 y7
 have hT:=heap_lt h'.raw
 have hlg:=heap_lt h'.log.log
 clear h' hm ho hy
 unfold anV
 go_enter Tryz.func35,Tryz.ntmps35
 go_wp2_with fail
 rw [← hw0]
 rw [← hw0] at y0 y7
 clear hw0
 refine HLN.out.mono ?_
 rintro e w1 ⟨rfl,hb1⟩
 clear y0 y7
 go_wp2_with fail
 refine (HEN.out _ hb1).mono ?_
 rintro e w2 ⟨rfl,G2,q2,k2⟩
 obtain ⟨m2,k22⟩:=(HQ0.out.below HB0.out).onTx q2 ((Next.of_below hb1 _).trans k2)
 have HQN:Hid (TM w2 base (.pointer (some ⟨M,0,none⟩)) c r L F T (x.finis 0) G2):=m2
 have HKN:Hid (Next (G++F) (G2++F) w0 w2):=k22
 clear q2 k2 m2 k22 hb1
 have HRN:Hid (w2.heap[w.heap.size]? = some (.cells #[.int .i64 0,.int .i64 0,.int .i64 0,.bool false] 55 (0,0))∧w.heap.size ∉ G2++F):=row_next0 HR0.out.1 HR0.out.2 HKN.out
 have HNN:Hid (Next (G++F) (G2++F) w w2):=(Next.of_below HB0.out _).trans HKN.out
 obtain ⟨⟨a0,a1,a2,a3⟩,g0,g1,g2,g3⟩:=ans_cells HRN.out.1
 have hBa:=heap_lt HRN.out.1
 go_wp2
 have qf:=HQN.out.other (Co.keepWB (w:=w2) (B:=w.heap.size) 3 0 0 false) (fun q hq e=>HRN.out.2 (by simp only [List.mem_singleton] at e; rw [← e]; exact hq))
 exact ret_ans rfl rfl (Co.ansW_set rfl HRN.out.1 3 0 0 false) rfl rfl ⟨rfl,G2,qf,nx_other HNN.out (Nat.le_refl _) (Co.keepWB (w:=w2) (B:=w.heap.size) 3 0 0 false)⟩
theorem commF_any {w:World} {base:Nat} {p:Value} {c r:Nat} {L:List Ac} {F:List Nat} {T:Nat} {x:Tx} {G:List Nat} (h:TM w base p c r L F T x G) (hb:base≤w.heap.size) (hL:L.length < 3298534883328) (hE:x.ev.length < 1073741824) (h1:1≤x.s) (h2:x.s≤16) (hz0:0≤x.z) (hz1:x.z≤9223372036854775807) (hd:Wd L) (hn1:1≤x.n) (hn2:x.n≤1099511627776) (hx:XOk (commX x)) (hy:x.tb.R.length≠0) (t:Int) :
  Calls Tryz.prog 35 #[.pointer (some ⟨T, 0, none⟩), p, .int .i64 t] w fun e w' => e = .returned (anV (stepX c r (commX x) L t).k (stepX c r (commX x) L t).e (stepX c r (commX x) L t).v (stepX c r (commX x) L t).y) ∧ ∃ F' G', TM w' base p c r (stepX c r (commX x) L t).L F' T (stepX c r (commX x) L t).x G' ∧ Next (G ++ F) (G' ++ F') w w' := by
 have HG : Hid (∀ w' G', TM w' base p c r L F T (commX x) G' → base ≤ w'.heap.size → Calls Tryz.prog 29 #[.pointer (some ⟨T, 0, none⟩), p, .int .i64 t] w' fun e w'' => e = .returned (anV (stepX c r (commX x) L t).k (stepX c r (commX x) L t).e (stepX c r (commX x) L t).v (stepX c r (commX x) L t).y) ∧ ∃ F' G'', TM w'' base p c r (stepX c r (commX x) L t).L F' T (stepX c r (commX x) L t).x G'' ∧ Next (G' ++ F) (G'' ++ F') w' w'') := fun w' G' hq hb' => goOn_any hq hb' hL hE hx (by simp [commX]) hd t
 have hlt:=h.lt
 have HLT:Hid (∀ q ∈ G++F,q < w.heap.size):=fun q hq=>(hlt q hq).2
 have HQ0:Hid (TM w base p c r L F T x G):=h
 clear hlt
 obtain ⟨w0,hw0⟩ : ∃ w0,w0=w.alloc (.cells #[.int .i64 0,.int .i64 0,.int .i64 0,.bool false] 55):=⟨_,rfl⟩
 have HB0:Hid (Below w.heap.size w w0):=by rw [hw0]; exact below_a1 _ _
 have HR0:Hid (w0.heap[w.heap.size]? = some (.cells #[.int .i64 0,.int .i64 0,.int .i64 0,.bool false] 55 (0,0))∧w.heap.size ∉ G++F):=⟨by rw [hw0]; exact heap_alloc_new _ _,fun e=>by have:=HLT.out _ e; omega⟩
 obtain ⟨hm,⟨lg,tk,ev,wv,Gm,h'⟩,ho⟩:=h
 have HX1:Hid (TxAt' w0 base T x G lg tk ev wv Gm):=h'.below HB0.out
 have HBB:Hid (base≤w0.heap.size):=Nat.le_trans hb HB0.out.size
 obtain ⟨nn,hnn⟩ : ∃ nn:Int,nn=(x.tb.R.length:Int):=⟨_,rfl⟩
 have HLN:Hid (Calls Tryz.prog 51 #[.pointer (some ⟨tk,0,none⟩)] w0 fun e w' => e = .returned (.int .i64 nn)∧Below w0.heap.size w0 w'):=by
  refine (Tl.len_any HX1.out.log.tab).mono ?_
  rintro e w' ⟨rfl,rfl⟩
  exact ⟨by rw [hnn],Below.refl _ _⟩
 have d0:(nn == 0)=false:=by simp; omega
 have hro:Sg.Ok x.rd:=h'.log.ok
 have HMN : Hid (∀ w', Calls Tryz.prog 52 #[.agg #[.int .i64 0, .int .i64 (x.s : Int), .int .i64 0, .int .i64 x.n, .bool x.mu, .int .i64 0, .slice none 0 0], .int .i64 x.z, .agg #[swV x.rd 0, swV x.rd 1, swV x.rd 2, swV x.rd 3, swV x.rd 4, swV x.rd 5, swV x.rd 6, swV x.rd 7]] w' fun e w'' => ∃ Z X, e = .returned (.tuple #[.pointer (some ⟨Z, 0, none⟩), .int .i64 0]) ∧ w'.heap.size ≤ Z ∧ w'.heap.size ≤ X ∧ Z ≠ X ∧ Co.CAt w'' Z (commP x) Co.cuNew (Co.ptr X) ∧ Co.KAt w'' X (commP x) (Co.ckNew (commP x)) ∧ Below w'.heap.size w' w'') := fun w' => Co.mnew_yes w' (P := commP x) ⟨h1, h2, hz0, hz1, hro⟩ rfl hn1 hn2 0 0 0 (.slice none 0 0)
 have HRD : Hid (∀ w', Below w0.heap.size w0 w' → Calls Tryz.prog 26 #[.pointer (some ⟨lg, 0, none⟩)] w' fun e w'' => e = .returned (.agg #[swV x.rd 0, swV x.rd 1, swV x.rd 2, swV x.rd 3, swV x.rd 4, swV x.rd 5, swV x.rd 6, swV x.rd 7]) ∧ Below w'.heap.size w' w'') := fun w' k => by
  rw [← sv_eight hro]; exact Tl.reads_any (HX1.out.below k).log
 have HCE : Hid (∀ w', Below w0.heap.size w0 w' → TRaw w' T (x.s : Int) x.n x.mu (.pointer (some ⟨lg, 0, none⟩)) ev wv x.begun x.z x.seen) := fun w' k => HX1.out.raw.below k
 obtain ⟨M,rfl⟩:=hm.ptr
 have y0:w0.cell? ⟨lg,0,none⟩=some (.pointer (some ⟨tk,0,none⟩)):=HX1.out.log.ptr
 have y7:w0.cell? ⟨T,7,none⟩=some (.pointer (some ⟨lg,0,none⟩)):=HX1.out.raw.cells.2.2.2.2.2.2.2.1
 rw [hw0] at y0 y7
 have hT:=heap_lt h'.raw
 have hlg:=heap_lt h'.log.log
 clear h' hm ho hy hnn hro hx hd hL hE h1 h2 hz0 hz1 hn1 hn2
 generalize stepX c r (commX x) L t=a at *
 obtain ⟨x', L', kk, ee, vv, gg⟩ := a
 unfold anV at *
 simp only at HG ⊢
 go_enter Tryz.func35,Tryz.ntmps35
 go_wp2_with fail
 rw [← hw0]
 rw [← hw0] at y0 y7
 clear hw0
 refine HLN.out.mono ?_
 rintro e w1 ⟨rfl,hb1⟩
 have HB1:Hid (Below w0.heap.size w0 w1):=hb1
 obtain ⟨z0,z1,z2,z3,z4,z5,z6,z7,_,_,_,z11,_⟩:=(HCE.out _ hb1).cells
 have hT1:T < w1.heap.size:=heap_lt (HCE.out _ hb1)
 clear y0 y7 hb1
 go_wp2_with fail
 go_region_held3 (fun w' => w'.cell? ⟨T,0,none⟩=some (.int .i64 0)∧w'.cell? ⟨T,1,none⟩=some (.int .i64 (x.s:Int))∧w'.cell? ⟨T,2,none⟩=some (.int .i64 0)∧w'.cell? ⟨T,3,none⟩=some (.int .i64 x.n)∧w'.cell? ⟨T,4,none⟩=some (.bool x.mu)∧w'.cell? ⟨T,5,none⟩=some (.int .i64 0)∧w'.cell? ⟨T,6,none⟩=some (.slice none 0 0)∧w'.cell? ⟨T,7,none⟩=some (.pointer (some ⟨lg,0,none⟩))∧w'.cell? ⟨T,11,none⟩=some (.int .i64 x.z)) (first | go_keep | exact hS | exact hS9) (first
    | (go_at_call 26; refine (HRD.out _ (below_then HB1.out (bl_drew _))).mono ?_; rintro e w2 ⟨rfl,hb2⟩; have hB2:Below w0.heap.size w0 w2:=below_then (below_then HB1.out (bl_drew _)) hb2; obtain ⟨s0,s1,s2,s3,s4,s5,s6,s7,_,_,_,s11,_⟩:=(HCE.out _ hB2).cells; have hS:=And.intro s0 (And.intro s1 (And.intro s2 (And.intro s3 (And.intro s4 (And.intro s5 (And.intro s6 (And.intro s7 s11))))))); clear s0 s1 s2 s3 s4 s5 s6 s7 s11)
    | (go_at_call 52; refine (HMN.out _).mono ?_; rintro e w3 ⟨Z,X,rfl,hZ1,hX1,hZX,hZ2,hX2,hb3⟩; have hB3:Below w0.heap.size w0 w3:=below_then hB2 hb3; obtain ⟨u0,u1,u2,u3,u4,u5,u6,u7,_,_,_,u11,_⟩:=((tset (HCE.out _ hB3)).2.1 (.iface 102 (.pointer (some ⟨Z,0,none⟩)))).cells; have hS9:=And.intro u0 (And.intro u1 (And.intro u2 (And.intro u3 (And.intro u4 (And.intro u5 (And.intro u6 (And.intro u7 u11))))))); clear u0 u1 u2 u3 u4 u5 u6 u7 u11; have f9:=(HCE.out _ hB3).fz 9; have hT3:T < w3.heap.size:=heap_lt (HCE.out _ hB3); obtain ⟨s0,s1,s2,s3,s4,s5,s6,s7,_,v9,_,s11,_⟩:=(HCE.out _ hB3).cells; have hS:=And.intro s0 (And.intro s1 (And.intro s2 (And.intro s3 (And.intro s4 (And.intro s5 (And.intro s6 (And.intro s7 s11))))))); clear s0 s1 s2 s3 s4 s5 s6 s7 s11))
 have HR3:Hid (TRaw w3 T (x.s:Int) x.n x.mu (.pointer (some ⟨lg,0,none⟩)) ev wv x.begun x.z x.seen):=HCE.out _ hB3
 have HW3:Hid (∃ G5,TxAt' (w3.setCell ⟨T,9,none⟩ (.iface 102 (.pointer (some ⟨Z,0,none⟩)))) base T (commX x) G5 lg tk ev (.iface 102 (.pointer (some ⟨Z,0,none⟩))) [Z,X] ∧ Next G G5 w0 (w3.setCell ⟨T,9,none⟩ (.iface 102 (.pointer (some ⟨Z,0,none⟩))))):=by
  have ks:Keep [T] w3 (w3.setCell ⟨T,9,none⟩ (.iface 102 (.pointer (some ⟨Z,0,none⟩)))):=(Keep.refl _ _).setCell _ _ (Or.inl (by simp))
  have hs2:=hB2.size
  have hs1:=HBB.out
  have hT0:T < w0.heap.size:=heap_lt HX1.out.raw
  exact tx_way (y:=.cm (commP x) (Co.ckNew (commP x)) Co.cuNew) HX1.out ((tset HR3.out).2.1 _) ((Keep.of_below hB3 [T]).trans ks (fun b hb=>Or.inl hb)) ⟨Z,X,rfl,rfl,hZ2.keep ks (by simp; omega),hX2.keep ks (by simp; omega),by omega,by omega,hZX⟩ (fun q hq=>by simp at hq; omega) (by simp; exact hZX)
 obtain ⟨G5,q5,k5⟩:=HW3.out
 clear HW3
 obtain ⟨w5,hw5⟩ : ∃ w5,w5=w3.setCell ⟨T,9,none⟩ (.iface 102 (.pointer (some ⟨Z,0,none⟩))):=⟨_,rfl⟩
 rw [← hw5] at q5 k5 ⊢
 obtain ⟨m5,k55⟩:=(HQ0.out.below HB0.out).onTx (x':=commX x) (G':=G5) ⟨_,_,_,_,_,q5⟩ k5
 have HM3:Hid (TM w5 base (.pointer (some ⟨M,0,none⟩)) c r L F T (commX x) G5):=m5
 have HK3:Hid (Next (G++F) (G5++F) w0 w5):=k55
 have hb5:base≤w5.heap.size:=Nat.le_trans HBB.out k5.1.size
 clear hS hS9 hZ1 hX1 hZX hZ2 hX2 hb3 hB3 hB2 hb2 f9 v9 hT3 z0 z1 z2 z3 z4 z5 z6 z7 z11 q5 k5 m5 k55 hw5 hT1
 have hb3:=hb5
 go_wp2_with fail
 refine (HG.out _ _ HM3.out hb3).mono ?_
 rintro e w4 ⟨rfl,F4,G4,q4,k4⟩
 have HQN:Hid (TM w4 base (.pointer (some ⟨M,0,none⟩)) c r L' F4 T x' G4):=q4
 have HKN:Hid (Next (G++F) (G4++F4) w0 w4):=HK3.out.trans k4
 clear q4 k4
 have HRN:Hid (w4.heap[w.heap.size]? = some (.cells #[.int .i64 0,.int .i64 0,.int .i64 0,.bool false] 55 (0,0))∧w.heap.size ∉ G4++F4):=row_next0 HR0.out.1 HR0.out.2 HKN.out
 have HNN:Hid (Next (G++F) (G4++F4) w w4):=(Next.of_below HB0.out _).trans HKN.out
 obtain ⟨⟨a0,a1,a2,a3⟩,g0,g1,g2,g3⟩:=ans_cells HRN.out.1
 have hBa:=heap_lt HRN.out.1
 go_wp2
 have qf:=HQN.out.other (Co.keepWB (w:=w4) (B:=w.heap.size) kk ee vv gg) (fun q hq e=>HRN.out.2 (by simp only [List.mem_singleton] at e; rw [← e]; exact hq))
 exact ret_ans rfl rfl (Co.ansW_set rfl HRN.out.1 kk ee vv gg) rfl rfl ⟨rfl,F4,G4,qf,nx_other HNN.out (Nat.le_refl _) (Co.keepWB (w:=w4) (B:=w.heap.size) kk ee vv gg)⟩
theorem put_same {s:Tl.Tb} {c v:Int} (h:Tl.writeE s c=5):Tl.put s c v=s:=by
 have h2:Tl.putE s c=2:=by
  unfold Tl.writeE at h
  split at h
  ·next e=>exact e
  ·unfold Tl.putE at h
   split at h
   ·split at h
    ·simp at h
    ·split at h <;> simp at h
   ·simp at h
 unfold Tl.putE at h2
 unfold Tl.put
 split at h2
 ·next hr =>
  rw [if_pos hr]
  split at h2
  ·simp at h2
  ·next e =>
   split at h2
   ·next hm=>rw [if_pos hm]
   ·simp at h2
 ·simp at h2
theorem xok_put {x:Tx} (h:XOk x) (hp:x.phase=2) {c v:Int} (hv:W64 v):XOk { x with tb:=Tl.put x.tb c v }:=by
 have hw:x.wy = .no:=by
  unfold Tx.phase at hp
  cases e:x.wy with
  | no=>rfl
  | _=>rw [e] at hp; simp at hp
 have hph:({ x with tb:=Tl.put x.tb c v }:Tx).phase=2:=hp
 exact ⟨h.s1,h.s16,h.n1,h.n2,Tl.put_inv h.inv c v,put_val h.val hv,h.rd,h.z0,h.z1,h.seen,fun e=>by rw [hph] at e; omega,fun _ _=>h.liv (by omega) (by omega),fun e=>by rw [hph] at e; omega,by unfold wyOk; rw [show ({ x with tb:=Tl.put x.tb c v }:Tx).wy = .no from hw]; trivial⟩
theorem do_no {w:World} {base:Nat} {p:Value} {c r:Nat} {L:List Ac} {F:List Nat} {T:Nat} {x:Tx} {G:List Nat} (h:TM w base p c r L F T x G) (a:Wa) (hn:takesX c r x a=false) (t:Int) :
  Calls Tryz.prog 22 #[.pointer (some ⟨T,0,none⟩),p,.int .i64 t,waV a] w fun e w' => e = .returned (anV 4 1 0 false)∧TM w' base p c r L F T x G∧Next (G++F) (G++F) w w':=by
 have HTK : Hid (∀ w', Below w.heap.size w w' → Calls Tryz.prog 31 #[.pointer (some ⟨T, 0, none⟩), p, waV a] w' fun e w'' => e = .returned (.bool false) ∧ Below w'.heap.size w' w'') := fun w' k => by rw [← hn]; exact takesT (h.below k) a
 have HQ0:Hid (TM w base p c r L F T x G):=h
 obtain ⟨M,rfl⟩:=h.mem.ptr
 have hlt:=h.lt
 have HLT:Hid (∀ q ∈ G++F,q < w.heap.size):=fun q hq=>(hlt q hq).2
 clear h hlt hn
 obtain ⟨kd,cl,va,co⟩:=a
 unfold waV anV at *
 obtain ⟨w0,hw0⟩ : ∃ w0,w0=(w.alloc (.cells #[.int .i64 kd,.int .i64 cl,.int .i64 va,.int .i64 co] 32)).alloc (.cells #[.int .i64 0,.int .i64 0,.int .i64 0,.bool false] 55):=⟨_,rfl⟩
 have HB0:Hid (Below w.heap.size w w0):=by rw [hw0]; exact below_then (below_a1 _ _) (below_a1 _ _)
 have HW0:Hid (w0.heap[w.heap.size]? = some (.cells #[.int .i64 kd,.int .i64 cl,.int .i64 va,.int .i64 co] 32 (0,0))):=by rw [hw0]; exact row_on (heap_alloc_new _ _) (below_a1 _ _)
 have HR0:Hid (w0.heap[w.heap.size+1]? = some (.cells #[.int .i64 0,.int .i64 0,.int .i64 0,.bool false] 55 (0,0))∧w.heap.size+1 ∉ G++F):=⟨by rw [hw0]; exact heap_alloc2_new w _ _,fun e=>by have:=HLT.out _ e; omega⟩
 go_enter Tryz.func22,Tryz.ntmps22
 go_wp2_with fail
 rw [← hw0]
 clear hw0
 refine (HTK.out _ HB0.out).mono ?_
 rintro e w1 ⟨rfl,hb1⟩
 have HB1:Hid (Below w.heap.size w w1):=below_then HB0.out hb1
 have HW1:Hid (w1.heap[w.heap.size]? = some (.cells #[.int .i64 kd,.int .i64 cl,.int .i64 va,.int .i64 co] 32 (0,0))):=row_on HW0.out hb1
 have HR1:Hid (w1.heap[w.heap.size+1]? = some (.cells #[.int .i64 0,.int .i64 0,.int .i64 0,.bool false] 55 (0,0))∧w.heap.size+1 ∉ G++F):=⟨row_on HR0.out.1 hb1,HR0.out.2⟩
 have k0:w1.cell? ⟨w.heap.size,0,none⟩=some (.int .i64 kd):=by rw [cell_at HW1.out]; rfl
 have k1:w1.cell? ⟨w.heap.size,1,none⟩=some (.int .i64 cl):=by rw [cell_at HW1.out]; rfl
 have k2:w1.cell? ⟨w.heap.size,2,none⟩=some (.int .i64 va):=by rw [cell_at HW1.out]; rfl
 have k3:w1.cell? ⟨w.heap.size,3,none⟩=some (.int .i64 co):=by rw [cell_at HW1.out]; rfl
 have hW1:=heap_lt HW1.out
 clear hb1
 obtain ⟨⟨a0,a1,a2,a3⟩,g0,g1,g2,g3⟩:=ans_cells HR1.out.1
 have hBa:=heap_lt HR1.out.1
 go_wp2
 have qf:=(HQ0.out.below HB1.out).other (Co.keepWB (w:=w1) (B:=w.heap.size+1) 4 1 0 false) (fun q hq e=>HR1.out.2 (by simp only [List.mem_singleton] at e; rw [← e]; exact hq))
 exact ret_ans rfl rfl (Co.ansW_set rfl HR1.out.1 4 1 0 false) rfl rfl ⟨rfl,qf,nx_other (Next.of_below HB1.out _) (Nat.le_succ _) (Co.keepWB (w:=w1) (B:=w.heap.size+1) 4 1 0 false)⟩
theorem do_1 {w:World} {base:Nat} {p:Value} {c r:Nat} {L:List Ac} {F:List Nat} {T:Nat} {x:Tx} {G:List Nat} (h:TM w base p c r L F T x G) (a:Wa) (hn:takesX c r x a=true) (hk:a.kind=1) (t:Int) {x':Tx} {L':List Ac} {kk ee vv:Int} {gg:Bool}
  (HIN : ∀ w', Below w.heap.size w w' → Calls Tryz.prog 32 #[.pointer (some ⟨T, 0, none⟩), p, .int .i64 t] w' fun e w'' => e = .returned (anV kk ee vv gg) ∧ ∃ F' G', TM w'' base p c r L' F' T x' G' ∧ Next (G ++ F) (G' ++ F') w' w'') :
  Calls Tryz.prog 22 #[.pointer (some ⟨T, 0, none⟩), p, .int .i64 t, waV a] w fun e w' => e = .returned (anV kk ee vv gg) ∧ ∃ F' G', TM w' base p c r L' F' T x' G' ∧ Next (G ++ F) (G' ++ F') w w' := by
 have HTK : Hid (∀ w', Below w.heap.size w w' → Calls Tryz.prog 31 #[.pointer (some ⟨T, 0, none⟩), p, waV a] w' fun e w'' => e = .returned (.bool true) ∧ Below w'.heap.size w' w'') := fun w' k => by rw [← hn]; exact takesT (h.below k) a
 obtain ⟨M,rfl⟩:=h.mem.ptr
 have hlt:=h.lt
 have HLT:Hid (∀ q ∈ G++F,q < w.heap.size):=fun q hq=>(hlt q hq).2
 clear h hlt hn
 obtain ⟨kd,cl,va,co⟩:=a
 unfold waV anV at *
 simp only at hk
 subst hk
 obtain ⟨w0,hw0⟩ : ∃ w0,w0=(w.alloc (.cells #[.int .i64 1,.int .i64 cl,.int .i64 va,.int .i64 co] 32)).alloc (.cells #[.int .i64 0,.int .i64 0,.int .i64 0,.bool false] 55):=⟨_,rfl⟩
 have HB0:Hid (Below w.heap.size w w0):=by rw [hw0]; exact below_then (below_a1 _ _) (below_a1 _ _)
 have HW0:Hid (w0.heap[w.heap.size]? = some (.cells #[.int .i64 1,.int .i64 cl,.int .i64 va,.int .i64 co] 32 (0,0))):=by rw [hw0]; exact row_on (heap_alloc_new _ _) (below_a1 _ _)
 have HR0:Hid (w0.heap[w.heap.size+1]? = some (.cells #[.int .i64 0,.int .i64 0,.int .i64 0,.bool false] 55 (0,0))∧w.heap.size+1 ∉ G++F):=⟨by rw [hw0]; exact heap_alloc2_new w _ _,fun e=>by have:=HLT.out _ e; omega⟩
 go_enter Tryz.func22,Tryz.ntmps22
 go_wp2_with fail
 rw [← hw0]
 clear hw0
 refine (HTK.out _ HB0.out).mono ?_
 rintro e w1 ⟨rfl,hb1⟩
 have HB1:Hid (Below w.heap.size w w1):=below_then HB0.out hb1
 have HW1:Hid (w1.heap[w.heap.size]? = some (.cells #[.int .i64 1,.int .i64 cl,.int .i64 va,.int .i64 co] 32 (0,0))):=row_on HW0.out hb1
 have HR1:Hid (w1.heap[w.heap.size+1]? = some (.cells #[.int .i64 0,.int .i64 0,.int .i64 0,.bool false] 55 (0,0))∧w.heap.size+1 ∉ G++F):=⟨row_on HR0.out.1 hb1,HR0.out.2⟩
 have k0:w1.cell? ⟨w.heap.size,0,none⟩=some (.int .i64 1):=by rw [cell_at HW1.out]; rfl
 have k1:w1.cell? ⟨w.heap.size,1,none⟩=some (.int .i64 cl):=by rw [cell_at HW1.out]; rfl
 have k2:w1.cell? ⟨w.heap.size,2,none⟩=some (.int .i64 va):=by rw [cell_at HW1.out]; rfl
 have k3:w1.cell? ⟨w.heap.size,3,none⟩=some (.int .i64 co):=by rw [cell_at HW1.out]; rfl
 have hW1:=heap_lt HW1.out
 clear hb1
 go_wp2_with fail
 refine (HIN _ HB1.out).mono ?_
 rintro e w2 ⟨rfl,F2,G2,q2,n2⟩
 have HQ2:Hid (TM w2 base (.pointer (some ⟨M,0,none⟩)) c r L' F2 T x' G2):=q2
 have HR2:Hid (w2.heap[w.heap.size+1]? = some (.cells #[.int .i64 0,.int .i64 0,.int .i64 0,.bool false] 55 (0,0))∧w.heap.size+1 ∉ G2++F2):=row_next0 HR1.out.1 HR1.out.2 n2
 have HN2:Hid (Next (G++F) (G2++F2) w w2):=(Next.of_below HB1.out _).trans n2
 clear q2 n2 k0 k1 k2 k3
 obtain ⟨⟨a0,a1,a2,a3⟩,g0,g1,g2,g3⟩:=ans_cells HR2.out.1
 have hBa:=heap_lt HR2.out.1
 go_wp2
 have qf:=HQ2.out.other (Co.keepWB (w:=w2) (B:=w.heap.size+1) kk ee vv gg) (fun q hq e=>HR2.out.2 (by simp only [List.mem_singleton] at e; rw [← e]; exact hq))
 exact ret_ans rfl rfl (Co.ansW_set rfl HR2.out.1 kk ee vv gg) rfl rfl ⟨rfl,F2,G2,qf,nx_other HN2.out (Nat.le_succ _) (Co.keepWB (w:=w2) (B:=w.heap.size+1) kk ee vv gg)⟩
theorem do_2 {w:World} {base:Nat} {p:Value} {c r:Nat} {L:List Ac} {F:List Nat} {T:Nat} {x:Tx} {G:List Nat} (h:TM w base p c r L F T x G) (a:Wa) (hn:takesX c r x a=true) (hk:a.kind=2) (t:Int) {x':Tx} {L':List Ac} {kk ee vv:Int} {gg:Bool}
  (HIN : ∀ w', Below w.heap.size w w' → Calls Tryz.prog 33 #[.pointer (some ⟨T, 0, none⟩), p, .int .i64 t, .int .i64 a.cell] w' fun e w'' => e = .returned (anV kk ee vv gg) ∧ ∃ F' G', TM w'' base p c r L' F' T x' G' ∧ Next (G ++ F) (G' ++ F') w' w'') :
  Calls Tryz.prog 22 #[.pointer (some ⟨T, 0, none⟩), p, .int .i64 t, waV a] w fun e w' => e = .returned (anV kk ee vv gg) ∧ ∃ F' G', TM w' base p c r L' F' T x' G' ∧ Next (G ++ F) (G' ++ F') w w' := by
 have HTK : Hid (∀ w', Below w.heap.size w w' → Calls Tryz.prog 31 #[.pointer (some ⟨T, 0, none⟩), p, waV a] w' fun e w'' => e = .returned (.bool true) ∧ Below w'.heap.size w' w'') := fun w' k => by rw [← hn]; exact takesT (h.below k) a
 obtain ⟨M,rfl⟩:=h.mem.ptr
 have hlt:=h.lt
 have HLT:Hid (∀ q ∈ G++F,q < w.heap.size):=fun q hq=>(hlt q hq).2
 clear h hlt hn
 obtain ⟨kd,cl,va,co⟩:=a
 unfold waV anV at *
 simp only at hk
 subst hk
 obtain ⟨w0,hw0⟩ : ∃ w0,w0=(w.alloc (.cells #[.int .i64 2,.int .i64 cl,.int .i64 va,.int .i64 co] 32)).alloc (.cells #[.int .i64 0,.int .i64 0,.int .i64 0,.bool false] 55):=⟨_,rfl⟩
 have HB0:Hid (Below w.heap.size w w0):=by rw [hw0]; exact below_then (below_a1 _ _) (below_a1 _ _)
 have HW0:Hid (w0.heap[w.heap.size]? = some (.cells #[.int .i64 2,.int .i64 cl,.int .i64 va,.int .i64 co] 32 (0,0))):=by rw [hw0]; exact row_on (heap_alloc_new _ _) (below_a1 _ _)
 have HR0:Hid (w0.heap[w.heap.size+1]? = some (.cells #[.int .i64 0,.int .i64 0,.int .i64 0,.bool false] 55 (0,0))∧w.heap.size+1 ∉ G++F):=⟨by rw [hw0]; exact heap_alloc2_new w _ _,fun e=>by have:=HLT.out _ e; omega⟩
 go_enter Tryz.func22,Tryz.ntmps22
 go_wp2_with fail
 rw [← hw0]
 clear hw0
 refine (HTK.out _ HB0.out).mono ?_
 rintro e w1 ⟨rfl,hb1⟩
 have HB1:Hid (Below w.heap.size w w1):=below_then HB0.out hb1
 have HW1:Hid (w1.heap[w.heap.size]? = some (.cells #[.int .i64 2,.int .i64 cl,.int .i64 va,.int .i64 co] 32 (0,0))):=row_on HW0.out hb1
 have HR1:Hid (w1.heap[w.heap.size+1]? = some (.cells #[.int .i64 0,.int .i64 0,.int .i64 0,.bool false] 55 (0,0))∧w.heap.size+1 ∉ G++F):=⟨row_on HR0.out.1 hb1,HR0.out.2⟩
 have k0:w1.cell? ⟨w.heap.size,0,none⟩=some (.int .i64 2):=by rw [cell_at HW1.out]; rfl
 have k1:w1.cell? ⟨w.heap.size,1,none⟩=some (.int .i64 cl):=by rw [cell_at HW1.out]; rfl
 have k2:w1.cell? ⟨w.heap.size,2,none⟩=some (.int .i64 va):=by rw [cell_at HW1.out]; rfl
 have k3:w1.cell? ⟨w.heap.size,3,none⟩=some (.int .i64 co):=by rw [cell_at HW1.out]; rfl
 have hW1:=heap_lt HW1.out
 clear hb1
 go_wp2_with fail
 refine (HIN _ HB1.out).mono ?_
 rintro e w2 ⟨rfl,F2,G2,q2,n2⟩
 have HQ2:Hid (TM w2 base (.pointer (some ⟨M,0,none⟩)) c r L' F2 T x' G2):=q2
 have HR2:Hid (w2.heap[w.heap.size+1]? = some (.cells #[.int .i64 0,.int .i64 0,.int .i64 0,.bool false] 55 (0,0))∧w.heap.size+1 ∉ G2++F2):=row_next0 HR1.out.1 HR1.out.2 n2
 have HN2:Hid (Next (G++F) (G2++F2) w w2):=(Next.of_below HB1.out _).trans n2
 clear q2 n2 k0 k1 k2 k3
 obtain ⟨⟨a0,a1,a2,a3⟩,g0,g1,g2,g3⟩:=ans_cells HR2.out.1
 have hBa:=heap_lt HR2.out.1
 go_wp2
 have qf:=HQ2.out.other (Co.keepWB (w:=w2) (B:=w.heap.size+1) kk ee vv gg) (fun q hq e=>HR2.out.2 (by simp only [List.mem_singleton] at e; rw [← e]; exact hq))
 exact ret_ans rfl rfl (Co.ansW_set rfl HR2.out.1 kk ee vv gg) rfl rfl ⟨rfl,F2,G2,qf,nx_other HN2.out (Nat.le_succ _) (Co.keepWB (w:=w2) (B:=w.heap.size+1) kk ee vv gg)⟩
theorem do_3 {w:World} {base:Nat} {p:Value} {c r:Nat} {L:List Ac} {F:List Nat} {T:Nat} {x:Tx} {G:List Nat} (h:TM w base p c r L F T x G) (a:Wa) (hn:takesX c r x a=true) (hk:a.kind=3) (t:Int) {x':Tx} {L':List Ac} {kk ee vv:Int} {gg:Bool}
  (HIN : ∀ w', Below w.heap.size w w' → Calls Tryz.prog 34 #[.pointer (some ⟨T, 0, none⟩), .int .i64 a.cell, .int .i64 a.value] w' fun e w'' => e = .returned (anV kk ee vv gg) ∧ ∃ F' G', TM w'' base p c r L' F' T x' G' ∧ Next (G ++ F) (G' ++ F') w' w'') :
  Calls Tryz.prog 22 #[.pointer (some ⟨T, 0, none⟩), p, .int .i64 t, waV a] w fun e w' => e = .returned (anV kk ee vv gg) ∧ ∃ F' G', TM w' base p c r L' F' T x' G' ∧ Next (G ++ F) (G' ++ F') w w' := by
 have HTK : Hid (∀ w', Below w.heap.size w w' → Calls Tryz.prog 31 #[.pointer (some ⟨T, 0, none⟩), p, waV a] w' fun e w'' => e = .returned (.bool true) ∧ Below w'.heap.size w' w'') := fun w' k => by rw [← hn]; exact takesT (h.below k) a
 obtain ⟨M,rfl⟩:=h.mem.ptr
 have hlt:=h.lt
 have HLT:Hid (∀ q ∈ G++F,q < w.heap.size):=fun q hq=>(hlt q hq).2
 clear h hlt hn
 obtain ⟨kd,cl,va,co⟩:=a
 unfold waV anV at *
 simp only at hk
 subst hk
 obtain ⟨w0,hw0⟩ : ∃ w0,w0=(w.alloc (.cells #[.int .i64 3,.int .i64 cl,.int .i64 va,.int .i64 co] 32)).alloc (.cells #[.int .i64 0,.int .i64 0,.int .i64 0,.bool false] 55):=⟨_,rfl⟩
 have HB0:Hid (Below w.heap.size w w0):=by rw [hw0]; exact below_then (below_a1 _ _) (below_a1 _ _)
 have HW0:Hid (w0.heap[w.heap.size]? = some (.cells #[.int .i64 3,.int .i64 cl,.int .i64 va,.int .i64 co] 32 (0,0))):=by rw [hw0]; exact row_on (heap_alloc_new _ _) (below_a1 _ _)
 have HR0:Hid (w0.heap[w.heap.size+1]? = some (.cells #[.int .i64 0,.int .i64 0,.int .i64 0,.bool false] 55 (0,0))∧w.heap.size+1 ∉ G++F):=⟨by rw [hw0]; exact heap_alloc2_new w _ _,fun e=>by have:=HLT.out _ e; omega⟩
 go_enter Tryz.func22,Tryz.ntmps22
 go_wp2_with fail
 rw [← hw0]
 clear hw0
 refine (HTK.out _ HB0.out).mono ?_
 rintro e w1 ⟨rfl,hb1⟩
 have HB1:Hid (Below w.heap.size w w1):=below_then HB0.out hb1
 have HW1:Hid (w1.heap[w.heap.size]? = some (.cells #[.int .i64 3,.int .i64 cl,.int .i64 va,.int .i64 co] 32 (0,0))):=row_on HW0.out hb1
 have HR1:Hid (w1.heap[w.heap.size+1]? = some (.cells #[.int .i64 0,.int .i64 0,.int .i64 0,.bool false] 55 (0,0))∧w.heap.size+1 ∉ G++F):=⟨row_on HR0.out.1 hb1,HR0.out.2⟩
 have k0:w1.cell? ⟨w.heap.size,0,none⟩=some (.int .i64 3):=by rw [cell_at HW1.out]; rfl
 have k1:w1.cell? ⟨w.heap.size,1,none⟩=some (.int .i64 cl):=by rw [cell_at HW1.out]; rfl
 have k2:w1.cell? ⟨w.heap.size,2,none⟩=some (.int .i64 va):=by rw [cell_at HW1.out]; rfl
 have k3:w1.cell? ⟨w.heap.size,3,none⟩=some (.int .i64 co):=by rw [cell_at HW1.out]; rfl
 have hW1:=heap_lt HW1.out
 clear hb1
 go_wp2_with fail
 refine (HIN _ HB1.out).mono ?_
 rintro e w2 ⟨rfl,F2,G2,q2,n2⟩
 have HQ2:Hid (TM w2 base (.pointer (some ⟨M,0,none⟩)) c r L' F2 T x' G2):=q2
 have HR2:Hid (w2.heap[w.heap.size+1]? = some (.cells #[.int .i64 0,.int .i64 0,.int .i64 0,.bool false] 55 (0,0))∧w.heap.size+1 ∉ G2++F2):=row_next0 HR1.out.1 HR1.out.2 n2
 have HN2:Hid (Next (G++F) (G2++F2) w w2):=(Next.of_below HB1.out _).trans n2
 clear q2 n2 k0 k1 k2 k3
 obtain ⟨⟨a0,a1,a2,a3⟩,g0,g1,g2,g3⟩:=ans_cells HR2.out.1
 have hBa:=heap_lt HR2.out.1
 go_wp2
 have qf:=HQ2.out.other (Co.keepWB (w:=w2) (B:=w.heap.size+1) kk ee vv gg) (fun q hq e=>HR2.out.2 (by simp only [List.mem_singleton] at e; rw [← e]; exact hq))
 exact ret_ans rfl rfl (Co.ansW_set rfl HR2.out.1 kk ee vv gg) rfl rfl ⟨rfl,F2,G2,qf,nx_other HN2.out (Nat.le_succ _) (Co.keepWB (w:=w2) (B:=w.heap.size+1) kk ee vv gg)⟩
theorem do_4 {w:World} {base:Nat} {p:Value} {c r:Nat} {L:List Ac} {F:List Nat} {T:Nat} {x:Tx} {G:List Nat} (h:TM w base p c r L F T x G) (a:Wa) (hn:takesX c r x a=true) (hk:a.kind=4) (t:Int) {x':Tx} {L':List Ac} {kk ee vv:Int} {gg:Bool}
  (HIN : ∀ w', Below w.heap.size w w' → Calls Tryz.prog 35 #[.pointer (some ⟨T, 0, none⟩), p, .int .i64 t] w' fun e w'' => e = .returned (anV kk ee vv gg) ∧ ∃ F' G', TM w'' base p c r L' F' T x' G' ∧ Next (G ++ F) (G' ++ F') w' w'') :
  Calls Tryz.prog 22 #[.pointer (some ⟨T, 0, none⟩), p, .int .i64 t, waV a] w fun e w' => e = .returned (anV kk ee vv gg) ∧ ∃ F' G', TM w' base p c r L' F' T x' G' ∧ Next (G ++ F) (G' ++ F') w w' := by
 have HTK : Hid (∀ w', Below w.heap.size w w' → Calls Tryz.prog 31 #[.pointer (some ⟨T, 0, none⟩), p, waV a] w' fun e w'' => e = .returned (.bool true) ∧ Below w'.heap.size w' w'') := fun w' k => by rw [← hn]; exact takesT (h.below k) a
 obtain ⟨M,rfl⟩:=h.mem.ptr
 have hlt:=h.lt
 have HLT:Hid (∀ q ∈ G++F,q < w.heap.size):=fun q hq=>(hlt q hq).2
 clear h hlt hn
 obtain ⟨kd,cl,va,co⟩:=a
 unfold waV anV at *
 simp only at hk
 subst hk
 obtain ⟨w0,hw0⟩ : ∃ w0,w0=(w.alloc (.cells #[.int .i64 4,.int .i64 cl,.int .i64 va,.int .i64 co] 32)).alloc (.cells #[.int .i64 0,.int .i64 0,.int .i64 0,.bool false] 55):=⟨_,rfl⟩
 have HB0:Hid (Below w.heap.size w w0):=by rw [hw0]; exact below_then (below_a1 _ _) (below_a1 _ _)
 have HW0:Hid (w0.heap[w.heap.size]? = some (.cells #[.int .i64 4,.int .i64 cl,.int .i64 va,.int .i64 co] 32 (0,0))):=by rw [hw0]; exact row_on (heap_alloc_new _ _) (below_a1 _ _)
 have HR0:Hid (w0.heap[w.heap.size+1]? = some (.cells #[.int .i64 0,.int .i64 0,.int .i64 0,.bool false] 55 (0,0))∧w.heap.size+1 ∉ G++F):=⟨by rw [hw0]; exact heap_alloc2_new w _ _,fun e=>by have:=HLT.out _ e; omega⟩
 go_enter Tryz.func22,Tryz.ntmps22
 go_wp2_with fail
 rw [← hw0]
 clear hw0
 refine (HTK.out _ HB0.out).mono ?_
 rintro e w1 ⟨rfl,hb1⟩
 have HB1:Hid (Below w.heap.size w w1):=below_then HB0.out hb1
 have HW1:Hid (w1.heap[w.heap.size]? = some (.cells #[.int .i64 4,.int .i64 cl,.int .i64 va,.int .i64 co] 32 (0,0))):=row_on HW0.out hb1
 have HR1:Hid (w1.heap[w.heap.size+1]? = some (.cells #[.int .i64 0,.int .i64 0,.int .i64 0,.bool false] 55 (0,0))∧w.heap.size+1 ∉ G++F):=⟨row_on HR0.out.1 hb1,HR0.out.2⟩
 have k0:w1.cell? ⟨w.heap.size,0,none⟩=some (.int .i64 4):=by rw [cell_at HW1.out]; rfl
 have k1:w1.cell? ⟨w.heap.size,1,none⟩=some (.int .i64 cl):=by rw [cell_at HW1.out]; rfl
 have k2:w1.cell? ⟨w.heap.size,2,none⟩=some (.int .i64 va):=by rw [cell_at HW1.out]; rfl
 have k3:w1.cell? ⟨w.heap.size,3,none⟩=some (.int .i64 co):=by rw [cell_at HW1.out]; rfl
 have hW1:=heap_lt HW1.out
 clear hb1
 go_wp2_with fail
 refine (HIN _ HB1.out).mono ?_
 rintro e w2 ⟨rfl,F2,G2,q2,n2⟩
 have HQ2:Hid (TM w2 base (.pointer (some ⟨M,0,none⟩)) c r L' F2 T x' G2):=q2
 have HR2:Hid (w2.heap[w.heap.size+1]? = some (.cells #[.int .i64 0,.int .i64 0,.int .i64 0,.bool false] 55 (0,0))∧w.heap.size+1 ∉ G2++F2):=row_next0 HR1.out.1 HR1.out.2 n2
 have HN2:Hid (Next (G++F) (G2++F2) w w2):=(Next.of_below HB1.out _).trans n2
 clear q2 n2 k0 k1 k2 k3
 obtain ⟨⟨a0,a1,a2,a3⟩,g0,g1,g2,g3⟩:=ans_cells HR2.out.1
 have hBa:=heap_lt HR2.out.1
 go_wp2
 have qf:=HQ2.out.other (Co.keepWB (w:=w2) (B:=w.heap.size+1) kk ee vv gg) (fun q hq e=>HR2.out.2 (by simp only [List.mem_singleton] at e; rw [← e]; exact hq))
 exact ret_ans rfl rfl (Co.ansW_set rfl HR2.out.1 kk ee vv gg) rfl rfl ⟨rfl,F2,G2,qf,nx_other HN2.out (Nat.le_succ _) (Co.keepWB (w:=w2) (B:=w.heap.size+1) kk ee vv gg)⟩
theorem do_5 {w:World} {base:Nat} {p:Value} {c r:Nat} {L:List Ac} {F:List Nat} {T:Nat} {x:Tx} {G:List Nat} (h:TM w base p c r L F T x G) (a:Wa) (hn:takesX c r x a=true) (hk:a.kind≠1∧a.kind≠2∧a.kind≠3∧a.kind≠4) (t:Int) {x':Tx} {L':List Ac} {kk ee vv:Int} {gg:Bool}
  (HIN : ∀ w', Below w.heap.size w w' → Calls Tryz.prog 36 #[.pointer (some ⟨T, 0, none⟩), .int .i64 a.code] w' fun e w'' => e = .returned (anV kk ee vv gg) ∧ ∃ F' G', TM w'' base p c r L' F' T x' G' ∧ Next (G ++ F) (G' ++ F') w' w'') :
  Calls Tryz.prog 22 #[.pointer (some ⟨T, 0, none⟩), p, .int .i64 t, waV a] w fun e w' => e = .returned (anV kk ee vv gg) ∧ ∃ F' G', TM w' base p c r L' F' T x' G' ∧ Next (G ++ F) (G' ++ F') w w' := by
 have HTK : Hid (∀ w', Below w.heap.size w w' → Calls Tryz.prog 31 #[.pointer (some ⟨T, 0, none⟩), p, waV a] w' fun e w'' => e = .returned (.bool true) ∧ Below w'.heap.size w' w'') := fun w' k => by rw [← hn]; exact takesT (h.below k) a
 obtain ⟨M,rfl⟩:=h.mem.ptr
 have hlt:=h.lt
 have HLT:Hid (∀ q ∈ G++F,q < w.heap.size):=fun q hq=>(hlt q hq).2
 clear h hlt hn
 obtain ⟨kd,cl,va,co⟩:=a
 unfold waV anV at *
 simp only at hk
 have d1:(kd == 1)=false:=by simp; omega
 have d2:(kd == 2)=false:=by simp; omega
 have d3:(kd == 3)=false:=by simp; omega
 have d4:(kd == 4)=false:=by simp; omega
 obtain ⟨w0,hw0⟩ : ∃ w0,w0=(w.alloc (.cells #[.int .i64 kd,.int .i64 cl,.int .i64 va,.int .i64 co] 32)).alloc (.cells #[.int .i64 0,.int .i64 0,.int .i64 0,.bool false] 55):=⟨_,rfl⟩
 have HB0:Hid (Below w.heap.size w w0):=by rw [hw0]; exact below_then (below_a1 _ _) (below_a1 _ _)
 have HW0:Hid (w0.heap[w.heap.size]? = some (.cells #[.int .i64 kd,.int .i64 cl,.int .i64 va,.int .i64 co] 32 (0,0))):=by rw [hw0]; exact row_on (heap_alloc_new _ _) (below_a1 _ _)
 have HR0:Hid (w0.heap[w.heap.size+1]? = some (.cells #[.int .i64 0,.int .i64 0,.int .i64 0,.bool false] 55 (0,0))∧w.heap.size+1 ∉ G++F):=⟨by rw [hw0]; exact heap_alloc2_new w _ _,fun e=>by have:=HLT.out _ e; omega⟩
 go_enter Tryz.func22,Tryz.ntmps22
 go_wp2_with fail
 rw [← hw0]
 clear hw0
 refine (HTK.out _ HB0.out).mono ?_
 rintro e w1 ⟨rfl,hb1⟩
 have HB1:Hid (Below w.heap.size w w1):=below_then HB0.out hb1
 have HW1:Hid (w1.heap[w.heap.size]? = some (.cells #[.int .i64 kd,.int .i64 cl,.int .i64 va,.int .i64 co] 32 (0,0))):=row_on HW0.out hb1
 have HR1:Hid (w1.heap[w.heap.size+1]? = some (.cells #[.int .i64 0,.int .i64 0,.int .i64 0,.bool false] 55 (0,0))∧w.heap.size+1 ∉ G++F):=⟨row_on HR0.out.1 hb1,HR0.out.2⟩
 have k0:w1.cell? ⟨w.heap.size,0,none⟩=some (.int .i64 kd):=by rw [cell_at HW1.out]; rfl
 have k1:w1.cell? ⟨w.heap.size,1,none⟩=some (.int .i64 cl):=by rw [cell_at HW1.out]; rfl
 have k2:w1.cell? ⟨w.heap.size,2,none⟩=some (.int .i64 va):=by rw [cell_at HW1.out]; rfl
 have k3:w1.cell? ⟨w.heap.size,3,none⟩=some (.int .i64 co):=by rw [cell_at HW1.out]; rfl
 have hW1:=heap_lt HW1.out
 clear hb1
 go_wp2_with fail
 refine (HIN _ HB1.out).mono ?_
 rintro e w2 ⟨rfl,F2,G2,q2,n2⟩
 have HQ2:Hid (TM w2 base (.pointer (some ⟨M,0,none⟩)) c r L' F2 T x' G2):=q2
 have HR2:Hid (w2.heap[w.heap.size+1]? = some (.cells #[.int .i64 0,.int .i64 0,.int .i64 0,.bool false] 55 (0,0))∧w.heap.size+1 ∉ G2++F2):=row_next0 HR1.out.1 HR1.out.2 n2
 have HN2:Hid (Next (G++F) (G2++F2) w w2):=(Next.of_below HB1.out _).trans n2
 clear q2 n2 k0 k1 k2 k3
 obtain ⟨⟨a0,a1,a2,a3⟩,g0,g1,g2,g3⟩:=ans_cells HR2.out.1
 have hBa:=heap_lt HR2.out.1
 go_wp2
 have qf:=HQ2.out.other (Co.keepWB (w:=w2) (B:=w.heap.size+1) kk ee vv gg) (fun q hq e=>HR2.out.2 (by simp only [List.mem_singleton] at e; rw [← e]; exact hq))
 exact ret_ans rfl rfl (Co.ansW_set rfl HR2.out.1 kk ee vv gg) rfl rfl ⟨rfl,F2,G2,qf,nx_other HN2.out (Nat.le_succ _) (Co.keepWB (w:=w2) (B:=w.heap.size+1) kk ee vv gg)⟩
theorem takes_iff {c r:Nat} {x:Tx} {a:Wa} (h:takesX c r x a=true):r=x.s∧(a.kind=1→x.phase=0)∧(a.kind=2∨a.kind=3→x.phase=2∧0≤a.cell∧a.cell < (c:Int))∧(a.kind=4→x.phase=2)∧(a.kind≠1→a.kind≠2→a.kind≠3→a.kind≠4→a.kind=5∧x.phase=2∧(a.code=8∨a.code=7)):=by
 unfold takesX at h
 simp only [Bool.and_eq_true,decide_eq_true_eq] at h
 obtain ⟨h1,h2⟩:=h
 refine ⟨h1,fun e => ?_,fun e => ?_,fun e => ?_,fun e1 e2 e3 e4 => ?_⟩
 ·rw [if_pos e] at h2; simpa using h2
 ·rw [if_neg (by omega),if_pos e] at h2
  simp only [Bool.and_eq_true,decide_eq_true_eq] at h2
  exact ⟨h2.1.1,h2.1.2,h2.2⟩
 ·rw [if_neg (by omega),if_neg (by omega),if_pos e] at h2; simpa using h2
 ·rw [if_neg e1,if_neg (by omega),if_neg e4] at h2
  split at h2
  ·next e5 =>
   simp only [Bool.and_eq_true,Bool.or_eq_true,decide_eq_true_eq] at h2
   exact ⟨e5,h2⟩
  ·simp at h2
theorem do_any {w:World} {base:Nat} {p:Value} {c r:Nat} {L:List Ac} {F:List Nat} {T:Nat} {x:Tx} {G:List Nat} (h:TM w base p c r L F T x G) (hb:base≤w.heap.size) (hL:L.length < 3298534883328) (hE:x.ev.length+1 < 1073741824) (hx:XOk x) (hd:Wd L) (hc:c≤1024) (a:Wa) (t:Int) :
  Calls Tryz.prog 22 #[.pointer (some ⟨T, 0, none⟩), p, .int .i64 t, waV a] w fun e w' => e = .returned (anV (doX c r x L t a).k (doX c r x L t a).e (doX c r x L t a).v (doX c r x L t a).y) ∧ ∃ F' G', TM w' base p c r (doX c r x L t a).L F' T (doX c r x L t a).x G' ∧ Next (G ++ F) (G' ++ F') w w' := by
 unfold doX
 cases hn:takesX c r x a
 ·rw [if_neg (by decide)]
  refine (do_no h a hn t).mono ?_
  rintro e w' ⟨rfl,h1,h2⟩
  exact ⟨rfl,F,G,h1,h2⟩
 ·rw [if_pos rfl]
  obtain ⟨hr,t1,t2,t4,t5⟩:=takes_iff hn
  by_cases k1:a.kind=1
  ·rw [if_pos k1]
   exact do_1 h a hn k1 t (fun w' k=>open_any (h.below k) (Nat.le_trans hb k.size) hL hE hx.s1 hx.s16 (xok_open hx (t1 k1)) hd t)
  ·rw [if_neg k1]
   by_cases k2:a.kind=2
   ·rw [if_pos k2]
    obtain ⟨p2,c0,c1⟩:=t2 (Or.inl k2)
    cases hy:Tl.getY x.tb a.cell
    ·rw [if_neg (by decide)]
     exact do_2 h a hn k2 t (fun w' k=>readF_any (h.below k) (Nat.le_trans hb k.size) hL (by omega) hx.s1 hx.s16 hx.z0 hx.z1 hd c0 (by omega) (xok_read hx p2 c0 (by omega)) hy t)
    ·rw [if_pos rfl]
     refine do_2 h a hn k2 t (fun w' k=>(readO_any (h.below k) (Nat.le_trans hb k.size) (by omega) hy t).mono ?_)
     rintro e w'' ⟨rfl, G', h1, h2⟩
     exact ⟨rfl, F, G', h1, h2⟩
   ·rw [if_neg k2]
    by_cases k3:a.kind=3
    ·rw [if_pos k3]
     by_cases h5:Tl.writeE x.tb a.cell=5
     ·rw [if_pos h5]
      have hp:Tl.put x.tb a.cell a.value=x.tb:=put_same h5
      refine do_3 h a hn k3 t (fun w' k=>(wrote_any (h.below k) (Nat.le_trans hb k.size) (by omega) a.cell a.value).mono ?_)
      rintro e w'' ⟨rfl, G', h1, h2⟩
      rw [if_pos h5,hp] at h1
      rw [if_pos h5]
      exact ⟨rfl, F, G', h1, h2⟩
     ·rw [if_neg h5]
      refine do_3 h a hn k3 t (fun w' k=>(wrote_any (h.below k) (Nat.le_trans hb k.size) (by omega) a.cell a.value).mono ?_)
      rintro e w'' ⟨rfl, G', h1, h2⟩
      rw [if_neg h5] at h1
      rw [if_neg h5]
      exact ⟨rfl, F, G', h1, h2⟩
    ·rw [if_neg k3]
     by_cases k4:a.kind=4
     ·rw [if_pos k4]
      by_cases h0:x.tb.R.length=0
      ·rw [if_pos h0]
       refine do_4 h a hn k4 t (fun w' k=>(commN_any (h.below k) (Nat.le_trans hb k.size) (by omega) h0 t).mono ?_)
       rintro e w'' ⟨rfl, G', h1, h2⟩
       exact ⟨rfl, F, G', h1, h2⟩
      ·rw [if_neg h0]
       exact do_4 h a hn k4 t (fun w' k=>commF_any (h.below k) (Nat.le_trans hb k.size) hL (by omega) hx.s1 hx.s16 hx.z0 hx.z1 hd hx.n1 hx.n2 (xok_comm hx (t4 k4) h0) h0 t)
     ·rw [if_neg k4]
      refine do_5 h a hn ⟨k1,k2,k3,k4⟩ t (fun w' k=>(abort_any (h.below k) (Nat.le_trans hb k.size) (by omega) a.code).mono ?_)
      rintro e w'' ⟨rfl, G', h1, h2⟩
      exact ⟨rfl, F, G', h1, h2⟩
theorem xok_do {c r:Nat} {x:Tx} {L:List Ac} {t:Int} {a:Wa} (h:XOk x) (hd:Wd L) (hc:c≤1024) (hv:W64 a.value):XOk (doX c r x L t a).x∧Wd (doX c r x L t a).L∧(doX c r x L t a).L.length≤L.length+1∧(doX c r x L t a).x.ev.length≤x.ev.length+2:=by
 unfold doX
 cases hn:takesX c r x a
 ·rw [if_neg (by decide)]; exact ⟨h,hd,by simp,by simp⟩
 ·rw [if_pos rfl]
  obtain ⟨hr,t1,t2,t4,t5⟩:=takes_iff hn
  have fin : ∀ why,XOk (x.finis why)∧Wd L∧L.length≤L.length+1∧(x.finis why).ev.length≤x.ev.length+2:=fun why=>⟨xok_fin h _,hd,by omega,by simp [Tx.finis,Tx.reset,Tx.tell]⟩
  by_cases k1:a.kind=1
  ·rw [if_pos k1]
   obtain ⟨a1,a2,a3,a4⟩:=xok_step (c:=c) (r:=r) (t:=t) (xok_open h (t1 k1)) hd
   exact ⟨a1,a2,a3,by have e1:(openX x).ev.length=x.ev.length+1:=(by simp [openX]); omega⟩
  ·rw [if_neg k1]
   by_cases k2:a.kind=2
   ·rw [if_pos k2]
    obtain ⟨p2,c0,c1⟩:=t2 (Or.inl k2)
    cases hy:Tl.getY x.tb a.cell
    ·rw [if_neg (by decide)]
     obtain ⟨a1,a2,a3,a4⟩:=xok_step (c:=c) (r:=r) (t:=t) (xok_read h p2 c0 (by omega)) hd
     exact ⟨a1,a2,a3,by have e1:(readX x a.cell).ev.length=x.ev.length:=rfl; omega⟩
    ·rw [if_pos rfl]
     exact ⟨xok_tell h _,hd,by simp,by simp [Tx.tell]⟩
   ·rw [if_neg k2]
    by_cases k3:a.kind=3
    ·rw [if_pos k3]
     obtain ⟨p2,c0,c1⟩:=t2 (Or.inr k3)
     by_cases h5:Tl.writeE x.tb a.cell=5
     ·rw [if_pos h5]; exact fin 5
     ·rw [if_neg h5]
      refine ⟨xok_tell (x:={ x with tb:=Tl.put x.tb a.cell a.value }) (xok_put h p2 hv) _,hd,by simp,by simp [Tx.tell]⟩
    ·rw [if_neg k3]
     by_cases k4:a.kind=4
     ·rw [if_pos k4]
      by_cases h0:x.tb.R.length=0
      ·rw [if_pos h0]; exact fin 0
      ·rw [if_neg h0]
       obtain ⟨a1,a2,a3,a4⟩:=xok_step (c:=c) (r:=r) (t:=t) (xok_comm h (t4 k4) h0) hd
       exact ⟨a1,a2,a3,by have e1:(commX x).ev.length=x.ev.length:=rfl; omega⟩
     ·rw [if_neg k4]; exact fin a.code
end Go.Proofs.YtdkpgdkjohjcaaaGreat
namespace Go.Proofs.YtdkpgdkjohjcaaaGreat
open Go.RowKit (wrap64)
set_option linter.unusedVariables false
def actX (c r:Nat) (x:Tx) (L:List Ac) (t:Int):Option Wa→Out
 | none=>stepX c r x L t
 | some a=>doX c r x L t a
def stOf (x:Tx):Int:=match x.wy with
 | .wr P _=>P.st
 | _=>0
theorem stOf_no {x:Tx} (h : ∀ P b,x.wy ≠ .wr P b):stOf x=0:=by
 unfold stOf
 cases hy:x.wy with
 | wr P b=>exact absurd hy (h P b)
 | _=>rfl
def WhyS (N:Int) (g:Rg) (z:Int) (e:Ev):Prop :=
 (e.err=3 ∧ ∃ t:Nat,z < (t:Int)∧t≤g.n∧Fe.Clash g.vw e.sig t)∨(e.err=4∧z+(g.s:Int) < (g.n:Int))∨(e.err=6∧(g.n:Int)=N)
def Why (N:Int) (m:Nat) (g:Rg) (x:Tx) (a:Option Wa) (e:Ev):Prop :=
 WhyS N g x.z e∨(e.err=5∧x.tb.R.length=m)∨((e.err=7∨e.err=8) ∧ ∃ w,a=some w∧w.code=e.err)∨(e.err=0∧x.tb.R = [] ∧ e.sig=x.rd)
def Tel (W:Ev→Prop) (g:Rg) (x:Tx) (r:List (Int × Int)) (y:Tx) (e:Ev) (g':Rg) (r':List (Int × Int)):Prop :=
 (e.kind=1∧g'=g∧r' = [] ∧ e.start≤e.seen∧e.seen≤(g.n:Int)∧stOf y=stOf x) ∨
 (e.kind = 2 ∧ g' = g ∧ ((e.own = true ∧ Tl.getY x.tb e.cell = true ∧ e.value = Tl.getV x.tb e.cell ∧ r' = r) ∨ (e.own = false ∧ Tl.getY x.tb e.cell = false ∧ r' = r ++ [(e.cell, e.value)])) ∧ (∀ q ∈ r', q.2 = g.val q.1 e.seen.toNat) ∧ stOf y = stOf x) ∨
 (e.kind=3∧g'=g∧r'=r∧stOf y=stOf x) ∨
 (e.kind=4∧g'=g.pub (toW x.tb.R)∧r'=r∧e.stamp=(g.n:Int)+1∧x.tb.R ≠ [] ∧ e.sig=Ba.sgOf (toW x.tb.R)∧(∀ q ∈ r,q.2=g.val q.1 g.n)∧stOf y=(g.n:Int)+1) ∨
 (e.kind=5∧g'=g.don∧r'=r∧e.stamp=(g.d:Int)+1∧stOf y=0) ∨
 (e.kind=6∧g'=g∧r'=r∧W e∧stOf y=stOf x)
structure Hap (W:Ev→Prop) (c:Nat) (N:Int) (m:Nat) (L:List Ac) (g:Rg) (T:Nat→Tx) (R:Nat→List (Int × Int)) (k:Nat) (pre:List Ev) (o:Out) (E:List Ev) (g':Rg) (r':List (Int × Int)):Prop where
 wi:WI c N m o.L g' (setT T k o.x) (setT R k r')
 ev:o.x.ev=(T k).ev++(pre++E)
 acc:(o.y=true∧o.L.length=L.length+1)∨(o.y=false∧o.L=L)
 wait:o.k=1→o.x.phase=(T k).phase∧pre = [] ∧ E = [] ∧ g.d≠g.n∧g'=g∧stOf (T k)≠(g.d:Int)+1
 mov:o.k=2→o.y=true
 tel:(E = [] ∧ g'.W=g.W∧g'.d=g.d∧r'=R k∧stOf o.x=stOf (T k))∨(∃ e,E = [e] ∧ Tel W g (T k) (R k) o.x e g' r')
theorem setT_id {α:Type} (T:Nat→α) (k:Nat):setT T k (T k)=T:=funext fun j=>by
 unfold setT
 split
 ·next e=>rw [e]
 ·rfl
theorem setT_two {α:Type} (T:Nat→α) (k:Nat) (x y:α):setT (setT T k x) k y=setT T k y:=funext fun j=>by
 unfold setT
 split <;> rfl
theorem fin_cf {N:Int} {m:Nat} {g:Rg} {x:Tx} (h:Cf N m g x) (v:Int) (y:Wy):Cf N m g (finX x v y).1:=by
 cases y <;> exact ⟨h.s,h.mu,h.n,h.m⟩
theorem step_cf {N:Int} {m:Nat} {g:Rg} {x:Tx} (h:Cf N m g x) (c r:Nat) (L:List Ac) (t:Int):Cf N m g (stepX c r x L t).x:=by
 unfold stepX goOn
 split
 ·exact ⟨h.s,h.mu,h.n,h.m⟩
 ·split
  ·split <;> exact fin_cf h _ _
  ·exact ⟨h.s,h.mu,h.n,h.m⟩
theorem step_rd {c r : Nat} {x : Tx} {L : List Ac} {t : Int} {P : Fe.Cp} {b : Fe.Ck} (hy : x.wy = .rd P b) : (∀ P' b', (stepX c r x L t).x.wy = .rd P' b' → P'.cell = P.cell ∧ (stepX c r x L t).x.tb = x.tb) ∧ ∀ P' b', (stepX c r x L t).x.wy ≠ .wr P' b' := by
 unfold stepX goOn stepM
 rw [hy]
 simp only [finX]
 split
 ·exact ⟨fun P' b' e=>by simp [Tx.finis,Tx.reset] at e,fun P' b' e=>by simp [Tx.finis,Tx.reset] at e⟩
 ·split
  ·exact ⟨fun P' b' e=>by simp [Tx.live,Tx.tell] at e,fun P' b' e=>by simp [Tx.live,Tx.tell] at e⟩
  ·refine ⟨fun P' b' e => ?_,fun P' b' e=>by simp at e⟩
   simp only [Wy.rd.injEq] at e
   refine ⟨?_,rfl⟩
   rw [← e.1]
   unfold Fe.nextFP
   split
   ·split <;> rfl
   ·rfl
theorem step_bg {c r : Nat} {x : Tx} {L : List Ac} {t : Int} {b : Bg} (hy : x.wy = .bg b) : (∀ P' b', (stepX c r x L t).x.wy ≠ .rd P' b') ∧ ∀ P' b', (stepX c r x L t).x.wy ≠ .wr P' b' := by
 unfold stepX goOn stepM
 rw [hy]
 simp only [finX]
 split
 ·exact ⟨fun P' b' e=>by simp [Tx.finis,Tx.reset] at e,fun P' b' e=>by simp [Tx.finis,Tx.reset] at e⟩
 ·split
  ·exact ⟨fun P' b' e=>by simp [Tx.live,Tx.tell] at e,fun P' b' e=>by simp [Tx.live,Tx.tell] at e⟩
  ·exact ⟨fun P' b' e=>by simp at e,fun P' b' e=>by simp at e⟩
theorem ph_no {x:Tx} {p:Int} (h:x.phase=p):(p≠3 → ∀ P b,x.wy ≠ .rd P b)∧(p≠5 → ∀ P b,x.wy ≠ .wr P b):=by
 unfold Tx.phase at h
 refine ⟨fun hp P b e => ?_,fun hp P b e => ?_⟩
 ·rw [e] at h; exact hp h.symm
 ·rw [e] at h; exact hp h.symm
theorem fin_no (x:Tx) (why:Int):(∀ P b,(x.finis why).wy ≠ .rd P b) ∧ ∀ P b,(x.finis why).wy ≠ .wr P b:=⟨fun P b e=>by simp [Tx.finis,Tx.reset] at e,fun P b e=>by simp [Tx.finis,Tx.reset] at e⟩
theorem hap_step {c:Nat} {N:Int} {m:Nat} {L:List Ac} {g:Rg} {T:Nat→Tx} {R:Nat→List (Int × Int)} {k:Nat} (h:WI c N m L g T R) (hk:k < 4) (t:Int) :
  ∃ E g' r', Hap (WhyS N g (T k).z) c N m L g T R k [] (stepX c g.s (T k) L t) E g' r' := by
 have hx:=h.ok k hk
 have hc:=h.cf k hk
 have ht:=h.ti k hk
 have hro:=h.rdo k hk
 have hxs:=xok_step (c:=c) (r:=g.s) (t:=t) hx h.wd
 have hcf:=step_cf hc c g.s L t
 have hnm:=h.nm
 cases hy:(T k).wy with
 | no =>
  rw [stepX_no hy]
  exact ⟨[],g,R k,by rw [setT_id,setT_id]; exact h,by simp,Or.inr ⟨rfl,rfl⟩,fun e=>by simp at e,fun e=>by simp at e,Or.inl ⟨rfl,rfl,rfl,rfl,rfl⟩⟩
 | bg b =>
  have n1 : ∀ P b,(T k).wy ≠ .wr P b:=fun P b e=>by rw [hy] at e; cases e
  obtain ⟨a1,a2,a3,a4⟩:=st_bg (t:=t) h.ri hc.s hx h.wd ht hy
  obtain ⟨q1,q2⟩:=step_bg (c:=c) (r:=g.s) (L:=L) (t:=t) hy
  have s0:stOf (stepX c g.s (T k) L t).x=stOf (T k):=by rw [stOf_no q2,stOf_no n1]
  have hm:=wi_mem h a1
  generalize stepX c g.s (T k) L t=o at *
  rcases a4 with ⟨b1,b2,b3,b4⟩ | ⟨b1,b2,b3,b4,b5,b6⟩
  ·exact ⟨[],g,R k,wi_put hm hk hxs.1 hcf b4 n1 q2 (fun P b e=>absurd e (q1 P b)),by rw [b2]; simp,Or.inl ⟨a3,a2⟩,fun e=>by omega,fun _=>a3,Or.inl ⟨rfl,rfl,rfl,rfl,s0⟩⟩
  ·exact ⟨_,g,[],wi_put hm hk hxs.1 hcf b6 n1 q2 (fun P b e=>absurd e (q1 P b)),b2,Or.inl ⟨a3,a2⟩,fun e=>by omega,fun _=>a3,Or.inr ⟨_,rfl,Or.inl ⟨rfl,rfl,rfl,b4,b5,s0⟩⟩⟩
 | rd P b =>
  have n1 : ∀ P b,(T k).wy ≠ .wr P b:=fun P b e=>by rw [hy] at e; cases e
  have a:=st_rd (t:=t) h.ri hc.s hx h.wd ht hy
  obtain ⟨q1,q2⟩:=step_rd (c:=c) (r:=g.s) (L:=L) (t:=t) hy
  have s0:stOf (stepX c g.s (T k) L t).x=stOf (T k):=by rw [stOf_no q2,stOf_no n1]
  have p3:(T k).phase=3:=by unfold Tx.phase; rw [hy]
  have hgy:=hro P b hy
  have ro : ∀ P' b', (stepX c g.s (T k) L t).x.wy = .rd P' b' → Tl.getY (stepX c g.s (T k) L t).x.tb P'.cell = false := fun P' b' e => by
   obtain ⟨e1,e2⟩:=q1 P' b' e
   rw [e1,e2]; exact hgy
  have hm:=wi_mem h a.w
  have hst:stOf (T k)≠(g.d:Int)+1:=by rw [stOf_no n1]; omega
  generalize stepX c g.s (T k) L t=o at *
  rcases a.c with ⟨b1,b2,b3,b4,b5⟩ | ⟨b1,b2,b3,b4⟩ | ⟨b1,b2,b3,b4,b5⟩ | ⟨b1,b2,b3⟩
  ·exact ⟨[],g,R k,wi_put hm hk hxs.1 hcf b4 n1 q2 ro,by rw [b2]; simp,Or.inl ⟨a.y,a.len⟩,fun e=>⟨b3.trans p3.symm,rfl,rfl,b5,rfl,hst⟩,fun _=>a.y,Or.inl ⟨rfl,rfl,rfl,rfl,s0⟩⟩
  ·exact ⟨[],g,R k,wi_put hm hk hxs.1 hcf b4 n1 q2 ro,by rw [b2]; simp,Or.inl ⟨a.y,a.len⟩,fun e=>by omega,fun _=>a.y,Or.inl ⟨rfl,rfl,rfl,rfl,s0⟩⟩
  ·exact ⟨_,g,R k ++ [(P.cell,o.v)],wi_put hm hk hxs.1 hcf b4 n1 q2 ro,b2,Or.inl ⟨a.y,a.len⟩,fun e=>by omega,fun _=>a.y,Or.inr ⟨_,rfl,Or.inr (Or.inl ⟨rfl,rfl,Or.inr ⟨rfl,hgy,rfl⟩,b5,s0⟩)⟩⟩
  ·refine ⟨[(T k).ended o.e],g,R k,wi_put hm hk hxs.1 hcf (by rw [b2]; exact ti_none _) n1 q2 ro,by rw [b2]; rfl,Or.inl ⟨a.y,a.len⟩,fun e=>by omega,fun _=>a.y,Or.inr ⟨_,rfl,Or.inr (Or.inr (Or.inr (Or.inr (Or.inr ⟨rfl,rfl,rfl, ?_,s0⟩))))⟩⟩
   rcases b3 with ⟨e3,q,q1,q2,q3⟩ | ⟨e4,q⟩
   ·exact Or.inl ⟨e3,q,q1,q2,q3⟩
   ·exact Or.inr (Or.inl ⟨e4,q⟩)
 | cm P b u =>
  have n1 : ∀ P b,(T k).wy ≠ .wr P b:=fun P b e=>by rw [hy] at e; cases e
  have a:=st_cm (t:=t) h.ri hc.s hc.mu hx h.wd ht hy
  have p4:(T k).phase=4:=by unfold Tx.phase; rw [hy]
  have hst:stOf (T k)≠(g.d:Int)+1:=by rw [stOf_no n1]; omega
  have hne:=hx.ne (Or.inl p4)
  generalize stepX c g.s (T k) L t=o at *
  rcases a.c with ⟨b1,b0,b2,b3,b4,b5⟩ | ⟨b1,b0,b2,b3,b4⟩ | ⟨b1,b0,b2,b3⟩ | ⟨b1,b2,b3,b4,b5⟩
  ·obtain ⟨q1,q2⟩:=ph_no b3
   have s0:stOf o.x=stOf (T k):=by rw [stOf_no (q2 (by omega)),stOf_no n1]
   exact ⟨[],g,R k,wi_put (wi_mem h b0) hk hxs.1 hcf b4 n1 (q2 (by omega)) (fun P b e=>absurd e (q1 (by omega) P b)),by rw [b2]; simp,Or.inl ⟨a.y,a.len⟩,fun e=>⟨b3.trans p4.symm,rfl,rfl,b5,rfl,hst⟩,fun _=>a.y,Or.inl ⟨rfl,rfl,rfl,rfl,s0⟩⟩
  ·obtain ⟨q1,q2⟩:=ph_no b3
   have s0:stOf o.x=stOf (T k):=by rw [stOf_no (q2 (by omega)),stOf_no n1]
   exact ⟨[],g,R k,wi_put (wi_mem h b0) hk hxs.1 hcf b4 n1 (q2 (by omega)) (fun P b e=>absurd e (q1 (by omega) P b)),by rw [b2]; simp,Or.inl ⟨a.y,a.len⟩,fun e=>by omega,fun _=>a.y,Or.inl ⟨rfl,rfl,rfl,rfl,s0⟩⟩
  ·obtain ⟨q1,q2⟩:=fin_no (T k) o.e
   rw [← b2] at q1 q2
   have s0:stOf o.x=stOf (T k):=by rw [stOf_no q2,stOf_no n1]
   refine ⟨[(T k).ended o.e],g,R k,wi_put (wi_mem h b0) hk hxs.1 hcf (by rw [b2]; exact ti_none _) n1 q2 (fun P b e=>absurd e (q1 P b)),by rw [b2]; rfl,Or.inl ⟨a.y,a.len⟩,fun e=>by omega,fun _=>a.y,Or.inr ⟨_,rfl,Or.inr (Or.inr (Or.inr (Or.inr (Or.inr ⟨rfl,rfl,rfl, ?_,s0⟩))))⟩⟩
   rcases b3 with ⟨e3,q,q1,q2,q3⟩ | ⟨e4,q⟩ | ⟨e6,q⟩
   ·exact Or.inl ⟨e3,q,q1,q2,q3⟩
   ·exact Or.inr (Or.inl ⟨e4,q⟩)
   ·have:=hc.n
    exact Or.inr (Or.inr ⟨e6,by omega⟩)
  ·have hw:o.x.wy = .wr ((g.pub (toW (T k).tb.R)).P (g.n+1)) ((g.pub (toW (T k).tb.R)).bk (g.n+1)):=by rw [b2]; rfl
   have hcell : ∀ y ∈ o.x.tb.R,y.c < (c:Int):=by rw [b2]; exact ht.1
   refine ⟨_,g.pub (toW (T k).tb.R),R k,by rw [setT_id]; exact wi_pub h hk n1 b3 hxs.2.1 hxs.1 hcf hw hcell (by have:=hc.n; omega),by rw [b2]; rfl,Or.inl ⟨a.y,a.len⟩,fun e=>by omega,fun _=>a.y,Or.inr ⟨_,rfl,Or.inr (Or.inr (Or.inr (Or.inl ⟨rfl,rfl,rfl,rfl,hne,wrS_sg _,b5, ?_⟩)))⟩⟩
   unfold stOf
   rw [hw]
   unfold Rg.P
   simp
 | wr P b =>
  obtain ⟨q,q1,q2,rfl,rfl⟩:=h.wr k hk P b hy
  have a:=st_wr (c:=c) (t:=t) h.ri hx ht.1 q1 q2 hy
  have sq:stOf (T k)=(q:Int):=by unfold stOf; rw [hy]; rfl
  have hnw:(stepX c g.s (T k) L t).L=(stepX c g.s (T k) L t).L:=rfl
  generalize stepX c g.s (T k) L t=o at *
  rcases a.c with ⟨b1, b2, b3, b4⟩ | ⟨b1, b', b2, b3, b4⟩ | ⟨b1, b2, b3, b4⟩
  ·have hdn:g.d≠g.n:=by omega
   exact ⟨[],g,R k,by rw [setT_id,b3,setT_id]; exact wi_mem h b2,by rw [b3]; simp,Or.inl ⟨a.y,a.len⟩,fun e=>⟨by rw [b3],rfl,rfl,hdn,rfl,by rw [sq]; omega⟩,fun _=>a.y,Or.inl ⟨rfl,rfl,rfl,rfl,by rw [b3]⟩⟩
  ·have hxx:XOk { T k with wy:=.wr (g.P q) b' }:=by rw [← b4]; exact hxs.1
   exact ⟨[], g.set q b', R k, by rw [setT_id, b4]; exact wi_set h hk q1 q2 hy b2 b3 hxs.2.1 hxx, by rw [b4]; simp, Or.inl ⟨a.y, a.len⟩, fun e => by omega, fun _ => a.y, Or.inl ⟨rfl, rfl, rfl, rfl, by rw [sq, b4]; rfl⟩⟩
  ·subst b2
   have q3 : ∀ P b,o.x.wy ≠ .wr P b:=fun P b e=>by rw [b4] at e; simp [Tx.reset] at e
   have q4 : ∀ P b,o.x.wy ≠ .rd P b:=fun P b e=>by rw [b4] at e; simp [Tx.reset] at e
   have hti:TI c g.don o.x (R k):=by rw [b4]; exact ⟨fun y hy=>by simp [Tx.reset,Tl.empty] at hy,fun hb=>by simp [Tx.reset] at hb⟩
   exact ⟨_,g.don,R k,by rw [setT_id]; exact wi_don h hk q2 hy b3 hxs.2.1 hxs.1 hcf hti q3 q4,by rw [b4]; rfl,Or.inl ⟨a.y,a.len⟩,fun e=>by omega,fun _=>a.y,Or.inr ⟨_,rfl,Or.inr (Or.inr (Or.inr (Or.inr (Or.inl ⟨rfl,rfl,rfl,by simp,stOf_no q3⟩))))⟩⟩
end Go.Proofs.YtdkpgdkjohjcaaaGreat
namespace Go.Proofs.YtdkpgdkjohjcaaaGreat
open Go.ChangeShapes Go.WideShapes Go.ChangeAt Go.RowKit
attribute [local go_sem ↓] Go.wp_at_zero Go.wp_at_succ
def confT (raw s wr n:Int) (mu:Bool) (tr:Int) (v:Value):Value:=.agg #[.int .i64 raw,.int .i64 s,.int .i64 wr,.int .i64 n,.bool mu,.int .i64 tr,v]
theorem newT_yes (w:World) (base:Nat) (hb:base≤w.heap.size) (raw:Int) (s m:Nat) (n:Int) (mu:Bool) (tr:Int) (v:Value) (h1:1≤s) (h2:s≤16) (h3:1≤n) (h4:n≤1099511627776) (m1:1≤m) (m2:m≤24) :
  Calls Tryz.prog 21 #[confT raw (s:Int) (m:Int) n mu tr v] w fun e w' => ∃ T G,e = .returned (.tuple #[.pointer (some ⟨T,0,none⟩),.int .i64 0])∧TxAt w' base T (newX s n mu m) G∧(∀ q ∈ G,w.heap.size≤q)∧Below w.heap.size w w':=by
 have HLN : Hid (∀ w', Calls Tryz.prog 30 #[.int .i64 (m : Int)] w' fun e w'' => ∃ L B, e = .returned (.tuple #[.pointer (some ⟨L, 0, none⟩), .int .i64 0]) ∧ w'.heap.size ≤ L ∧ w'.heap.size ≤ B ∧ Tl.LogAt w'' L B (Tl.empty m) Sg.nought ∧ Below w'.heap.size w' w'') := fun w' => Tl.lnew_yes w' m m1 m2
 have d1:decide ((s:Int) < 1)=false:=by simp; omega
 have d2:decide ((16:Int) < (s:Int))=false:=by simp; omega
 have d3:decide (n < 1)=false:=by simp; omega
 have d4:decide ((1099511627776:Int) < n)=false:=by simp; omega
 clear h1 h2 h3 h4 m1 m2
 unfold confT
 go_enter Tryz.func21,Tryz.ntmps21
 go_wp2_with fail
 refine (HLN.out _).mono ?_
 rintro e w1 ⟨lg,tk,rfl,hl1,hl2,hl,hb1⟩
 have HB1:Hid (Below w.heap.size w w1):=below_then (below_a1 _ _) hb1
 have HC1:Hid (w1.heap[w.heap.size]? = some (.cells #[.int .i64 raw,.int .i64 (s:Int),.int .i64 (m:Int),.int .i64 n,.bool mu,.int .i64 tr,v] 24 (0,0))):=row_on (heap_alloc_new _ _) hb1
 have HL1:Hid (Tl.LogAt w1 lg tk (Tl.empty m) Sg.nought∧w.heap.size≤lg∧w.heap.size≤tk):=⟨hl,by simp at hl1; omega,by simp at hl2; omega⟩
 have y1:w1.cell? ⟨w.heap.size,1,none⟩=some (.int .i64 (s:Int)):=by rw [cell_at HC1.out]; rfl
 have y3:w1.cell? ⟨w.heap.size,3,none⟩=some (.int .i64 n):=by rw [cell_at HC1.out]; rfl
 have y4:w1.cell? ⟨w.heap.size,4,none⟩=some (.bool mu):=by rw [cell_at HC1.out]; rfl
 have hW:=heap_lt HC1.out
 clear hl1 hl2 hl hb1
 go_wp2
 have hs1:=HB1.out.size
 have HB3 : ∀ o1 o2,Below w1.heap.size w1 ((w1.alloc o1).alloc o2):=fun o1 o2=>below_then (below_a1 _ _) (below_a1 _ _)
 go_ret2
 refine ⟨w1.heap.size+1,_,rfl,⟨lg,tk,.slice none 0 0,.nilIface,[],tx_build (x:=newX s n mu m) (heap_alloc2_new w1 _ _) (HL1.out.1.below (HB3 _ _)) ⟨rfl,Or.inl ⟨rfl,rfl⟩⟩ ⟨rfl,rfl⟩ (by omega) (by have:=HL1.out.2.1; omega) (by have:=HL1.out.2.2; omega) List.nodup_nil (by simp) (by simp) (by simp) (fun _ _=>by simp)⟩,fun q hq => ?_,below_then HB1.out (HB3 _ _)⟩
 simp [Value.ownBlock] at hq
 have a1:=HL1.out.2.1
 have a2:=HL1.out.2.2
 omega
theorem newT_no (w:World) (raw s m n:Int) (mu:Bool) (tr:Int) (v:Value) (h : ¬ (1≤s∧s≤16∧1≤m∧m≤24∧1≤n∧n≤1099511627776)) :
  Calls Tryz.prog 21 #[confT raw s m n mu tr v] w fun e w' => e = .returned (.tuple #[.pointer none,.int .i64 1])∧Below w.heap.size w w':=by
 have HLN : Hid (¬ (1 ≤ m ∧ m ≤ 24) → ∀ w', Calls Tryz.prog 30 #[.int .i64 m] w' fun e w'' => e = .returned (.tuple #[.pointer none, .int .i64 1]) ∧ w'' = w') := fun hm w' => Tl.lnew_no w' m hm
 unfold confT
 have hc:s < 1∨(¬ s < 1∧16 < s)∨(¬ s < 1 ∧ ¬ 16 < s∧n < 1)∨(¬ s < 1 ∧ ¬ 16 < s ∧ ¬ n < 1∧1099511627776 < n)∨(¬ s < 1 ∧ ¬ 16 < s ∧ ¬ n < 1 ∧ ¬ 1099511627776 < n ∧ ¬ (1≤m∧m≤24)):=by omega
 clear h
 rcases hc with e1 | ⟨e1,e2⟩ | ⟨e1,e2,e3⟩ | ⟨e1,e2,e3,e4⟩ | ⟨e1,e2,e3,e4,e5⟩
 ·have d1:decide (s < 1)=true:=by simpa using e1
  go_enter Tryz.func21,Tryz.ntmps21
  go_wp2
  go_ret2
  exact ⟨rfl,below_a1 _ _⟩
 ·have d1:decide (s < 1)=false:=by simpa using e1
  have d2:decide (16 < s)=true:=by simpa using e2
  go_enter Tryz.func21,Tryz.ntmps21
  go_wp2
  go_ret2
  exact ⟨rfl,below_a1 _ _⟩
 ·have d1:decide (s < 1)=false:=by simpa using e1
  have d2:decide (16 < s)=false:=by simpa using e2
  have d3:decide (n < 1)=true:=by simpa using e3
  go_enter Tryz.func21,Tryz.ntmps21
  go_wp2
  go_ret2
  exact ⟨rfl,below_a1 _ _⟩
 ·have d1:decide (s < 1)=false:=by simpa using e1
  have d2:decide (16 < s)=false:=by simpa using e2
  have d3:decide (n < 1)=false:=by simpa using e3
  have d4:decide (1099511627776 < n)=true:=by simpa using e4
  go_enter Tryz.func21,Tryz.ntmps21
  go_wp2
  go_ret2
  exact ⟨rfl,below_a1 _ _⟩
 ·have d1:decide (s < 1)=false:=by simpa using e1
  have d2:decide (16 < s)=false:=by simpa using e2
  have d3:decide (n < 1)=false:=by simpa using e3
  have d4:decide (1099511627776 < n)=false:=by simpa using e4
  have HM : Hid (∀ w', Calls Tryz.prog 30 #[.int .i64 m] w' fun e w'' => e = .returned (.tuple #[.pointer none, .int .i64 1]) ∧ w'' = w') := HLN.out e5
  clear e1 e2 e3 e4 e5 HLN
  go_enter Tryz.func21,Tryz.ntmps21
  go_wp2_with fail
  refine (HM.out _).mono ?_
  rintro e w1 ⟨rfl,rfl⟩
  go_wp2
  go_ret2
  exact ⟨rfl,below_a1 _ _⟩
theorem evsC_drop (l:List Ev) (k:Nat):evsC (l.drop k)=(evsC l).drop (k * 19):=by
 induction l generalizing k with
 | nil=>simp [evsC]
 | cons x l ih =>
  cases k with
  | zero=>simp
  | succ k =>
   rw [List.drop_succ_cons,ih k]
   show _=(evC x++evsC l).drop ((k+1) * 19)
   rw [List.drop_append]
   have:(evC x).length=19:=rfl
   have hd:(evC x).drop ((k+1) * 19) = []:=List.drop_eq_nil_of_le (by rw [this]; omega)
   rw [hd,this,show (k+1) * 19 - 19=k * 19 by omega]
   rfl
theorem clone_ev {w:World} {x:Addr} {l:List Ev} {cap:Nat} (hp:0 < l.length) (hx:x.block < w.heap.size) (hn : ∀ j u,(evsC l)[j]? = some u→w.cell? (x.add j)=some u) (hb:l.length < 1073741824) :
  Calls Tryz.prog 24 #[.slice (some x) l.length cap] w fun e w' => ∃ u,e = .returned u∧w'.ownsRow w.heap.size 58 19 u l.length (evsC l)∧Below w.heap.size w w':=by
 obtain ⟨i0,hi,hz0,hz1,hz2⟩:=info_parts info_ev
 have hs2 : ∀ x n cap w,(binOp .eql 45 (.slice (some x) n cap) (.slice none 0 0)).run Tryz.prog w = .ok (.bool false) w:=fun _ _ _ _=>rfl
 have hlen:(evsC l).length=l.length * 19:=evsC_len _
 obtain ⟨v', w', hrun, hown', hgrow⟩ := run_copy_wide0 (P := Tryz.prog) (w.alloc (.cells #[] 58)) 45 45 58 i0 _ 19 152 Tryz.underlying45 hi hz0 hz1 hz2 rfl ⟨w.heap.size, 0, none⟩ x l.length cap (evsC l) hlen (fun j u hu => ((below_a1 w _).cell (p := x.add j) (by rw [add_block]; exact hx)).trans (hn j u hu)) hp (by unfold maxLen; omega) (by omega)
 have HO:Hid (w'.ownsRow w.heap.size 58 19 v' l.length (evsC l)):=own_base hown' (by simp)
 have HB:Hid (Below w.heap.size w w'):=below_then (below_a1 _ _) ⟨hgrow.os,hgrow.tape,hgrow.output,hgrow.size,fun b hb=>hgrow.block b hb (by simp)⟩
 obtain ⟨va,vc,rfl⟩:=own_slice HO.out
 generalize evsC l=xs at *
 generalize l.length=n at *
 clear hown' hgrow hlen hn
 go_enter Tryz.func24,Tryz.ntmps24
 go_wp2_with (at_builtin; refine Lib.wpList_append_run_sl _ rfl _ _ 45 rfl _ _ rfl rfl hrun ?_)
 go_wp2
 go_ret
 exact ⟨_,rfl,HO.out,HB.out⟩
theorem clone_nil (w:World):Calls Tryz.prog 24 #[.slice none 0 0] w fun e w' => e = .returned (.slice none 0 0)∧w'=w:=by
 have hs1 : ∀ n cap w,(binOp .eql 45 (.slice none n cap) (.slice none 0 0)).run Tryz.prog w = .ok (.bool true) w:=fun _ _ _=>rfl
 go_enter Tryz.func24,Tryz.ntmps24
 go_wp2
 go_ret
 exact ⟨rfl,rfl⟩
theorem clone_none (w:World) (x:Addr) (cap:Nat):Calls Tryz.prog 24 #[.slice (some x) 0 cap] w fun e w' => e = .returned (.slice (some ⟨w.heap.size,0,none⟩) 0 0)∧w'.ownsRow w.heap.size 58 19 (.slice (some ⟨w.heap.size,0,none⟩) 0 0) 0 [] ∧ Below w.heap.size w w':=by
 have hs2 : ∀ x n cap w,(binOp .eql 45 (.slice (some x) n cap) (.slice none 0 0)).run Tryz.prog w = .ok (.bool false) w:=fun _ _ _ _=>rfl
 go_enter Tryz.func24,Tryz.ntmps24
 go_wp2
 go_ret
 exact ⟨rfl,⟨rfl,Or.inr ⟨w.heap.size,0,#[],rfl,Nat.le_refl _,heap_alloc_new _ _,Nat.le_refl _,Nat.zero_le _,rfl,rfl⟩⟩,below_a1 _ _⟩
def fromE (l:List Ev) (k:Int):List Ev:=l.drop k.toNat
theorem told_any {w:World} {base T:Nat} {x:Tx} {G:List Nat} (h:TxAt w base T x G) (hE:x.ev.length < 1073741824) (k:Int):Calls Tryz.prog 10 #[.pointer (some ⟨T,0,none⟩),.int .i64 k] w fun e w' => ∃ v,e = .returned v∧w'.ownsRow w.heap.size 58 19 v (fromE x.ev k).length (evsC (fromE x.ev k))∧Below w.heap.size w w':=by
 obtain ⟨lg,tk,ev,wv,Gm,h'⟩:=h
 obtain ⟨x0,x1,x2,x3,x4,x5,x6,x7,x8,x9,x10,x11,x12⟩:=h'.raw.cells
 have hT:=heap_lt h'.raw
 have hown:=h'.evs
 clear h' x0 x1 x2 x3 x4 x5 x6 x7 x9 x10 x11 x12
 by_cases hk:(x.ev.length:Int)≤k
 ·have he:fromE x.ev k = []:=by unfold fromE; exact List.drop_eq_nil_of_le (by omega)
  rw [he]
  have HNIL:Hid (∀ w:World,w.ownsRow w.heap.size 58 19 (.slice none 0 0) ([] : List Ev).length (evsC [])):=fun w=>World.ownsRow_nil _ _ _ _
  obtain ⟨va,vc,rfl⟩:=own_slice hown
  have dk:decide ((x.ev.length:Int)≤k)=true:=by simpa using hk
  generalize x.ev.length=n at *
  clear hown he
  go_enter Tryz.func10,Tryz.ntmps10
  go_wp2
  go_ret
  exact ⟨_,rfl,HNIL.out _,Below.refl _ _⟩
 ·have dk:decide ((x.ev.length:Int)≤k)=false:=by simpa using hk
  by_cases h0:x.ev.length=0
  ·have he:fromE x.ev k = []:=by unfold fromE; exact List.drop_eq_nil_of_le (by omega)
   rw [he]
   have hk0:k < 0:=by omega
   have hmx:max k 0=0:=by omega
   have HNIL:Hid (∀ w:World,w.ownsRow w.heap.size 58 19 (.slice none 0 0) ([] : List Ev).length (evsC [])):=fun w=>World.ownsRow_nil _ _ _ _
   have HCL:Hid (∀ w,Calls Tryz.prog 24 #[.slice none 0 0] w fun e w' => e = .returned (.slice none 0 0)∧w'=w):=fun w=>clone_nil w
   have HCN:Hid (∀ w x cap,Calls Tryz.prog 24 #[.slice (some x) 0 cap] w fun e w' => e = .returned (.slice (some ⟨w.heap.size,0,none⟩) 0 0)∧w'.ownsRow w.heap.size 58 19 (.slice (some ⟨w.heap.size,0,none⟩) 0 0) 0 [] ∧ Below w.heap.size w w'):=fun w x cap=>clone_none w x cap
   rcases hown.2 with ⟨rfl,_⟩ | ⟨g,cp,cur,rfl,_⟩
   ·clear hown he hk dk
    have dk:decide ((0:Int)≤k)=false:=by simp; omega
    go_enter Tryz.func10,Tryz.ntmps10
    go_wp2_with fail
    refine (HCL.out _).mono ?_
    rintro e w1 ⟨rfl,rfl⟩
    go_wp2
    go_ret
    exact ⟨_,rfl,HNIL.out _,Below.refl _ _⟩
   ·rw [h0] at x8
    clear hown he hk dk
    have dk:decide ((0:Int)≤k)=false:=by simp; omega
    go_enter Tryz.func10,Tryz.ntmps10
    go_wp2_with fail
    all_goals
     refine (HCN.out _ _ _).mono ?_
     rintro e w1 ⟨rfl,ho1,hb1⟩
     go_wp2
     go_ret
     exact ⟨_,rfl,ho1,hb1⟩
  ·obtain ⟨g,cap,rfl,hg1,hg2⟩:=hown.form (by omega)
   have hfl:(max k 0).toNat < x.ev.length:=by omega
   have hcl:x.ev.length≤cap:=by
    rcases hown.2 with ⟨e, _⟩ | ⟨g', cp, cur, e, _, _, a3, _⟩
    ·simp at e
    ·injection e with e1 e2 e3
     omega
   have hfk:(max k 0).toNat=k.toNat:=by omega
   have hle:(fromE x.ev k).length=x.ev.length - (max k 0).toNat:=by unfold fromE; rw [List.length_drop,hfk]
   have HCL : Hid (∀ cap', Calls Tryz.prog 24 #[.slice (some ⟨g, (max k 0).toNat * 19, none⟩) (x.ev.length - (max k 0).toNat) cap'] w fun e w' => ∃ u, e = .returned u ∧ w'.ownsRow w.heap.size 58 19 u (fromE x.ev k).length (evsC (fromE x.ev k)) ∧ Below w.heap.size w w') := fun cap' => by
    rw [← hle]
    refine clone_ev (by omega) hg2 (fun j u hu => ?_) (by omega)
    have hc:=hown.cells (g:=g) rfl
    unfold fromE at hu
    rw [evsC_drop,List.getElem?_drop,← hfk] at hu
    have:=hc _ u hu
    rw [← this]
    congr 1
    generalize (max k 0).toNat * 19=q
    unfold Addr.add
    by_cases ej:j=0
    ·subst ej
     by_cases eq:q=0
     ·subst eq; rfl
     ·simp [eq]
    ·have : ¬ q+j=0:=by omega
     simp [ej]
   clear hown hle hfk
   go_enter Tryz.func10,Tryz.ntmps10
   go_wp2_with fail
   ·refine (HCL.out _).mono ?_
    rintro e w1 ⟨u,rfl,ho1,hb1⟩
    obtain ⟨va,vc,rfl⟩:=own_slice ho1
    go_wp2
    go_ret
    exact ⟨_,rfl,ho1,hb1⟩
end Go.Proofs.YtdkpgdkjohjcaaaGreat
namespace Go.Proofs.YtdkpgdkjohjcaaaGreat
open Go.ChangeShapes Go.WideShapes Go.ChangeAt Go.RowKit
set_option linter.unusedVariables false
structure GG' (w:World) (base:Nat) (p:Value) (c r:Nat) (L:List Ac) (F:List Nat) (Tp:Nat→Nat) (T:Nat→Tx) (G:Nat→List Nat):Prop where
 mem:MemAt w base p c r L F
 tx : ∀ k,k < 4→TxAt w base (Tp k) (T k) (G k)
 out : ∀ k,k < 4 → ∀ q ∈ G k,q ∉ F
 dis : ∀ j k,j < 4→k < 4→j≠k → ∀ q ∈ G j,q ∉ G k
def allB (F:List Nat) (G:Nat→List Nat):List Nat:=F++(G 0++(G 1++(G 2++G 3)))
theorem mem_all {F:List Nat} {G:Nat→List Nat} {q:Nat}:q ∈ allB F G ↔ q ∈ F ∨ ∃ k,k < 4∧q ∈ G k:=by
 unfold allB
 simp only [List.mem_append]
 constructor
 ·rintro (h | h | h | h | h)
  ·exact Or.inl h
  ·exact Or.inr ⟨0,by omega,h⟩
  ·exact Or.inr ⟨1,by omega,h⟩
  ·exact Or.inr ⟨2,by omega,h⟩
  ·exact Or.inr ⟨3,by omega,h⟩
 ·rintro (h | ⟨k,hk,h⟩)
  ·exact Or.inl h
  ·rcases (show k=0∨k=1∨k=2∨k=3 by omega) with rfl | rfl | rfl | rfl
   ·exact Or.inr (Or.inl h)
   ·exact Or.inr (Or.inr (Or.inl h))
   ·exact Or.inr (Or.inr (Or.inr (Or.inl h)))
   ·exact Or.inr (Or.inr (Or.inr (Or.inr h)))
def GG (w:World) (base:Nat) (p:Value) (c r:Nat) (L:List Ac) (Tp:Nat→Nat) (T:Nat→Tx) (A:List Nat):Prop:=∃ F G,GG' w base p c r L F Tp T G∧A=allB F G
theorem GG.lt {w:World} {base:Nat} {p:Value} {c r:Nat} {L:List Ac} {Tp:Nat→Nat} {T:Nat→Tx} {A:List Nat} (h:GG w base p c r L Tp T A) : ∀ q ∈ A,base≤q∧q < w.heap.size:=by
 obtain ⟨F,G,h,rfl⟩:=h
 intro q hq
 rcases mem_all.mp hq with e | ⟨k,hk,e⟩
 ·exact h.mem.lt q e
 ·exact (h.tx k hk).lt q e
theorem GG.keep {w w':World} {base:Nat} {p:Value} {c r:Nat} {L:List Ac} {Tp:Nat→Nat} {T:Nat→Tx} {A H:List Nat} (h:GG w base p c r L Tp T A) (k:Keep H w w') (hd : ∀ q ∈ A,q ∉ H):GG w' base p c r L Tp T A:=by
 obtain ⟨F,G,h,rfl⟩:=h
 exact ⟨F,G,⟨h.mem.keep k (fun b hb=>hd b (mem_all.mpr (Or.inl hb))),fun j hj=>(h.tx j hj).keep k (fun q hq=>hd q (mem_all.mpr (Or.inr ⟨j,hj,hq⟩))),h.out,h.dis⟩,rfl⟩
theorem GG.below {w w':World} {base:Nat} {p:Value} {c r:Nat} {L:List Ac} {Tp:Nat→Nat} {T:Nat→Tx} {A:List Nat} (h:GG w base p c r L Tp T A) (k:Below w.heap.size w w'):GG w' base p c r L Tp T A:=by
 obtain ⟨F,G,h,rfl⟩:=h
 exact ⟨F,G,⟨h.mem.below k,fun j hj=>(h.tx j hj).below k,h.out,h.dis⟩,rfl⟩
theorem GG.ptr {w:World} {base:Nat} {p:Value} {c r:Nat} {L:List Ac} {Tp:Nat→Nat} {T:Nat→Tx} {A:List Nat} (h:GG w base p c r L Tp T A) : ∃ M,p = .pointer (some ⟨M,0,none⟩):=by
 obtain ⟨F,G,h,rfl⟩:=h
 exact h.mem.ptr
theorem GG.at_ {w:World} {base:Nat} {p:Value} {c r:Nat} {L:List Ac} {Tp:Nat→Nat} {T:Nat→Tx} {A:List Nat} (h:GG w base p c r L Tp T A) {k:Nat} (hk:k < 4) :
  ∃ F G, TM w base p c r L F (Tp k) (T k) G ∧ (∀ q ∈ G ++ F, q ∈ A) ∧ ∀ w' L' F' x' G', TM w' base p c r L' F' (Tp k) x' G' → Next (G ++ F) (G' ++ F') w w' → ∃ A', GG w' base p c r L' Tp (setT T k x') A' ∧ Next A A' w w' := by
 have hlt:=h.lt
 obtain ⟨F,G,h,rfl⟩:=h
 refine ⟨F,G k,⟨h.mem,h.tx k hk,h.out k hk⟩,fun q hq => ?_,fun w' L' F' x' G' tm hn => ?_⟩
 ·rcases List.mem_append.1 hq with e | e
  ·exact mem_all.mpr (Or.inr ⟨k,hk,e⟩)
  ·exact mem_all.mpr (Or.inl e)
 ·have oth : ∀ j,j < 4→j≠k → ∀ q ∈ G j,q ∉ G k++F:=fun j hj hne q hq e=>by
   rcases List.mem_append.1 e with e | e
   ·exact h.dis j k hj hk hne q hq e
   ·exact h.out j hj q hq e
  have oth' : ∀ j,j < 4→j≠k → ∀ q ∈ G j,q ∉ G'++F':=fun j hj hne q hq e=>by
   rcases hn.2 q e with e | e
   ·exact oth j hj hne q hq e
   ·have:=(hlt q (mem_all.mpr (Or.inr ⟨j,hj,hq⟩))).2; omega
  refine ⟨allB F' (setT G k G'), ⟨F', setT G k G', ⟨tm.mem, fun j hj => ?_, fun j hj q hq => ?_, fun i j hi hj hne q hq => ?_⟩, rfl⟩, hn.1.mono (fun b hb => ?_), fun b hb => ?_⟩
  ·by_cases e:j=k
   ·subst e; rw [setT_self,setT_self]; exact tm.tx
   ·rw [setT_else _ _ e,setT_else _ _ e]; exact (h.tx j hj).keep hn.1 (oth j hj e)
  ·by_cases e:j=k
   ·subst e; rw [setT_self] at hq; exact tm.out q hq
   ·rw [setT_else _ _ e] at hq; exact fun e' => oth' j hj e q hq (by simp [e'])
  ·by_cases e1:i=k
   ·subst e1
    rw [setT_self] at hq
    rw [setT_else _ _ (Ne.symm hne)]
    exact fun e' => oth' j hj (Ne.symm hne) q e' (by simp [hq])
   ·rw [setT_else _ _ e1] at hq
    by_cases e2:j=k
    ·subst e2; rw [setT_self]; exact fun e' => oth' i hi e1 q hq (by simp [e'])
    ·rw [setT_else _ _ e2]; exact h.dis i j hi hj hne q hq
  ·rcases List.mem_append.1 hb with e | e
   ·exact mem_all.mpr (Or.inr ⟨k,hk,e⟩)
   ·exact mem_all.mpr (Or.inl e)
  ·rcases mem_all.mp hb with e | ⟨j,hj,e⟩
   ·rcases hn.2 b (by simp [e]) with q | q
    ·rcases List.mem_append.1 q with q | q
     ·exact Or.inl (mem_all.mpr (Or.inr ⟨k,hk,q⟩))
     ·exact Or.inl (mem_all.mpr (Or.inl q))
    ·exact Or.inr q
   ·by_cases ej:j=k
    ·subst ej
     rw [setT_self] at e
     rcases hn.2 b (by simp [e]) with q | q
     ·rcases List.mem_append.1 q with q | q
      ·exact Or.inl (mem_all.mpr (Or.inr ⟨j,hk,q⟩))
      ·exact Or.inl (mem_all.mpr (Or.inl q))
     ·exact Or.inr q
    ·rw [setT_else _ _ ej] at e
     exact Or.inl (mem_all.mpr (Or.inr ⟨j,hj,e⟩))
theorem GG.tx {w:World} {base:Nat} {p:Value} {c r:Nat} {L:List Ac} {Tp:Nat→Nat} {T:Nat→Tx} {A:List Nat} (h:GG w base p c r L Tp T A) {k:Nat} (hk:k < 4) : ∃ G,TxAt w base (Tp k) (T k) G:=by
 obtain ⟨F,G,h,rfl⟩:=h
 exact ⟨G k,h.tx k hk⟩
end Go.Proofs.YtdkpgdkjohjcaaaGreat
namespace Go.Proofs.YtdkpgdkjohjcaaaGreat
open Go.RowKit (wrap64)
set_option linter.unusedVariables false
theorem hap_from {W W':Ev→Prop} {c:Nat} {N:Int} {m:Nat} {L:List Ac} {g:Rg} {T:Nat→Tx} {R:Nat→List (Int × Int)} {k:Nat} {x:Tx} {pre:List Ev} {o:Out} {E:List Ev} {g':Rg} {r':List (Int × Int)} (h:Hap W c N m L g (setT T k x) (setT R k (R k)) k [] o E g' r')
  (hev:x.ev=(T k).ev++pre) (htb:x.tb=(T k).tb) (hst:stOf x=stOf (T k)) (hW : ∀ e,W e→W' e) (hnk:o.k≠1):Hap W' c N m L g T R k pre o E g' r':=by
 have w:=h.wi
 have e:=h.ev
 have tl:=h.tel
 rw [setT_two,setT_two] at w
 rw [setT_self,hev] at e
 rw [setT_self,setT_self] at tl
 refine ⟨w,by rw [e]; simp,h.acc,fun e=>absurd e hnk,h.mov, ?_⟩
 rcases tl with ⟨t1,t2,t3,t4,t5⟩ | ⟨e,t1,t2⟩
 ·exact Or.inl ⟨t1,t2,t3,t4,t5.trans hst⟩
 ·refine Or.inr ⟨e,t1, ?_⟩
  unfold Tel at t2 ⊢
  rw [htb,hst] at t2
  rcases t2 with t | t | t | t | t | ⟨a1,a2,a3,a4,a5⟩
  ·exact Or.inl t
  ·exact Or.inr (Or.inl t)
  ·exact Or.inr (Or.inr (Or.inl t))
  ·exact Or.inr (Or.inr (Or.inr (Or.inl t)))
  ·exact Or.inr (Or.inr (Or.inr (Or.inr (Or.inl t))))
  ·exact Or.inr (Or.inr (Or.inr (Or.inr (Or.inr ⟨a1,a2,a3,hW e a4,a5⟩))))
theorem goOn_k {x:Tx} {a:Ms} (h:a.k≠1):(goOn x a).k≠1:=by
 unfold goOn
 split
 ·exact h
 ·split
  ·split
   ·exact h
   ·exact fun e=>by simp at e
  ·exact h
theorem ti_tell {c:Nat} {g:Rg} {x:Tx} {r:List (Int × Int)} (h:TI c g x r) (e:Ev):TI c g (x.tell e) r:=by
 refine ⟨h.1, ?_⟩
 have h2:=h.2
 have hw:(x.tell e).wy=x.wy:=rfl
 rw [hw]
 cases hy:x.wy with
 | no =>
  rw [hy] at h2
  intro hb
  obtain ⟨l,q⟩:=h2 hb
  exact ⟨⟨l.z,l.zs,l.sn,l.cl⟩,q⟩
 | bg b=>rw [hy] at h2; exact h2
 | rd P b=>rw [hy] at h2; exact h2
 | cm P b u=>rw [hy] at h2; exact h2
 | wr P b=>trivial
theorem first_rd {c r:Nat} {x:Tx} {cl:Int} {L:List Ac} {t:Int}:(stepX c r (readX x cl) L t).k≠1:=by
 refine goOn_k ?_
 show Fe.ansF c r (readP x cl) (Fe.ckNew (readP x cl)) L≠1
 unfold Fe.ansF
 rw [show (readP x cl).read=false from rfl]
 split
 ·simp
 ·omega
theorem first_cm {c r:Nat} {x:Tx} {L:List Ac} {t:Int}:(stepX c r (commX x) L t).k≠1:=by
 have hM:(stepM c r (commX x) L t).k=Co.ansZ r (commP x) (Co.ckNew (commP x)) Co.cuNew L:=rfl
 have ha:Co.ansZ r (commP x) (Co.ckNew (commP x)) Co.cuNew L≠1:=by
  unfold Co.ansZ
  split
  ·rw [if_pos (show Co.cuNew.st=0 from rfl)]
   unfold Co.holdA
   split
   ·unfold Co.heldK; split <;> omega
   ·unfold Co.ansKK
    split
    ·unfold Co.kindK
     have:Co.waitK (Co.ckNew (commP x)) (wordOf L (Co.adK (commP x) (Co.ckNew (commP x))))=false:=by unfold Co.waitK Co.ckNew; simp
     rw [this]
     unfold Co.kindV
     simp only [Bool.false_eq_true,if_false]
     split
     ·omega
     ·split <;> omega
    ·omega
  ·omega
 exact goOn_k (by rw [hM]; exact ha)
theorem first_bg {c:Nat} {N:Int} {m:Nat} {L:List Ac} {g:Rg} {T:Nat→Tx} {R:Nat→List (Int × Int)} {k:Nat} (h:WI c N m L g T R) (hk:k < 4) {b:Bg} (hy:(T k).wy = .bg b) (t:Int):(stepX c g.s (T k) L t).k≠1:=by
 obtain ⟨_,_,_,a4⟩:=st_bg (t:=t) h.ri (h.cf k hk).s (h.ok k hk) h.wd (h.ti k hk) hy
 rcases a4 with ⟨b1,_⟩ | ⟨b1,_⟩ <;> omega
theorem put_cells {s:Tl.Tb} {b:Int} (h : ∀ y ∈ s.R,y.c < b) {c v:Int} (hv:c < b) : ∀ y ∈ (Tl.put s c v).R,y.c < b:=by
 intro y hy
 unfold Tl.put at hy
 split at hy
 ·split at hy
  ·simp only at hy
   rcases List.mem_or_eq_of_mem_set hy with h1 | h1
   ·exact h y h1
   ·rw [h1]; exact hv
  ·split at hy
   ·exact h y hy
   ·simp only [List.mem_append,List.mem_cons,List.not_mem_nil,or_false] at hy
    rcases hy with h1 | h1
    ·exact h y h1
    ·rw [h1]; exact hv
 ·exact h y hy
theorem full_len {s:Tl.Tb} (hi:Tl.Inv s) {c:Int} (h:Tl.writeE s c=5):s.R.length=s.m:=by
 have hl:=hi.len
 unfold Tl.writeE at h
 split at h
 ·next e =>
  unfold Tl.putE at e
  split at e
  ·split at e
   ·simp at e
   ·split at e
    ·omega
    ·simp at e
  ·simp at e
 ·unfold Tl.putE at h
  split at h
  ·split at h
   ·simp at h
   ·split at h <;> simp at h
  ·simp at h
theorem live_of {c:Nat} {g:Rg} {x:Tx} {r:List (Int × Int)} (hx:XOk x) (ht:TI c g x r) (hp:x.phase=2):x.wy = .no∧LI g x∧RdOk g x r:=by
 have hb:=hx.liv (by omega) (by omega)
 have hy:x.wy = .no:=by
  unfold Tx.phase at hp
  cases hy:x.wy with
  | no=>rfl
  | _=>rw [hy] at hp; simp at hp
 have h2:=ht.2
 rw [hy] at h2
 exact ⟨hy,h2 hb⟩
theorem rd_seen {c:Nat} {f:Ad→Int} {g:Rg} {x:Tx} {r:List (Int × Int)} (hf:RI f g) (hx:XOk x) (l:LI g x) (hr:RdOk g x r) : ∀ q ∈ r,q.2=g.val q.1 x.seen.toNat:=fun q hq=>by
 obtain ⟨a1,a2⟩:=hr q hq
 have h1:=l.zs
 have h2:=l.sn
 have h0:=hx.z0
 rw [a2]
 exact (val_none g q.1 (by omega) (by omega) (fun t t1 t2=>cln_writ l.cl a1 (by omega) (by omega))).symm
theorem hap_do {c:Nat} {N:Int} {m:Nat} {L:List Ac} {g:Rg} {T:Nat→Tx} {R:Nat→List (Int × Int)} {k:Nat} (h:WI c N m L g T R) (hk:k < 4) (hc8:c≤1024) (a:Wa) (hv:W64 a.value) (t:Int) :
  ∃ pre E g' r', (pre = [] ∨ pre = [{ kind := 7 }]) ∧ Hap (Why N m g (T k) (some a)) c N m L g T R k pre (doX c g.s (T k) L t a) E g' r' := by
 have hx:=h.ok k hk
 have hc:=h.cf k hk
 have ht:=h.ti k hk
 have hW : ∀ (a:Option Wa) (e:Ev),WhyS N g (T k).z e→Why N m g (T k) a e:=fun _ _ q=>Or.inl q
 unfold doX
 by_cases htk:takesX c g.s (T k) a=true
 ·rw [if_pos htk]
  obtain ⟨i1,i2,i3,i4,i5⟩:=takes_iff htk
  by_cases k1:a.kind=1
  ·rw [if_pos k1]
   have p0:=i2 k1
   obtain ⟨_,n1⟩:=ph_no p0
   have h':WI c N m L g (setT T k (openX (T k))) (setT R k (R k)):=wi_put h hk (xok_open hx p0) ⟨hc.s,hc.mu,hc.n,hc.m⟩ ⟨ht.1,⟨Or.inl rfl⟩⟩ (n1 (by omega)) (fun P b e=>by simp [openX] at e) (fun P b e=>by simp [openX] at e)
   obtain ⟨E, g', r', q⟩ := hap_step h' hk t
   have hnk:=first_bg h' hk (b:=bgNew) (by rw [setT_self]; rfl) t
   rw [setT_self] at q hnk
   exact ⟨_, E, g', r', Or.inr rfl, hap_from q rfl rfl (by rw [stOf_no (n1 (by omega))]; rfl) (hW _) hnk⟩
  ·rw [if_neg k1]
   by_cases k2:a.kind=2
   ·rw [if_pos k2]
    obtain ⟨p2,c0,c1⟩:=i3 (Or.inl k2)
    obtain ⟨hy,li,hr⟩:=live_of hx ht p2
    have n1 : ∀ P b,(T k).wy ≠ .wr P b:=fun P b e=>by rw [hy] at e; cases e
    by_cases ho:Tl.getY (T k).tb a.cell=true
    ·rw [if_pos ho]
     refine ⟨[],[ownE (T k) a.cell],g,R k,Or.inl rfl,wi_put h hk (xok_tell hx _) ⟨hc.s,hc.mu,hc.n,hc.m⟩ (ti_tell ht _) n1 n1 (fun P b e=>by have:(T k).wy = .rd P b:=e; rw [hy] at this; cases this),rfl,Or.inr ⟨rfl,rfl⟩,fun e=>by simp at e,fun e=>by simp at e,Or.inr ⟨_,rfl,Or.inr (Or.inl ⟨rfl,rfl,Or.inl ⟨rfl,ho,rfl,rfl⟩, ?_,rfl⟩)⟩⟩
     exact rd_seen (c:=c) h.ri hx li hr
    ·rw [if_neg ho]
     have hcl:a.cell < 1024:=by omega
     have hrt:Tl.right a.cell=true:=by unfold Tl.right; simp [c0,hcl]
     have hmono : ∀ j,Sg.bit (T k).rd j=true→Sg.bit (Tl.readR (T k).rd a.cell) j=true:=fun j hb=>by
      unfold Tl.readR
      rw [if_pos hrt,Sg.bit_put hx.rd _ _ (Sg.sigN_lt _),hb]
      rfl
     have hbit:Sg.bit (Sg.put (Tl.readR (T k).rd a.cell) (Sg.sigN a.cell)) (Sg.sigN a.cell)=true:=by
      rw [Sg.bit_put (Tl.readR_ok hx.rd _) _ _ (Sg.sigN_lt _)]; simp
     have hti:TI c g (readX (T k) a.cell) (R k):=⟨ht.1,c1,⟨⟨li.z,hc.s,rfl,Or.inl rfl⟩,hbit,fun e=>by simp [readP,Fe.newP] at e⟩,fun q hq=>⟨hmono _ (hr q hq).1,(hr q hq).2⟩⟩
     have h':WI c N m L g (setT T k (readX (T k) a.cell)) (setT R k (R k)):=wi_put h hk (xok_read hx p2 c0 hcl) ⟨hc.s,hc.mu,hc.n,hc.m⟩ hti n1 (fun P b e=>by simp [readX] at e) (fun P b e=>by
            have e1:Wy.rd (readP (T k) a.cell) (Fe.ckNew (readP (T k) a.cell))=Wy.rd P b:=e
            injection e1 with e1 _
            rw [← e1]
            have:Tl.getY (T k).tb a.cell=false:=by simpa using ho
            exact this)
     obtain ⟨E, g', r', q⟩ := hap_step h' hk t
     rw [setT_self] at q
     exact ⟨[], E, g', r', Or.inl rfl, hap_from q (by simp [readX]) rfl (by rw [stOf_no n1]; rfl) (hW _) first_rd⟩
   ·rw [if_neg k2]
    by_cases k3:a.kind=3
    ·rw [if_pos k3]
     obtain ⟨p2,c0,c1⟩:=i3 (Or.inr k3)
     obtain ⟨hy,li,hr⟩:=live_of hx ht p2
     have n1 : ∀ P b,(T k).wy ≠ .wr P b:=fun P b e=>by rw [hy] at e; cases e
     by_cases h5:Tl.writeE (T k).tb a.cell=5
     ·rw [if_pos h5]
      obtain ⟨q1,q2⟩:=fin_no (T k) 5
      exact ⟨[],[(T k).ended 5],g,R k,Or.inl rfl,wi_put h hk (xok_fin hx _) ⟨hc.s,hc.mu,hc.n,hc.m⟩ (ti_none _) n1 q2 (fun P b e=>absurd e (q1 P b)),rfl,Or.inr ⟨rfl,rfl⟩,fun e=>by simp at e,fun e=>by simp at e,Or.inr ⟨_,rfl,Or.inr (Or.inr (Or.inr (Or.inr (Or.inr ⟨rfl,rfl,rfl,Or.inr (Or.inl ⟨rfl,(full_len hx.inv h5).trans hc.m⟩),by rw [stOf_no q2,stOf_no n1]⟩))))⟩⟩
     ·rw [if_neg h5]
      have hti:TI c g ({ T k with tb:=Tl.put (T k).tb a.cell a.value }:Tx) (R k):=⟨put_cells ht.1 c1,by simp only [hy]; exact fun _=>⟨⟨li.z,li.zs,li.sn,li.cl⟩,hr⟩⟩
      refine ⟨[],_,g,R k,Or.inl rfl,wi_put h hk (xok_tell (xok_put hx p2 hv) { kind:=3,cell:=a.cell,value:=a.value }) ⟨hc.s,hc.mu,hc.n,by rw [← hc.m]; exact (Tl.put_keeps _ _ _).1⟩ (ti_tell hti _) n1 n1 (fun P b e=>by have:(T k).wy = .rd P b:=e; rw [hy] at this; cases this),rfl,Or.inr ⟨rfl,rfl⟩,fun e=>by simp at e,fun e=>by simp at e,Or.inr ⟨_,rfl,Or.inr (Or.inr (Or.inl ⟨rfl,rfl,rfl,rfl⟩))⟩⟩
    ·rw [if_neg k3]
     by_cases k4:a.kind=4
     ·rw [if_pos k4]
      have p2:=i4 k4
      obtain ⟨hy,li,hr⟩:=live_of hx ht p2
      have n1 : ∀ P b,(T k).wy ≠ .wr P b:=fun P b e=>by rw [hy] at e; cases e
      by_cases h0:(T k).tb.R.length=0
      ·rw [if_pos h0]
       obtain ⟨q1,q2⟩:=fin_no (T k) 0
       exact ⟨[],[(T k).ended 0],g,R k,Or.inl rfl,wi_put h hk (xok_fin hx _) ⟨hc.s,hc.mu,hc.n,hc.m⟩ (ti_none _) n1 q2 (fun P b e=>absurd e (q1 P b)),rfl,Or.inr ⟨rfl,rfl⟩,fun e=>by simp at e,fun e=>by simp at e,Or.inr ⟨_,rfl,Or.inr (Or.inr (Or.inr (Or.inr (Or.inr ⟨rfl,rfl,rfl,Or.inr (Or.inr (Or.inr ⟨rfl,List.eq_nil_of_length_eq_zero h0,rfl⟩)),by rw [stOf_no q2,stOf_no n1]⟩))))⟩⟩
      ·rw [if_neg h0]
       have hti:TI c g (commX (T k)) (R k):=⟨ht.1,Co.sc_new li.z hc.s rfl,rfl,li.z,hr⟩
       have h':WI c N m L g (setT T k (commX (T k))) (setT R k (R k)):=wi_put h hk (xok_comm hx p2 h0) ⟨hc.s,hc.mu,hc.n,hc.m⟩ hti n1 (fun P b e=>by simp [commX] at e) (fun P b e=>by simp [commX] at e)
       obtain ⟨E, g', r', q⟩ := hap_step h' hk t
       rw [setT_self] at q
       exact ⟨[], E, g', r', Or.inl rfl, hap_from q (by simp [commX]) rfl (by rw [stOf_no n1]; rfl) (hW _) first_cm⟩
     ·rw [if_neg k4]
      obtain ⟨k5,p2,hco⟩:=i5 k1 k2 k3 k4
      obtain ⟨hy,li,hr⟩:=live_of hx ht p2
      have n1 : ∀ P b,(T k).wy ≠ .wr P b:=fun P b e=>by rw [hy] at e; cases e
      obtain ⟨q1,q2⟩:=fin_no (T k) a.code
      exact ⟨[],[(T k).ended a.code],g,R k,Or.inl rfl,wi_put h hk (xok_fin hx _) ⟨hc.s,hc.mu,hc.n,hc.m⟩ (ti_none _) n1 q2 (fun P b e=>absurd e (q1 P b)),rfl,Or.inr ⟨rfl,rfl⟩,fun e=>by simp at e,fun e=>by simp at e,Or.inr ⟨_,rfl,Or.inr (Or.inr (Or.inr (Or.inr (Or.inr ⟨rfl,rfl,rfl,Or.inr (Or.inr (Or.inl ⟨by rcases hco with e | e; exact Or.inr e; exact Or.inl e,a,rfl,rfl⟩)),by rw [stOf_no q2,stOf_no n1]⟩))))⟩⟩
 ·rw [if_neg htk]
  exact ⟨[],[],g,R k,Or.inl rfl,by rw [setT_id,setT_id]; exact h,by simp,Or.inr ⟨rfl,rfl⟩,fun e=>by simp at e,fun e=>by simp at e,Or.inl ⟨rfl,rfl,rfl,rfl,rfl⟩⟩
theorem hap_act {c:Nat} {N:Int} {m:Nat} {L:List Ac} {g:Rg} {T:Nat→Tx} {R:Nat→List (Int × Int)} {k:Nat} (h:WI c N m L g T R) (hk:k < 4) (hc8:c≤1024) (a:Option Wa) (hv : ∀ w,a=some w→W64 w.value) (t:Int) :
  ∃ pre E g' r', (pre = [] ∨ pre = [{ kind := 7 }]) ∧ Hap (Why N m g (T k) a) c N m L g T R k pre (actX c g.s (T k) L t a) E g' r' := by
 cases a with
 | some a=>exact hap_do h hk hc8 a (hv a rfl) t
 | none =>
  obtain ⟨E, g', r', q⟩ := hap_step h hk t
  refine ⟨[], E, g', r', Or.inl rfl, q.wi, q.ev, q.acc, q.wait, q.mov, ?_⟩
  rcases q.tel with q | ⟨e,q1,q2⟩
  ·exact Or.inl q
  ·refine Or.inr ⟨e,q1, ?_⟩
   unfold Tel at q2 ⊢
   rcases q2 with t | t | t | t | t | ⟨a1,a2,a3,a4,a5⟩
   ·exact Or.inl t
   ·exact Or.inr (Or.inl t)
   ·exact Or.inr (Or.inr (Or.inl t))
   ·exact Or.inr (Or.inr (Or.inr (Or.inl t)))
   ·exact Or.inr (Or.inr (Or.inr (Or.inr (Or.inl t))))
   ·exact Or.inr (Or.inr (Or.inr (Or.inr (Or.inr ⟨a1,a2,a3,Or.inl a4,a5⟩))))
end Go.Proofs.YtdkpgdkjohjcaaaGreat
namespace Go.Proofs.YtdkpgdkjohjcaaaGreat
open Go.ChangeShapes Go.WideShapes Go.ChangeAt Go.RowKit
attribute [local go_sem ↓] Go.wp_at_zero Go.wp_at_succ
set_option linter.unusedVariables false
structure At where
 kind:Int
 who:Int
 thread:Int
 w:Wa
 n:Int
 ak:Int
 ai:Int
 aj:Int
 v:Int
def atC (a:At):List Value:=[.int .i64 a.kind,.int .i64 a.who,.int .i64 a.thread,.int .i64 a.w.kind,.int .i64 a.w.cell,.int .i64 a.w.value,.int .i64 a.w.code,.int .i64 a.n,.int .i64 a.ak,.int .i64 a.ai,.int .i64 a.aj,.int .i64 a.v]
def atV (a:At):Value:=.agg (atC a).toArray
def wantA (a:At):Option Wa:=if a.kind=1 then some ⟨a.w.kind,a.w.cell % 8,a.w.value,a.w.code⟩ else none
def gmO (p tv sv wv rv:Value):Obj:=.cells #[p,tv,sv,wv,rv] 44 (0,0)
def txsO (cur:Array Value):Obj:=.cells cur 37 (0,0)
def Ptrs (cur:Array Value) (Tp:Nat→Nat):Prop:=∀ k,k < 4→cur[k]? = some (.pointer (some ⟨Tp k,0,none⟩))
theorem txs_cell {w:World} {X:Nat} {cur:Array Value} {Tp:Nat→Nat} (h:w.heap[X]? = some (txsO cur)) (hc:Ptrs cur Tp) {k:Nat} (hk:k < 4):w.cell? ⟨X,k,none⟩=some (.pointer (some ⟨Tp k,0,none⟩)):=by
 unfold txsO at h
 rw [cell_at h]
 exact hc k hk
theorem keep_row {F:List Nat} {w w':World} {b:Nat} {o:Obj} (k:Keep F w w') (h:w.heap[b]? = some o) (hn:b ∉ F):w'.heap[b]? = some o:=(k.block b (heap_lt h) hn).trans h
theorem wa_c {w:World} {B:Nat} {a b c d:Int} (h:w.heap[B]? = some (.cells #[.int .i64 a,.int .i64 b,.int .i64 c,.int .i64 d] 32 (0,0))):w.cell? ⟨B,0,none⟩=some (.int .i64 a)∧w.cell? ⟨B,1,none⟩=some (.int .i64 b)∧w.cell? ⟨B,2,none⟩=some (.int .i64 c)∧w.cell? ⟨B,3,none⟩=some (.int .i64 d):=⟨by rw [cell_at h]; rfl,by rw [cell_at h]; rfl,by rw [cell_at h]; rfl,by rw [cell_at h]; rfl⟩
theorem gm_c0 {w:World} {B:Nat} {p tv sv wv rv:Value} (h:w.heap[B]? = some (gmO p tv sv wv rv)):w.cell? ⟨B,0,none⟩=some p:=by unfold gmO at h; rw [cell_at h]; rfl
theorem gm_c1 {w:World} {B:Nat} {p tv sv wv rv:Value} (h:w.heap[B]? = some (gmO p tv sv wv rv)):w.cell? ⟨B,1,none⟩=some tv:=by unfold gmO at h; rw [cell_at h]; rfl
theorem act_any {w:World} {base:Nat} {p:Value} {s:Nat} {L:List Ac} {Tp:Nat→Nat} {T:Nat→Tx} {A:List Nat} {B X cap:Nat} {cur:Array Value} {sv wv rv:Value} (h:GG w base p 8 s L Tp T A) (hB:w.heap[B]? = some (gmO p (.slice (some ⟨X,0,none⟩) 4 cap) sv wv rv)) (hX:w.heap[X]? = some (txsO cur)) (hcur:Ptrs cur Tp) (hBA:B ∉ A) (hXA:X ∉ A) {k:Nat} (hk:k < 4) (hb:base≤w.heap.size) (hL:L.length < 3298534883328) (hE:(T k).ev.length+1 < 1073741824) (hx:XOk (T k)) (hd:Wd L) (a:At) :
  Calls Tryz.prog 13 #[.pointer (some ⟨B, 0, none⟩), .int .i64 (k : Int), atV a] w fun e w' => e = .returned (anV (actX 8 s (T k) L k (wantA a)).k (actX 8 s (T k) L k (wantA a)).e (actX 8 s (T k) L k (wantA a)).v (actX 8 s (T k) L k (wantA a)).y) ∧ ∃ A', GG w' base p 8 s (actX 8 s (T k) L k (wantA a)).L Tp (setT T k (actX 8 s (T k) L k (wantA a)).x) A' ∧ Next A A' w w' := by
 obtain ⟨kd, who, th, ⟨wk, wc, wv', wo⟩, n, ak, ai, aj, v⟩ := a
 have HP8:Hid (∀ w,Calls Tryz.prog 9 #[.int .i64 wc,.int .i64 8] w fun e w' => e = .returned (.int .i64 (wc % 8))∧w'=w):=fun w=>gpick_any wc 8 (by decide) (by decide) w
 obtain ⟨M,rfl⟩:=h.ptr
 have hlt:=h.lt
 have HLT:Hid (∀ q ∈ A,q < w.heap.size):=fun q hq=>(hlt q hq).2
 have hBl:=heap_lt hB
 have hXl:=heap_lt hX
 have HX4:Hid (∀ w':World,w'.heap[X]? = some (txsO cur)→w'.cell? ⟨X,k,none⟩=some (.pointer (some ⟨Tp k,0,none⟩))):=fun w' e=>txs_cell e hcur hk
 have k4:(k:Int) < 4:=by omega
 by_cases hkd:kd=1
 ·subst hkd
  have hw : wantA ⟨1, who, th, ⟨wk, wc, wv', wo⟩, n, ak, ai, aj, v⟩ = some ⟨wk, wc % 8, wv', wo⟩ := by unfold wantA; rw [if_pos rfl]
  rw [hw]
  simp only [actX]
  have HG : Hid (∀ w', Below w.heap.size w w' → Calls Tryz.prog 22 #[.pointer (some ⟨Tp k, 0, none⟩), .pointer (some ⟨M, 0, none⟩), .int .i64 (k : Int), waV ⟨wk, wc % 8, wv', wo⟩] w' fun e w'' => e = .returned (anV (doX 8 s (T k) L k ⟨wk, wc % 8, wv', wo⟩).k (doX 8 s (T k) L k ⟨wk, wc % 8, wv', wo⟩).e (doX 8 s (T k) L k ⟨wk, wc % 8, wv', wo⟩).v (doX 8 s (T k) L k ⟨wk, wc % 8, wv', wo⟩).y) ∧ ∃ A', GG w'' base (.pointer (some ⟨M, 0, none⟩)) 8 s (doX 8 s (T k) L k ⟨wk, wc % 8, wv', wo⟩).L Tp (setT T k (doX 8 s (T k) L k ⟨wk, wc % 8, wv', wo⟩).x) A' ∧ Next A A' w' w'') := fun w' kb => by
   obtain ⟨F,G,tm,_,back⟩:=(h.below kb).at_ hk
   refine (do_any tm (Nat.le_trans hb kb.size) hL hE hx hd (by omega) ⟨wk, wc % 8, wv', wo⟩ (k : Int)).mono ?_
   rintro e w'' ⟨rfl, F', G', q, nx⟩
   exact ⟨rfl,back _ _ _ _ _ q nx⟩
  generalize doX 8 s (T k) L k ⟨wk, wc % 8, wv', wo⟩ = a at *
  obtain ⟨x', L', kk, ee, vv, gg⟩ := a
  have HBA:Hid (B ∉ A):=hBA
  have HXA:Hid (X ∉ A):=hXA
  have HB:Hid (w.heap[B]? = some (gmO (.pointer (some ⟨M,0,none⟩)) (.slice (some ⟨X,0,none⟩) 4 cap) sv wv rv)):=hB
  have HX:Hid (w.heap[X]? = some (txsO cur)):=hX
  unfold anV atV atC waV at *
  simp only at HG ⊢
  clear hB hX h hlt hx hd hL hE hb hBA hXA hw
  have HNB:Hid (B ∉ [w.heap.size+1]):=by show B ∉ _; simp; omega
  have HNX:Hid (X ∉ [w.heap.size+1]):=by show X ∉ _; simp; omega
  obtain ⟨wa, hwa⟩ : ∃ wa, wa = ((w.alloc (.cells #[.int .i64 1, .int .i64 who, .int .i64 th, .int .i64 wk, .int .i64 wc, .int .i64 wv', .int .i64 wo, .int .i64 n, .int .i64 ak, .int .i64 ai, .int .i64 aj, .int .i64 v] 36)).alloc (.cells #[.int .i64 0, .int .i64 0, .int .i64 0, .bool false] 55)).alloc (.cells #[.int .i64 wk, .int .i64 wc, .int .i64 wv', .int .i64 wo] 32) := ⟨_, rfl⟩
  have HBa:Hid (Below w.heap.size w wa):=by rw [hwa]; exact below_then (below_then (below_a1 _ _) (below_a1 _ _)) (below_a1 _ _)
  have HRa:Hid (wa.heap[w.heap.size+1]? = some (.cells #[.int .i64 0,.int .i64 0,.int .i64 0,.bool false] 55 (0,0))):=by rw [hwa]; exact row_on (heap_alloc2_new w _ _) (below_a1 _ _)
  have HWa : Hid (wa.heap[w.heap.size + 1 + 1]? = some (.cells #[.int .i64 wk, .int .i64 wc, .int .i64 wv', .int .i64 wo] 32 (0, 0))) := by
   show wa.heap[_]? = _
   rw [hwa]
   have := heap_alloc_new ((w.alloc (.cells #[.int .i64 1, .int .i64 who, .int .i64 th, .int .i64 wk, .int .i64 wc, .int .i64 wv', .int .i64 wo, .int .i64 n, .int .i64 ak, .int .i64 ai, .int .i64 aj, .int .i64 v] 36)).alloc (.cells #[.int .i64 0, .int .i64 0, .int .i64 0, .bool false] 55)) (.cells #[.int .i64 wk, .int .i64 wc, .int .i64 wv', .int .i64 wo] 32)
   simpa using this
  go_enter Tryz.func13,Tryz.ntmps13
  go_wp2_with fail
  rw [← hwa]
  clear hwa
  refine (HP8.out _).mono ?_
  rintro e w9 ⟨rfl,e9⟩
  obtain rfl:wa=w9:=e9.symm
  generalize wc % 8=wc8 at *
  have u1:wa.cell? ⟨w.heap.size+1+1,1,none⟩=some (.int .i64 wc):=by rw [cell_at HWa.out]; rfl
  have f1:wa.frozen? ⟨w.heap.size+1+1,1,none⟩=false:=frozen_at HWa.out 1
  have l1:=heap_lt HWa.out
  go_wp2_with fail
  obtain ⟨w0,hw0⟩ : ∃ w0,w0=wa.setCell ⟨w.heap.size+1+1,1,none⟩ (.int .i64 wc8):=⟨_,rfl⟩
  have HB0:Hid (Below w.heap.size w w0):=by rw [hw0]; exact HBa.out.setCell (by show w.heap.size≤_; simp; omega) _
  have HW0 : Hid (w0.heap[w.heap.size + 1 + 1]? = some (.cells #[.int .i64 wk, .int .i64 wc8, .int .i64 wv', .int .i64 wo] 32 (0, 0))) := by rw [hw0]; exact heap_set HWa.out _ _
  have HR0:Hid (w0.heap[w.heap.size+1]? = some (.cells #[.int .i64 0,.int .i64 0,.int .i64 0,.bool false] 55 (0,0))∧w.heap.size+1 ∉ A):=⟨by rw [hw0,heap_set_other _ _ (by omega)]; exact HRa.out,fun e=>by have:=HLT.out _ e; omega⟩
  rw [← hw0]
  clear hw0 u1 f1 l1 HBa HRa HWa
  have b1:w0.heap[B]? = some (gmO (.pointer (some ⟨M,0,none⟩)) (.slice (some ⟨X,0,none⟩) 4 cap) sv wv rv):=row_on HB.out HB0.out
  have b2:w0.heap[X]? = some (txsO cur):=row_on HX.out HB0.out
  have HBB:Hid (w0.heap[B]? = some (gmO (.pointer (some ⟨M,0,none⟩)) (.slice (some ⟨X,0,none⟩) 4 cap) sv wv rv)):=b1
  have HXX:Hid (w0.heap[X]? = some (txsO cur)):=b2
  have c3:=HX4.out _ b2
  have c1:=gm_c0 b1
  have c2:=gm_c1 b1
  have hB0l:=heap_lt b1
  have hX0l:=heap_lt b2
  have d0:w0.cell? ⟨w.heap.size+1+1,0,none⟩=some (.int .i64 wk):=by rw [cell_at HW0.out]; rfl
  have d1:w0.cell? ⟨w.heap.size+1+1,1,none⟩=some (.int .i64 wc8):=by rw [cell_at HW0.out]; rfl
  have d2:w0.cell? ⟨w.heap.size+1+1,2,none⟩=some (.int .i64 wv'):=by rw [cell_at HW0.out]; rfl
  have d3:w0.cell? ⟨w.heap.size+1+1,3,none⟩=some (.int .i64 wo):=by rw [cell_at HW0.out]; rfl
  have hW0l:=heap_lt HW0.out
  clear b1 b2
  have n1:B≠w.heap.size+1:=by omega
  have n2:w.heap.size+1≠B:=by omega
  have n3:X≠w.heap.size+1:=by omega
  have n4:w.heap.size+1≠X:=by omega
  have HWA:Hid (w.heap.size+1+1 ∉ A):=fun e=>by have:=HLT.out _ e; omega
  have HNW:Hid (w.heap.size+1+1 ∉ [w.heap.size+1]):=by show _ ∉ _; simp
  go_region_held3 (fun w' => w'.cell? ⟨B,0,none⟩=some (.pointer (some ⟨M,0,none⟩))∧w'.cell? ⟨B,1,none⟩=some (.slice (some ⟨X,0,none⟩) 4 cap)∧w'.cell? ⟨X,k,none⟩=some (.pointer (some ⟨Tp k,0,none⟩))∧w'.cell? ⟨w.heap.size+1+1,0,none⟩=some (.int .i64 wk)∧w'.cell? ⟨w.heap.size+1+1,1,none⟩=some (.int .i64 wc8)∧w'.cell? ⟨w.heap.size+1+1,2,none⟩=some (.int .i64 wv')∧w'.cell? ⟨w.heap.size+1+1,3,none⟩=some (.int .i64 wo)) (first | go_keep | exact hS | exact hS2 | exact hS3) (first
      | (go_at_call 22; refine (HG.out _ (below_then HB0.out (bl_drew _))).mono ?_; rintro e w1 ⟨rfl,A1,q1,n1⟩; have rB:=row_next0 (row_on HBB.out (bl_drew _)) HBA.out n1; have rX:=row_next0 (row_on HXX.out (bl_drew _)) HXA.out n1; have rW:=row_next0 (row_on HW0.out (bl_drew _)) HWA.out n1; have hS:=And.intro (gm_c0 rB.1) (And.intro (gm_c1 rB.1) (And.intro (HX4.out _ rX.1) (wa_c rW.1))); have rR:=row_next0 (row_on HR0.out.1 (bl_drew _)) HR0.out.2 n1; obtain ⟨⟨e0,e1,e2,e3⟩,o0,o1,o2,o3⟩:=ans_cells rR.1; have hBa1:=heap_lt rR.1; have hK:=Co.keepWB (w:=w1) (B:=w.heap.size+1) kk ee vv gg; have hS2:=And.intro (gm_c0 (keep_row hK rB.1 HNB.out)) (And.intro (gm_c1 (keep_row hK rB.1 HNB.out)) (And.intro (HX4.out _ (keep_row hK rX.1 HNX.out)) (wa_c (keep_row hK rW.1 HNW.out)))); have hS3:=And.intro (gm_c0 (keep_row hK rB.1 HNB.out)) (And.intro (gm_c1 (keep_row hK rB.1 HNB.out)) (HX4.out _ (keep_row hK rX.1 HNX.out)))))
  clear hS hS2
  go_wp2
  exact ret_ans rfl rfl (Co.ansW_set rfl rR.1 kk ee vv gg) rfl rfl ⟨rfl,A1,q1.keep hK (fun q hq e=>rR.2 (by simp only [List.mem_singleton] at e; rw [← e]; exact hq)),nx_other ((Next.of_below (below_then HB0.out (bl_drew _)) A).trans n1) (Nat.le_succ _) hK⟩
 ·have hw : wantA ⟨kd, who, th, ⟨wk, wc, wv', wo⟩, n, ak, ai, aj, v⟩ = none := by unfold wantA; rw [if_neg hkd]
  rw [hw]
  unfold actX
  have HG : Hid (∀ w', Below w.heap.size w w' → Calls Tryz.prog 19 #[.pointer (some ⟨Tp k, 0, none⟩), .pointer (some ⟨M, 0, none⟩), .int .i64 (k : Int)] w' fun e w'' => e = .returned (anV (stepX 8 s (T k) L k).k (stepX 8 s (T k) L k).e (stepX 8 s (T k) L k).v (stepX 8 s (T k) L k).y) ∧ ∃ A', GG w'' base (.pointer (some ⟨M, 0, none⟩)) 8 s (stepX 8 s (T k) L k).L Tp (setT T k (stepX 8 s (T k) L k).x) A' ∧ Next A A' w' w'') := fun w' kb => by
   obtain ⟨F,G,tm,_,back⟩:=(h.below kb).at_ hk
   refine (step_any tm (Nat.le_trans hb kb.size) hL (by omega) hx hd (k:Int)).mono ?_
   rintro e w'' ⟨rfl, F', G', q, nx⟩
   exact ⟨rfl,back _ _ _ _ _ q nx⟩
  generalize stepX 8 s (T k) L k=a at *
  obtain ⟨x', L', kk, ee, vv, gg⟩ := a
  have hRB:=hB
  have hRX:=hX
  have HBA:Hid (B ∉ A):=hBA
  have HXA:Hid (X ∉ A):=hXA
  have HB:Hid (w.heap[B]? = some (gmO (.pointer (some ⟨M,0,none⟩)) (.slice (some ⟨X,0,none⟩) 4 cap) sv wv rv)):=hB
  have HX:Hid (w.heap[X]? = some (txsO cur)):=hX
  unfold anV atV atC at *
  simp only at HG ⊢
  clear hRB hRX hB hX h hlt hx hd hL hE hb hBA hXA HP8
  obtain ⟨w0, hw0⟩ : ∃ w0, w0 = (w.alloc (.cells #[.int .i64 kd, .int .i64 who, .int .i64 th, .int .i64 wk, .int .i64 wc, .int .i64 wv', .int .i64 wo, .int .i64 n, .int .i64 ak, .int .i64 ai, .int .i64 aj, .int .i64 v] 36)).alloc (.cells #[.int .i64 0, .int .i64 0, .int .i64 0, .bool false] 55) := ⟨_, rfl⟩
  have HB0:Hid (Below w.heap.size w w0):=by rw [hw0]; exact below_then (below_a1 _ _) (below_a1 _ _)
  have HR0:Hid (w0.heap[w.heap.size+1]? = some (.cells #[.int .i64 0,.int .i64 0,.int .i64 0,.bool false] 55 (0,0))∧w.heap.size+1 ∉ A):=⟨by rw [hw0]; exact heap_alloc2_new w _ _,fun e=>by have:=HLT.out _ e; omega⟩
  have HNB:Hid (B ∉ [w.heap.size+1]):=by show B ∉ _; simp; omega
  have HNX:Hid (X ∉ [w.heap.size+1]):=by show X ∉ _; simp; omega
  go_enter Tryz.func13,Tryz.ntmps13
  go_wp2_with fail
  rw [← hw0]
  clear hw0
  have b1:w0.heap[B]? = some (gmO (.pointer (some ⟨M,0,none⟩)) (.slice (some ⟨X,0,none⟩) 4 cap) sv wv rv):=row_on HB.out HB0.out
  have b2:w0.heap[X]? = some (txsO cur):=row_on HX.out HB0.out
  have HBB:Hid (w0.heap[B]? = some (gmO (.pointer (some ⟨M,0,none⟩)) (.slice (some ⟨X,0,none⟩) 4 cap) sv wv rv)):=b1
  have HXX:Hid (w0.heap[X]? = some (txsO cur)):=b2
  have c3:=HX4.out _ b2
  unfold gmO at b1
  have c1:w0.cell? ⟨B,0,none⟩=some (.pointer (some ⟨M,0,none⟩)):=by rw [cell_at b1]; rfl
  have c2:w0.cell? ⟨B,1,none⟩=some (.slice (some ⟨X,0,none⟩) 4 cap):=by rw [cell_at b1]; rfl
  have hB0l:=heap_lt b1
  have hX0l:=heap_lt b2
  clear b1 b2
  go_region_held3 (fun w' => w'.cell? ⟨B,0,none⟩=some (.pointer (some ⟨M,0,none⟩))∧w'.cell? ⟨B,1,none⟩=some (.slice (some ⟨X,0,none⟩) 4 cap)∧w'.cell? ⟨X,k,none⟩=some (.pointer (some ⟨Tp k,0,none⟩))) (first | go_keep | exact hS | exact hS2) (first
      | (go_at_call 19; refine (HG.out _ (below_then HB0.out (bl_drew _))).mono ?_; rintro e w1 ⟨rfl,A1,q1,n1⟩; have rB:=row_next0 (row_on HBB.out (bl_drew _)) HBA.out n1; have rX:=row_next0 (row_on HXX.out (bl_drew _)) HXA.out n1; have hS:=And.intro (gm_c0 rB.1) (And.intro (gm_c1 rB.1) (HX4.out _ rX.1)); have rR:=row_next0 (row_on HR0.out.1 (bl_drew _)) HR0.out.2 n1; obtain ⟨⟨e0,e1,e2,e3⟩,o0,o1,o2,o3⟩:=ans_cells rR.1; have hBa1:=heap_lt rR.1; have hK:=Co.keepWB (w:=w1) (B:=w.heap.size+1) kk ee vv gg; have hS2:=And.intro (gm_c0 (keep_row hK rB.1 HNB.out)) (And.intro (gm_c1 (keep_row hK rB.1 HNB.out)) (HX4.out _ (keep_row hK rX.1 HNX.out)))))
  clear hS hS2
  go_wp2
  exact ret_ans rfl rfl (Co.ansW_set rfl rR.1 kk ee vv gg) rfl rfl ⟨rfl,A1,q1.keep hK (fun q hq e=>rR.2 (by simp only [List.mem_singleton] at e; rw [← e]; exact hq)),nx_other ((Next.of_below (below_then HB0.out (bl_drew _)) A).trans n1) (Nat.le_succ _) hK⟩
structure Fc where
 s:Nat
 m:Nat
 n:Nat
 mu:Bool
def fitC (ring writes stamps:Int) (mu:Bool):Fc:=⟨(ring % 16).toNat+1,(writes % 24).toNat+1,(stamps % 40).toNat+1,mu⟩
def fcV (d:Fc):Value:=.agg #[.int .i64 0,.int .i64 (d.s:Int),.int .i64 (d.m:Int),.int .i64 (d.n:Int),.bool d.mu,.int .i64 0,.slice none 0 0]
theorem fit_bd (ring writes stamps:Int) (mu:Bool):1≤(fitC ring writes stamps mu).s∧(fitC ring writes stamps mu).s≤16∧1≤(fitC ring writes stamps mu).m∧(fitC ring writes stamps mu).m≤24∧1≤(fitC ring writes stamps mu).n∧(fitC ring writes stamps mu).n≤40:=by
 unfold fitC
 simp only
 omega
theorem tmod_neg40 (x:Int) (h:x≤0):x.tmod 40=x % 40∨x.tmod 40=x % 40 - 40:=by
 have:x.tmod 40 = -((-x).tmod 40):=by rw [Int.neg_tmod]; omega
 rw [this,Int.tmod_eq_emod_of_nonneg (show 0 ≤ -x by omega)]
 omega
theorem ret_cfg {fn:Func} {p:Tmp} {R:Ending→World→Prop} {a:Act} {w:World} {g:Nat} {cs:Array Value} (h:fn.results = #[.cell p 24]) (hp:a.tmps.getD p undef = .pointer (some ⟨g,0,none⟩))
  (hg:w.heap[g]? = some (.cells cs 24 (0,0))) (hz:cs.size=7) (hd:a.defers = []) (hR:R (.returned (.agg cs)) w):bodyPost Tryz.prog fn R .ret a w :=
 bodyPost_ret (results_cell_row h _ _ g 24 cs (0,0) _ hp hg Tryz.underlying24 rfl (by rw [hz]; kernel_rfl)) hd hR
def laidC (w:World) (B:Nat) (a b c d e f v:Value):World:=((((((w.setCell ⟨B,0,none⟩ a).setCell ⟨B,1,none⟩ b).setCell ⟨B,2,none⟩ c).setCell ⟨B,3,none⟩ d).setCell ⟨B,4,none⟩ e).setCell ⟨B,5,none⟩ f).setCell ⟨B,6,none⟩ v
theorem cfg_set {w:World} {B:Nat} {x0 x1 x2 x3 x4 x5 x6:Value} (h:w.heap[B]? = some (.cells #[x0,x1,x2,x3,x4,x5,x6] 24 (0,0))) (a b c d e f v:Value):(laidC w B a b c d e f v).heap[B]? = some (.cells #[a,b,c,d,e,f,v] 24 (0,0)):=by
 have h1:=heap_set (i:=0) (v:=a) h
 have h2:=heap_set (i:=1) (v:=b) h1
 have h3:=heap_set (i:=2) (v:=c) h2
 have h4:=heap_set (i:=3) (v:=d) h3
 have h5:=heap_set (i:=4) (v:=e) h4
 have h6:=heap_set (i:=5) (v:=f) h5
 have h7:=heap_set (i:=6) (v:=v) h6
 unfold laidC
 rw [h7]
 rfl
theorem belowC {w0 w:World} {A B:Nat} (hk:Below A w0 w) (hB:A≤B) (a b c d e f v:Value):Below A w0 (laidC w B a b c d e f v) :=
 ((((((hk.setCell hB _).setCell hB _).setCell hB _).setCell hB _).setCell hB _).setCell hB _).setCell hB _
theorem cfg_cells {w:World} {B:Nat} {a b c d e v:Value} {f:Value} (h:w.heap[B]? = some (.cells #[a,b,c,d,e,f,v] 24 (0,0))) :
  (w.cell? ⟨B,0,none⟩=some a∧w.cell? ⟨B,1,none⟩=some b∧w.cell? ⟨B,2,none⟩=some c∧w.cell? ⟨B,3,none⟩=some d∧w.cell? ⟨B,4,none⟩=some e∧w.cell? ⟨B,5,none⟩=some f∧w.cell? ⟨B,6,none⟩=some v) ∧
  (w.frozen? ⟨B,0,none⟩=false∧w.frozen? ⟨B,1,none⟩=false∧w.frozen? ⟨B,2,none⟩=false∧w.frozen? ⟨B,3,none⟩=false∧w.frozen? ⟨B,4,none⟩=false∧w.frozen? ⟨B,5,none⟩=false∧w.frozen? ⟨B,6,none⟩=false) :=
 ⟨⟨by rw [cell_at h]; rfl,by rw [cell_at h]; rfl,by rw [cell_at h]; rfl,by rw [cell_at h]; rfl,by rw [cell_at h]; rfl,by rw [cell_at h]; rfl,by rw [cell_at h]; rfl⟩,frozen_at h 0,frozen_at h 1,frozen_at h 2,frozen_at h 3,frozen_at h 4,frozen_at h 5,frozen_at h 6⟩
theorem fit_any (w:World) (raw ring writes stamps:Int) (mu:Bool) (tr:Int) (v:Value) :
  Calls Tryz.prog 8 #[confT raw ring writes stamps mu tr v] w fun e w' => e = .returned (fcV (fitC ring writes stamps mu))∧Below w.heap.size w w':=by
 obtain ⟨w0,hw0⟩ : ∃ w0,w0=(w.alloc (.cells #[.int .i64 raw,.int .i64 ring,.int .i64 writes,.int .i64 stamps,.bool mu,.int .i64 tr,v] 24)).alloc (.cells #[.int .i64 0,.int .i64 0,.int .i64 0,.int .i64 0,.bool false,.int .i64 0,.slice none 0 0] 24):=⟨_,rfl⟩
 have HB0:Hid (Below w.heap.size w w0):=by rw [hw0]; exact below_then (below_a1 _ _) (below_a1 _ _)
 have HC0:Hid (w0.heap[w.heap.size]? = some (.cells #[.int .i64 raw,.int .i64 ring,.int .i64 writes,.int .i64 stamps,.bool mu,.int .i64 tr,v] 24 (0,0))):=by rw [hw0]; exact row_on (heap_alloc_new _ _) (below_a1 _ _)
 have HR0:Hid (w0.heap[w.heap.size+1]? = some (.cells #[.int .i64 0,.int .i64 0,.int .i64 0,.int .i64 0,.bool false,.int .i64 0,.slice none 0 0] 24 (0,0))):=by rw [hw0]; exact heap_alloc2_new w _ _
 have c1:w0.cell? ⟨w.heap.size,1,none⟩=some (.int .i64 ring):=by rw [cell_at HC0.out]; rfl
 have c2:w0.cell? ⟨w.heap.size,2,none⟩=some (.int .i64 writes):=by rw [cell_at HC0.out]; rfl
 have c3:w0.cell? ⟨w.heap.size,3,none⟩=some (.int .i64 stamps):=by rw [cell_at HC0.out]; rfl
 have c4:w0.cell? ⟨w.heap.size,4,none⟩=some (.bool mu):=by rw [cell_at HC0.out]; rfl
 have hl0:=heap_lt HC0.out
 have hl1:=heap_lt HR0.out
 have HF:Hid (fcV (fitC ring writes stamps mu) = .agg #[.int .i64 0,.int .i64 (1+ring % 16),.int .i64 (1+writes % 24),.int .i64 (1+stamps % 40),.bool mu,.int .i64 0,.slice none 0 0]):=by
  have q1:(((ring % 16).toNat+1:Nat):Int)=1+ring % 16:=by omega
  have q2:(((writes % 24).toNat+1:Nat):Int)=1+writes % 24:=by omega
  have q3:(((stamps % 40).toNat+1:Nat):Int)=1+stamps % 40:=by omega
  show fcV _=_
  unfold fcV fitC
  simp only [q1,q2,q3]
 rw [HF.out]
 have e1:IntKind.i64.wrap (1+ring % 16)=1+ring % 16:=by rw [IntKind.wrap_i64]; omega
 have e2:IntKind.i64.wrap (1+writes % 24)=1+writes % 24:=by rw [IntKind.wrap_i64]; omega
 obtain ⟨z1,t1⟩ : ∃ z1,stamps.tmod 40=z1:=⟨_,rfl⟩
 have t1':z1=stamps % 40∨z1=stamps % 40 - 40:=by
  rw [← t1]
  rcases Int.le_total 0 stamps with h | h
  ·left; exact Int.tmod_eq_emod_of_nonneg h
  ·have:=tmod_neg40 stamps h; exact this
 obtain ⟨z2,t2⟩ : ∃ z2,IntKind.i64.wrap (z1+40)=z2:=⟨_,rfl⟩
 have t2':z2=z1+40:=by rw [← t2,IntKind.wrap_i64]; omega
 obtain ⟨z3,t3⟩ : ∃ z3,z2.tmod 40=z3:=⟨_,rfl⟩
 have t3':z3=stamps % 40:=by rw [← t3,Int.tmod_eq_emod_of_nonneg (by omega)]; omega
 have t4:IntKind.i64.wrap (1+z3)=1+z3:=by rw [IntKind.wrap_i64]; omega
 rw [← t3'] 
 clear t1' t2' t3'
 unfold confT
 go_enter Tryz.func8,Tryz.ntmps8
 go_wp2_with fail
 rw [← hw0]
 clear hw0 HF
 obtain ⟨⟨r0,r1,r2,r3,r4,r5,r6⟩,f0,f1,f2,f3,f4,f5,f6⟩:=cfg_cells HR0.out
 go_region_held3 (fun w' => w'.cell? ⟨w.heap.size,1,none⟩=some (.int .i64 ring)∧w'.cell? ⟨w.heap.size,2,none⟩=some (.int .i64 writes)∧w'.cell? ⟨w.heap.size,3,none⟩=some (.int .i64 stamps)∧w'.cell? ⟨w.heap.size,4,none⟩=some (.bool mu)) (first | go_keep) (first
    | (go_at_call 9; refine (gpick_any _ _ (by decide) (by decide) _).mono ?_; rintro e w1 ⟨rfl,rfl⟩))
 go_wp2
 exact ret_cfg rfl rfl (row_on (cfg_set HR0.out _ _ _ _ _ _ _) (bl_drew _)) rfl rfl ⟨rfl,below_then (belowC HB0.out (Nat.le_succ _) _ _ _ _ _ _ _) (bl_drew _)⟩
theorem below_keep {w w1 w2:World} {F:List Nat} (h:Below w.heap.size w w1) (k:Keep F w1 w2) (hF : ∀ b ∈ F,w.heap.size≤b):Below w.heap.size w w2:=h.trans (k.below h.size hF)
theorem memAt_low {w:World} {base base':Nat} {p:Value} {c r:Nat} {L:List Ac} {F:List Nat} (h:MemAt w base p c r L F) (hb:base'≤base):MemAt w base' p c r L F:=by
 obtain ⟨M,H,S,C,v,h⟩:=h
 exact ⟨M,H,S,C,v,h.p,h.m,own_base h.own hb,h.F,Nat.le_trans hb h.bM,Nat.le_trans hb h.bH,Nat.le_trans hb h.bS,Nat.le_trans hb h.bC,h.c,h.r⟩
def nilR:Obj:=.cells #[.slice none 0 0,.slice none 0 0,.slice none 0 0,.slice none 0 0] 45 (0,0)
def ptrC (Tp:Nat→Nat) (q:Nat):List Value:=(List.range q).map fun k=>.pointer (some ⟨Tp k,0,none⟩)
theorem ptrC_len (Tp:Nat→Nat) (q:Nat):(ptrC Tp q).length=q:=by simp [ptrC]
theorem ptrC_add (Tp:Nat→Nat) (q T:Nat):ptrC (setT Tp q T) (q+1)=ptrC Tp q ++ [.pointer (some ⟨T,0,none⟩)]:=by
 unfold ptrC
 rw [List.range_succ,List.map_append]
 congr 1
 ·refine List.map_congr_left (fun k hk => ?_)
  rw [setT_else _ _ (by have:=List.mem_range.1 hk; omega)]
 ·simp [setT_self]
structure PL (w:World) (base s:Nat) (n:Int) (mu:Bool) (m M B R q:Nat) (tv:Value) (Tp:Nat→Nat) (F:List Nat) (G:Nat→List Nat):Prop where
 mem:MemAt w base (.pointer (some ⟨M,0,none⟩)) 8 s [] F
 tx : ∀ k,k < q→TxAt w base (Tp k) (newX s n mu m) (G k)
 out : ∀ k,k < q → ∀ z ∈ G k,z ∉ F
 dis : ∀ j k,j < q→k < q→j≠k → ∀ z ∈ G j,z ∉ G k
 gm:w.heap[B]? = some (gmO (.pointer (some ⟨M,0,none⟩)) tv (.slice none 0 0) (.slice none 0 0) (.slice (some ⟨R,0,none⟩) 4 4))
 own:w.ownsRow base 37 1 tv q (ptrC Tp q)
 rd:w.heap[R]? = some nilR
 ap : ∀ z,(z=B∨z=R∨tv.ownBlock=some z)→base≤z∧z ∉ F ∧ ∀ k,k < q→z ∉ G k
theorem pl_below {w w':World} {base s:Nat} {n:Int} {mu:Bool} {m M B R q:Nat} {tv:Value} {Tp:Nat→Nat} {F:List Nat} {G:Nat→List Nat} (h:PL w base s n mu m M B R q tv Tp F G) (k:Below w.heap.size w w'):PL w' base s n mu m M B R q tv Tp F G :=
 ⟨h.mem.below k,fun j hj=>(h.tx j hj).below k,h.out,h.dis,row_on h.gm k,own_keep h.own (Keep.of_below k []) (by simp),row_on h.rd k,h.ap⟩
theorem pl_add {w w1 w3:World} {base s:Nat} {n:Int} {mu:Bool} {m M B R q T:Nat} {tv v':Value} {Tp:Nat→Nat} {F:List Nat} {G:Nat→List Nat} {Gq:List Nat} (h:PL w base s n mu m M B R q tv Tp F G) (hb:Below w.heap.size w w1) (ht:TxAt w1 base T (newX s n mu m) Gq) (hG : ∀ z ∈ Gq,w.heap.size≤z)
  (own:w3.ownsRow base 37 1 v' (q+1) (ptrC Tp q ++ [.pointer (some ⟨T,0,none⟩)])) (hk:Keep (B :: tv.ownBlock.toList) w1 w3) (hat:v'.ownBlock=tv.ownBlock ∨ ∃ g,v'.ownBlock=some g∧w1.heap.size≤g) (gm:w3.heap[B]? = some (gmO (.pointer (some ⟨M,0,none⟩)) v' (.slice none 0 0) (.slice none 0 0) (.slice (some ⟨R,0,none⟩) 4 4))) :
  PL w3 base s n mu m M B R (q+1) v' (setT Tp q T) F (setT G q Gq):=by
 have hB:=heap_lt h.gm
 have hR:=heap_lt h.rd
 have hlF : ∀ z ∈ F,z < w.heap.size:=fun z hz=>(h.mem.lt z hz).2
 have hlG : ∀ k,k < q → ∀ z ∈ G k,z < w.heap.size:=fun k hk z hz=>((h.tx k hk).lt z hz).2
 have hmem : ∀ z,z ∈ B :: tv.ownBlock.toList→z=B∨z=R∨tv.ownBlock=some z:=fun z hz=>by
  simp only [List.mem_cons,Option.mem_toList] at hz
  rcases hz with e | e
  ·exact Or.inl e
  ·exact Or.inr (Or.inr e)
 have hvl : ∀ z,z ∈ B :: tv.ownBlock.toList→z < w.heap.size:=fun z hz=>by
  simp only [List.mem_cons,Option.mem_toList] at hz
  rcases hz with e | e
  ·omega
  ·exact (h.own.lt z e).2
 have hRB:R ∉ B :: tv.ownBlock.toList:=fun e=>by
  simp only [List.mem_cons,Option.mem_toList] at e
  have h1:=h.gm
  have h2:=h.rd
  unfold gmO at h1
  unfold nilR at h2
  rcases e with e | e
  ·exact (ne_of_type h2 h1 (by decide)) e
  ·exact (own_ne h.own h2 (by decide)) e
 refine ⟨(h.mem.below hb).keep hk (fun b hb' e=>(h.ap b (hmem b e)).2.1 hb'),fun k hkq => ?_,fun k hkq z hz => ?_,fun i j hi hj hne z hz => ?_,gm,by rw [ptrC_add]; exact own,keep_row hk (row_on h.rd hb) hRB,fun z hz => ?_⟩
 ·by_cases e:k=q
  ·subst e
   rw [setT_self,setT_self]
   exact ht.keep hk (fun z hz e=>by have:=hvl z e; have:=hG z hz; omega)
  ·rw [setT_else _ _ e,setT_else _ _ e]
   have hkq':k < q:=by omega
   exact ((h.tx k hkq').below hb).keep hk (fun z hz e=>(h.ap z (hmem z e)).2.2 k hkq' hz)
 ·by_cases e:k=q
  ·subst e
   rw [setT_self] at hz
   exact fun e=>by have:=hlF z e; have:=hG z hz; omega
  ·rw [setT_else _ _ e] at hz
   exact h.out k (by omega) z hz
 ·by_cases e1:i=q
  ·subst e1
   rw [setT_self] at hz
   rw [setT_else _ _ (Ne.symm hne)]
   exact fun e=>by have:=hlG j (by omega) z e; have:=hG z hz; omega
  ·rw [setT_else _ _ e1] at hz
   by_cases e2:j=q
   ·subst e2
    rw [setT_self]
    exact fun e=>by have:=hlG i (by omega) z hz; have:=hG z e; omega
   ·rw [setT_else _ _ e2]
    exact h.dis i j (by omega) (by omega) hne z hz
 ·have hnew : ∀ z,(z=B∨z=R∨tv.ownBlock=some z)→base≤z∧z ∉ F ∧ ∀ k,k < q+1→z ∉ setT G q Gq k:=fun z hz=>by
   obtain ⟨a1,a2,a3⟩:=h.ap z hz
   have hzl:z < w.heap.size:=by
    rcases hz with rfl | rfl | e
    ·exact hB
    ·exact hR
    ·exact (h.own.lt z e).2
   refine ⟨a1,a2,fun k hkq => ?_⟩
   by_cases e:k=q
   ·subst e; rw [setT_self]; exact fun e=>by have:=hG z e; omega
   ·rw [setT_else _ _ e]; exact a3 k (by omega)
  rcases hz with e | e | e
  ·exact hnew z (Or.inl e)
  ·exact hnew z (Or.inr (Or.inl e))
  ·rcases hat with ha | ⟨g,ha,hg⟩
   ·exact hnew z (Or.inr (Or.inr (by rw [← ha]; exact e)))
   ·have hzg:z=g:=by rw [ha] at e; exact (Option.some.inj e).symm
    subst hzg
    have hs:=hb.size
    refine ⟨(own.lt z e).1,fun e=>by have:=hlF z e; omega,fun k hkq => ?_⟩
    by_cases ek:k=q
    ·subst ek; rw [setT_self]; exact fun e=>by have:=(ht.lt z e).2; omega
    ·rw [setT_else _ _ ek]; exact fun e=>by have:=hlG k (by omega) z e; omega
theorem pl_end {w:World} {base s:Nat} {n:Int} {mu:Bool} {m M B R:Nat} {tv:Value} {Tp:Nat→Nat} {F:List Nat} {G:Nat→List Nat} (h:PL w base s n mu m M B R 4 tv Tp F G) :
  ∃ X A cap cur,tv = .slice (some ⟨X,0,none⟩) 4 cap∧GG w base (.pointer (some ⟨M,0,none⟩)) 8 s [] Tp (fun _=>newX s n mu m) A∧w.heap[X]? = some (txsO cur)∧Ptrs cur Tp∧B ∉ A∧X ∉ A∧R ∉ A∧base≤B∧base≤X∧base≤R:=by
 have hap : ∀ z,(z=B∨z=R∨tv.ownBlock=some z)→z ∉ allB F G:=fun z hz e=>by
  obtain ⟨_,a2,a3⟩:=h.ap z hz
  rcases mem_all.mp e with e | ⟨k,hk,e⟩
  ·exact a2 e
  ·exact a3 k hk e
 obtain ⟨hl,ho⟩:=h.own
 rcases ho with ⟨_,e⟩ | ⟨X,cap,cur,rfl,hX,hh,hn,_,hsz,htk⟩
 ·omega
 ·refine ⟨X,allB F G,cap,cur,rfl,⟨F,G,⟨h.mem,h.tx,h.out,h.dis⟩,rfl⟩,hh,fun k hk => ?_,hap B (Or.inl rfl),hap X (Or.inr (Or.inr rfl)),hap R (Or.inr (Or.inl rfl)),(h.ap B (Or.inl rfl)).1,hX,(h.ap R (Or.inr (Or.inl rfl))).1⟩
  have h1:(cur.toList.take (4 * 1))[k]? = some (.pointer (some ⟨Tp k,0,none⟩)):=by
   rw [htk]
   unfold ptrC
   rw [List.getElem?_map,List.getElem?_range hk]
   rfl
  rw [List.getElem?_take_of_lt (by omega)] at h1
  simpa using h1
theorem info_txp:(Tryz.prog.info? 37).map (fun i=>(i.zero,i.size,i.bytes))=some (some (.pointer none),1,8):=by kernel_rfl
theorem info_evs:(Tryz.prog.info? 45).map (fun i=>(i.zero,i.size,i.bytes))=some (some (.slice none 0 0),1,24):=by kernel_rfl
theorem make_evs (w:World):(Instr.makeSlice 42 (.int .i64 4) (.int .i64 4)).run Tryz.prog w = .ok (.slice (some ⟨w.heap.size,0,none⟩) 4 4) (w.alloc nilR):=by
 obtain ⟨i0,hi,hz0,hz1,hz2⟩:=info_parts info_evs
 have:=run_make (P:=Tryz.prog) w 42 45 i0 _ Tryz.underlying42 hi hz0 .i64 .i64 4 4 (by omega) (by omega) (by rw [hz2]; omega) (by omega)
 rw [this,hz1]
 have:madeCells (Value.slice none 0 0).cells (Int.toNat 4 * 1) = #[.slice none 0 0,.slice none 0 0,.slice none 0 0,.slice none 0 0]:=by
  apply Array.ext'
  simp [madeCells,Value.cells,List.range_succ]
 rw [this]
 rfl
theorem play_any (w:World) {d:Fc} (s1:1≤d.s) (s2:d.s≤16) (m1:1≤d.m) (m2:d.m≤24) (n1:1≤d.n) (n2:d.n≤40) :
  Calls Tryz.prog 7 #[fcV d] w fun e w' => ∃ B X R p Tp A cap cur,e = .returned (.pointer (some ⟨B,0,none⟩))∧GG w' w.heap.size p 8 d.s [] Tp (fun _=>newX d.s d.n d.mu d.m) A∧w'.heap[B]? = some (gmO p (.slice (some ⟨X,0,none⟩) 4 cap) (.slice none 0 0) (.slice none 0 0) (.slice (some ⟨R,0,none⟩) 4 4))∧w'.heap[X]? = some (txsO cur)∧Ptrs cur Tp∧w'.heap[R]? = some (.cells #[.slice none 0 0,.slice none 0 0,.slice none 0 0,.slice none 0 0] 45 (0,0))∧B ∉ A∧X ∉ A∧R ∉ A∧w.heap.size≤B∧w.heap.size≤X∧w.heap.size≤R∧Below w.heap.size w w':=by
 have HMN:Hid (∀ w:World,Calls Tryz.prog 20 #[.int .i64 8,.int .i64 (d.s:Int)] w fun e w' => ∃ p F,e = .returned (.tuple #[p,.int .i64 0])∧p ≠ .pointer none∧MemAt w' w.heap.size p 8 d.s [] F∧Below w.heap.size w w'):=fun w=>new_yes w 8 d.s (by decide) ⟨by omega,s2⟩
 have HTN:Hid (∀ (w:World) (base:Nat),base≤w.heap.size→Calls Tryz.prog 21 #[fcV d] w fun e w' => ∃ T G,e = .returned (.tuple #[.pointer (some ⟨T,0,none⟩),.int .i64 0])∧TxAt w' base T (newX d.s d.n d.mu d.m) G∧(∀ q ∈ G,w.heap.size≤q)∧Below w.heap.size w w'):=fun w base hb=>newT_yes w base hb 0 d.s d.m d.n d.mu 0 (.slice none 0 0) s1 s2 (by omega) (by omega) m1 m2
 obtain ⟨s,m,n,mu⟩:=d
 simp only at HMN HTN s1 s2 m1 m2 n1 n2 ⊢
 unfold fcV at *
 simp only at HTN ⊢
 have HMK:Hid (∀ w,(Instr.makeSlice 42 (.int .i64 4) (.int .i64 4)).run Tryz.prog w = .ok (.slice (some ⟨w.heap.size,0,none⟩) 4 4) (w.alloc nilR)):=make_evs
 have hmk:=HMK.out
 go_enter Tryz.func7,Tryz.ntmps7
 go_wp2_with fail
 refine (HMN.out _).mono ?_
 rintro e y1 ⟨p,F,rfl,hp,hm,hb1⟩
 obtain ⟨M,rfl⟩:=hm.ptr
 clear hp
 go_wp2_with fail
 have HM1:Hid (MemAt y1 w.heap.size (.pointer (some ⟨M,0,none⟩)) 8 s [] F):=(show MemAt y1 w.heap.size _ 8 s [] F from memAt_low hm (by simp))
 have HB1:Hid (Below w.heap.size w y1):=below_then (below_a1 _ _) hb1
 have HC1:Hid (y1.heap[w.heap.size]? = some (.cells #[.int .i64 0,.int .i64 (s:Int),.int .i64 (m:Int),.int .i64 (n:Int),.bool mu,.int .i64 0,.slice none 0 0] 24 (0,0))):=row_on (heap_alloc_new _ _) hb1
 have hy1:w.heap.size≤y1.heap.size:=HB1.out.size
 obtain ⟨R,hR⟩ : ∃ R,R=y1.heap.size:=⟨_,rfl⟩
 obtain ⟨B,hB⟩ : ∃ B,B=y1.heap.size+1:=⟨_,rfl⟩
 obtain ⟨y2,hy2⟩ : ∃ y2,y2=(y1.alloc nilR).alloc (.cells #[.pointer (some ⟨M,0,none⟩),.slice none 0 0,.slice none 0 0,.slice none 0 0,.slice (some ⟨y1.heap.size,0,none⟩) 4 4] 44):=⟨_,rfl⟩
 have HP0:Hid (PL y2 w.heap.size s n mu m M B R 0 (.slice none 0 0) (fun _=>0) F (fun _ => [])):=by
  have hlF:=HM1.out.lt
  have k2:Below y1.heap.size y1 y2:=by rw [hy2]; exact below_then (below_a1 _ _) (below_a1 _ _)
  refine ⟨HM1.out.below k2,fun k hk=>by omega,fun k hk=>by omega,fun j k hj=>by omega, ?_,by simpa [ptrC] using World.ownsRow_nil _ _ _ _, ?_,fun z hz => ?_⟩
  ·rw [hy2,hB,hR]; exact heap_alloc2_new y1 _ _
  ·rw [hy2,hR]; exact row_on (heap_alloc_new _ _) (below_a1 _ _)
  ·have hz':y1.heap.size≤z:=by
    rcases hz with e | e | e
    ·omega
    ·omega
    ·simp [Value.ownBlock] at e
   exact ⟨by omega,fun e=>by have:=(hlF z e).2; omega,fun k hk=>by omega⟩
 have HB2:Hid (Below w.heap.size w y2):=by rw [hy2]; exact below_then HB1.out (below_then (below_a1 _ _) (below_a1 _ _))
 have HC2:Hid (y2.heap[w.heap.size]? = some (.cells #[.int .i64 0,.int .i64 (s:Int),.int .i64 (m:Int),.int .i64 (n:Int),.bool mu,.int .i64 0,.slice none 0 0] 24 (0,0))):=by rw [hy2]; exact row_on HC1.out (below_then (below_a1 _ _) (below_a1 _ _))
 rw [← hy2,← hB]
 have HWB:Hid (w.heap.size < B):=by show w.heap.size < B; omega
 clear hy2 HM1 HB1 HC1 hy1 hm hb1 hmk HMK HMN hB hR
 obtain ⟨i0,hi,hz0,hz1,hz2⟩:=info_parts info_txp
 go_loopw [6] (fun iv wr => ∃ (q:Nat) (tv:Value) (Tp:Nat→Nat) (G:Nat→List Nat),q≤4∧iv = .int .i64 q∧PL wr w.heap.size s n mu m M B R q tv Tp F G∧Below w.heap.size w wr∧wr.heap[w.heap.size]? = some (.cells #[.int .i64 0,.int .i64 (s:Int),.int .i64 (m:Int),.int .i64 (n:Int),.bool mu,.int .i64 0,.slice none 0 0] 24 (0,0))) (fun iv _=>4 - (intOf iv).toNat)
 case atStart=>exact ⟨0,_,_,_,by omega,rfl,HP0.out,HB2.out,HC2.out⟩
 case round =>
  obtain ⟨q,tv,Tp,G,hq,rfl,hpl,hb,hc⟩:=hrel
  have HPL:Hid (PL wr w.heap.size s n mu m M B R q tv Tp F G):=hpl
  have HB:Hid (Below w.heap.size w wr):=hb
  have HC:Hid (wr.heap[w.heap.size]? = some (.cells #[.int .i64 0,.int .i64 (s:Int),.int .i64 (m:Int),.int .i64 (n:Int),.bool mu,.int .i64 0,.slice none 0 0] 24 (0,0))):=hc
  by_cases hlt:q < 4
  ·obtain ⟨⟨r0,r1,r2,r3,r4,r5,r6⟩,_⟩:=cfg_cells hc
   have hcl:=heap_lt hc
   have hx1:(q:Int) < 4:=by omega
   clear hpl hb hc
   go_wp2_with fail
   refine (HTN.out _ w.heap.size HB.out.size).mono ?_
   rintro e w1 ⟨T,Gq,rfl,ht,hG,hb1⟩
   have HT:Hid (TxAt w1 w.heap.size T (newX s n mu m) Gq ∧ ∀ z ∈ Gq,wr.heap.size≤z):=⟨ht,hG⟩
   have HPB:Hid (Below wr.heap.size wr w1):=hb1
   have HP1:Hid (PL w1 w.heap.size s n mu m M B R q tv Tp F G):=pl_below HPL.out hb1
   have c1:=gm_c1 HP1.out.gm
   have f1:w1.frozen? ⟨B,1,none⟩=false:=by have:=HP1.out.gm; unfold gmO at this; exact frozen_at this 1
   have hBl:=heap_lt HP1.out.gm
   have HOW:Hid (w1.ownsRow w.heap.size 37 1 tv q (ptrC Tp q)):=HP1.out.own
   have hlen:=ptrC_len Tp q
   obtain ⟨av,cv,rfl⟩:=own_slice HOW.out
   have hbs:w.heap.size≤w1.heap.size:=Nat.le_trans HB.out.size hb1.size
   have hMv:(Value.slice av q cv).ownBlock≠some B:=by have:=HP1.out.gm; unfold gmO at this; exact own_ne HOW.out this (by decide)
   have HMv:Hid ((Value.slice av q cv).ownBlock≠some B):=hMv
   obtain ⟨xs,HXS⟩ : ∃ xs,Hid (ptrC Tp q=xs):=⟨_,rfl⟩
   rw [HXS.out] at HOW hlen
   clear ht hG hb1 r0 r1 r2 r3 r4 r5 r6 hcl hMv
   go_wp2_with (at_builtin; refine list_lies_wide _ rfl _ _ 39 rfl w.heap.size 37 i0 _ 1 8 Tryz.underlying39 hi hz0 hz1 hz2 rfl (by decide) _ _ _ rfl (HOW.out.alloc _) ⟨w1.heap.size,0,none⟩ 1 1 [.pointer (some ⟨T,0,none⟩)] rfl rfl ?c1 ?c2 (by decide) ?c3 ?c4 ?c5 _ rfl ?_)
   case c1=>exact World.news_of_block (cs:=#[.pointer (some ⟨T,0,none⟩)]) (t:=37) (fr:=(0,0)) (heap_alloc_new w1 _)
   case c2=>simp [Value.oneCell']
   case c3=>unfold maxLen; omega
   case c4=>omega
   case c5=>simp; omega
   intro gg cap' w3 hown1 hgrow hat hlt2
   have hat2:(Value.slice av q cv).ownBlock=some gg∨gg=w1.heap.size+1:=by simpa using hat
   have hs1:w3.cell? ⟨B,1,none⟩=some (.slice av q cv):=by rw [hgrow.cell_far _ (by simp; omega) (Ne.symm HMv.out),World.cell?_alloc_past _ _ _ hBl]; exact c1
   have hs2:w3.frozen? ⟨B,1,none⟩=false:=by rw [hgrow.frozen_far _ (by simp; omega) (Ne.symm HMv.out),World.frozen?_alloc_past _ _ _ hBl]; exact f1
   have hs3:B < w3.heap.size:=by have:=hgrow.size; simp at this; omega
   have HN:Hid (PL (w3.setCell ⟨B,1,none⟩ (.slice (some ⟨gg,0,none⟩) (q+1) cap')) w.heap.size s n mu m M B R (q+1) (.slice (some ⟨gg,0,none⟩) (q+1) cap') (setT Tp q T) F (setT G q Gq)∧Below w.heap.size w (w3.setCell ⟨B,1,none⟩ (.slice (some ⟨gg,0,none⟩) (q+1) cap'))∧(w3.setCell ⟨B,1,none⟩ (.slice (some ⟨gg,0,none⟩) (q+1) cap')).heap[w.heap.size]? = some (.cells #[.int .i64 0,.int .i64 (s:Int),.int .i64 (m:Int),.int .i64 (n:Int),.bool mu,.int .i64 0,.slice none 0 0] 24 (0,0))):=by
    have hK3:Keep (B :: (Value.slice av q cv).ownBlock.toList) w1 w3:=((Keep.refl _ _).alloc _).grown hgrow (fun b hb=>Or.inl (by simp [hb]))
    have hK:Keep (B :: (Value.slice av q cv).ownBlock.toList) w1 (w3.setCell ⟨B,1,none⟩ (.slice (some ⟨gg,0,none⟩) (q+1) cap')):=hK3.setCell _ _ (Or.inl (by simp))
    have hgB:gg≠B:=fun e=>by
     rcases hat2 with h | h
     ·exact HMv.out (by rw [← e]; exact h)
     ·omega
    have hw3B:w3.heap[B]? = some (gmO (.pointer (some ⟨M,0,none⟩)) (.slice av q cv) (.slice none 0 0) (.slice none 0 0) (.slice (some ⟨R,0,none⟩) 4 4)):=by
     have hk':Keep (Value.slice av q cv).ownBlock.toList w1 w3:=((Keep.refl _ _).alloc _).grown hgrow (fun b hb=>Or.inl (by simp [hb]))
     exact keep_row hk' HP1.out.gm (fun e=>HMv.out (by simpa using e))
    have hgm:(w3.setCell ⟨B,1,none⟩ (.slice (some ⟨gg,0,none⟩) (q+1) cap')).heap[B]? = some (gmO (.pointer (some ⟨M,0,none⟩)) (.slice (some ⟨gg,0,none⟩) (q+1) cap') (.slice none 0 0) (.slice none 0 0) (.slice (some ⟨R,0,none⟩) 4 4)):=by
     unfold gmO at hw3B ⊢
     rw [heap_set hw3B]; rfl
    have hown3:(w3.setCell ⟨B,1,none⟩ (.slice (some ⟨gg,0,none⟩) (q+1) cap')).ownsRow w.heap.size 37 1 (.slice (some ⟨gg,0,none⟩) (q+1) cap') (q+1) (xs ++ [.pointer (some ⟨T,0,none⟩)]) :=
     own_keep hown1 (F:=[B]) ((Keep.refl _ _).setCell _ _ (Or.inl (by simp))) (fun b hb e=>by simp [Value.ownBlock] at hb e; omega)
    have hBw:w.heap.size ∉ B :: (Value.slice av q cv).ownBlock.toList:=fun e=>by
     have:=HWB.out
     simp only [List.mem_cons,Option.mem_toList] at e
     rcases e with e | e
     ·omega
     ·exact (own_ne HOW.out (row_on HC.out HPB.out) (by decide)) e
    refine ⟨pl_add HPL.out HPB.out HT.out.1 HT.out.2 (by rw [HXS.out]; exact hown3) hK ?_ hgm, ?_,keep_row hK (row_on HC.out HPB.out) hBw⟩
    ·rcases hat2 with h | h
     ·exact Or.inl (by rw [h]; rfl)
     ·exact Or.inr ⟨gg,rfl,by omega⟩
    ·refine below_keep (below_then HB.out HPB.out) hK (fun b hb => ?_)
     have:=HWB.out
     simp only [List.mem_cons,Option.mem_toList] at hb
     rcases hb with e | e
     ·omega
     ·exact (own_block HOW.out b e).1
   clear hown1 hgrow hat hat2 hlt2 c1 f1
   go_wp2
   go_roundw
   case rel=>exact ⟨q+1,_,_,_,by omega,by go_num,HN.out⟩
   case measure=>simp [intOf]; omega
  ·obtain rfl:q=4:=by omega
   obtain ⟨X,A,cap,cur,rfl,q1,q2,q3,q4,q5,q6,q7,q8,q9⟩:=pl_end HPL.out
   have HGM:=HPL.out.gm
   have HRD:=HPL.out.rd
   clear hpl hb hc
   go_wp2
   go_ret
   exact ⟨B,X,R,_,Tp,A,cap,cur,rfl,q1,HGM,q2,q3,HRD,q4,q5,q6,q7,q8,q9,HB.out⟩
end Go.Proofs.YtdkpgdkjohjcaaaGreat
namespace Go.Proofs.YtdkpgdkjohjcaaaGreat.Ba
open Go.RowKit (wrap64)
def HO (P:Bp) (L:List Ac):Prop:=∀ k,olderOk P k→overV (wordOf L (hdB P k)) k=true
end Go.Proofs.YtdkpgdkjohjcaaaGreat.Ba
namespace Go.Proofs.YtdkpgdkjohjcaaaGreat
open Go.RowKit (wrap64)
set_option linter.unusedVariables false
theorem hap_len {W:Ev→Prop} {c:Nat} {N:Int} {m:Nat} {L:List Ac} {g:Rg} {T:Nat→Tx} {R:Nat→List (Int × Int)} {k:Nat} {pre:List Ev} {o:Out} {E:List Ev} {g':Rg} {r':List (Int × Int)} (h:Hap W c N m L g T R k pre o E g' r'):o.L.length≤L.length+1:=by
 rcases h.acc with ⟨_,e⟩ | ⟨_,e⟩
 ·omega
 ·rw [e]; omega
end Go.Proofs.YtdkpgdkjohjcaaaGreat
namespace Go.Proofs.YtdkpgdkjohjcaaaGreat
open Go.ChangeShapes Go.WideShapes Go.ChangeAt Go.RowKit
set_option linter.unusedVariables false
structure GB (w:World) (base s:Nat) (p:Value) (L:List Ac) (Tp:Nat→Nat) (T:Nat→Tx) (A:List Nat) (B X cap:Nat) (cur:Array Value) (sv wv rv:Value):Prop where
 gg:GG w base p 8 s L Tp T A
 gm:w.heap[B]? = some (gmO p (.slice (some ⟨X,0,none⟩) 4 cap) sv wv rv)
 tx:w.heap[X]? = some (txsO cur)
 pt:Ptrs cur Tp
 bA:B ∉ A
 xA:X ∉ A
theorem GB.below {w w':World} {base s:Nat} {p:Value} {L:List Ac} {Tp:Nat→Nat} {T:Nat→Tx} {A:List Nat} {B X cap:Nat} {cur:Array Value} {sv wv rv:Value} (h:GB w base s p L Tp T A B X cap cur sv wv rv) (k:Below w.heap.size w w'):GB w' base s p L Tp T A B X cap cur sv wv rv :=
 ⟨h.gg.below k,row_on h.gm k,row_on h.tx k,h.pt,h.bA,h.xA⟩
theorem GB.next {w w':World} {base s:Nat} {p:Value} {L L':List Ac} {Tp:Nat→Nat} {T T':Nat→Tx} {A A':List Nat} {B X cap:Nat} {cur:Array Value} {sv wv rv:Value} (h:GB w base s p L Tp T A B X cap cur sv wv rv) (q:GG w' base p 8 s L' Tp T' A') (n:Next A A' w w'):GB w' base s p L' Tp T' A' B X cap cur sv wv rv :=
 ⟨q,(row_next0 h.gm h.bA n).1,(row_next0 h.tx h.xA n).1,h.pt,(row_next0 h.gm h.bA n).2,(row_next0 h.tx h.xA n).2⟩
theorem GB.keep {w w':World} {base s:Nat} {p:Value} {L:List Ac} {Tp:Nat→Nat} {T:Nat→Tx} {A H:List Nat} {B X cap:Nat} {cur:Array Value} {sv wv rv:Value} (h:GB w base s p L Tp T A B X cap cur sv wv rv) (k:Keep H w w') (h1 : ∀ q ∈ A,q ∉ H) (h2:B ∉ H) (h3:X ∉ H):GB w' base s p L Tp T A B X cap cur sv wv rv :=
 ⟨h.gg.keep k h1,keep_row k h.gm h2,keep_row k h.tx h3,h.pt,h.bA,h.xA⟩
theorem GB.cells {w:World} {base s:Nat} {p:Value} {L:List Ac} {Tp:Nat→Nat} {T:Nat→Tx} {A:List Nat} {B X cap:Nat} {cur:Array Value} {sv wv rv:Value} (h:GB w base s p L Tp T A B X cap cur sv wv rv) {k:Nat} (hk:k < 4):w.cell? ⟨B,0,none⟩=some p∧w.cell? ⟨B,1,none⟩=some (.slice (some ⟨X,0,none⟩) 4 cap)∧w.cell? ⟨X,k,none⟩=some (.pointer (some ⟨Tp k,0,none⟩)) :=
 ⟨gm_c0 h.gm,gm_c1 h.gm,txs_cell h.tx h.pt hk⟩
theorem GB.told {w:World} {base s:Nat} {p:Value} {L:List Ac} {Tp:Nat→Nat} {T:Nat→Tx} {A:List Nat} {B X cap:Nat} {cur:Array Value} {sv wv rv:Value} (h:GB w base s p L Tp T A B X cap cur sv wv rv) {k:Nat} (hk:k < 4) (hE:(T k).ev.length < 1073741824) (n:Int) :
  Calls Tryz.prog 10 #[.pointer (some ⟨Tp k,0,none⟩),.int .i64 n] w fun e w' => ∃ v,e = .returned v∧w'.ownsRow w.heap.size 58 19 v (fromE (T k).ev n).length (evsC (fromE (T k).ev n))∧Below w.heap.size w w':=by
 obtain ⟨G,ht⟩:=h.gg.tx hk
 exact told_any ht hE n
theorem GB.step {w:World} {base s:Nat} {p:Value} {L:List Ac} {Tp:Nat→Nat} {T:Nat→Tx} {A:List Nat} {B X cap:Nat} {cur:Array Value} {sv wv rv:Value} (h:GB w base s p L Tp T A B X cap cur sv wv rv) {k:Nat} (hk:k < 4) (hb:base≤w.heap.size) (hL:L.length < 3298534883328) (hE:(T k).ev.length+1 < 1073741824) (hx:XOk (T k)) (hd:Wd L) :
  Calls Tryz.prog 19 #[.pointer (some ⟨Tp k, 0, none⟩), p, .int .i64 (k : Int)] w fun e w' => e = .returned (anV (stepX 8 s (T k) L k).k (stepX 8 s (T k) L k).e (stepX 8 s (T k) L k).v (stepX 8 s (T k) L k).y) ∧ ∃ A', GB w' base s p (stepX 8 s (T k) L k).L Tp (setT T k (stepX 8 s (T k) L k).x) A' B X cap cur sv wv rv ∧ Next A A' w w' := by
 obtain ⟨F,G,tm,_,back⟩:=h.gg.at_ hk
 refine (step_any tm hb hL (by omega) hx hd (k:Int)).mono ?_
 rintro e w'' ⟨rfl, F', G', q, nx⟩
 obtain ⟨A', q1, q2⟩ := back _ _ _ _ _ q nx
 exact ⟨rfl, A', h.next q1 q2, q2⟩
theorem GB.act {w:World} {base s:Nat} {p:Value} {L:List Ac} {Tp:Nat→Nat} {T:Nat→Tx} {A:List Nat} {B X cap:Nat} {cur:Array Value} {sv wv rv:Value} (h:GB w base s p L Tp T A B X cap cur sv wv rv) {k:Nat} (hk:k < 4) (hb:base≤w.heap.size) (hL:L.length < 3298534883328) (hE:(T k).ev.length+1 < 1073741824) (hx:XOk (T k)) (hd:Wd L) (a:At) :
  Calls Tryz.prog 13 #[.pointer (some ⟨B, 0, none⟩), .int .i64 (k : Int), atV a] w fun e w' => e = .returned (anV (actX 8 s (T k) L k (wantA a)).k (actX 8 s (T k) L k (wantA a)).e (actX 8 s (T k) L k (wantA a)).v (actX 8 s (T k) L k (wantA a)).y) ∧ ∃ A', GB w' base s p (actX 8 s (T k) L k (wantA a)).L Tp (setT T k (actX 8 s (T k) L k (wantA a)).x) A' B X cap cur sv wv rv ∧ Next A A' w w' := by
 refine (act_any h.gg h.gm h.tx h.pt h.bA h.xA hk hb hL hE hx hd a).mono ?_
 rintro e w' ⟨rfl, A', q1, q2⟩
 exact ⟨rfl, A', h.next q1 q2, q2⟩
def noAt:At:=⟨0,0,0,⟨0,0,0,0⟩,0,0,0,0,0⟩
def AcL (w:World) (v:Value) (S:List At):Prop:=∃ a cap,v = .slice a S.length cap∧S.length≤1048576∧(S = [] ∨ ∃ x:Addr,a=some x∧x.block < w.heap.size ∧ ∀ i,i < S.length → ∀ j u,(atC (S.getD i noAt))[j]? = some u→w.cell? ((x.add (i * 12)).add j)=some u)
def AcOk (S:List At):Prop:=∀ i,i < S.length→W64 (S.getD i noAt).w.value
theorem pick4 (x:Int) : ∃ k:Nat,k < 4∧x % 4=(k:Int):=⟨(x % 4).toNat,by omega,by omega⟩
theorem fromE_app (l D:List Ev):fromE (l++D) (l.length:Int)=D:=by unfold fromE; simp
def g0 (s:Nat) (mu:Bool):Rg:=⟨s,mu,[],0,fun _=>⟨0,0,0,false,0⟩⟩
theorem word_first {a:Ad} (h:a.k≠2):wordOf [] a=0:=by rw [wordOf_nil]; unfold first; rw [if_neg h]
theorem ri_first {s:Nat} {mu:Bool} (h1:1≤s) (h2:s≤16):RI (wordOf []) (g0 s mu):=by
 refine ⟨h1,h2,Nat.le_refl _,by simp [g0,Rg.n],fun _=>by simp [g0,Rg.n],by simp [g0,Rg.n],by rw [word_first (by simp)]; simp [g0,Rg.n],fun t t1 t2=>by simp [g0,Rg.n] at t2; omega,fun t t1 t2=>by simp [g0,Rg.n] at t2; omega,fun u u1 u2 => ?_,fun u u1 u2 j hj => ?_,fun c c0 c1=>⟨0,Nat.le_refl _,by simp [g0,Rg.n],by rw [word_first (by simp)]; simp [Rg.val],fun t t1 t2=>by simp [g0,Rg.n] at t2; omega⟩⟩
 ·have:u≤0:=by simpa [g0,Rg.n] using u2
  rw [wordOf_nil]; unfold hdW; rw [if_pos this]; rfl
 ·have:u≤0:=by simpa [g0,Rg.n] using u2
  rw [word_first (by simp)]; unfold sgW; rw [if_pos this]; unfold wrap64; omega
theorem wi_first {s m:Nat} {n:Int} {mu:Bool} (h1:1≤s) (h2:s≤16) (h3:1≤n) (h4:n≤1099511627776) (m1:1≤m) (m2:m≤24):WI 8 n m [] (g0 s mu) (fun _=>newX s n mu m) (fun _ => []) :=
 ⟨ri_first h1 h2,fun a=>by rw [wordOf_nil]; unfold W64 first; split <;> omega,fun _ _=>xok_new h1 h2 h3 h4 m1 m2,fun _ _=>⟨rfl,rfl,rfl,rfl⟩,by simp [g0,Rg.n]; omega,fun _ _=>⟨fun y hy=>by simp [newX,Tl.empty] at hy,fun hb=>by simp [newX] at hb⟩,fun t t1 t2=>by simp [g0,Rg.n] at t2; omega,fun k hk P b e=>by simp [newX] at e,fun k j P b P' b' hk hj e=>by simp [newX] at e,fun k hk P b e=>by simp [newX] at e⟩
structure MI (w wr:World) (base s m:Nat) (N:Int) (p:Value) (Tp:Nat→Nat) (B X cap:Nat) (cur:Array Value) (sv wv rv:Value) (q:Nat) (L:List Ac) (g:Rg) (T:Nat→Tx) (R:Nat→List (Int × Int)) (A:List Nat):Prop where
 wi:WI 8 N m L g T R
 gs:g.s=s
 gb:GB wr base s p L Tp T A B X cap cur sv wv rv
 len:L.length≤q
 evs : ∀ k,k < 4→(T k).ev.length≤2 * q
 bel:Below w.heap.size w wr
 lo:w.heap.size≤base
 hi:base≤wr.heap.size
theorem MI.below {w wr w':World} {base s m:Nat} {N:Int} {p:Value} {Tp:Nat→Nat} {B X cap:Nat} {cur:Array Value} {sv wv rv:Value} {q:Nat} {L:List Ac} {g:Rg} {T:Nat→Tx} {R:Nat→List (Int × Int)} {A:List Nat} (h:MI w wr base s m N p Tp B X cap cur sv wv rv q L g T R A) (k:Below wr.heap.size wr w'):MI w w' base s m N p Tp B X cap cur sv wv rv q L g T R A :=
 ⟨h.wi,h.gs,h.gb.below k,h.len,h.evs,below_then h.bel k,h.lo,Nat.le_trans h.hi k.size⟩
theorem MI.other {w wr w':World} {base s m:Nat} {N:Int} {p:Value} {Tp:Nat→Nat} {B X cap:Nat} {cur:Array Value} {sv wv rv:Value} {q:Nat} {L:List Ac} {g:Rg} {T:Nat→Tx} {R:Nat→List (Int × Int)} {A H:List Nat} (h:MI w wr base s m N p Tp B X cap cur sv wv rv q L g T R A) (k:Keep H wr w') (h1 : ∀ z ∈ H,w.heap.size≤z∧z ∉ A) (h2:B ∉ H) (h3:X ∉ H):MI w w' base s m N p Tp B X cap cur sv wv rv q L g T R A :=
 ⟨h.wi,h.gs,h.gb.keep k (fun z hz e=>(h1 z e).2 hz) h2 h3,h.len,h.evs,below_keep h.bel k (fun z hz=>(h1 z hz).1),h.lo,Nat.le_trans h.hi k.size⟩
theorem MI.acts {w wr w':World} {base s m:Nat} {N:Int} {p:Value} {Tp:Nat→Nat} {B X cap:Nat} {cur:Array Value} {sv wv rv:Value} {q:Nat} {L:List Ac} {g:Rg} {T:Nat→Tx} {R:Nat→List (Int × Int)} {A A':List Nat} (h:MI w wr base s m N p Tp B X cap cur sv wv rv q L g T R A) {k:Nat} (hk:k < 4) {W:Ev→Prop} {pre E:List Ev} {o:Out} {g':Rg} {r':List (Int × Int)} (hp:pre = [] ∨ pre = [{ kind:=7 }]) (ha:Hap W 8 N m L g T R k pre o E g' r')
  (hg:GB w' base s p o.L Tp (setT T k o.x) A' B X cap cur sv wv rv) (hn:Next A A' wr w'):MI w w' base s m N p Tp B X cap cur sv wv rv (q+1) o.L g' (setT T k o.x) (setT R k r') A':=by
 have hl:=hap_len ha
 have hgs:g'.s=g.s:=by
  rcases ha.tel with ⟨_,e2,e3,_⟩ | ⟨e,_,t⟩
  ·have h1:=(ha.wi.cf ((k+1) % 4) (Nat.mod_lt _ (by omega))).s
   rw [setT_else _ _ (by omega)] at h1
   have h2:=(h.wi.cf ((k+1) % 4) (Nat.mod_lt _ (by omega))).s
   omega
  ·have h1:=(ha.wi.cf ((k+1) % 4) (Nat.mod_lt _ (by omega))).s
   rw [setT_else _ _ (by omega)] at h1
   have h2:=(h.wi.cf ((k+1) % 4) (Nat.mod_lt _ (by omega))).s
   omega
 refine ⟨ha.wi,hgs.trans h.gs,hg,by have:=h.len; omega,fun j hj => ?_,below_keep h.bel hn.1 (fun b hb=>Nat.le_trans h.lo (h.gb.gg.lt b hb).1),h.lo,Nat.le_trans h.hi hn.1.size⟩
 by_cases e:j=k
 ·subst e
  rw [setT_self,ha.ev]
  have:=h.evs j hj
  have hE:E.length≤1:=by
   rcases ha.tel with ⟨e1,_⟩ | ⟨e,e1,_⟩ <;> rw [e1] <;> simp
  have hpl:pre.length≤1:=by rcases hp with e | e <;> rw [e] <;> simp
  simp only [List.length_append]
  omega
 ·rw [setT_else _ _ e]
  have:=h.evs j hj
  omega
theorem ev_cell {w:World} {base gg cap:Nat} {l:List Ev} (h:w.ownsRow base 58 19 (.slice (some ⟨gg,0,none⟩) l.length cap) l.length (evsC l)) {i:Nat} (hi:i < l.length) {j:Nat} (hj:j < 19):w.cell? ⟨gg,i * 19+j,none⟩=(evC l[i])[j]?:=by
 have hlen:=evsC_len l
 have hc:(evsC l)[i * 19+j]? = (evC l[i])[j]?:=by
  have h1:evsC (l.drop i)=(evsC l).drop (i * 19):=evsC_drop l i
  rw [List.drop_eq_getElem_cons hi] at h1
  have h2:((evsC l).drop (i * 19))[j]? = (evC l[i])[j]?:=by
   rw [← h1]
   unfold evsC
   rw [List.flatMap_cons,List.getElem?_append_left (by simpa [evC] using hj)]
  rw [List.getElem?_drop] at h2
  exact h2
 have hsome : ∃ u,(evC l[i])[j]? = some u:=⟨_,List.getElem?_eq_getElem (by simpa [evC] using hj)⟩
 obtain ⟨u,hu⟩:=hsome
 rw [hu]
 exact own_cells h _ _ (by rw [hc,hu])
end Go.Proofs.YtdkpgdkjohjcaaaGreat
