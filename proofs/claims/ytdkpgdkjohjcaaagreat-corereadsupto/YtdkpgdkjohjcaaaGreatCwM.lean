/- What a machine of layer 10 finds in a ring, by what the ring's words say. -/
import Derived.Test.YtdkpgdkjohjcaaaGreatWlV
import Derived.Test.YtdkpgdkjohjcaaaGreatJCqJCmD
namespace Go.Proofs.YtdkpgdkjohjcaaaGreat.Co
open Go.RowKit (wrap64)
def Clash (g:Vw) (rd:List Nat) (t:Nat):Prop:=∃ j,j < 8∧(g.e t j &&& rd.getD j 0)≠0
def Clean (g:Vw) (P:Cp) (u:Int):Prop:=∀ t:Nat,P.z < (t:Int)→(t:Int) < u → ¬ Clash g P.rd t
theorem clean_stay {g g':Vw} {P:Cp} {u:Int} (hs:Stay g g') (hz:0≤P.z) (hu:u≤(g.n:Int)+1) (h:Clean g P u):Clean g' P u:=fun t h1 h2 hc=>by
 obtain ⟨j,hj,hc⟩:=hc
 rw [hs.2.2.2.2 t j (by omega) (by omega)] at hc
 exact h t h1 h2 ⟨j,hj,hc⟩
theorem wrapU_64 {x:Nat} (h:x < 18446744073709551616):(IntKind.u64.wrap (wrap64 (x:Int))).toNat=x:=by
 rw [IntKind.wrap_u64]
 unfold wrap64
 omega
theorem hit_is {rd:List Nat} {j x:Nat} (h:x < 18446744073709551616):hitV rd j (wrap64 (x:Int))=((x &&& rd.getD j 0) != 0):=by unfold hitV; rw [wrapU_64 h]
theorem nx_zero {rd:List Nat} {k j:Nat} (h:k≤8) (h1:k≤j) (h2:j < nxW rd k):rd.getD j 0=0:=(nxW_hit rd k h).2 j h1 h2
structure Sq (g:Vw) (P:Cp) (b:Ck):Prop where
 z:P.z≤(g.d:Int)
 sz:P.s=g.size
 last:P.last=false
 c:b.st=0∨b.st=5 ∨
  (b.st=1∧b.seen≤(g.n:Int)∧((g.n:Int)≤P.z+(g.size:Int)→Clean g P b.stamp)) ∨
  (b.st=2∧b.seen≤(g.n:Int)∧g.laid b.stamp∧((g.n:Int)≤P.z+(g.size:Int)→Clean g P b.stamp ∧ ∀ j:Nat,(j:Int) < b.word→(g.e b.stamp.toNat j &&& P.rd.getD j 0)=0)) ∨
  (b.st=4∧0≤b.seen∧b.seen≤(g.n:Int)∧((g.n:Int)=b.seen→Clean g P (b.seen+1)))
theorem sq_new {g:Vw} {P:Cp} (hz:P.z≤(g.d:Int)) (hs:P.s=g.size) (hl:P.last=false):Sq g P (ckNew P):=⟨hz,hs,hl,Or.inl rfl⟩
theorem sq_stay {g g':Vw} {P:Cp} {b:Ck} {n:Nat} (h:Sq g P b) (hk:KOk P b n) (hs:Stay g g'):Sq g' P b:=by
 obtain ⟨s1,s2,s3,s4,s5⟩:=id hs
 have hz:=hk.p.z0
 have hz':=h.z
 refine ⟨by omega,by rw [h.sz,s4],h.last, ?_⟩
 rcases h.c with e | e | ⟨e,h1,h3⟩ | ⟨e,h1,h3,h4⟩ | ⟨e,h0,h1,h4⟩
 ·exact Or.inl e
 ·exact Or.inr (Or.inl e)
 ·have km:=(kok_mid hk (Or.inl e)).1.hi
  exact Or.inr (Or.inr (Or.inl ⟨e,by omega,fun hl=>clean_stay hs hz (by omega) (h3 (by rw [s4] at hl; omega))⟩))
 ·have km:=(kok_mid hk (Or.inr (Or.inl e))).1.hi
  have kl:=(kok_mid hk (Or.inr (Or.inl e))).1.lo
  refine Or.inr (Or.inr (Or.inr (Or.inl ⟨e,by omega,s2 _ (by omega) h3,fun hl => ?_⟩)))
  obtain ⟨c1,c2⟩:=h4 (by rw [s4] at hl; omega)
  exact ⟨clean_stay hs hz (by omega) c1,fun j hj=>by rw [s5 _ j (by omega) (by omega)]; exact c2 j hj⟩
 ·exact Or.inr (Or.inr (Or.inr (Or.inr ⟨e,h0,by omega,fun hl=>clean_stay hs hz (by omega) (h4 (by omega))⟩)))
theorem sq_on {g:Vw} {P:Cp} {b:Ck} (hz:P.z≤(g.d:Int)) (hs:P.s=g.size) (hl:P.last=false) (h0:0≤P.z) (hzs:P.z≤b.stamp) (h1:b.seen≤(g.n:Int)) (hf:b.seen≤P.z+(g.size:Int)) (hle:b.stamp≤b.seen) (h3:(g.n:Int)≤P.z+(g.size:Int)→Clean g P (b.stamp+1)):Sq g P (stampOn P b):=by
 refine ⟨hz,hs,hl, ?_⟩
 unfold stampOn
 by_cases e:b.stamp < b.seen
 ·rw [if_pos e]
  exact Or.inr (Or.inr (Or.inl ⟨rfl,h1,h3⟩))
 ·rw [if_neg e,hl,if_neg (by simp)]
  have he:b.stamp=b.seen:=by omega
  exact Or.inr (Or.inr (Or.inr (Or.inr ⟨rfl,by simp only; omega,h1,fun h=>by simp only at h ⊢; rw [← he]; exact h3 (by omega)⟩)))
theorem sq_word {g:Vw} {P:Cp} {b:Ck} (hz:P.z≤(g.d:Int)) (hs:P.s=g.size) (hl:P.last=false) (h00:0≤P.z) (hzs:P.z≤b.stamp) (hw : -1≤b.word∧b.word≤7) (h0:1≤b.stamp) (h1:b.seen≤(g.n:Int)) (hf:b.seen≤P.z+(g.size:Int)) (hle:b.stamp≤b.seen) (hla:g.laid b.stamp)
  (h3:(g.n:Int)≤P.z+(g.size:Int)→Clean g P b.stamp ∧ ∀ j:Nat,(j:Int) < b.word+1→(g.e b.stamp.toNat j &&& P.rd.getD j 0)=0):Sq g P (wordOn P b):=by
 obtain ⟨hw1,hw2⟩:=hw
 have hb:=nxW_bd P.rd (b.word+1).toNat (by omega)
 have hall:(g.n:Int)≤P.z+(g.size:Int) → ∀ j:Nat,j < nxW P.rd (b.word+1).toNat→(g.e b.stamp.toNat j &&& P.rd.getD j 0)=0:=fun h j hj=>by
  by_cases e:(j:Int) < b.word+1
  ·exact (h3 h).2 j e
  ·rw [nx_zero (k:=(b.word+1).toNat) (by omega) (by omega) hj]; simp
 unfold wordOn
 by_cases e:nxW P.rd (b.word+1).toNat < 8
 ·rw [if_pos e]
  exact ⟨hz,hs,hl,Or.inr (Or.inr (Or.inr (Or.inl ⟨rfl,h1,hla,fun h=>⟨(h3 h).1,fun j hj=>hall h j (by simp only at hj; omega)⟩⟩)))⟩
 ·rw [if_neg e]
  refine sq_on hz hs hl h00 hzs h1 hf hle (fun h t t1 t2 hc => ?_)
  simp only at t2
  by_cases et:(t:Int) < b.stamp
  ·exact (h3 h).1 t t1 et hc
  ·obtain rfl:t=b.stamp.toNat:=by omega
   obtain ⟨j,hj,hc⟩:=hc
   exact hc (hall h j (by omega))
theorem nought_getD (j:Nat) (hj:j < 8):Sg.nought.getD j 0=0:=by
 rcases j with _ | _ | _ | _ | _ | _ | _ | _ | j
 all_goals first
  | rfl
  | omega
theorem sq_step {f:Ad→Int} {g:Vw} {P:Cp} {b:Ck} {n:Nat} (h:Sq g P b) (hk:KOk P b n) (ht : ¬ thr b) (hv:VI f g) :
  Sq g P (stepK P b (f (adK P b)))∧((stepK P b (f (adK P b))).err=3 → ∃ t:Nat,P.z < (t:Int)∧t≤g.n∧Clash g P.rd t)∧((stepK P b (f (adK P b))).err=4→P.z+(g.size:Int) < (g.n:Int))∧(waitK b (f (adK P b))=true→g.d≠g.n):=by
 have hs1:=hv.s1
 have hda:=hv.dn
 have hsz:sizeOk (P.s:Int)=true:=by rw [h.sz]; exact sizeOk_iff.mpr ⟨by omega,by have:=hv.s16; omega⟩
 have hzz:=h.z
 have hp0:=hk.p.z0
 have hlt:=hv.lt
 rcases h.c with e | e | ⟨e,h1,h3⟩ | ⟨e,h1,h3,h4⟩ | ⟨e,_⟩
 ·have hb:=kok_zero hk e
  have ha:adK P b=⟨1,0,0⟩:=by unfold adK; rw [if_neg (by omega),if_neg (by omega)]
  rw [ha,hv.nw]
  have hS:stepK P b (g.n:Int)=seeK P (ckNew P) (g.n:Int):=by unfold stepK; rw [if_pos e,hb]
  rw [hS]
  refine ⟨?_, ?_, ?_,fun hw=>by unfold waitK at hw; simp [e] at hw⟩
  all_goals unfold seeK
  ·split
   ·next hc =>
    refine ⟨hzz,h.sz,h.last,Or.inr (Or.inr (Or.inr (Or.inr ⟨rfl,by simp,Int.le_refl _,fun _ t t1 t2 hcl => ?_⟩)))⟩
    obtain ⟨j,hj,hcl⟩:=hcl
    rcases hc with hc | hc
    ·rw [hc,nought_getD j hj] at hcl
     simp at hcl
    ·simp only at t2; omega
   ·next hc =>
    split
    ·exact ⟨hzz,h.sz,h.last,Or.inr (Or.inl rfl)⟩
    ·next hf =>
     have hn:(g.n:Int)≤P.z+(g.size:Int):=by
      unfold farV at hf
      rw [h.sz] at hf
      simp only [Bool.and_eq_true,decide_eq_true_eq,not_and] at hf
      omega
     unfold onV
     rw [if_neg (by simp [ckNew]),if_neg (by simp [ckNew]),if_pos (show (ckNew P).st=0 from rfl)]
     exact sq_on hzz h.sz h.last hp0 (Int.le_refl _) (Int.le_refl _) hn (by simp only [ckNew]; omega) (fun _ t t1 t2=>by simp only [ckNew] at t2; omega)
  ·split
   ·intro hc; simp [ckNew] at hc
   ·split
    ·intro hc; simp [failV] at hc
    ·intro hc; rw [onV_err] at hc; simp [ckNew] at hc
  ·split
   ·intro hc; simp [ckNew] at hc
   ·split
    ·next hf=>intro _; unfold farV at hf; simp at hf; rw [h.sz] at hf; omega
    ·intro hc; rw [onV_err] at hc; simp [ckNew] at hc
 ·exact absurd (Or.inr e) ht
 ·have km:=(kok_mid hk (Or.inl e)).1
  have kl:=km.lo
  have kh:=km.hi
  have kf:=km.far
  rw [h.sz] at kf
  have ha:adK P b=⟨2,b.stamp % (g.size:Int),0⟩:=by unfold adK slotV; rw [if_pos e,if_pos hsz,h.sz]
  rw [ha]
  have hh:=hv.head b.stamp (by omega) (by omega)
  generalize f ⟨2,b.stamp % (g.size:Int),0⟩=v at *
  have hS:stepK P b v=lookK P b v:=by unfold stepK; rw [if_neg (by omega),if_pos e]
  rw [hS]
  have hla:laidV v b.stamp=true ↔ v / 2=b.stamp:=by unfold laidV; simp
  have hov:overV v b.stamp=true ↔ (v / 2 > b.stamp∨v / 2=b.stamp∧v % 2=1):=by
   unfold overV laidV
   simp
   omega
  rcases hh with ⟨a1,a2,a3,a4⟩ | ⟨a1,a2⟩ | ⟨a1,a2⟩
  ·have hL:laidV v b.stamp=true:=hla.mpr a3
   have hK:lookK P b v=wordOn P ⟨b.st,b.seen,b.stamp,-1,compV b v,b.err⟩:=by unfold lookK onV; rw [if_pos hL]; simp only; rw [if_pos e]
   rw [hK]
   refine ⟨sq_word hzz h.sz h.last hp0 (by simp only; omega) ⟨by simp,by simp⟩ (by simp only; omega) h1 kf kh a1 (fun hl=>⟨h3 hl,fun j hj=>by simp only at hj; omega⟩),fun hc => ?_,fun hc => ?_,fun hw => ?_⟩
   ·rw [wordOn_err] at hc; simp only at hc; rw [km.e] at hc; omega
   ·rw [wordOn_err] at hc; simp only at hc; rw [km.e] at hc; omega
   ·unfold waitK at hw; rw [hL] at hw; simp at hw
  ·have hL : ¬ laidV v b.stamp=true:=fun hc=>by have:=hla.mp hc; omega
   have hO:overV v b.stamp=true:=hov.mpr (Or.inl a2)
   have hK:lookK P b v=failV b 4:=by unfold lookK; rw [if_neg hL,if_pos hO]
   rw [hK]
   refine ⟨⟨hzz,h.sz,h.last,Or.inr (Or.inl rfl)⟩,fun hc=>by simp [failV] at hc,fun _=>by omega,fun hw => ?_⟩
   unfold waitK at hw; rw [hO] at hw; simp at hw
  ·have hL : ¬ laidV v b.stamp=true:=fun hc=>by have:=hla.mp hc; omega
   have hO : ¬ overV v b.stamp=true:=fun hc=>by have:=hov.mp hc; omega
   have hK:lookK P b v=b:=by unfold lookK; rw [if_neg hL,if_neg hO]
   rw [hK]
   exact ⟨h,fun hc=>by rw [km.e] at hc; omega,fun hc=>by rw [km.e] at hc; omega,fun _ hd=>by omega⟩
 ·obtain ⟨km,hwd⟩:=kok_mid hk (Or.inr (Or.inl e))
  obtain ⟨w1,w2⟩:=hwd e
  have kl:=km.lo
  have kh:=km.hi
  have kf:=km.far
  rw [h.sz] at kf
  obtain ⟨j,hj⟩ : ∃ j:Nat,b.word=(j:Int):=⟨b.word.toNat,by omega⟩
  have ha:adK P b=⟨3,b.stamp % (g.size:Int),(j:Int)⟩:=by unfold adK slotV; rw [if_neg (by omega),if_pos e,if_pos hsz,h.sz,hj]
  obtain ⟨u,u1,u2,u3,u4⟩:=hv.word b.stamp (by omega) (by omega) h3 j (by omega)
  rw [ha,u4]
  have hS:stepK P b (wrap64 ((g.e u j:Nat):Int))=holdK P b (wrap64 ((g.e u j:Nat):Int)):=by unfold stepK; rw [if_neg (by omega),if_neg (by omega),if_pos e]
  rw [hS]
  have hH:hitV P.rd b.word.toNat (wrap64 ((g.e u j:Nat):Int))=((g.e u j &&& P.rd.getD j 0) != 0):=by rw [hj,Int.toNat_natCast]; exact hit_is (hlt u j)
  have hwt : ∀ v,¬ waitK b v=true:=fun v hw=>by unfold waitK at hw; simp [e] at hw
  by_cases hc:(g.e u j &&& P.rd.getD j 0)=0
  ·have hK:holdK P b (wrap64 ((g.e u j:Nat):Int))=wordOn P b:=by
    unfold holdK onV
    rw [hH,hc,if_neg (by decide),if_neg (by omega),if_pos e]
   rw [hK]
   refine ⟨sq_word hzz h.sz h.last hp0 (by omega) ⟨by omega,by omega⟩ (by omega) h1 kf kh h3 (fun hl=>⟨(h4 hl).1,fun q hq => ?_⟩),fun hx => ?_,fun hx => ?_,fun hw=>absurd hw (hwt _)⟩
   ·by_cases eq:(q:Int) < b.word
    ·exact (h4 hl).2 q eq
    ·obtain rfl:q=j:=by omega
     have:(u:Int)=b.stamp:=u3 (by omega)
     rw [show b.stamp.toNat=u by omega]
     exact hc
   ·rw [wordOn_err,km.e] at hx; omega
   ·rw [wordOn_err,km.e] at hx; omega
  ·have hK:holdK P b (wrap64 ((g.e u j:Nat):Int))=failV b 3:=by
    unfold holdK
    rw [hH,if_pos (bne_iff_ne.2 hc)]
   rw [hK]
   exact ⟨⟨hzz,h.sz,h.last,Or.inr (Or.inl rfl)⟩,fun _=>⟨u,by omega,by omega,j,by omega,hc⟩,fun hx=>by simp [failV] at hx,fun hw=>absurd hw (hwt _)⟩
 ·exact absurd (Or.inl e) ht
theorem kok_err {P:Cp} {b:Ck} {n:Nat} (h:KOk P b n):b.err=0∨b.err=3∨b.err=4:=by
 rcases h.c with ⟨rfl,_⟩ | ⟨_,k,_⟩ | ⟨_,k,_⟩ | ⟨_,k,_⟩ | ⟨_,_,k⟩ | ⟨_,_,k⟩
 ·exact Or.inl rfl
 ·exact Or.inl k.e
 ·exact Or.inl k.e
 ·exact Or.inl k.e
 ·exact Or.inl k
 ·exact Or.inr k
theorem swap_word {c r:Nat} {L:List Ac} {t o z:Int} (y:(wordOf L nwA == o)=true):wordOf (swapL c r L t nwA o z) nwA=z:=by
 unfold swapL
 rw [if_pos (show isAd c r nwA=true from rfl),wordOf_hit (Or.inr ⟨rfl,y⟩)]
 simp [upd]
theorem swap_not {c r:Nat} {L:List Ac} {t o z:Int} (y : ¬ (wordOf L nwA == o)=true):wordOf (swapL c r L t nwA o z)=wordOf L:=by
 unfold swapL
 rw [if_pos (show isAd c r nwA=true from rfl),wordOf_miss (by simp only [Bool.not_eq_true] at y; rw [y]; rfl)]
theorem gz_free {f:Ad→Int} {g:Vw} (h:VI f g) (t:Int) (h2:t≤(g.n:Int)+1) (hf:freeV (f ⟨2,t % (g.size:Int),0⟩) t (g.size:Int)=true):t - (g.d:Int)≤(g.size:Int):=by
 have hs:=h.s1
 unfold freeV at hf
 simp only [Bool.and_eq_true,Bool.or_eq_true,decide_eq_true_eq] at hf
 rcases hf.2 with e | e
 ·omega
 ·by_cases et:t≤(g.size:Int)
  ·omega
  ·have hq:(t - (g.size:Int)) % (g.size:Int)=t % (g.size:Int):=by simp
   have:=h.over (t - (g.size:Int)) (by omega) (by omega)
   rw [hq,e] at this
   simp at this
   omega
theorem gz_free2 {f:Ad→Int} {g:Vw} (h:VI f g) (t:Int) (h2:t≤(g.d:Int)+1):freeV (f ⟨2,t % (g.size:Int),0⟩) t (g.size:Int)=true:=by
 have hs:=h.s1
 have hda:=h.dn
 unfold freeV
 simp only [Bool.and_eq_true,Bool.or_eq_true,decide_eq_true_eq]
 refine ⟨sizeOk_iff.mpr ⟨by omega,by have:=h.s16; omega⟩, ?_⟩
 by_cases et:t≤(g.size:Int)
 ·exact Or.inl et
 ·right
  have hq:(t - (g.size:Int)) % (g.size:Int)=t % (g.size:Int):=by simp
  have:=h.over (t - (g.size:Int)) (by omega) (by omega)
  rw [hq] at this
  rw [this]
  simp
  omega
structure Sc (g:Vw) (P:Cp) (b:Ck) (u:Cu):Prop where
 q:Sq g P b
 un:u.st≠3→u.stamp=0
 c:u.st=0∨u.st=3∨(u.st=1∧b.st=4∧u.seen=b.seen∧(P.ex.mu=false→u.seen≠0)) ∨
  (u.st=2∧b.st=4∧u.seen=b.seen∧(P.ex.mu=true→u.seen+1 - (g.d:Int)≤(g.size:Int))∧(P.ex.mu=false→u.seen≤(g.d:Int)))
theorem sc_new {g:Vw} {P:Cp} (hz:P.z≤(g.d:Int)) (hs:P.s=g.size) (hl:P.last=false):Sc g P (ckNew P) cuNew:=⟨sq_new hz hs hl,fun _=>rfl,Or.inl rfl⟩
theorem sc_stay {g g':Vw} {P:Cp} {b:Ck} {u:Cu} (h:Sc g P b u) (hk:COk P b u) (hs:Stay g g'):Sc g' P b u:=by
 obtain ⟨n,k⟩:=hk.k
 have s3:=hs.2.2.1
 have s4:=hs.2.2.2.1
 refine ⟨sq_stay h.q k hs,h.un, ?_⟩
 rcases h.c with e | e | e | ⟨e1,e2,e3,e4,e5⟩
 ·exact Or.inl e
 ·exact Or.inr (Or.inl e)
 ·exact Or.inr (Or.inr (Or.inl e))
 ·exact Or.inr (Or.inr (Or.inr ⟨e1,e2,e3,fun hm=>by have:=e4 hm; rw [s4]; omega,fun hm=>by have:=e5 hm; omega⟩))
theorem Sq.end_ {g:Vw} {P:Cp} {b:Ck} (h:Sq g P b) (e:b.st=4):0≤b.seen∧b.seen≤(g.n:Int)∧((g.n:Int)=b.seen→Clean g P (b.seen+1)):=by
 rcases h.c with c | c | ⟨c,_⟩ | ⟨c,_⟩ | ⟨_,c⟩
 ·omega
 ·omega
 ·omega
 ·omega
 ·exact c
theorem sc_step {L:List Ac} {g:Vw} {P:Cp} {b:Ck} {u:Cu} (h:Sc g P b u) (hk:COk P b u) (hv:VI (wordOf L) g) (hwd : ∀ a,W64 (wordOf L a)) (hu:u.stamp=0) :
  (errZ g.size P b u L=3 → ∃ t:Nat,P.z < (t:Int)∧t≤g.n∧Clash g P.rd t)∧(errZ g.size P b u L=4→P.z+(g.size:Int) < (g.n:Int))∧(errZ g.size P b u L=6→P.ex.n≤(g.n:Int))∧(ansZ g.size P b u L=1→g.d≠g.n) ∧
  ((nextU g.size P b u L).stamp=0→ansZ g.size P b u L≠3∧Sc g P (nextCB g.size P b u L) (nextU g.size P b u L) ∧ ∀ c t a,wordOf (nextCL c g.size P b u L t) a=wordOf L a) ∧
  ((nextU g.size P b u L).stamp≠0→ansZ g.size P b u L=3∧valZ g.size P u L=(g.n:Int)+1∧(nextU g.size P b u L).stamp=(g.n:Int)+1∧(∀ c t,wordOf (nextCL c g.size P b u L t) nwA=(g.n:Int)+1)∧Clean g P ((g.n:Int)+1)∧(g.n:Int) - (g.d:Int) < (g.size:Int)∧(P.ex.mu=false→g.d=g.n)∧(g.n:Int)+1≤P.ex.n):=by
 obtain ⟨n,hkk⟩:=hk.k
 have hsz:=h.q.sz
 have hs1:=hv.s1
 have hda:=hv.dn
 by_cases hgo:goesC g.size P u=true
 ·obtain ⟨e3,er⟩:=goesC_iff.mp hgo
  by_cases e0:u.st=0
  ·have ht : ¬ thr b:=by
    rcases hk.c with c | c | c
    ·exact c.2
    ·omega
    ·omega
   have hgk:goesK g.size P b=true:=goesK_iff.mpr ⟨ht,er⟩
   obtain ⟨a1,a2,a3⟩:=ansKK_go (L:=L) hgk
   obtain ⟨q1,q2,q3,q4⟩:=sq_step h.q hkk ht hv
   have hN:nextK g.size P b L=stepK P b (wordOf L (adK P b)):=by unfold nextK; rw [if_pos hgk]
   have hA:ansKK g.size P b L=kindK P b (wordOf L (adK P b)):=by unfold ansKK; rw [if_pos hgk]
   have hE:errKK g.size P b L=errK P b (wordOf L (adK P b)):=by unfold errKK; rw [if_pos hgk]
   have hU:nextU g.size P b u L=holdU g.size P b u L:=by unfold nextU; rw [if_pos hgo,if_pos e0]
   have hB:nextCB g.size P b u L=nextK g.size P b L:=by unfold nextCB; rw [if_pos hgo,if_pos e0]
   have hAZ:ansZ g.size P b u L=holdA g.size P b L:=by unfold ansZ; rw [if_pos hgo,if_pos e0]
   have hEZ:errZ g.size P b u L=holdE g.size P b L:=by unfold errZ; rw [if_pos hgo,if_pos e0]
   have hLZ : ∀ c t a,wordOf (nextCL c g.size P b u L t) a=wordOf L a:=fun c t a=>by unfold nextCL nextKL; rw [if_pos hgo,if_pos e0,if_pos hgk,wordOf_load]
   rw [← hN] at q1 q2 q3
   have hst:(nextU g.size P b u L).stamp=0:=by
    rw [hU]; unfold holdU heldU
    split
    ·exact hu
    ·split
     ·split
      ·exact hu
      ·split <;> exact hu
     ·exact hu
   have hend:=fun (k3:ansKK g.size P b L=3)=>q1.end_ (a2 k3)
   rw [hU,hB,hAZ,hEZ]
   rw [hU] at hst
   refine ⟨?_, ?_, ?_, ?_,fun _=>⟨?_,⟨q1,fun _=>hst, ?_⟩,hLZ⟩,fun hc=>absurd hst hc⟩
   ·unfold holdE heldE
    split
    ·split <;> (intro hc; omega)
    ·intro hc
     apply q2
     rw [hE] at hc
     unfold errK at hc
     split at hc
     ·omega
     ·rw [hN]; exact hc
   ·unfold holdE heldE
    split
    ·split <;> (intro hc; omega)
    ·intro hc
     apply q3
     rw [hE] at hc
     unfold errK at hc
     split at hc
     ·omega
     ·rw [hN]; exact hc
   ·unfold holdE heldE
    split
    ·next k3 =>
     split
     ·next hs =>
      intro _
      obtain ⟨s1,s2,s3⟩:=hend k3
      unfold spent at hs
      simp at hs
      omega
     ·intro hc; omega
    ·intro hc
     exfalso
     rw [hE] at hc
     unfold errK at hc
     split at hc
     ·omega
     ·have hko:=kok_step (v:=wordOf L (adK P b)) hkk (hwd _) ht
      rcases kok_err hko with e | e | e <;> omega
   ·unfold holdA heldK
    split
    ·split <;> (intro hc; omega)
    ·intro hc
     apply q4
     rw [hA] at hc
     unfold kindK at hc
     split at hc
     ·next hw=>exact hw
     ·unfold kindV at hc
      split at hc
      ·omega
      ·split at hc <;> omega
   ·unfold holdA heldK
    split
    ·split <;> omega
    ·next k3=>exact k3
   ·unfold holdU
    split
    ·exact Or.inr (Or.inl rfl)
    ·split
     ·next k3 =>
      unfold heldU
      split
      ·exact Or.inr (Or.inl rfl)
      ·next hs =>
       obtain ⟨s1,s2,s3⟩:=hend k3
       split
       ·next hm=>exact Or.inr (Or.inr (Or.inr ⟨rfl,a2 k3,rfl,fun hc=>(by rw [hm.2] at hc; simp at hc),fun _=>(by simp only; omega)⟩))
       ·next hm=>exact Or.inr (Or.inr (Or.inl ⟨rfl,a2 k3,rfl,fun h1 h2=>hm ⟨h2,h1⟩⟩))
     ·exact Or.inl e0
  ·by_cases e1:u.st=1
   ·have hc1:b.st=4∧u.seen=b.seen∧(P.ex.mu=false→u.seen≠0):=by
     rcases h.c with c | c | ⟨_,c⟩ | ⟨c,_⟩
     ·omega
     ·omega
     ·exact c
     ·omega
    obtain ⟨s1,s2,s3⟩:=h.q.end_ hc1.1
    have hsn:=hc1.2.1
    have hne:=hc1.2.2
    have hU:nextU g.size P b u L=lookU P u L:=by unfold nextU; rw [if_pos hgo,if_neg e0,if_pos e1]
    have hB:nextCB g.size P b u L=b:=by unfold nextCB; rw [if_pos hgo,if_neg e0,if_pos e1]
    have hAZ:ansZ g.size P b u L=if looksY P u L then 2 else 1:=by unfold ansZ; rw [if_pos hgo,if_neg e0,if_pos e1]
    have hEZ:errZ g.size P b u L=0:=by unfold errZ; rw [if_pos hgo,if_neg e0]
    have hLZ : ∀ c t a,wordOf (nextCL c g.size P b u L t) a=wordOf L a:=fun c t a=>by unfold nextCL; rw [if_pos hgo,if_neg e0,if_pos e1,wordOf_load]
    have hst:(lookU P u L).stamp=0:=by unfold lookU; split <;> exact hu
    have hsl:lookA P u=⟨2,lookS P u % (g.size:Int),0⟩:=by
     unfold lookA slotV
     rw [hsz,if_pos (sizeOk_iff.mpr ⟨by omega,by have:=hv.s16; omega⟩)]
    rw [hU,hB,hAZ,hEZ]
    refine ⟨fun hc=>by omega,fun hc=>by omega,fun hc=>by omega,fun hc hd => ?_,fun _=>⟨by split <;> omega,⟨h.q,fun _=>hst, ?_⟩,hLZ⟩,fun hc=>absurd hst hc⟩
    ·have hny:looksY P u L=false:=by
      by_cases y:looksY P u L=true
      ·rw [if_pos y] at hc; omega
      ·simpa using y
     unfold looksY lookY at hny
     rw [hsl] at hny
     by_cases hm:P.ex.mu=true
     ·rw [if_pos hm] at hny
      unfold lookS at hny
      rw [if_pos hm,hsz] at hny
      have:=gz_free2 hv (u.seen+1) (by omega)
      rw [this] at hny
      simp at hny
     ·rw [if_neg hm] at hny
      unfold lookS at hny
      rw [if_neg hm] at hny
      have en:=hne (by simpa using hm)
      have:=hv.over u.seen (by omega) (by omega)
      rw [this] at hny
      simp at hny
      omega
    ·unfold lookU
     split
     ·next y =>
      refine Or.inr (Or.inr (Or.inr ⟨rfl,hc1.1,hsn,fun hm => ?_,fun hm => ?_⟩))
      ·unfold looksY lookY at y
       rw [hsl,if_pos hm] at y
       unfold lookS at y
       rw [if_pos hm,hsz] at y
       exact gz_free hv (u.seen+1) (by omega) y
      ·unfold looksY lookY at y
       rw [hsl] at y
       unfold lookS at y
       rw [if_neg (by simp [hm]),if_neg (by simp [hm])] at y
       simp only
       by_cases en:u.seen=0
       ·omega
       ·have:=hv.over u.seen (by omega) (by omega)
        rw [this] at y
        simpa using y
     ·exact Or.inr (Or.inr (Or.inl ⟨e1,hc1⟩))
   ·have hc2:u.st=2∧b.st=4∧u.seen=b.seen∧(P.ex.mu=true→u.seen+1 - (g.d:Int)≤(g.size:Int))∧(P.ex.mu=false→u.seen≤(g.d:Int)):=by
     rcases h.c with c | c | ⟨c,_⟩ | c
     ·omega
     ·omega
     ·omega
     ·exact c
    obtain ⟨e2,c1,c2,c3,c4⟩:=hc2
    obtain ⟨s1,s2,s3⟩:=h.q.end_ c1
    have hU:nextU g.size P b u L=swapU u L:=by unfold nextU; rw [if_pos hgo,if_neg e0,if_neg e1]
    have hB:nextCB g.size P b u L=swapB P b u L:=by unfold nextCB; rw [if_pos hgo,if_neg e0,if_neg e1]
    have hAZ:ansZ g.size P b u L=if swapsY u L then 3 else 2:=by unfold ansZ; rw [if_pos hgo,if_neg e0,if_neg e1]
    have hEZ:errZ g.size P b u L=0:=by unfold errZ; rw [if_pos hgo,if_neg e0]
    have hVZ:valZ g.size P u L=if swapsY u L then u.seen+1 else 0:=by unfold valZ; rw [if_pos hgo,if_neg e0,if_neg e1]
    have hLZ : ∀ c t,nextCL c g.size P b u L t=swapL c g.size L t nwA u.seen (u.seen+1):=fun c t=>by unfold nextCL; rw [if_pos hgo,if_neg e0,if_neg e1]
    have hn:wordOf L nwA=(g.n:Int):=hv.nw
    have hsn:u.seen < P.ex.n:=by
     rcases hk.c with c | c | c
     ·omega
     ·exact c.2.2
     ·omega
    rw [hU,hB,hAZ,hEZ,hVZ]
    by_cases y:swapsY u L=true
    ·have ey:(g.n:Int)=u.seen:=by
      unfold swapsY at y
      rw [hn] at y
      simpa using y
     have hSU:swapU u L=⟨3,u.seen,u.seen+1⟩:=by unfold swapU; rw [if_pos y]
     rw [hSU,if_pos y,if_pos y]
     refine ⟨fun hc=>by omega,fun hc=>by omega,fun hc=>by omega,fun hc=>by omega,fun hc=>absurd hc (by simp only; omega),fun _=>⟨rfl,by omega,by simp only; omega,fun c t => ?_, ?_, ?_,fun hm => ?_,by omega⟩⟩
     ·rw [hLZ,swap_word (c:=c) (by unfold swapsY at y; exact y),ey]
     ·rw [show (g.n:Int)+1=b.seen+1 by omega]
      exact s3 (by omega)
     ·cases hm:P.ex.mu
      ·have:=c4 hm; omega
      ·have:=c3 hm; omega
     ·have:=c4 hm; omega
    ·have hSU:swapU u L=⟨0,u.seen,u.stamp⟩:=by unfold swapU; rw [if_neg y]
     have hSB:swapB P b u L=ckNew P:=by unfold swapB; rw [if_neg y]
     rw [hSU,hSB,if_neg y,if_neg y]
     refine ⟨fun hc=>by omega,fun hc=>by omega,fun hc=>by omega,fun hc=>by omega,fun _=>⟨by omega,⟨sq_new h.q.z h.q.sz h.q.last,fun _=>hu,Or.inl rfl⟩,fun c t a => ?_⟩,fun hc=>absurd hu hc⟩
     rw [hLZ,swap_not (by unfold swapsY at y; exact y)]
 ·have hU:nextU g.size P b u L=u:=by unfold nextU; rw [if_neg hgo]
  have hB:nextCB g.size P b u L=b:=by unfold nextCB; rw [if_neg hgo]
  have hAZ:ansZ g.size P b u L=0:=by unfold ansZ; rw [if_neg hgo]
  have hEZ:errZ g.size P b u L=0:=by unfold errZ; rw [if_neg hgo]
  have hLZ : ∀ c t,nextCL c g.size P b u L t=L:=fun c t=>by unfold nextCL; rw [if_neg hgo]
  rw [hU,hB,hAZ,hEZ]
  exact ⟨fun hc=>by omega,fun hc=>by omega,fun hc=>by omega,fun hc=>by omega,fun _=>⟨by omega,h,fun c t a=>by rw [hLZ]⟩,fun hc=>absurd hu hc⟩
theorem z_cases {r:Nat} {L:List Ac} {P:Cp} {b:Ck} {u:Cu} (hk:COk P b u) (hv:W64 (wordOf L (adK P b))) :
  (ansZ r P b u L=4∧(errZ r P b u L=3∨errZ r P b u L=4∨errZ r P b u L=6))∨(errZ r P b u L=0∧(ansZ r P b u L=0∨ansZ r P b u L=1∨ansZ r P b u L=2∨ansZ r P b u L=3)):=by
 obtain ⟨n,kk⟩:=hk.k
 unfold ansZ errZ
 by_cases hg:goesC r P u=true
 ·rw [if_pos hg,if_pos hg]
  obtain ⟨e3,er⟩:=goesC_iff.mp hg
  by_cases e0:u.st=0
  ·rw [if_pos e0,if_pos e0]
   have ht : ¬ thr b:=by
    rcases hk.c with c | c | c
    ·exact c.2
    ·omega
    ·omega
   have hgk:goesK r P b=true:=goesK_iff.mpr ⟨ht,er⟩
   unfold holdA holdE
   by_cases k3:ansKK r P b L=3
   ·rw [if_pos k3,if_pos k3]
    unfold heldK heldE
    split
    ·exact Or.inl ⟨rfl,Or.inr (Or.inr rfl)⟩
    ·exact Or.inr ⟨rfl,Or.inr (Or.inr (Or.inl rfl))⟩
   ·rw [if_neg k3,if_neg k3]
    have hA:ansKK r P b L=kindK P b (wordOf L (adK P b)):=by unfold ansKK; rw [if_pos hgk]
    have hE:errKK r P b L=errK P b (wordOf L (adK P b)):=by unfold errKK; rw [if_pos hgk]
    rw [hA] at k3 ⊢
    rw [hE]
    have hks:=kok_step kk hv ht
    by_cases hw:waitK b (wordOf L (adK P b))=true
    ·unfold kindK errK
     rw [if_pos hw,if_pos hw]
     exact Or.inr ⟨rfl,Or.inr (Or.inl rfl)⟩
    ·have hw':waitK b (wordOf L (adK P b))=false:=by simpa using hw
     rw [if_neg hw] at hks
     rw [(kindK_of hw').1] at k3 ⊢
     rw [(kindK_of hw').2]
     unfold kindV at k3 ⊢
     rcases hks.c with ⟨z,_⟩ | ⟨z,k,_⟩ | ⟨z,k,_⟩ | ⟨z,k,_⟩ | ⟨z,_,_⟩ | ⟨z,_,k⟩
     ·rw [z]
      exact Or.inr ⟨rfl,Or.inr (Or.inr (Or.inl rfl))⟩
     ·rw [if_neg (by omega),if_neg (by omega)]
      exact Or.inr ⟨k.e,Or.inr (Or.inr (Or.inl rfl))⟩
     ·rw [if_neg (by omega),if_neg (by omega)]
      exact Or.inr ⟨k.e,Or.inr (Or.inr (Or.inl rfl))⟩
     ·rw [if_neg (by omega),if_neg (by omega)]
      exact Or.inr ⟨k.e,Or.inr (Or.inr (Or.inl rfl))⟩
     ·rw [if_pos z] at k3
      exact absurd rfl k3
     ·rw [if_neg (by omega),if_pos z]
      rcases k with k | k
      ·exact Or.inl ⟨rfl,Or.inl k⟩
      ·exact Or.inl ⟨rfl,Or.inr (Or.inl k)⟩
  ·rw [if_neg e0,if_neg e0]
   split
   ·split
    ·exact Or.inr ⟨rfl,Or.inr (Or.inr (Or.inl rfl))⟩
    ·exact Or.inr ⟨rfl,Or.inr (Or.inl rfl)⟩
   ·split
    ·exact Or.inr ⟨rfl,Or.inr (Or.inr (Or.inr rfl))⟩
    ·exact Or.inr ⟨rfl,Or.inr (Or.inr (Or.inl rfl))⟩
 ·rw [if_neg hg,if_neg hg]
  exact Or.inr ⟨rfl,Or.inl rfl⟩
end Go.Proofs.YtdkpgdkjohjcaaaGreat.Co
