/- An entry's owner stores; an entry is published. -/
import Derived.Test.YtdkpgdkjohjcaaaGreatJWlRWlU
namespace Go.Proofs.YtdkpgdkjohjcaaaGreat
open Go.RowKit (wrap64)
theorem up3 {f:Ad→Int} {k j:Int} {z:Int} {a:Ad} (h:a.k≠3):upd f ⟨3,k,j⟩ z a=f a:=up_other (fun e=>h (by rw [← e]))
theorem up2 {f:Ad→Int} {k:Int} {z:Int} {a:Ad} (h:a.k≠2):upd f ⟨2,k,0⟩ z a=f a:=up_other (fun e=>h (by rw [← e]))
theorem up4 {f:Ad→Int} {k:Int} {z:Int} {a:Ad} (h:a.k≠4):upd f ⟨4,k,0⟩ z a=f a:=up_other (fun e=>h (by rw [← e]))
theorem ri_lay {f:Ad→Int} {g:Rg} {t:Nat} (h:RI f g) (h1:g.d < t) (h2:t≤g.n) (e:(g.bk t).nx=1) (v:Int):RI (upd f (Ba.adB (g.P t) (g.bk t)) (Ba.valB (g.P t) (g.bk t))) (g.set t (Ba.stepB (g.P t) (g.bk t) v)):=by
 obtain ⟨k,k0,bi⟩:=h.bk t h1 h2
 have s1:=h.s1
 have hwin:=h.win
 have hwd:=k.w1 e
 have hw:Ba.waitB (g.P t) (g.bk t) v=false:=by unfold Ba.waitB; rw [if_neg (by omega),if_neg (by omega),if_neg (by omega)]
 have hok:=Ba.bk_step k v
 rw [step_run hw,if_pos e] at hok ⊢
 have ha:Ba.adB (g.P t) (g.bk t)=⟨3,(t:Int) % (g.s:Int),((g.bk t).wd:Int)⟩:=by
  unfold Ba.adB; rw [if_pos e,show ((g.P t).s:Int)=(g.s:Int) from rfl,slot_is s1 h.s16]; rfl
 have hv:Ba.valB (g.P t) (g.bk t)=wrap64 (((g.sg t).getD (g.bk t).wd 0:Nat):Int):=by unfold Ba.valB; rw [if_pos e]; rfl
 rw [ha,hv]
 generalize hb:(⟨if (g.bk t).wd+1=8 then 2 else 1,(g.bk t).wd+1,(g.bk t).old,(g.bk t).kn,(g.bk t).wr⟩:Ba.Bk)=b' at *
 have b1:b'.nx=1∨b'.nx=2:=by rw [← hb]; simp only; split <;> simp
 have b1':b'.nx=2 ↔ (g.bk t).wd+1=8:=by rw [← hb]; simp only; split <;> simp_all
 have b2:b'.wd=(g.bk t).wd+1:=by rw [← hb]
 have b3:b'.wr=(g.bk t).wr:=by rw [← hb]
 have b4:b'.kn=(g.bk t).kn:=by rw [← hb]
 refine ri_set h hok (by omega) ⟨fun e=>bi.kn (by rw [← b4]; exact e),fun e=>by omega,fun e=>by omega,fun e=>by omega⟩ (fun e=>by omega) (up3 (by simp)) (fun u u1 u2 => ?_) (fun u u1 u2 j hj => ?_) (fun c c0 c1 => ?_)
 ·rw [up3 (by simp),hd_eq (g:=g) (g':=g.set t b') rfl rfl (laid_same g b' (by omega) u)]; exact h.hd u u1 u2
 ·by_cases eu:u=(t:Int)
  ·subst eu
   by_cases ej:j=(g.bk t).wd
   ·subst ej
    rw [up_same]
    unfold sgW
    rw [if_neg (by omega),if_pos (by unfold wordB; rw [Int.toNat_natCast,set_self]; simp only [Bool.or_eq_true,decide_eq_true_eq]; right; omega),Int.toNat_natCast]
    rfl
   ·rw [up_other (fun e=>ej (by simp at e; omega)),sg_eq g t b' (by
          unfold wordB; rw [Int.toNat_natCast,set_self]
          show (decide ((t:Int)≤(g.d:Int)) || decide (2≤b'.nx) || decide (j < b'.wd))=_
          rw [Bool.eq_iff_iff]
          simp only [Bool.or_eq_true,decide_eq_true_eq]
          omega)]
    exact h.sgs _ u1 u2 j hj
  ·rw [up_other (fun e' => eu (by
        simp only [Ad.mk.injEq,true_and] at e'
        exact mod_inj e'.1.symm (by omega) (by omega))),sg_eq g t b' (word_else g b' (by omega) j)]
   exact h.sgs u u1 u2 j hj
 ·rw [up3 (by simp)]
  obtain ⟨u,a1,a2,a3,a4⟩:=h.cell c c0 c1
  exact ⟨u,a1,a2,a3,fun t' t1 t2 hb' => a4 t' t1 t2 (back_same b3 hb')⟩
theorem ri_head {f:Ad→Int} {g:Rg} {t:Nat} (h:RI f g) (h1:g.d < t) (h2:t≤g.n) (e:(g.bk t).nx=2) (v:Int):RI (upd f (Ba.adB (g.P t) (g.bk t)) (Ba.valB (g.P t) (g.bk t))) (g.set t (Ba.stepB (g.P t) (g.bk t) v)):=by
 obtain ⟨k,k0,bi⟩:=h.bk t h1 h2
 have s1:=h.s1
 have hwin:=h.win
 have hw:Ba.waitB (g.P t) (g.bk t) v=false:=by unfold Ba.waitB; rw [if_neg (by omega),if_neg (by omega),if_neg (by omega)]
 have hok:=Ba.bk_step k v
 rw [step_run hw,if_neg (by omega),if_pos e] at hok ⊢
 have ha:Ba.adB (g.P t) (g.bk t)=⟨2,(t:Int) % (g.s:Int),0⟩:=by
  unfold Ba.adB; rw [if_neg (by omega),if_neg (by omega),if_neg (by omega),if_neg (by omega),if_neg (by omega)]; exact ad_head s1 h.s16 t _
 have hv:Ba.valB (g.P t) (g.bk t)=2 * (t:Int):=by unfold Ba.valB; rw [if_neg (by omega),if_neg (by omega),if_neg (by omega)]; rfl
 rw [ha,hv]
 have hbi:BI g t (if (g.bk t).kn then Ba.goB (g.P t) (g.bk t) else Ba.lookAtB (g.P t) (g.bk t) ((g.P t).st - 1)):=by
  split
  ·next hk=>exact bi_go bi.kn (fun u u1 u2=>by have:=bi.kn hk; omega)
  ·exact bi_lookAt h h2 bi.kn (fun u u1 u2=>by simp only [Rg.P] at u1; omega)
 have hwr:(if (g.bk t).kn then Ba.goB (g.P t) (g.bk t) else Ba.lookAtB (g.P t) (g.bk t) ((g.P t).st - 1)).wr=(g.bk t).wr∧3≤(if (g.bk t).kn then Ba.goB (g.P t) (g.bk t) else Ba.lookAtB (g.P t) (g.bk t) ((g.P t).st - 1)).nx:=by
  split
  ·have:=goB_wr (g.P t) (g.bk t); omega
  ·exact lookAt_wr _ _ _
 generalize (if (g.bk t).kn then Ba.goB (g.P t) (g.bk t) else Ba.lookAtB (g.P t) (g.bk t) ((g.P t).st - 1))=b' at *
 obtain ⟨b3,b1⟩:=hwr
 refine ri_set h hok (by omega) hbi (fun e=>by omega) (up2 (by simp)) (fun u u1 u2 => ?_) (fun u u1 u2 j hj => ?_) (fun c c0 c1 => ?_)
 ·by_cases eu:u=(t:Int)
  ·subst eu
   rw [up_same]
   unfold hdW
   rw [if_neg (by omega),if_pos (by unfold laidB; rw [Int.toNat_natCast,set_self]; simp [b1]),if_neg (by show ¬ ((t:Int)≤(g.d:Int)); omega)]
  ·rw [up_other (fun e' => eu (by
        simp only [Ad.mk.injEq,true_and,and_true] at e'
        exact mod_inj e'.symm (by omega) (by omega))),hd_eq (g:=g) (g':=g.set t b') rfl rfl (laid_else g b' (by omega))]
   exact h.hd u u1 u2
 ·rw [up2 (by simp),sg_eq g t b' (word_same g b' (by omega) (by omega) u j)]; exact h.sgs u u1 u2 j hj
 ·rw [up2 (by simp)]
  obtain ⟨u,a1,a2,a3,a4⟩:=h.cell c c0 c1
  exact ⟨u,a1,a2,a3,fun t' t1 t2 hb' => a4 t' t1 t2 (back_same b3 hb')⟩
theorem ri_back {f:Ad→Int} {g:Rg} {t:Nat} (h:RI f g) (h1:g.d < t) (h2:t≤g.n) (e:(g.bk t).nx=6) (v:Int):RI (upd f (Ba.adB (g.P t) (g.bk t)) (Ba.valB (g.P t) (g.bk t))) (g.set t (Ba.stepB (g.P t) (g.bk t) v)):=by
 obtain ⟨k,k0,bi⟩:=h.bk t h1 h2
 have hw:Ba.waitB (g.P t) (g.bk t) v=false:=by unfold Ba.waitB; rw [if_neg (by omega),if_neg (by omega),if_neg (by omega)]
 have hok:=Ba.bk_step k v
 rw [step_run hw,if_neg (by omega),if_neg (by omega),if_neg (by omega),if_neg (by omega),if_neg (by omega),if_pos e] at hok ⊢
 have hwr:(g.bk t).wr < (g.w t).length:=k.wr6 e
 have hen:=h.ent t (by omega) h2
 have hmem:=getD_memW hwr
 have ha:Ba.adB (g.P t) (g.bk t)=⟨4,((g.w t).getD (g.bk t).wr noWt).c,0⟩:=by
  unfold Ba.adB; rw [if_neg (by omega),if_neg (by omega),if_neg (by omega),if_pos e]; rfl
 have hv:Ba.valB (g.P t) (g.bk t)=((g.w t).getD (g.bk t).wr noWt).v:=by unfold Ba.valB; rw [if_neg (by omega),if_pos e]; rfl
 rw [ha,hv]
 have hg:=goB_wr (g.P t) ⟨(g.bk t).nx,(g.bk t).wd,(g.bk t).old,(g.bk t).kn,(g.bk t).wr+1⟩
 have hbi:BI g t (Ba.goB (g.P t) ⟨(g.bk t).nx,(g.bk t).wd,(g.bk t).old,(g.bk t).kn,(g.bk t).wr+1⟩):=bi_go bi.kn (bi.o6 (by omega))
 generalize Ba.goB (g.P t) ⟨(g.bk t).nx,(g.bk t).wd,(g.bk t).old,(g.bk t).kn,(g.bk t).wr+1⟩=b' at *
 obtain ⟨b3,_,b1⟩:=hg
 simp only at b3
 refine ri_set h hok (by omega) hbi (fun e=>by omega) (up4 (by simp)) (fun u u1 u2 => ?_) (fun u u1 u2 j hj => ?_) (fun c c0 c1 => ?_)
 ·rw [up4 (by simp),hd_eq (g:=g) (g':=g.set t b') rfl rfl (laid_same g b' (by omega) u)]; exact h.hd u u1 u2
 ·rw [up4 (by simp),sg_eq g t b' (word_same g b' (by omega) (by omega) u j)]; exact h.sgs u u1 u2 j hj
 ·have hback : ∀ t' c,t'≠t→Back (g.set t b') t' c→Back g t' c:=fun t' c ht ⟨i,hi,ec⟩=>⟨i,by rw [set_else g b' ht] at hi; exact hi,ec⟩
  by_cases ec:((g.w t).getD (g.bk t).wr noWt).c=c
  ·subst ec
   rw [up_same]
   have hwt:Writ g t ((g.w t).getD (g.bk t).wr noWt).c:=⟨_,hmem,rfl⟩
   refine ⟨t,by omega,h2, ?_,fun t' t1 t2 hb' => ?_⟩
   ·obtain ⟨q,hq⟩ : ∃ q,t=q+1:=⟨t - 1,by omega⟩
    rw [hq,val_succ g _ (by omega),← hq,wrVal_one hen hwr rfl]
   ·by_cases et:t'=t
    ·exact et.symm
    ·exfalso
     have hb:=hback t' _ et hb'
     have hw':=back_writ h t1 t2 hb
     by_cases lt:t' < t
     ·exact bi.o6 (by omega) t' t1 lt (cl_of hwt hw')
     ·exact (h.bk t' t1 t2).2.2.o6 (back_late h t1 t2 hb) t h1 (by omega) (cl_of hw' hwt)
  ·rw [up_other (fun e' => ec (by simpa using e'))]
   obtain ⟨u,a1,a2,a3,a4⟩:=h.cell c c0 c1
   refine ⟨u,a1,a2,a3,fun t' t1 t2 hb' => a4 t' t1 t2 ?_⟩
   by_cases et:t'=t
   ·subst et
    obtain ⟨i,hi,ei⟩:=hb'
    rw [set_self,b3] at hi
    refine ⟨i, ?_,ei⟩
    have:i≠(g.bk t').wr:=fun e=>ec (by rw [← e]; exact ei)
    omega
   ·exact hback t' c et hb'
theorem ri_done {f:Ad→Int} {g:Rg} {t:Nat} (h:RI f g) (h1:g.d < t) (h2:t≤g.n) (e:(g.bk t).nx=8):t=g.d+1∧RI (upd f (Ba.adB (g.P t) (g.bk t)) (Ba.valB (g.P t) (g.bk t))) g.don:=by
 obtain ⟨k,k0,bi⟩:=h.bk t h1 h2
 have s1:=h.s1
 have hwin:=h.win
 have hkn:=k.n8 (Or.inl e)
 have ht:=bi.kn hkn
 have hwr:=k.late (by omega)
 refine ⟨ht, ?_⟩
 have ha:Ba.adB (g.P t) (g.bk t)=⟨2,(t:Int) % (g.s:Int),0⟩:=by
  unfold Ba.adB; rw [if_neg (by omega),if_neg (by omega),if_neg (by omega),if_neg (by omega),if_neg (by omega)]; exact ad_head s1 h.s16 t _
 have hv:Ba.valB (g.P t) (g.bk t)=2 * (t:Int)+1:=by unfold Ba.valB; rw [if_neg (by omega),if_neg (by omega),if_pos e]; rfl
 rw [ha,hv]
 have hdd:(g.don.d:Int)=(g.d:Int)+1:=by simp [Rg.don]
 have hlm : ∀ u,laidB g u=true→laidB g.don u=true:=fun u hu=>by
  unfold laidB at hu ⊢
  rw [hdd]
  simp only [Bool.or_eq_true,decide_eq_true_eq] at hu ⊢
  rcases hu with hu | hu
  ·exact Or.inl (by omega)
  ·exact Or.inr hu
 refine ⟨h.s1,h.s16,by show g.d+1≤g.n; omega,by show g.n≤g.d+1+g.s; omega,fun e=>by have:=h.non e; show g.n≤g.d+1+1; omega,h.big, ?_,h.ent,fun t' t1 t2 => ?_,fun u u1 u2 => ?_,fun u u1 u2 j hj => ?_,fun c c0 c1 => ?_⟩
 ·rw [up2 (by simp)]; exact h.nw
 ·have t1':g.d+1 < t':=t1
  obtain ⟨q1,q2,q3⟩:=h.bk t' (by omega) t2
  refine ⟨q1,q2,fun e=>by have:=q3.kn e; omega,fun e u u1 u2 u3=>q3.o3 e u u1 u2 (by have:g.d+1 < u:=u3; omega),fun e=>⟨hlm _ (q3.o4 e).1,fun hd=>(q3.o4 e).2 (by have hd':(g.don.d:Int) < (g.bk t').old:=hd; omega)⟩,fun e u u1 u2=>q3.o6 e u (by have:g.d+1 < u:=u1; omega) u2⟩
 ·have u2':u≤(g.n:Int):=u2
  have u1':(g.n:Int) - (g.s:Int) < u:=u1
  by_cases eu:u=(t:Int)
  ·subst eu
   rw [show (g.don.s:Int)=(g.s:Int) from rfl,up_same]
   unfold hdW
   rw [if_neg (by omega),if_pos (by unfold laidB; rw [hdd]; simp; omega),if_pos (by rw [hdd]; omega)]
  ·rw [show (g.don.s:Int)=(g.s:Int) from rfl,up_other (fun e' => eu (by
        simp only [Ad.mk.injEq,true_and,and_true] at e'
        exact mod_inj e'.symm (by omega) (by omega))),h.hd u u1' u2']
   have hle:u≤(g.don.d:Int) ↔ u≤(g.d:Int):=by rw [hdd]; omega
   have hl:laidB g.don u=laidB g u:=by
    unfold laidB
    rw [show decide (u≤(g.don.d:Int))=decide (u≤(g.d:Int)) from decide_eq_decide.mpr hle]
    rfl
   unfold hdW
   rw [hl]
   show _=if u≤0 then 1 else if laidB g u=true then (if u≤(g.don.d:Int) then 2 * u+1 else 2 * u) else _
   by_cases h3:u≤(g.d:Int)
   ·rw [if_pos h3,if_pos (hle.mpr h3)]; rfl
   ·rw [if_neg h3,if_neg (fun x=>h3 (hle.mp x))]; rfl
 ·rw [up2 (by simp)]
  have u2':u≤(g.n:Int):=u2
  have u1':(g.n:Int) - (g.s:Int) < u:=u1
  rw [show (g.don.s:Int)=(g.s:Int) from rfl,h.sgs u u1' u2' j hj]
  have hl:wordB g.don u j=wordB g u j:=by
   unfold wordB
   rw [hdd]
   by_cases eu:u=(t:Int)
   ·subst eu
    rw [Int.toNat_natCast,show g.don.bk t=g.bk t from rfl]
    simp [e]
   ·rw [show decide (u≤(g.d:Int)+1)=decide (u≤(g.d:Int)) from decide_eq_decide.mpr (by omega)]
    rfl
  unfold sgW
  rw [hl]
  rfl
 ·rw [up2 (by simp)]
  obtain ⟨u,a1,a2,a3,a4⟩:=h.cell c c0 c1
  by_cases eu:u=g.d
  ·have hno : ¬ Writ g t c:=fun hwt=>by
    obtain ⟨y,hy,ey⟩:=hwt
    obtain ⟨i,hi,rfl⟩:=mem_getDW hy
    have:=a4 t h1 h2 ⟨i,by rw [hwr]; exact hi,ey⟩
    omega
   refine ⟨g.d+1,Nat.le_refl _,by show g.d+1≤g.n; omega, ?_,fun t' t1 t2 hb => ?_⟩
   ·rw [a3,eu]
    show g.val c g.d=g.val c (g.d+1)
    rw [val_succ g c (by omega),← ht,wrVal_none (fun y hy ec=>hno ⟨y,hy,ec⟩)]
   ·have t1':g.d+1 < t':=t1
    have:=a4 t' (by omega) t2 hb
    omega
  ·exact ⟨u,by show g.d+1≤u; omega,a2,a3,fun t' t1 t2 hb=>a4 t' (by have:g.d+1 < t':=t1; omega) t2 hb⟩
theorem pub_n (g:Rg) (W:List Wt):(g.pub W).n=g.n+1:=by simp [Rg.pub,Rg.n]
theorem pub_w (g:Rg) (W:List Wt) {t:Nat} (h1:1≤t) (h:t≤g.n):(g.pub W).w t=g.w t:=by
 unfold Rg.w Rg.pub
 simp only
 rw [List.getD_eq_getElem?_getD,List.getD_eq_getElem?_getD,List.getElem?_append_left (by unfold Rg.n at h; omega)]
theorem pub_new (g:Rg) (W:List Wt):(g.pub W).w (g.n+1)=W:=by
 unfold Rg.w Rg.pub Rg.n
 simp
theorem pub_sg (g:Rg) (W:List Wt) {t:Nat} (h1:1≤t) (h:t≤g.n):(g.pub W).sg t=g.sg t:=by unfold Rg.sg; rw [pub_w g W h1 h]
theorem pub_bk (g:Rg) (W:List Wt) {t:Nat} (h:t≤g.n):(g.pub W).bk t=g.bk t:=by unfold Rg.pub; simp only; rw [if_neg (by omega)]
theorem pub_val (g:Rg) (W:List Wt) (c:Int) {u:Nat} (h:u≤g.n):(g.pub W).val c u=g.val c u:=by
 unfold Rg.val Rg.pub
 simp only
 rw [List.take_append_of_le_length h]
theorem pub_P (g:Rg) (W:List Wt) {t:Nat} (h1:1≤t) (h:t≤g.n):(g.pub W).P t=g.P t:=by unfold Rg.P; rw [pub_w g W h1 h,pub_sg g W h1 h]; rfl
theorem pub_laid (g:Rg) (W:List Wt) {u:Int} (h:u≤(g.n:Int)):laidB (g.pub W) u=laidB g u:=by unfold laidB; rw [pub_bk g W (by omega)]; rfl
theorem pub_bi {g:Rg} {W:List Wt} {t:Nat} {b:Ba.Bk} (h:BI g t b) (h1:1≤t) (h2:t≤g.n) (ho:b.nx=4→b.old < (t:Int)):BI (g.pub W) t b:=by
 have hcl : ∀ u,1≤u→u≤g.n→Cl (g.pub W) u t→Cl g u t:=fun u u1 u2 ⟨j,hj,e⟩=>⟨j,hj,by rw [pub_sg g W u1 u2,pub_sg g W h1 h2] at e; exact e⟩
 refine ⟨h.kn,fun e u u1 u2 u3 hc=>h.o3 e u u1 u2 u3 (hcl u (by omega) (by omega) hc),fun e=>⟨by rw [pub_laid g W (by have:=ho e; omega)]; exact (h.o4 e).1,fun hd j hj => ?_⟩,fun e u u1 u2 hc=>h.o6 e u u1 u2 (hcl u (by omega) (by omega) hc)⟩
 have:=ho e
 have hd':(g.d:Int) < b.old:=hd
 rw [pub_sg g W (by omega) (by omega),pub_sg g W h1 h2]
 exact (h.o4 e).2 hd j hj
set_option maxHeartbeats 800000 in
theorem ri_pub {f:Ad→Int} {g:Rg} {W:List Wt} (h:RI f g) (hm:g.mu=true→g.n+1≤g.d+g.s) (hn:g.mu=false→g.d=g.n) (hW:EnOk W) (hbig:g.n+1≤1099511627776):RI (upd f ⟨1,0,0⟩ ((g.n:Int)+1)) (g.pub W):=by
 have s1:=h.s1
 have hdn:=h.dn
 have hwin:g.n+1≤g.d+g.s:=by
  cases e:g.mu
  ·have:=hn e; omega
  ·exact hm e
 have hN:((g.pub W).n:Int)=(g.n:Int)+1:=by rw [pub_n]; omega
 have hS:((g.pub W).s:Int)=(g.s:Int):=rfl
 have hD:((g.pub W).d:Int)=(g.d:Int):=rfl
 have hnew:(g.pub W).bk (g.n+1)=Ba.bkNew ⟨g.s,((g.n+1:Nat):Int),W,Ba.sgOf W⟩ g.mu:=by unfold Rg.pub; simp
 have hnl : ∀ u:Int,u=(g.n:Int)+1→laidB (g.pub W) u=false:=fun u e=>by
  unfold laidB
  rw [show u.toNat=g.n+1 by omega,hnew,hD]
  simp [Ba.bkNew]
  omega
 have hnw : ∀ (u:Int) j,u=(g.n:Int)+1→wordB (g.pub W) u j=false:=fun u j e=>by
  unfold wordB
  rw [show u.toNat=g.n+1 by omega,hnew,hD]
  simp [Ba.bkNew]
  omega
 have u1 : ∀ {a:Ad},a.k≠1→upd f ⟨1,0,0⟩ ((g.n:Int)+1) a=f a:=fun ha=>up_other (fun e=>ha (by rw [← e]))
 refine ⟨s1,h.s16,by show g.d≤_; rw [pub_n]; omega,by rw [pub_n]; show _≤g.d+g.s; omega,fun e=>by rw [pub_n]; have:=hn e; show _≤g.d+1; omega,by rw [pub_n]; exact hbig,by rw [up_same,hN],fun t t1 t2 => ?_,fun t t1 t2 => ?_,fun u a1 a2 => ?_,fun u a1 a2 j hj => ?_,fun c c0 c1 => ?_⟩
 ·rw [pub_n] at t2
  by_cases e:t=g.n+1
  ·rw [e,pub_new]; exact hW
  ·rw [pub_w g W t1 (by omega)]; exact h.ent t t1 (by omega)
 ·rw [pub_n] at t2
  have t1':g.d < t:=t1
  by_cases e:t=g.n+1
  ·subst e
   have hP:(g.pub W).P (g.n+1)=⟨g.s,((g.n+1:Nat):Int),W,Ba.sgOf W⟩:=by unfold Rg.P Rg.sg; rw [pub_new]; rfl
   rw [hnew,hP]
   refine ⟨Ba.bk_new ⟨s1,h.s16,by simp only; omega,by simp only; omega,hW.len,hW.cell,rfl⟩ _,by simp [Ba.bkNew],fun hk => ?_,fun e=>by simp [Ba.bkNew] at e,fun e=>by simp [Ba.bkNew] at e,fun e=>by simp [Ba.bkNew] at e⟩
   simp only [Ba.bkNew, Bool.or_eq_true, Bool.not_eq_true', decide_eq_true_eq] at hk
   show g.n+1=g.d+1
   rcases hk with (hk | hk) | hk
   ·have:=hn hk; omega
   ·omega
   ·omega
  ·rw [pub_bk g W (by omega),pub_P g W (by omega) (by omega)]
   obtain ⟨q1,q2,q3⟩:=h.bk t t1' (by omega)
   exact ⟨q1,q2,pub_bi q3 (by omega) (by omega) (fun e=>(q1.old (by simp [e])).1.2.1)⟩
 ·rw [hN,hS] at a1
  rw [hN] at a2
  rw [hS,u1 (by simp)]
  by_cases e:u=(g.n:Int)+1
  ·have hq:(u - (g.s:Int)) % (g.s:Int)=u % (g.s:Int):=by simp
   rw [← hq,h.hd (u - (g.s:Int)) (by omega) (by omega)]
   unfold hdW
   rw [hnl u e,hS,hD,if_neg (show ¬ u≤0 by omega)]
   by_cases e0:u - (g.s:Int)≤0
   ·rw [if_pos e0]; simp [e0]
   ·rw [if_neg e0,if_pos (by unfold laidB; simp; left; omega),if_pos (by omega)]; simp [e0]
  ·rw [h.hd u (by omega) (by omega)]
   unfold hdW
   rw [pub_laid g W (by omega)]
   rfl
 ·rw [hN,hS] at a1
  rw [hN] at a2
  rw [hS,u1 (by simp)]
  by_cases e:u=(g.n:Int)+1
  ·have hq:(u - (g.s:Int)) % (g.s:Int)=u % (g.s:Int):=by simp
   rw [← hq,h.sgs (u - (g.s:Int)) (by omega) (by omega) j hj]
   unfold sgW
   rw [hnw u j e,hS,if_neg (show ¬ u≤0 by omega)]
   by_cases e0:u - (g.s:Int)≤0
   ·rw [if_pos e0]; simp [e0]
   ·rw [if_neg e0,if_pos (by unfold wordB; simp; left; omega)]
    have hpg:(g.pub W).sg (u - (g.s:Int)).toNat=g.sg (u - (g.s:Int)).toNat:=pub_sg g W (by omega) (by omega)
    rw [hpg]; simp [e0]
  ·rw [h.sgs u (by omega) (by omega) j hj]
   have hwb:wordB (g.pub W) u j=wordB g u j:=by unfold wordB; rw [pub_bk g W (by omega)]; rfl
   unfold sgW
   rw [hwb,hS]
   by_cases e0:u≤0
   ·simp [e0]
   ·rw [if_neg e0,if_neg e0,pub_sg g W (by omega) (by omega)]
    split
    ·rfl
    ·split
     ·rfl
     ·rw [pub_sg g W (by omega) (by omega)]
 ·rw [u1 (by simp)]
  obtain ⟨u,a1,a2,a3,a4⟩:=h.cell c c0 c1
  refine ⟨u,a1,by rw [pub_n]; omega,by rw [pub_val g W c a2]; exact a3,fun t t1 t2 hb => ?_⟩
  rw [pub_n] at t2
  have t1':g.d < t:=t1
  obtain ⟨i,hi,ei⟩:=hb
  by_cases e:t=g.n+1
  ·subst e; rw [hnew] at hi; simp [Ba.bkNew] at hi
  ·exact a4 t t1' (by omega) ⟨i,by rw [pub_bk g W (by omega)] at hi; exact hi,by rw [pub_w g W (by omega) (by omega)] at ei; exact ei⟩
theorem stay_set (g:Rg) (t:Nat) (b:Ba.Bk) (h:3≤(g.bk t).nx→3≤b.nx):Stay g.vw (g.set t b).vw:=⟨Nat.le_refl _,fun u _ hu=>laid_mono g b h u hu,Nat.le_refl _,rfl,fun _ _ _ _=>rfl⟩
theorem stay_don (g:Rg):Stay g.vw g.don.vw:=by
 refine ⟨Nat.le_refl _,fun u _ hu => ?_,by show g.d≤g.d+1; omega,rfl,fun _ _ _ _=>rfl⟩
 have hu':laidB g u=true:=hu
 show laidB g.don u=true
 unfold laidB at hu' ⊢
 simp only [Bool.or_eq_true,decide_eq_true_eq] at hu' ⊢
 rcases hu' with hu' | hu'
 ·exact Or.inl (by show u≤((g.d+1:Nat):Int); omega)
 ·exact Or.inr hu'
theorem stay_pub (g:Rg) (W:List Wt):Stay g.vw (g.pub W).vw:=by
 refine ⟨by show g.n≤(g.pub W).n; rw [pub_n]; omega,fun u hn hu => ?_,Nat.le_refl _,rfl,fun t j h1 h2=>by show ((g.pub W).sg t).getD j 0=_; rw [pub_sg g W h1 h2]; rfl⟩
 show laidB (g.pub W) u=true
 rw [pub_laid g W hn]; exact hu
end Go.Proofs.YtdkpgdkjohjcaaaGreat
