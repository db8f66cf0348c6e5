/- A ring that transactions write to: what its words say, with where each entry's owner is. -/
import Derived.Test.YtdkpgdkjohjcaaaGreatWlV
import Derived.Test.YtdkpgdkjohjcaaaGreatJBkMBkJ
namespace Go.Proofs.YtdkpgdkjohjcaaaGreat
open Go.RowKit (wrap64)
structure Rg where
 s:Nat
 mu:Bool
 W:List (List Wt)
 d:Nat
 bk:Nat→Ba.Bk
def Rg.n (g:Rg):Nat:=g.W.length
def Rg.w (g:Rg) (t:Nat):List Wt:=g.W.getD (t - 1) []
def Rg.sg (g:Rg) (t:Nat):List Nat:=Ba.sgOf (g.w t)
def Rg.P (g:Rg) (t:Nat):Ba.Bp:=⟨g.s,(t:Int),g.w t,g.sg t⟩
def laidB (g:Rg) (t:Int):Bool:=decide (t≤(g.d:Int)) || decide (3≤(g.bk t.toNat).nx)
def wordB (g:Rg) (t:Int) (j:Nat):Bool:=decide (t≤(g.d:Int)) || decide (2≤(g.bk t.toNat).nx) || decide (j < (g.bk t.toNat).wd)
def hdW (g:Rg) (u:Int):Int:=if u≤0 then 1 else if laidB g u then (if u≤(g.d:Int) then 2 * u+1 else 2 * u) else (if u - (g.s:Int)≤0 then 1 else 2 * (u - (g.s:Int))+1)
def sgW (g:Rg) (u:Int) (j:Nat):Nat:=if u≤0 then 0 else if wordB g u j then (g.sg u.toNat).getD j 0 else if u - (g.s:Int)≤0 then 0 else (g.sg (u - (g.s:Int)).toNat).getD j 0
def Cl (g:Rg) (u t:Nat):Prop:=∃ j,j < 8∧((g.sg u).getD j 0 &&& (g.sg t).getD j 0)≠0
structure EnOk (W:List Wt):Prop where
 len:W.length≤24
 cell : ∀ x ∈ W,0≤x.c∧x.c < 1024∧W64 x.v
 one : ∀ i j,i < W.length→j < W.length→(W.getD i noWt).c=(W.getD j noWt).c→i=j
structure BI (g:Rg) (t:Nat) (b:Ba.Bk):Prop where
 kn:b.kn=true→t=g.d+1
 o3:b.nx=3∨b.nx=4∨b.nx=5 → ∀ u:Nat,b.old < (u:Int)→u < t→g.d < u → ¬ Cl g u t
 o4:b.nx=4→laidB g b.old=true∧((g.d:Int) < b.old → ∀ j,j < b.wd→((g.sg b.old.toNat).getD j 0 &&& (g.sg t).getD j 0)=0)
 o6:6≤b.nx → ∀ u:Nat,g.d < u→u < t → ¬ Cl g u t
def wrVal (c v:Int) (W:List Wt):Int:=W.foldl (fun v x=>if x.c=c then x.v else v) v
def Rg.val (g:Rg) (c:Int) (u:Nat):Int:=(g.W.take u).foldl (wrVal c) 0
def Back (g:Rg) (t:Nat) (c:Int):Prop:=∃ i,i < (g.bk t).wr∧((g.w t).getD i noWt).c=c
def Writ (g:Rg) (t:Nat) (c:Int):Prop:=∃ x ∈ g.w t,x.c=c
structure RI (f:Ad→Int) (g:Rg):Prop where
 s1:1≤g.s
 s16:g.s≤16
 dn:g.d≤g.n
 win:g.n≤g.d+g.s
 non:g.mu=false→g.n≤g.d+1
 big:g.n≤1099511627776
 nw:f ⟨1,0,0⟩=(g.n:Int)
 ent : ∀ t,1≤t→t≤g.n→EnOk (g.w t)
 bk : ∀ t,g.d < t→t≤g.n→Ba.BkOk (g.P t) (g.bk t)∧(g.bk t).nx≠0∧BI g t (g.bk t)
 hd : ∀ u:Int,(g.n:Int) - (g.s:Int) < u→u≤(g.n:Int)→f ⟨2,u % (g.s:Int),0⟩=hdW g u
 sgs : ∀ u:Int,(g.n:Int) - (g.s:Int) < u→u≤(g.n:Int) → ∀ j:Nat,j < 8→f ⟨3,u % (g.s:Int),(j:Int)⟩=wrap64 ((sgW g u j:Nat):Int)
 cell : ∀ c:Int,0≤c→c < 1024 → ∃ u,g.d≤u∧u≤g.n∧f ⟨4,c,0⟩=g.val c u ∧ ∀ t,g.d < t→t≤g.n→Back g t c→u=t
def Rg.vw (g:Rg):Vw:=⟨g.s,g.n,g.d,fun t=>laidB g t=true,fun t j=>(g.sg t).getD j 0⟩
theorem sg_ok (g:Rg) (t:Nat):Sg.Ok (g.sg t):=Ba.sgOf_ok _
theorem last_in {n s t:Int} (hs:1≤s) (ht:t≤n) : ∃ u,u % s=t % s∧n - s < u∧u≤n∧t≤u∧(u=t∨t+s≤u):=by
 have hq:(t+s * ((n - t) / s)) % s=t % s:=Int.add_mul_emod_self_left _ _ _
 have hm:=Int.emod_nonneg (n - t) (show s≠0 by omega)
 have hm2:=Int.emod_lt_of_pos (n - t) (show (0:Int) < s by omega)
 have hd:=Int.mul_ediv_add_emod (n - t) s
 have hd0:0≤(n - t) / s:=Int.ediv_nonneg (by omega) (by omega)
 have hp:0≤s * ((n - t) / s):=Int.mul_nonneg (by omega) hd0
 refine ⟨t+s * ((n - t) / s),hq,by omega,by omega,by omega, ?_⟩
 rcases Int.lt_or_le ((n - t) / s) 1 with h1 | h1
 ·left
  have:(n - t) / s=0:=by omega
  rw [this]; simp
 ·right
  have:=Int.mul_le_mul_of_nonneg_left h1 (show 0≤s by omega)
  omega
theorem RI.vi {f:Ad→Int} {g:Rg} (h:RI f g):VI f g.vw:=by
 have hs:=h.s1
 have hdn:=h.dn
 have hwin:=h.win
 refine ⟨h.s1,h.s16,h.dn,h.win,h.nw,fun t j=>(sg_ok g t).2 j,fun t t1 t2 => ?_,fun t t1 t2 tl j hj => ?_⟩
 ·simp only [Rg.vw] at t2 ⊢
  obtain ⟨u,u1,u2,u3,u4,u5⟩:=last_in (n:=(g.n:Int)) (s:=(g.s:Int)) (t:=t) (by omega) t2
  have hh:=h.hd u u2 u3
  rw [u1] at hh
  rw [hh]
  unfold hdW
  rw [if_neg (by omega)]
  by_cases hl:laidB g u=true
  ·rw [if_pos hl]
   by_cases e:u=t
   ·subst e
    refine Or.inl ⟨hl,trivial, ?_⟩
    split <;> constructor <;> omega
   ·refine Or.inr (Or.inl ⟨by omega, ?_⟩)
    split <;> omega
  ·rw [if_neg hl]
   have hud : ¬ u≤(g.d:Int):=fun e=>hl (by simp [laidB,e])
   by_cases e:u=t
   ·subst e
    refine Or.inr (Or.inr ⟨by omega, ?_⟩)
    split <;> omega
   ·have h5:t+(g.s:Int)≤u:=u5.resolve_left e
    rw [if_neg (by omega)]
    by_cases e2:u - (g.s:Int)=t
    ·refine Or.inl ⟨?_,trivial,by omega,by omega⟩
     simp only [laidB,Bool.or_eq_true,decide_eq_true_eq]
     exact Or.inl (by omega)
    ·exact Or.inr (Or.inl ⟨by omega,by omega⟩)
 ·simp only [Rg.vw] at t2 tl ⊢
  obtain ⟨u,u1,u2,u3,u4,u5⟩:=last_in (n:=(g.n:Int)) (s:=(g.s:Int)) (t:=t) (by omega) t2
  have hh:=h.sgs u u2 u3 j hj
  rw [u1] at hh
  rw [hh]
  unfold sgW
  rw [if_neg (by omega)]
  by_cases hl:wordB g u j=true
  ·rw [if_pos hl]
   exact ⟨u.toNat,by omega,by omega,fun e=>by omega,rfl⟩
  ·rw [if_neg hl]
   have hne:u≠t:=fun e=>by
    subst e
    apply hl
    simp only [laidB,wordB,Bool.or_eq_true,decide_eq_true_eq] at tl ⊢
    omega
   have h5:t+(g.s:Int)≤u:=u5.resolve_left hne
   rw [if_neg (by omega)]
   exact ⟨(u - (g.s:Int)).toNat,by omega,by omega,fun e=>by omega,rfl⟩
theorem mod_inj {s t u:Int} (h:t % s=u % s) (h1:t - u < s) (h2:u - t < s):t=u:=by
 by_cases hlt:u≤t
 ·have:=Int.emod_eq_emod_iff_emod_sub_eq_zero.mp h
  rw [Int.emod_eq_of_lt (by omega) h1] at this
  omega
 ·have:=Int.emod_eq_emod_iff_emod_sub_eq_zero.mp h.symm
  rw [Int.emod_eq_of_lt (by omega) h2] at this
  omega
theorem slot_is {s:Nat} (h1:1≤s) (h2:s≤16) (t:Int):slotV t (s:Int)=t % (s:Int):=by
 unfold slotV; rw [if_pos (sizeOk_iff.mpr ⟨by omega,by omega⟩)]
theorem up_same (f:Ad→Int) (a:Ad) (z:Int):upd f a z a=z:=by simp [upd]
theorem up_other {f:Ad→Int} {a b:Ad} {z:Int} (h:a≠b):upd f a z b=f b:=by simp [upd,h]
def Rg.set (g:Rg) (t:Nat) (b:Ba.Bk):Rg:={ g with bk:=fun u=>if u=t then b else g.bk u }
def Rg.don (g:Rg):Rg:={ g with d:=g.d+1 }
def Rg.pub (g:Rg) (W:List Wt):Rg:={ g with W:=g.W ++ [W],bk:=fun u=>if u=g.n+1 then Ba.bkNew ⟨g.s,((g.n+1:Nat):Int),W,Ba.sgOf W⟩ g.mu else g.bk u }
theorem bit_sg {W:List Wt} {x:Wt} (h:x ∈ W):Sg.bit (Ba.sgOf W) (Sg.sigN x.c)=true:=by
 unfold Ba.sgOf
 have mono : ∀ (W:List Wt) (s:List Nat),Sg.Ok s → ∀ k,Sg.bit s k=true→Sg.bit (W.foldl (fun s x=>Sg.put s (Sg.sigN x.c)) s) k=true:=by
  intro W
  induction W with
  | nil=>exact fun s _ k h=>h
  | cons y W ih=>exact fun s hs k hb=>ih _ (Sg.ok_put hs _ (Sg.sigN_lt _)) k (by rw [Sg.bit_put hs _ _ (Sg.sigN_lt _),hb]; rfl)
 suffices hh : ∀ s,Sg.Ok s→Sg.bit (W.foldl (fun s x=>Sg.put s (Sg.sigN x.c)) s) (Sg.sigN x.c)=true from hh _ Sg.ok_nought
 induction W with
 | nil=>simp at h
 | cons y W ih =>
  intro s hs
  rw [List.foldl_cons]
  rcases List.mem_cons.1 h with rfl | h
  ·exact mono W _ (Sg.ok_put hs _ (Sg.sigN_lt _)) _ (by rw [Sg.bit_put hs _ _ (Sg.sigN_lt _)]; simp)
  ·exact ih h _ (Sg.ok_put hs _ (Sg.sigN_lt _))
theorem bits_meet {a b:List Nat} {k:Nat} (hk:k < 512) (ha:Sg.bit a k=true) (hb:Sg.bit b k=true) : ∃ j,j < 8∧(a.getD j 0 &&& b.getD j 0)≠0:=by
 refine ⟨k / 64,by omega,fun e => ?_⟩
 unfold Sg.bit at ha hb
 have:(a.getD (k / 64) 0 &&& b.getD (k / 64) 0).testBit (k % 64)=true:=by rw [Nat.testBit_and,ha,hb]; rfl
 rw [e] at this
 simp at this
theorem cl_of {g:Rg} {t u:Nat} {c:Int} (h1:Writ g t c) (h2:Writ g u c):Cl g u t:=by
 obtain ⟨x,hx,e1⟩:=h1
 obtain ⟨y,hy,e2⟩:=h2
 have a:=bit_sg hx
 have b:=bit_sg hy
 rw [e1] at a
 rw [e2] at b
 exact bits_meet (Sg.sigN_lt c) b a
theorem getD_memW {W:List Wt} {i:Nat} (h:i < W.length):W.getD i noWt ∈ W:=by
 rw [List.getD_eq_getElem?_getD,List.getElem?_eq_getElem h]; exact List.getElem_mem _
theorem mem_getDW {W:List Wt} {x:Wt} (h:x ∈ W) : ∃ i,i < W.length∧W.getD i noWt=x:=by
 obtain ⟨i,hi,rfl⟩:=List.getElem_of_mem h
 exact ⟨i,hi,by rw [List.getD_eq_getElem?_getD,List.getElem?_eq_getElem hi]; rfl⟩
theorem back_writ {f:Ad→Int} {g:Rg} (h:RI f g) {t:Nat} (h1:g.d < t) (h2:t≤g.n) {c:Int} (hb:Back g t c):Writ g t c:=by
 obtain ⟨i,hi,e⟩:=hb
 have:=((h.bk t h1 h2).1).wr
 exact ⟨_,getD_memW (show i < (g.w t).length from Nat.lt_of_lt_of_le hi this),e⟩
theorem back_late {f:Ad→Int} {g:Rg} (h:RI f g) {t:Nat} (h1:g.d < t) (h2:t≤g.n) {c:Int} (hb:Back g t c):6≤(g.bk t).nx:=by
 obtain ⟨i,hi,_⟩:=hb
 obtain ⟨k,k0,_⟩:=h.bk t h1 h2
 have:=k.early
 have hx:=k.nx
 omega
theorem wrVal_none {c v:Int} {W:List Wt} (h : ∀ x ∈ W,x.c≠c):wrVal c v W=v:=by
 unfold wrVal
 induction W generalizing v with
 | nil=>rfl
 | cons x W ih=>rw [List.foldl_cons,if_neg (h x (by simp))]; exact ih (fun y hy=>h y (by simp [hy]))
theorem wrVal_one {c v:Int} {W:List Wt} (hW:EnOk W) {i:Nat} (hi:i < W.length) (hc:(W.getD i noWt).c=c):wrVal c v W=(W.getD i noWt).v:=by
 have one:=hW.one
 clear hW
 unfold wrVal
 induction W generalizing v i with
 | nil=>simp at hi
 | cons x W ih =>
  rw [List.foldl_cons]
  cases i with
  | zero =>
   have hx:x.c=c:=by simpa using hc
   rw [if_pos hx]
   have:=wrVal_none (c:=c) (v:=x.v) (W:=W) (fun y hy e=>by
        obtain ⟨j,hj,rfl⟩:=mem_getDW hy
        have:=one 0 (j+1) (by simp) (by simpa using hj) (by simp only [List.getD_cons_zero,List.getD_cons_succ]; rw [hx,e])
        omega)
   unfold wrVal at this
   rw [this]
   simp
  | succ i =>
   have h1:(W.getD i noWt).c=c:=by simpa using hc
   rw [ih (v:=_) (i:=i) (by simpa using hi) h1 (fun a b ha hb e=>by
        have:=one (a+1) (b+1) (by simpa using ha) (by simpa using hb) (by simpa using e)
        omega)]
   simp
theorem val_succ (g:Rg) (c:Int) {u:Nat} (h:u < g.n):g.val c (u+1)=wrVal c (g.val c u) (g.w (u+1)):=by
 unfold Rg.val Rg.w
 have h':u < g.W.length:=h
 rw [List.take_succ_eq_append_getElem h', List.foldl_append]
 simp [List.getD_eq_getElem?_getD,List.getElem?_eq_getElem h']
theorem val_none (g:Rg) (c:Int) {z u:Nat} (hu:u≤g.n) (hz:z≤u) (h : ∀ t,z < t→t≤u → ¬ Writ g t c):g.val c u=g.val c z:=by
 induction u with
 | zero=>rw [show z=0 by omega]
 | succ u ih =>
  by_cases e:z=u+1
  ·rw [e]
  ·rw [val_succ g c (by omega),wrVal_none (fun x hx ec=>h (u+1) (by omega) (Nat.le_refl _) ⟨x,hx,ec⟩)]
   exact ih (by omega) (by omega) (fun t t1 t2=>h t t1 (by omega))
theorem set_self (g:Rg) (t:Nat) (b:Ba.Bk):(g.set t b).bk t=b:=by simp [Rg.set]
theorem set_else (g:Rg) {t u:Nat} (b:Ba.Bk) (h:u≠t):(g.set t b).bk u=g.bk u:=by simp [Rg.set,h]
theorem laid_else (g:Rg) {t:Nat} (b:Ba.Bk) {u:Int} (h:u.toNat≠t):laidB (g.set t b) u=laidB g u:=by
 unfold laidB; rw [set_else g b h]; rfl
theorem laid_same (g:Rg) {t:Nat} (b:Ba.Bk) (h:3≤b.nx ↔ 3≤(g.bk t).nx) (u:Int):laidB (g.set t b) u=laidB g u:=by
 by_cases e:u.toNat=t
 ·unfold laidB; rw [e,set_self]
  show (decide (u≤(g.d:Int)) || _)=_
  congr 1
  simp only [decide_eq_decide]
  exact h
 ·exact laid_else g b e
theorem word_else (g:Rg) {t:Nat} (b:Ba.Bk) {u:Int} (h:u.toNat≠t) (j:Nat):wordB (g.set t b) u j=wordB g u j:=by
 unfold wordB; rw [set_else g b h]; rfl
theorem word_same (g:Rg) {t:Nat} (b:Ba.Bk) (h:2≤b.nx) (h2:2≤(g.bk t).nx) (u:Int) (j:Nat):wordB (g.set t b) u j=wordB g u j:=by
 by_cases e:u.toNat=t
 ·unfold wordB; rw [e,set_self]
  simp [h,h2]
 ·exact word_else g b e j
theorem hd_eq {g g':Rg} {u:Int} (hs:g'.s=g.s) (hd:g'.d=g.d) (h:laidB g' u=laidB g u):hdW g' u=hdW g u:=by unfold hdW; rw [hs,hd,h]
theorem sg_eq (g:Rg) (t:Nat) (b:Ba.Bk) {u:Int} {j:Nat} (h:wordB (g.set t b) u j=wordB g u j):sgW (g.set t b) u j=sgW g u j:=by unfold sgW; rw [h]; rfl
theorem bi_mono {g g':Rg} {t:Nat} {b:Ba.Bk} (h:BI g t b) (hd:g'.d=g.d) (hW:g'.W=g.W) (hl : ∀ u,laidB g u=true→laidB g' u=true):BI g' t b:=by
 have hsg : ∀ u,g'.sg u=g.sg u:=fun u=>by unfold Rg.sg Rg.w; rw [hW]
 have hcl : ∀ u,Cl g' u t→Cl g u t:=fun u ⟨j,hj,e⟩=>⟨j,hj,by rw [hsg,hsg] at e; exact e⟩
 refine ⟨fun e=>by rw [hd]; exact h.kn e,fun e u u1 u2 u3 hc=>h.o3 e u u1 u2 (by omega) (hcl u hc),fun e=>⟨hl _ (h.o4 e).1,fun hlt j hj=>by rw [hsg,hsg]; exact (h.o4 e).2 (by omega) j hj⟩,fun e u u1 u2 hc=>h.o6 e u (by omega) u2 (hcl u hc)⟩
theorem laid_mono (g:Rg) {t:Nat} (b:Ba.Bk) (h:3≤(g.bk t).nx→3≤b.nx) (u:Int) (hu:laidB g u=true):laidB (g.set t b) u=true:=by
 by_cases e:u.toNat=t
 ·unfold laidB at hu ⊢
  rw [e,set_self]
  rw [e] at hu
  simp only [Bool.or_eq_true,decide_eq_true_eq] at hu ⊢
  rcases hu with h1 | h1
  ·exact Or.inl h1
  ·exact Or.inr (h h1)
 ·rw [laid_else g b e]; exact hu
theorem ri_set {f f':Ad→Int} {g:Rg} {t:Nat} {b:Ba.Bk} (h:RI f g) (hk:Ba.BkOk (g.P t) b) (h0:b.nx≠0) (hbi:BI g t b) (hm:3≤(g.bk t).nx→3≤b.nx) (nw:f' ⟨1,0,0⟩=f ⟨1,0,0⟩)
  (hd : ∀ u:Int,(g.n:Int) - (g.s:Int) < u→u≤(g.n:Int)→f' ⟨2,u % (g.s:Int),0⟩=hdW (g.set t b) u)
  (sgs : ∀ u:Int,(g.n:Int) - (g.s:Int) < u→u≤(g.n:Int) → ∀ j:Nat,j < 8→f' ⟨3,u % (g.s:Int),(j:Int)⟩=wrap64 ((sgW (g.set t b) u j:Nat):Int))
  (cell : ∀ c : Int, 0 ≤ c → c < 1024 → ∃ u, g.d ≤ u ∧ u ≤ g.n ∧ f' ⟨4, c, 0⟩ = g.val c u ∧ ∀ t', g.d < t' → t' ≤ g.n → Back (g.set t b) t' c → u = t') : RI f' (g.set t b) := by
 refine ⟨h.s1,h.s16,h.dn,h.win,h.non,h.big,nw.trans h.nw,h.ent,fun t' t1 t2 => ?_,hd,sgs,cell⟩
 by_cases e:t'=t
 ·subst e
  rw [set_self]
  exact ⟨hk,h0,bi_mono hbi rfl rfl (laid_mono g b hm)⟩
 ·rw [set_else g b e]
  obtain ⟨k1,k2,k3⟩:=h.bk t' t1 t2
  exact ⟨k1,k2,bi_mono k3 rfl rfl (laid_mono g b hm)⟩
theorem back_same {g:Rg} {t:Nat} {b:Ba.Bk} (h:b.wr=(g.bk t).wr) {t':Nat} {c:Int} (hb:Back (g.set t b) t' c):Back g t' c:=by
 obtain ⟨i,hi,e⟩:=hb
 refine ⟨i, ?_,e⟩
 by_cases et:t'=t
 ·subst et; rw [set_self,h] at hi; exact hi
 ·rw [set_else g b et] at hi; exact hi
theorem ri_load {f:Ad→Int} {g:Rg} {t:Nat} {b:Ba.Bk} (h:RI f g) (hk:Ba.BkOk (g.P t) b) (h3:3≤(g.bk t).nx) (h3':3≤b.nx) (hw:b.wr=(g.bk t).wr) (hbi:BI g t b):RI f (g.set t b):=by
 refine ri_set h hk (by omega) hbi (fun _=>h3') rfl (fun u u1 u2 => ?_) (fun u u1 u2 j hj => ?_) (fun c c0 c1 => ?_)
 ·rw [hd_eq (g:=g) (g':=g.set t b) rfl rfl (laid_same g b (by omega) u)]; exact h.hd u u1 u2
 ·rw [sg_eq g t b (word_same g b (by omega) (by omega) u j)]; exact h.sgs u u1 u2 j hj
 ·obtain ⟨u,a1,a2,a3,a4⟩:=h.cell c c0 c1
  exact ⟨u,a1,a2,a3,fun t' t1 t2 hb=>a4 t' t1 t2 (back_same hw hb)⟩
theorem goB_wr (P:Ba.Bp) (b:Ba.Bk):(Ba.goB P b).wr=b.wr∧(Ba.goB P b).kn=b.kn∧6≤(Ba.goB P b).nx:=by
 unfold Ba.goB
 refine ⟨rfl,rfl, ?_⟩
 simp only
 split
 ·omega
 ·split <;> omega
theorem bi_go {g:Rg} {t:Nat} {b:Ba.Bk} (hkn:b.kn=true→t=g.d+1) (h6 : ∀ u:Nat,g.d < u→u < t → ¬ Cl g u t):BI g t (Ba.goB (g.P t) b):=by
 have:=goB_wr (g.P t) b
 refine ⟨fun e=>hkn (by rw [← this.2.1]; exact e),fun e=>by omega,fun e=>by omega,fun _=>h6⟩
theorem bi_lookAt {f:Ad→Int} {g:Rg} {t:Nat} {b:Ba.Bk} {st:Int} (h:RI f g) (h2:t≤g.n) (hkn:b.kn=true→t=g.d+1) (h3 : ∀ u:Nat,st < (u:Int)→u < t→g.d < u → ¬ Cl g u t):BI g t (Ba.lookAtB (g.P t) b st):=by
 have hw:=h.win
 unfold Ba.lookAtB
 split
 ·next e =>
  refine bi_go hkn (fun u u1 u2=>h3 u ?_ u2 u1)
  simp only [Rg.P] at e
  omega
 ·exact ⟨hkn,fun _=>h3,fun e=>by simp at e,fun e=>by simp at e⟩
theorem lookAt_wr (P:Ba.Bp) (b:Ba.Bk) (st:Int):(Ba.lookAtB P b st).wr=b.wr∧3≤(Ba.lookAtB P b st).nx:=by
 unfold Ba.lookAtB
 split
 ·have:=goB_wr P b; omega
 ·exact ⟨rfl,Nat.le_refl _⟩
theorem toWord_wr (P:Ba.Bp) (b:Ba.Bk):(Ba.toWordB P b).wr=b.wr∧3≤(Ba.toWordB P b).nx:=by
 unfold Ba.toWordB
 split
 ·exact ⟨rfl,by simp⟩
 ·exact lookAt_wr P _ _
theorem bi_toWord {f:Ad→Int} {g:Rg} {t:Nat} {b:Ba.Bk} (h:RI f g) (h2:t≤g.n) (hwd:b.wd≤8) (hkn:b.kn=true→t=g.d+1) (ho:1≤b.old) (h3 : ∀ u:Nat,b.old < (u:Int)→u < t→g.d < u → ¬ Cl g u t) (hl:laidB g b.old=true)
  (hz:(g.d:Int) < b.old → ∀ j,j < b.wd→((g.sg b.old.toNat).getD j 0 &&& (g.sg t).getD j 0)=0):BI g t (Ba.toWordB (g.P t) b):=by
 have hb:=Ba.fsW_bd (g.sg t) b.wd hwd
 have hh:=(Ba.fsW_hit (g.sg t) b.wd hwd).2
 have hall:(g.d:Int) < b.old → ∀ j,j < Ba.fsW (g.sg t) b.wd→((g.sg b.old.toNat).getD j 0 &&& (g.sg t).getD j 0)=0:=fun hd j hj=>by
  by_cases e:j < b.wd
  ·exact hz hd j e
  ·rw [hh j (by omega) hj]; simp
 unfold Ba.toWordB
 split
 ·exact ⟨hkn,fun _=>h3,fun _=>⟨hl,hall⟩,fun e=>by simp at e⟩
 ·next e =>
  refine bi_lookAt h h2 hkn (fun u u1 u2 u3 hc => ?_)
  have u1':b.old - 1 < (u:Int):=u1
  by_cases eu:b.old < (u:Int)
  ·exact h3 u eu u2 u3 hc
  ·obtain rfl:u=b.old.toNat:=by omega
   obtain ⟨j,hj,hc⟩:=hc
   exact hc (hall (by omega) j (by simp only [Rg.P] at e; omega))
theorem wU_64 {x:Nat} (h:x < 18446744073709551616):(IntKind.u64.wrap (wrap64 (x:Int))).toNat=x:=by
 rw [IntKind.wrap_u64]
 unfold wrap64
 omega
theorem hit_no {sg:List Nat} {j x:Nat} (h:x < 18446744073709551616) (hh : ¬ Ba.hitS sg j (wrap64 (x:Int))=true):(x &&& sg.getD j 0)=0:=by
 unfold Ba.hitS at hh
 rw [wU_64 h] at hh
 simpa using hh
theorem ad_head {g:Rg} (s1:1≤g.s) (s16:g.s≤16) (t:Nat) (k:Int):(⟨2,slotV k ((g.P t).s:Int),0⟩:Ad)=⟨2,k % (g.s:Int),0⟩:=by
 rw [show ((g.P t).s:Int)=(g.s:Int) from rfl,slot_is s1 s16]
theorem ri_over {f:Ad→Int} {g:Rg} (h:RI f g) {k:Int} (k1:1≤k) (k2:k≤(g.n:Int)):overV (f ⟨2,k % (g.s:Int),0⟩) k=decide (k≤(g.d:Int)):=h.vi.over k k1 k2
theorem step_run {P:Ba.Bp} {b:Ba.Bk} {v:Int} (hw:Ba.waitB P b v=false):Ba.stepB P b v=(if b.nx=1 then ⟨if b.wd+1=8 then 2 else 1,b.wd+1,b.old,b.kn,b.wr⟩
  else if b.nx=2 then (if b.kn then Ba.goB P b else Ba.lookAtB P b (P.st - 1))
  else if b.nx=3 then (if overV v b.old then Ba.overB P b else Ba.toWordB P ⟨b.nx,0,b.old,b.kn,b.wr⟩)
  else if b.nx=4 then (if Ba.hitS P.sg b.wd v then ⟨5,b.wd,b.old,b.kn,b.wr⟩ else Ba.toWordB P ⟨b.nx,b.wd+1,b.old,b.kn,b.wr⟩)
  else if b.nx=5 then Ba.overB P b
  else if b.nx=6 then Ba.goB P ⟨b.nx,b.wd,b.old,b.kn,b.wr+1⟩
  else if b.nx=7 then Ba.goB P ⟨b.nx,b.wd,b.old,true,b.wr⟩
  else ⟨0,b.wd,b.old,b.kn,b.wr⟩):=by
 unfold Ba.stepB
 rw [if_neg (by simp [hw])]
theorem step_wait {P:Ba.Bp} {b:Ba.Bk} {v:Int} (hw:Ba.waitB P b v=true):Ba.stepB P b v=b:=by unfold Ba.stepB; rw [if_pos hw]
theorem set_id (g:Rg) (t:Nat):g.set t (g.bk t)=g:=by
 unfold Rg.set
 have:(fun u=>if u=t then g.bk t else g.bk u)=g.bk:=by
  funext u
  split
  ·next e=>rw [e]
  ·rfl
 rw [this]
theorem ri_wait {f:Ad→Int} {g:Rg} {t:Nat} (h:RI f g) (h1:g.d < t) (h2:t≤g.n) (hw:Ba.waitB (g.P t) (g.bk t) (f (Ba.adB (g.P t) (g.bk t)))=true):t≠g.d+1:=fun e=>by
 obtain ⟨k,k0,bi⟩:=h.bk t h1 h2
 have s1:=h.s1
 have s16:=h.s16
 unfold Ba.waitB at hw
 split at hw
 ·next e3 =>
  have ho:=(k.old (by simp [e3])).1
  obtain ⟨o1,o2,o3⟩:=ho
  have ha:Ba.adB (g.P t) (g.bk t)=⟨2,(g.bk t).old % (g.s:Int),0⟩:=by
   unfold Ba.adB; rw [if_neg (by omega),if_pos (Or.inl e3),ad_head s1 s16]
  have o2':(g.bk t).old < (t:Int):=o2
  rw [ha,ri_over h o1 (by omega)] at hw
  simp at hw
  omega
 ·split at hw
  ·next e5 =>
   have ho:=(k.old (by simp [e5])).1
   obtain ⟨o1,o2,o3⟩:=ho
   have ha:Ba.adB (g.P t) (g.bk t)=⟨2,(g.bk t).old % (g.s:Int),0⟩:=by
    unfold Ba.adB; rw [if_neg (by omega),if_pos (Or.inr e5),ad_head s1 s16]
   have o2':(g.bk t).old < (t:Int):=o2
   rw [ha,ri_over h o1 (by omega)] at hw
   simp at hw
   omega
  ·split at hw
   ·next e7 =>
    have hk:=k.n7 e7
    obtain ⟨o1,o2,o3⟩:=k.kn hk
    have o1':1≤(t:Int) - 1:=o1
    have ha:Ba.adB (g.P t) (g.bk t)=⟨2,((t:Int) - 1) % (g.s:Int),0⟩:=by
     unfold Ba.adB; rw [if_neg (by omega),if_neg (by omega),if_neg (by omega),if_neg (by omega),if_pos e7]
     exact ad_head s1 s16 t _
    rw [ha] at hw
    have:=ri_over h (k:=(t:Int) - 1) o1' (by omega)
    simp only [Rg.P] at hw
    rw [this] at hw
    simp at hw
    omega
   ·simp at hw
theorem bi_over {g:Rg} {t:Nat} {b:Ba.Bk} (h1:g.d < t) (hov:b.old≤(g.d:Int)) (h3 : ∀ u:Nat,b.old < (u:Int)→u < t→g.d < u → ¬ Cl g u t):BI g t (Ba.overB (g.P t) b):=by
 unfold Ba.overB
 refine bi_go (fun e => ?_) (fun u u1 u2=>h3 u (by omega) u2 u1)
 simp only [beq_iff_eq] at e
 have:b.old=(t:Int) - 1:=e
 omega
set_option maxHeartbeats 1600000 in
theorem ri_ld {f:Ad→Int} {g:Rg} {t:Nat} (h:RI f g) (h1:g.d < t) (h2:t≤g.n) (hl:Ba.ldB (g.bk t)=true):RI f (g.set t (Ba.stepB (g.P t) (g.bk t) (f (Ba.adB (g.P t) (g.bk t))))):=by
 obtain ⟨k,k0,bi⟩:=h.bk t h1 h2
 have s1:=h.s1
 have s16:=h.s16
 have hwin:=h.win
 by_cases hw:Ba.waitB (g.P t) (g.bk t) (f (Ba.adB (g.P t) (g.bk t)))=true
 ·rw [step_wait hw,set_id]; exact h
 ·have hw':Ba.waitB (g.P t) (g.bk t) (f (Ba.adB (g.P t) (g.bk t)))=false:=by simpa using hw
  have hok:=Ba.bk_step k (f (Ba.adB (g.P t) (g.bk t)))
  have hc:(g.bk t).nx=3∨(g.bk t).nx=4∨(g.bk t).nx=5∨(g.bk t).nx=7:=by
   unfold Ba.ldB at hl
   simp only [Bool.or_eq_true,beq_iff_eq] at hl
   omega
  rw [step_run hw'] at hok ⊢
  rcases hc with e | e | e | e
  ·obtain ⟨o1,o2,o3⟩:=(k.old (by simp [e])).1
   have o2':(g.bk t).old < (t:Int):=o2
   have ha:Ba.adB (g.P t) (g.bk t)=⟨2,(g.bk t).old % (g.s:Int),0⟩:=by
    unfold Ba.adB; rw [if_neg (by omega),if_pos (Or.inl e),ad_head s1 s16]
   rw [if_neg (by omega),if_neg (by omega),if_pos e] at hok ⊢
   have h3:=bi.o3 (Or.inl e)
   rw [ha,ri_over h o1 (by omega)] at hok ⊢
   by_cases hov:(g.bk t).old≤(g.d:Int)
   ·rw [if_pos (by simpa using hov)] at hok ⊢
    have:=goB_wr (g.P t) ⟨(g.bk t).nx,(g.bk t).wd,(g.bk t).old,(g.bk t).old == (g.P t).st - 1,(g.bk t).wr⟩
    exact ri_load h hok (by omega) (by unfold Ba.overB; omega) (by unfold Ba.overB; exact this.1) (bi_over h1 hov h3)
   ·rw [if_neg (by simpa using hov)] at hok ⊢
    have hwr:=toWord_wr (g.P t) ⟨(g.bk t).nx,0,(g.bk t).old,(g.bk t).kn,(g.bk t).wr⟩
    refine ri_load h hok (by omega) hwr.2 hwr.1 (bi_toWord h h2 (by simp) bi.kn o1 h3 ?_ (fun _ j hj=>by simp at hj))
    have hh:=h.vi.head (g.bk t).old o1 (by simp only [Rg.vw]; omega)
    unfold Ba.waitB at hw'
    rw [if_pos e,ha,ri_over h o1 (by omega)] at hw'
    simp [hov] at hw'
    unfold laidV at hw'
    simp only [beq_iff_eq] at hw'
    simp only [Rg.vw] at hh
    rcases hh with ⟨a,_⟩ | ⟨_,a⟩ | ⟨_,a⟩
    ·exact a
    ·omega
    ·omega
  ·obtain ⟨o1,o2,o3⟩:=(k.old (by simp [e])).1
   obtain ⟨w8,wn⟩:=k.w4 e
   have o2':(g.bk t).old < (t:Int):=o2
   have ha:Ba.adB (g.P t) (g.bk t)=⟨3,(g.bk t).old % (g.s:Int),((g.bk t).wd:Int)⟩:=by
    unfold Ba.adB; rw [if_neg (by omega),if_neg (by omega),if_pos e]
    rw [show ((g.P t).s:Int)=(g.s:Int) from rfl,slot_is s1 s16]
   rw [if_neg (by omega),if_neg (by omega),if_neg (by omega),if_pos e] at hok ⊢
   have h3:=bi.o3 (Or.inr (Or.inl e))
   obtain ⟨l1,l2⟩:=bi.o4 e
   split at hok
   ·next hh=>rw [if_pos hh]; exact ri_load h hok (by omega) (by simp) rfl ⟨bi.kn,fun _=>h3,fun e=>by simp at e,fun e=>by simp at e⟩
   ·next hh =>
    rw [if_neg hh]
    have hwr:=toWord_wr (g.P t) ⟨(g.bk t).nx,(g.bk t).wd+1,(g.bk t).old,(g.bk t).kn,(g.bk t).wr⟩
    refine ri_load h hok (by omega) hwr.2 hwr.1 (bi_toWord h h2 (by simp only; omega) bi.kn o1 h3 l1 (fun hd j hj => ?_))
    by_cases ej:j < (g.bk t).wd
    ·exact l2 hd j ej
    ·obtain rfl:j=(g.bk t).wd:=by simp only at hj; omega
     obtain ⟨u,u1,u2,u3,u4⟩:=h.vi.word (g.bk t).old o1 (by simp only [Rg.vw]; omega) l1 (g.bk t).wd w8
     have hu:(u:Int)=(g.bk t).old:=u3 (by simp only [Rg.vw] at hd ⊢; omega)
     simp only [Rg.vw] at u4
     rw [ha,u4] at hh
     have hn:(g.bk t).old.toNat=u:=by omega
     rw [hn]
     exact hit_no ((sg_ok g u).2 _) hh
  ·obtain ⟨o1,o2,o3⟩:=(k.old (by simp [e])).1
   have o2':(g.bk t).old < (t:Int):=o2
   have ha:Ba.adB (g.P t) (g.bk t)=⟨2,(g.bk t).old % (g.s:Int),0⟩:=by
    unfold Ba.adB; rw [if_neg (by omega),if_pos (Or.inr e),ad_head s1 s16]
   rw [if_neg (by omega),if_neg (by omega),if_neg (by omega),if_neg (by omega),if_pos e] at hok ⊢
   have h3:=bi.o3 (Or.inr (Or.inr e))
   unfold Ba.waitB at hw'
   rw [if_neg (by omega),if_pos e,ha,ri_over h o1 (by omega)] at hw'
   simp at hw'
   have:=goB_wr (g.P t) ⟨(g.bk t).nx,(g.bk t).wd,(g.bk t).old,(g.bk t).old == (g.P t).st - 1,(g.bk t).wr⟩
   exact ri_load h hok (by omega) (by unfold Ba.overB; omega) (by unfold Ba.overB; exact this.1) (bi_over h1 hw' h3)
  ·have hk:=k.n7 e
   obtain ⟨o1,o2,o3⟩:=k.kn hk
   have o1':1≤(t:Int) - 1:=o1
   have ha:Ba.adB (g.P t) (g.bk t)=⟨2,((t:Int) - 1) % (g.s:Int),0⟩:=by
    unfold Ba.adB; rw [if_neg (by omega),if_neg (by omega),if_neg (by omega),if_neg (by omega),if_pos e]
    exact ad_head s1 s16 t _
   rw [if_neg (by omega),if_neg (by omega),if_neg (by omega),if_neg (by omega),if_neg (by omega),if_neg (by omega),if_pos e] at hok ⊢
   unfold Ba.waitB at hw'
   rw [if_neg (by omega),if_neg (by omega),if_pos e,ha,show (g.P t).st - 1=(t:Int) - 1 from rfl,ri_over h o1' (by omega)] at hw'
   simp at hw'
   have:=goB_wr (g.P t) ⟨(g.bk t).nx,(g.bk t).wd,(g.bk t).old,true,(g.bk t).wr⟩
   exact ri_load h hok (by omega) (by omega) this.1 (bi_go (fun _=>by omega) (bi.o6 (by omega)))
end Go.Proofs.YtdkpgdkjohjcaaaGreat
