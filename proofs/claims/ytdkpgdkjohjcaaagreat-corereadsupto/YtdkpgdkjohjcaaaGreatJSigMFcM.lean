/- Signatures as lists of eight words of 64 bits, their bits, unions, meets and lists of bits: numbers alone, nothing of the program. -/
import Derived.WalkKit
import Derived.Laws.Bits64
import Derived.Laws.Bits64b
import Derived.Test.YtdkpgdkjohjcaaaGreatJMemMMath
namespace Go.Proofs.YtdkpgdkjohjcaaaGreat.Sg
open Go.RowKit (wrap64)
def Ok (s:List Nat):Prop:=s.length=8 ∧ ∀ i,s.getD i 0 < 18446744073709551616
def bit (s:List Nat) (k:Nat):Bool:=(s.getD (k / 64) 0).testBit (k % 64)
def put (s:List Nat) (k:Nat):List Nat:=s.set (k / 64) (s.getD (k / 64) 0 ||| 2 ^ (k % 64))
def nought:List Nat:=[0,0,0,0,0,0,0,0]
theorem two64:(18446744073709551616:Nat)=2 ^ 64:=by decide
theorem pow_lt64 (j:Nat) (h:j < 64):2 ^ j < 18446744073709551616:=by rw [two64]; exact Nat.pow_lt_pow_right (by decide) h
theorem or_lt64 (x y:Nat) (hx:x < 18446744073709551616) (hy:y < 18446744073709551616):x ||| y < 18446744073709551616:=by
 rw [two64] at *; exact Nat.or_lt_two_pow hx hy
theorem getD_set (s:List Nat) (i j v:Nat) (h:i < s.length):(s.set i v).getD j 0=if i=j then v else s.getD j 0:=by
 simp only [List.getD_eq_getElem?_getD,List.getElem?_set]
 split
 ·next e=>subst e; rfl
 ·rfl
theorem ok_nought:Ok nought:=⟨rfl,fun i=>by
  unfold nought
  rcases i with _ | _ | _ | _ | _ | _ | _ | _ | i <;> simp⟩
theorem ok_put {s:List Nat} (h:Ok s) (k:Nat) (hk:k < 512):Ok (put s k):=by
 refine ⟨by simp [put,h.1],fun i => ?_⟩
 unfold put
 rw [getD_set _ _ _ _ (by rw [h.1]; omega)]
 split
 ·exact or_lt64 _ _ (h.2 _) (pow_lt64 _ (by omega))
 ·exact h.2 i
theorem bit_put {s:List Nat} (h:Ok s) (k j:Nat) (hk:k < 512):bit (put s k) j=(bit s j || decide (j=k)):=by
 unfold bit put
 rw [getD_set _ _ _ _ (by rw [h.1]; omega)]
 split
 ·next e =>
  rw [Nat.testBit_or,Nat.testBit_two_pow,e]
  congr 1
  apply decide_eq_decide.2
  omega
 ·next e =>
  have : ¬ j=k:=fun e' => e (by rw [e'])
  simp [this]
theorem sig_ext {a b:List Nat} (ha:Ok a) (hb:Ok b) (h : ∀ k,k < 512→bit a k=bit b k):a=b:=by
 apply List.ext_getElem (by rw [ha.1,hb.1])
 intro i h1 h2
 have e1:a[i] = a.getD i 0:=by simp [h1]
 have e2:b[i] = b.getD i 0:=by simp [h2]
 rw [e1,e2]
 have hi:i < 8:=by rw [← ha.1]; exact h1
 apply Nat.eq_of_testBit_eq
 intro j
 by_cases hj:j < 64
 ·have hk:=h (64 * i+j) (by omega)
  unfold bit at hk
  rw [show (64 * i+j) / 64=i by omega,show (64 * i+j) % 64=j by omega] at hk
  exact hk
 ·have hp:18446744073709551616≤2 ^ j:=by rw [two64]; exact Nat.pow_le_pow_right (by decide) (by omega)
  rw [Nat.testBit_lt_two_pow (Nat.lt_of_lt_of_le (ha.2 i) hp),Nat.testBit_lt_two_pow (Nat.lt_of_lt_of_le (hb.2 i) hp)]
theorem put_had {s:List Nat} (hs:Ok s) (k:Nat) (hk:k < 512) (h:bit s k=true):put s k=s:=by
 refine sig_ext (ok_put hs k hk) hs fun j _ => ?_
 rw [bit_put hs _ _ hk]
 by_cases e:j=k
 ·subst e; simp [h]
 ·simp [e]
end Go.Proofs.YtdkpgdkjohjcaaaGreat.Sg
namespace Go.Proofs.YtdkpgdkjohjcaaaGreat.Fe
structure Cp where
 s:Nat
 z:Int
 rd:List Nat
 last:Bool
 cell:Int
 read:Bool
 val:Int
structure Ck where
 st:Int
 seen:Int
 stamp:Int
 word:Int
 comp:Int
 err:Int
def ckNew (P:Cp):Ck:=⟨0,0,P.z,0,P.z,0⟩
def wdsF (rd:List Nat) (k:Nat):List Nat:=(List.range' k (8 - k)).filter fun j=>rd.getD j 0 != 0
def nxW (rd:List Nat) (k:Nat):Nat:=(wdsF rd k).headD 8
theorem wdsF_yes {rd:List Nat} {k:Nat} (h:k < 8) (hr:rd.getD k 0≠0):wdsF rd k=k :: wdsF rd (k+1):=by
 unfold wdsF
 obtain ⟨m,hm⟩ : ∃ m,8 - k=m+1:=⟨7 - k,by omega⟩
 have h2:8 - (k+1)=m:=by omega
 rw [hm,h2,List.range'_succ,List.filter_cons_of_pos (by simpa using hr)]
theorem wdsF_no {rd:List Nat} {k:Nat} (h:k < 8) (hr:rd.getD k 0=0):wdsF rd k=wdsF rd (k+1):=by
 unfold wdsF
 obtain ⟨m,hm⟩ : ∃ m,8 - k=m+1:=⟨7 - k,by omega⟩
 have h2:8 - (k+1)=m:=by omega
 rw [hm,h2,List.range'_succ,List.filter_cons_of_neg (by rw [hr]; simp)]
theorem nxW_yes {rd:List Nat} {k:Nat} (h:k < 8) (hr:rd.getD k 0≠0):nxW rd k=k:=by unfold nxW; rw [wdsF_yes h hr]; rfl
theorem nxW_no {rd:List Nat} {k:Nat} (h:k < 8) (hr:rd.getD k 0=0):nxW rd k=nxW rd (k+1):=by unfold nxW; rw [wdsF_no h hr]
theorem nxW_end (rd:List Nat):nxW rd 8=8:=rfl
theorem nxW_bd (rd:List Nat) (k:Nat) (hk:k≤8):k≤nxW rd k∧nxW rd k≤8:=by
 by_cases e:k=8
 ·subst e; rw [nxW_end]; exact ⟨Nat.le_refl _,Nat.le_refl _⟩
 ·by_cases hr:rd.getD k 0=0
  ·have:=nxW_bd rd (k+1) (by omega)
   rw [nxW_no (by omega) hr]
   omega
  ·rw [nxW_yes (by omega) hr]
   omega
termination_by 8 - k
theorem nxW_hit (rd:List Nat) (k:Nat) (hk:k≤8):(nxW rd k < 8→rd.getD (nxW rd k) 0≠0) ∧ ∀ j,k≤j→j < nxW rd k→rd.getD j 0=0:=by
 by_cases e:k=8
 ·subst e; rw [nxW_end]; exact ⟨fun h=>by omega,fun j h1 h2=>by omega⟩
 ·by_cases hr:rd.getD k 0=0
  ·have:=nxW_hit rd (k+1) (by omega)
   rw [nxW_no (by omega) hr]
   refine ⟨this.1,fun j h1 h2 => ?_⟩
   by_cases ej:j=k
   ·subst ej; exact hr
   ·exact this.2 j (by omega) h2
  ·rw [nxW_yes (by omega) hr]
   exact ⟨fun _=>hr,fun j h1 h2=>by omega⟩
termination_by 8 - k
def farV (P:Cp) (v:Int):Bool:=decide (P.z < v) && decide ((P.s:Int) < v - P.z)
def hitV (rd:List Nat) (j:Nat) (v:Int):Bool:=((IntKind.u64.wrap v).toNat &&& rd.getD j 0) != 0
def stampOn (P:Cp) (b:Ck):Ck:=if b.stamp < b.seen then ⟨1,b.seen,b.stamp+1,b.word,b.comp,b.err⟩ else if P.last then ⟨3,b.seen,b.stamp,b.word,b.comp,b.err⟩ else ⟨4,b.seen,b.stamp,b.word,b.comp,b.err⟩
def wordOn (P:Cp) (b:Ck):Ck:=if nxW P.rd (b.word+1).toNat < 8 then ⟨2,b.seen,b.stamp,(nxW P.rd (b.word+1).toNat:Int),b.comp,b.err⟩ else stampOn P ⟨b.st,b.seen,b.stamp,8,b.comp,b.err⟩
def onV (P:Cp) (b:Ck):Ck:=if b.st=1 then wordOn P ⟨b.st,b.seen,b.stamp,-1,b.comp,b.err⟩ else if b.st=2 then wordOn P b else if b.st=0 then stampOn P b else ⟨4,b.seen,b.stamp,b.word,b.comp,b.err⟩
def failV (b:Ck) (e:Int):Ck:=⟨5,b.seen,b.stamp,b.word,b.comp,e⟩
def seeK (P:Cp) (b:Ck) (v:Int):Ck :=
 if P.rd=Sg.nought∨v≤P.z then ⟨4,v,b.stamp,b.word,b.comp,b.err⟩ else if farV P v then failV ⟨b.st,v,b.stamp,b.word,b.comp,b.err⟩ 4 else onV P ⟨b.st,v,b.stamp,b.word,b.comp,b.err⟩
def compV (b:Ck) (v:Int):Int:=if overV v b.stamp=true∧b.comp=b.stamp - 1 then b.stamp else b.comp
def lookK (P:Cp) (b:Ck) (v:Int):Ck:=if laidV v b.stamp then onV P ⟨b.st,b.seen,b.stamp,b.word,compV b v,b.err⟩ else if overV v b.stamp then failV b 4 else b
def holdK (P:Cp) (b:Ck) (v:Int):Ck:=if hitV P.rd b.word.toNat v then failV b 3 else onV P b
def againK (P:Cp) (b:Ck) (v:Int):Ck:=if farV P v then failV b 4 else onV P b
def stepK (P:Cp) (b:Ck) (v:Int):Ck:=if b.st=0 then seeK P b v else if b.st=1 then lookK P b v else if b.st=2 then holdK P b v else if b.st=3 then againK P b v else b
def waitK (b:Ck) (v:Int):Bool:=decide (b.st=1) && !laidV v b.stamp && !overV v b.stamp
def adK (P:Cp) (b:Ck):Ad:=if b.st=1 then ⟨2,slotV b.stamp P.s,0⟩ else if b.st=2 then ⟨3,slotV b.stamp P.s,b.word⟩ else ⟨1,0,0⟩
def thr (b:Ck):Prop:=b.st=4∨b.st=5
def kindV (b:Ck):Int:=if b.st=4 then 3 else if b.st=5 then 4 else 2
def kindK (P:Cp) (b:Ck) (v:Int):Int:=if waitK b v then 1 else kindV (stepK P b v)
def errK (P:Cp) (b:Ck) (v:Int):Int:=if waitK b v then 0 else (stepK P b v).err
structure KMid (P:Cp) (b:Ck):Prop where
 lo:P.z < b.stamp
 hi:b.stamp≤b.seen
 far:b.seen≤P.z+(P.s:Int)
 w:b.seen≤9223372036854775807
 c1:P.z≤b.comp
 c2:b.comp≤b.stamp
 rd:P.rd≠Sg.nought
 e:b.err=0
structure POk (P:Cp):Prop where
 s1:1≤P.s
 s16:P.s≤16
 z0:0≤P.z
 z1:P.z≤9223372036854775807
 rd:Sg.Ok P.rd
structure KOk (P:Cp) (b:Ck) (n:Nat):Prop where
 p:POk P
 c:(b=ckNew P∧n=0)∨(b.st=1∧KMid P b∧(n:Int)≤1+9 * (b.stamp - P.z - 1))∨(b.st=2∧KMid P b∧0≤b.word∧b.word≤7∧(n:Int)≤2+9 * (b.stamp - P.z - 1)+b.word) ∨
  (b.st=3∧KMid P b∧n≤1+9 * P.s)∨(b.st=4∧n≤2+9 * P.s∧b.err=0)∨(b.st=5∧n≤2+9 * P.s∧(b.err=3∨b.err=4))
theorem kok_new {P:Cp} (h:POk P):KOk P (ckNew P) 0:=⟨h,Or.inl ⟨rfl,rfl⟩⟩
theorem kok_st {P:Cp} {b:Ck} {n:Nat} (h:KOk P b n):b.st=0∨b.st=1∨b.st=2∨b.st=3∨b.st=4∨b.st=5:=by
 rcases h.c with ⟨rfl,_⟩ | ⟨c,_⟩ | ⟨c,_⟩ | ⟨c,_⟩ | ⟨c,_⟩ | ⟨c,_⟩
 ·exact Or.inl rfl
 all_goals simp [c]
theorem kok_stampOn {P:Cp} {b:Ck} {n:Nat} (h:POk P) (h1:P.z≤b.stamp) (h2:b.stamp≤b.seen) (h3:b.seen≤P.z+(P.s:Int)) (h4:b.seen≤9223372036854775807) (h5:P.z < b.seen) (h6:P.z≤b.comp) (h7:b.comp≤b.stamp) (h8:P.rd≠Sg.nought) (h9:b.err=0)
  (hn:(n:Int)≤1+9 * (b.stamp - P.z)):KOk P (stampOn P b) n:=by
 refine ⟨h, ?_⟩
 unfold stampOn
 by_cases e:b.stamp < b.seen
 ·rw [if_pos e]
  exact Or.inr (Or.inl ⟨rfl,⟨by simp only; omega,by simp only; omega,h3,h4,h6,by simp only; omega,h8,h9⟩,by simp only; omega⟩)
 ·rw [if_neg e]
  by_cases el:P.last=true
  ·rw [if_pos el]
   exact Or.inr (Or.inr (Or.inr (Or.inl ⟨rfl,⟨by simp only; omega,h2,h3,h4,h6,h7,h8,h9⟩,by omega⟩)))
  ·rw [if_neg el]
   exact Or.inr (Or.inr (Or.inr (Or.inr (Or.inl ⟨rfl,by omega,h9⟩))))
theorem kok_wordOn {P:Cp} {b:Ck} {n:Nat} (h:POk P) (k:KMid P b) (h1 : -1≤b.word) (h2:b.word≤7) (hn:(n:Int)≤2+9 * (b.stamp - P.z - 1)+(b.word+1)):KOk P (wordOn P b) n:=by
 obtain ⟨g1,g2⟩:=nxW_bd P.rd (b.word+1).toNat (by omega)
 unfold wordOn
 by_cases e:nxW P.rd (b.word+1).toNat < 8
 ·rw [if_pos e]
  exact ⟨h,Or.inr (Or.inr (Or.inl ⟨rfl,⟨k.lo,k.hi,k.far,k.w,k.c1,k.c2,k.rd,k.e⟩,by simp only; omega,by simp only; omega,by simp only; omega⟩))⟩
 ·rw [if_neg e]
  have:=k.lo
  exact kok_stampOn h (by simp only; omega) k.hi k.far k.w (by have:=k.hi; simp only; omega) k.c1 k.c2 k.rd k.e (by simp only; omega)
theorem kok_step {P:Cp} {b:Ck} {n:Nat} {v:Int} (h:KOk P b n) (hv:W64 v) (ht : ¬ thr b):KOk P (stepK P b v) (if waitK b v then n else n+1):=by
 have hp:=h.p
 rcases h.c with ⟨rfl,rfl⟩ | ⟨c,k,hn⟩ | ⟨c,k,w1,w2,hn⟩ | ⟨c,k,hn⟩ | ⟨c,_⟩ | ⟨c,_⟩
 ·have hw:waitK (ckNew P) v=false:=rfl
  rw [hw]
  unfold stepK seeK
  rw [if_pos (show (ckNew P).st=0 from rfl),if_neg (show ¬ false=true by simp)]
  by_cases e:P.rd=Sg.nought∨v≤P.z
  ·rw [if_pos e]
   exact ⟨hp,Or.inr (Or.inr (Or.inr (Or.inr (Or.inl ⟨rfl,by omega,rfl⟩))))⟩
  ·rw [if_neg e]
   by_cases ef:farV P v=true
   ·rw [if_pos ef]
    exact ⟨hp,Or.inr (Or.inr (Or.inr (Or.inr (Or.inr ⟨rfl,by omega,Or.inr rfl⟩))))⟩
   ·rw [if_neg ef]
    have hf:P.z < v→v - P.z≤(P.s:Int):=by
     intro h1
     unfold farV at ef
     simp at ef
     exact ef h1
    have e1:P.rd≠Sg.nought:=fun h=>e (Or.inl h)
    have e2:P.z < v:=by omega
    have hf:=hf e2
    unfold onV
    rw [if_neg (by simp [ckNew]),if_neg (by simp [ckNew]),if_pos (by rfl)]
    exact kok_stampOn hp (Int.le_refl _) (by simp only [ckNew]; omega) (by simp only; omega) hv.2 e2 (Int.le_refl _) (Int.le_refl _) e1 rfl (by simp [ckNew])
 ·unfold stepK
  rw [if_neg (by omega),if_pos c]
  unfold lookK
  by_cases el:laidV v b.stamp=true
  ·rw [if_pos el]
   have hw:waitK b v=false:=by unfold waitK; rw [el]; simp
   rw [hw,if_neg (by simp)]
   unfold onV
   rw [if_pos c]
   have hc:P.z≤compV b v∧compV b v≤b.stamp:=by
    unfold compV
    have:=k.c1; have:=k.c2; have:=k.lo
    split <;> omega
   exact kok_wordOn hp ⟨k.lo,k.hi,k.far,k.w,hc.1,hc.2,k.rd,k.e⟩ (by simp) (by simp) (by simp only; omega)
  ·rw [if_neg el]
   by_cases eo:overV v b.stamp=true
   ·rw [if_pos eo]
    have hw:waitK b v=false:=by unfold waitK; rw [eo]; simp
    rw [hw,if_neg (by simp)]
    have:=k.hi; have:=k.far
    exact ⟨hp,Or.inr (Or.inr (Or.inr (Or.inr (Or.inr ⟨rfl,by omega,Or.inr rfl⟩))))⟩
   ·rw [if_neg eo]
    have hw:waitK b v=true:=by unfold waitK; simp [c,el,eo]
    rw [hw,if_pos rfl]
    exact h
 ·have hw:waitK b v=false:=by unfold waitK; simp [c]
  rw [hw,if_neg (by simp)]
  unfold stepK
  rw [if_neg (by omega),if_neg (by omega),if_pos c]
  unfold holdK
  have:=k.hi; have:=k.far
  split
  ·exact ⟨hp,Or.inr (Or.inr (Or.inr (Or.inr (Or.inr ⟨rfl,by omega,Or.inl rfl⟩))))⟩
  ·unfold onV
   rw [if_neg (by omega),if_pos c]
   exact kok_wordOn hp k (by omega) w2 (by omega)
 ·have hw:waitK b v=false:=by unfold waitK; simp [c]
  rw [hw,if_neg (by simp)]
  unfold stepK
  rw [if_neg (by omega),if_neg (by omega),if_neg (by omega),if_pos c]
  unfold againK
  split
  ·exact ⟨hp,Or.inr (Or.inr (Or.inr (Or.inr (Or.inr ⟨rfl,by omega,Or.inr rfl⟩))))⟩
  ·unfold onV
   rw [if_neg (by omega),if_neg (by omega),if_neg (by omega)]
   exact ⟨hp,Or.inr (Or.inr (Or.inr (Or.inr (Or.inl ⟨rfl,by omega,k.e⟩))))⟩
 ·exact absurd (Or.inl c) ht
 ·exact absurd (Or.inr c) ht
theorem adK_is {P:Cp} {b:Ck} {n c:Nat} (h:KOk P b n) (ht : ¬ thr b):isAd c P.s (adK P b)=true:=by
 obtain ⟨h1,h2⟩:=slotV_bd b.stamp P.s (sizeOk_iff.mpr ⟨by have:=h.p.s1; omega,by have:=h.p.s16; omega⟩)
 unfold adK
 rcases h.c with ⟨rfl,_⟩ | ⟨c,_⟩ | ⟨c,k,w1,w2,hn⟩ | ⟨c,_⟩ | ⟨c,_⟩ | ⟨c,_⟩
 ·rfl
 ·rw [if_pos c]
  simp [isAd,h1,h2]
 ·rw [if_neg (by omega),if_pos c]
  have w3:b.word < 8:=by omega
  simp [isAd,h1,h2,w1,w3]
 ·rw [if_neg (by omega),if_neg (by omega)]; rfl
 ·exact absurd (Or.inl c) ht
 ·exact absurd (Or.inr c) ht
end Go.Proofs.YtdkpgdkjohjcaaaGreat.Fe
