/- What the words of a ring say, whoever writes them: stamps, heads, signatures. -/
import Derived.Test.YtdkpgdkjohjcaaaGreatJMemMMath
import Derived.Test.YtdkpgdkjohjcaaaGreatJSigMFcM
namespace Go.Proofs.YtdkpgdkjohjcaaaGreat
open Go.RowKit (wrap64)
structure Vw where
 size:Nat
 n:Nat
 d:Nat
 laid:Int→Prop
 e:Nat→Nat→Nat
structure VI (f:Ad→Int) (g:Vw):Prop where
 s1:1≤g.size
 s16:g.size≤16
 dn:g.d≤g.n
 win:g.n≤g.d+g.size
 nw:f ⟨1,0,0⟩=(g.n:Int)
 lt : ∀ t j,g.e t j < 18446744073709551616
 head : ∀ t:Int,1≤t→t≤(g.n:Int) →
  (g.laid t∧True∧f ⟨2,t % (g.size:Int),0⟩ / 2=t∧(f ⟨2,t % (g.size:Int),0⟩ % 2=1 ↔ t≤(g.d:Int))) ∨
  (t+(g.size:Int)≤(g.n:Int)∧t < f ⟨2,t % (g.size:Int),0⟩ / 2) ∨
  ((g.d:Int) < t∧f ⟨2,t % (g.size:Int),0⟩ / 2 < t)
 word : ∀ t:Int,1≤t→t≤(g.n:Int)→g.laid t → ∀ j:Nat,j < 8 → ∃ u:Nat,t≤(u:Int)∧u≤g.n∧((g.n:Int) < t+(g.size:Int)→(u:Int)=t)∧f ⟨3,t % (g.size:Int),(j:Int)⟩=wrap64 ((g.e u j:Nat):Int)
theorem VI.over {f:Ad→Int} {g:Vw} (h:VI f g) (t:Int) (h1:1≤t) (h2:t≤(g.n:Int)):overV (f ⟨2,t % (g.size:Int),0⟩) t=decide (t≤(g.d:Int)):=by
 have hw:=h.win
 have hd:=h.dn
 have hh:=h.head t h1 h2
 generalize f ⟨2,t % (g.size:Int),0⟩=v at *
 rw [Bool.eq_iff_iff]
 unfold overV laidV
 simp only [Bool.or_eq_true,Bool.and_eq_true,decide_eq_true_eq,beq_iff_eq]
 rcases hh with ⟨_,_,a3,a4⟩ | ⟨a1,a2⟩ | ⟨a1,a2⟩
 ·rw [← a4]; omega
 ·omega
 ·omega
def Stay (g g':Vw):Prop:=g.n≤g'.n∧(∀ t:Int,t≤(g.n:Int)→g.laid t→g'.laid t)∧g.d≤g'.d∧g'.size=g.size ∧ ∀ t j:Nat,1≤t→t≤g.n→g'.e t j=g.e t j
structure Sn (g:Vw) (b:Bg):Prop where
 c:b=bgNew∨(b.seen≤(g.n:Int)∧b.seen≤(g.d:Int)+(g.size:Int)∧((b.st=1∧1≤b.stamp∧b.stamp≤b.seen∧b.seen - (g.size:Int) < b.stamp)∨(b.st=2∧0≤b.stamp∧b.stamp≤b.seen∧b.stamp≤(g.d:Int))))
theorem sn_stay {g g':Vw} {b:Bg} (h:Sn g b) (hs:Stay g g'):Sn g' b:=by
 obtain ⟨s1,_,s3,s4,_⟩:=hs
 refine ⟨?_⟩
 rcases h.c with h | ⟨h1,h2,h3⟩
 ·exact Or.inl h
 ·refine Or.inr ⟨by omega,by omega, ?_⟩
  rw [s4]
  omega
theorem sn_step {f:Ad→Int} {g:Vw} {b:Bg} (h:Sn g b) (hv:VI f g) (hb:b.st≠2):Sn g (stepV g.size b (f (adV g.size b))):=by
 have hs:=hv.s1
 have hd:=hv.dn
 have hw:=hv.win
 have hz:sizeOk (g.size:Int)=true:=sizeOk_iff.mpr ⟨by omega,by have:=hv.s16; omega⟩
 refine ⟨Or.inr ?_⟩
 rcases h.c with rfl | ⟨h1,h2,⟨e,h4,h5,h6⟩ | ⟨e,_⟩⟩
 ·have ha:adV g.size bgNew=⟨1,0,0⟩:=rfl
  rw [ha,hv.nw]
  unfold stepV seeV
  rw [if_pos (show bgNew.st=0 from rfl)]
  split
  ·exact ⟨by simp only; omega,by simp only; omega,Or.inr ⟨rfl,by simp,by simp only; omega,by simp⟩⟩
  ·exact ⟨by simp only; omega,by simp only; omega,Or.inl ⟨rfl,by simp only; omega,by simp,by simp only; omega⟩⟩
 ·have ha:adV g.size b=⟨2,b.stamp % (g.size:Int),0⟩:=by unfold adV slotV; rw [if_neg (by omega),if_pos hz]
  rw [ha]
  unfold stepV lookV
  rw [if_neg (by omega),if_pos e,hv.over b.stamp h4 (by omega)]
  split
  ·next ho =>
   simp only [decide_eq_true_eq] at ho
   exact ⟨h1,h2,Or.inr ⟨rfl,by simp only; omega,by simp only; omega,ho⟩⟩
  ·next ho =>
   simp only [decide_eq_true_eq] at ho
   split
   ·next hc=>exact ⟨h1,h2,Or.inr ⟨rfl,by simp only; omega,by simp only; omega,by simp only; omega⟩⟩
   ·next hc=>exact ⟨h1,h2,Or.inl ⟨rfl,by simp only; omega,by simp only; omega,by simp only; omega⟩⟩
 ·exact absurd e hb
end Go.Proofs.YtdkpgdkjohjcaaaGreat
