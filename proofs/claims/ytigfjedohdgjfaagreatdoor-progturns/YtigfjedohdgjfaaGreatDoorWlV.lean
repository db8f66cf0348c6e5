/- What the words of a ring say, whoever writes them: stamps, heads, signatures. -/
import Derived.Test.YtigfjedohdgjfaaGreatDoorJMemMBegM
import Derived.Test.YtigfjedohdgjfaaGreatDoorJSigMFcM
namespace Go.Proofs.YtigfjedohdgjfaaGreatDoor
open Go.RowKit (wrap64)
structure Vw where
 size:Nat
 n:Nat
 d:Nat
 laid:Int→Prop
 e:Nat→Nat→Nat
structure VI (f:Ad→Int) (g:Vw):Prop where
 s1:1≤g.size
 s16:g.size≤16
 dn:g.d≤g.n
 win:g.n≤g.d+g.size
 nw:f ⟨1,0,0⟩=(g.n:Int)
 lt : ∀ t j,g.e t j < 18446744073709551616
 head : ∀ t:Int,1≤t→t≤(g.n:Int) →
  (g.laid t∧True∧f ⟨2,t % (g.size:Int),0⟩ / 2=t∧(f ⟨2,t % (g.size:Int),0⟩ % 2=1 ↔ t≤(g.d:Int))) ∨
  (t+(g.size:Int)≤(g.n:Int)∧t < f ⟨2,t % (g.size:Int),0⟩ / 2) ∨
  ((g.d:Int) < t∧f ⟨2,t % (g.size:Int),0⟩ / 2 < t)
 word : ∀ t:Int,1≤t→t≤(g.n:Int)→g.laid t → ∀ j:Nat,j < 8 → ∃ u:Nat,t≤(u:Int)∧u≤g.n∧((g.n:Int) < t+(g.size:Int)→(u:Int)=t)∧f ⟨3,t % (g.size:Int),(j:Int)⟩=wrap64 ((g.e u j:Nat):Int)
theorem VI.over {f:Ad→Int} {g:Vw} (h:VI f g) (t:Int) (h1:1≤t) (h2:t≤(g.n:Int)):overV (f ⟨2,t % (g.size:Int),0⟩) t=decide (t≤(g.d:Int)):=by
 have hw:=h.win
 have hd:=h.dn
 have hh:=h.head t h1 h2
 generalize f ⟨2,t % (g.size:Int),0⟩=v at *
 rw [Bool.eq_iff_iff]
 unfold overV laidV
 simp only [Bool.or_eq_true,Bool.and_eq_true,decide_eq_true_eq,beq_iff_eq]
 rcases hh with ⟨_,_,a3,a4⟩ | ⟨a1,a2⟩ | ⟨a1,a2⟩
 ·rw [← a4]; omega
 ·omega
 ·omega
end Go.Proofs.YtigfjedohdgjfaaGreatDoor
