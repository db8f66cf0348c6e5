/- The program's machine of layer 8 beside a memory, whatever the ring's size; above what was there, beside rows that are kept. -/
import Derived.Test.YtigfjedohdgjfaaGreatDoorJCqCCqD
import Derived.Test.YtigfjedohdgjfaaGreatDoorJMemFMemN
namespace Go.Proofs.YtigfjedohdgjfaaGreatDoor.Co
open Go.ChangeShapes Go.WideShapes Go.ChangeAt Go.RowKit
attribute [local go_sem ↓] Go.wp_at_zero Go.wp_at_succ
theorem memAt_low {w:World} {base base':Nat} {p:Value} {c r:Nat} {L:List Ac} {F:List Nat} (h:MemAt w base p c r L F) (hb:base'≤base):MemAt w base' p c r L F:=by
 obtain ⟨M,H,S,C,v,h⟩:=h
 exact ⟨M,H,S,C,v,h.p,h.m,own_base h.own hb,h.F,by have:=h.bM; omega,by have:=h.bH; omega,by have:=h.bS; omega,by have:=h.bC; omega,h.c,h.r⟩
def Gd (L:List Ac):Prop:=∀ a,W64 (wordOf L a)
theorem gd_load {c r:Nat} {L:List Ac} {t:Int} {a:Ad} (h:Gd L):Gd (loadL c r L t a):=fun x=>by rw [wordOf_load]; exact h x
def nextK (r:Nat) (P:Cp) (b:Ck) (L:List Ac):Ck:=if goesK r P b then stepK P b (wordOf L (adK P b)) else b
def nextKL (c r:Nat) (P:Cp) (b:Ck) (L:List Ac) (t:Int):List Ac:=if goesK r P b then loadL c r L t (adK P b) else L
def ansKK (r:Nat) (P:Cp) (b:Ck) (L:List Ac):Int:=if goesK r P b then kindK P b (wordOf L (adK P b)) else 0
def errKK (r:Nat) (P:Cp) (b:Ck) (L:List Ac):Int:=if goesK r P b then errK P b (wordOf L (adK P b)) else 0
theorem goesK_iff {r:Nat} {P:Cp} {b:Ck}:goesK r P b=true ↔ ¬ thr b∧r=P.s:=by unfold goesK thr; simp
theorem gd_next {c r:Nat} {P:Cp} {b:Ck} {L:List Ac} {t:Int} (hg:Gd L):Gd (nextKL c r P b L t):=by
 unfold nextKL
 split
 ·exact gd_load hg
 ·exact hg
theorem nextKL_len (c r:Nat) (P:Cp) (b:Ck) (L:List Ac) (t:Int):(nextKL c r P b L t).length≤L.length+1:=by
 unfold nextKL loadL
 repeat' split
 all_goals simp
structure KS (w:World) (base:Nat) (p:Value) (c r:Nat) (L:List Ac) (F:List Nat) (X:Nat) (P:Cp) (b:Ck):Prop where
 mem:MemAt w base p c r L F
 at_:KAt w X P b
 out:X ∉ F
 lo:base≤X
theorem KS.lt {w:World} {base:Nat} {p:Value} {c r:Nat} {L:List Ac} {F:List Nat} {X:Nat} {P:Cp} {b:Ck} (h:KS w base p c r L F X P b) : ∀ q ∈ X :: F,base≤q∧q < w.heap.size:=fun q hq=>by
 rcases List.mem_cons.1 hq with rfl | hq
 ·exact ⟨h.lo,heap_lt h.at_⟩
 ·exact h.mem.lt q hq
theorem KS.keep {w w':World} {base:Nat} {p:Value} {c r:Nat} {L:List Ac} {F G:List Nat} {X:Nat} {P:Cp} {b:Ck} (h:KS w base p c r L F X P b) (k:Keep G w w') (hd : ∀ q ∈ X :: F,q ∉ G):KS w' base p c r L F X P b :=
 ⟨h.mem.keep k (fun q hq=>hd q (by simp [hq])),h.at_.keep k (hd X (by simp)),h.out,h.lo⟩
theorem KS.onMem {w w':World} {base:Nat} {p:Value} {c r:Nat} {L L':List Ac} {F F':List Nat} {X:Nat} {P:Cp} {b:Ck} (h:KS w base p c r L F X P b) (hm:MemAt w' base p c r L' F') (hn:Next F F' w w'):KS w' base p c r L' F' X P b :=
 ⟨hm,h.at_.keep hn.1 h.out,fun e=>by
    rcases hn.2 X e with h1 | h1
    · exact h.out h1
    · have:=heap_lt h.at_; omega,h.lo⟩
end Go.Proofs.YtigfjedohdgjfaaGreatDoor.Co
namespace Go.Proofs.YtigfjedohdgjfaaGreatDoor.Co
structure Cu where
 st:Int
 seen:Int
 stamp:Int
def cuNew:Cu:=⟨0,0,0⟩
def nwA:Ad:=⟨1,0,0⟩
def goesC (r:Nat) (P:Cp) (u:Cu):Bool:=decide (u.st≠3) && decide (r=P.s)
def lookS (P:Cp) (u:Cu):Int:=if P.ex.mu then u.seen+1 else u.seen
def lookA (P:Cp) (u:Cu):Ad:=⟨2,slotV (lookS P u) P.s,0⟩
def lookY (P:Cp) (u:Cu) (v:Int):Bool:=if P.ex.mu then freeV v (u.seen+1) P.s else overV v u.seen
def spent (P:Cp) (n:Int):Bool:=decide (n < 0) || decide (P.ex.n≤n)
def heldU (P:Cp) (u:Cu) (n:Int):Cu:=if spent P n then ⟨3,n,u.stamp⟩ else if n=0∧P.ex.mu=false then ⟨2,n,u.stamp⟩ else ⟨1,n,u.stamp⟩
def heldK (P:Cp) (n:Int):Int:=if spent P n then 4 else 2
def heldE (P:Cp) (n:Int):Int:=if spent P n then 6 else 0
def holdU (r:Nat) (P:Cp) (b:Ck) (u:Cu) (L:List Ac):Cu:=if ansKK r P b L=4 then ⟨3,u.seen,u.stamp⟩ else if ansKK r P b L=3 then heldU P u (nextK r P b L).seen else u
def holdA (r:Nat) (P:Cp) (b:Ck) (L:List Ac):Int:=if ansKK r P b L=3 then heldK P (nextK r P b L).seen else ansKK r P b L
def holdE (r:Nat) (P:Cp) (b:Ck) (L:List Ac):Int:=if ansKK r P b L=3 then heldE P (nextK r P b L).seen else errKK r P b L
def looksY (P:Cp) (u:Cu) (L:List Ac):Bool:=lookY P u (wordOf L (lookA P u))
def lookU (P:Cp) (u:Cu) (L:List Ac):Cu:=if looksY P u L then ⟨2,u.seen,u.stamp⟩ else u
def swapsY (u:Cu) (L:List Ac):Bool:=wordOf L nwA == u.seen
def swapU (u:Cu) (L:List Ac):Cu:=if swapsY u L then ⟨3,u.seen,u.seen+1⟩ else ⟨0,u.seen,u.stamp⟩
def swapB (P:Cp) (b:Ck) (u:Cu) (L:List Ac):Ck:=if swapsY u L then b else ckNew P
def nextU (r:Nat) (P:Cp) (b:Ck) (u:Cu) (L:List Ac):Cu:=if goesC r P u then (if u.st=0 then holdU r P b u L else if u.st=1 then lookU P u L else swapU u L) else u
def nextCB (r:Nat) (P:Cp) (b:Ck) (u:Cu) (L:List Ac):Ck:=if goesC r P u then (if u.st=0 then nextK r P b L else if u.st=1 then b else swapB P b u L) else b
def nextCL (c r:Nat) (P:Cp) (b:Ck) (u:Cu) (L:List Ac) (t:Int):List Ac:=if goesC r P u then (if u.st=0 then nextKL c r P b L t else if u.st=1 then loadL c r L t (lookA P u) else swapL c r L t nwA u.seen (u.seen+1)) else L
def ansZ (r:Nat) (P:Cp) (b:Ck) (u:Cu) (L:List Ac):Int:=if goesC r P u then (if u.st=0 then holdA r P b L else if u.st=1 then (if looksY P u L then 2 else 1) else (if swapsY u L then 3 else 2)) else 0
def errZ (r:Nat) (P:Cp) (b:Ck) (u:Cu) (L:List Ac):Int:=if goesC r P u then (if u.st=0 then holdE r P b L else 0) else 0
def valZ (r:Nat) (P:Cp) (u:Cu) (L:List Ac):Int:=if goesC r P u then (if u.st=0 then 0 else if u.st=1 then 0 else (if swapsY u L then u.seen+1 else 0)) else 0
theorem goesC_iff {r:Nat} {P:Cp} {u:Cu}:goesC r P u=true ↔ u.st≠3∧r=P.s:=by unfold goesC; simp
structure COk (P:Cp) (b:Ck) (u:Cu):Prop where
 k : ∃ n,KOk P b n
 last:P.last=false
 n1:1≤P.ex.n
 n2:P.ex.n≤1099511627776
 c:(u.st=0 ∧ ¬ thr b)∨((u.st=1∨u.st=2)∧0≤u.seen∧u.seen < P.ex.n)∨u.st=3
theorem cok_new {P:Cp} (h:POk P) (hl:P.last=false) (h1:1≤P.ex.n) (h2:P.ex.n≤1099511627776):COk P (ckNew P) cuNew :=
 ⟨⟨0,kok_new h⟩,hl,h1,h2,Or.inl ⟨rfl,fun e=>by unfold thr ckNew at e; simp at e⟩⟩
theorem ansKK_go {r:Nat} {P:Cp} {b:Ck} {L:List Ac} (hg:goesK r P b=true):(thr (nextK r P b L) ↔ ansKK r P b L=3∨ansKK r P b L=4)∧(ansKK r P b L=3→(nextK r P b L).st=4)∧ansKK r P b L≠0:=by
 unfold ansKK nextK
 rw [if_pos hg,if_pos hg]
 have ht:=(goesK_iff.mp hg).1
 unfold kindK
 by_cases hw:waitK b (wordOf L (adK P b))=true
 ·rw [if_pos hw]
  have hs:stepK P b (wordOf L (adK P b))=b:=by
   have h':=hw
   unfold waitK at h'
   simp only [Bool.and_eq_true, Bool.not_eq_true', decide_eq_true_eq] at h'
   unfold stepK lookK
   rw [if_neg (by omega),if_pos h'.1.1,h'.1.2,h'.2]
   simp
  rw [hs]
  exact ⟨⟨fun e=>absurd e ht,fun e=>by omega⟩,fun e=>by omega,by omega⟩
 ·rw [if_neg hw]
  unfold kindV thr
  split
  ·next e=>exact ⟨by simp [e],fun _=>e,by omega⟩
  ·next e =>
   split
   ·next e2=>exact ⟨by simp [e2],fun e=>by omega,by omega⟩
   ·next e2=>exact ⟨by simp [e,e2],fun e=>by omega,by omega⟩
theorem cok_next {r:Nat} {P:Cp} {b:Ck} {u:Cu} {L:List Ac} (h:COk P b u) (hg:goesC r P u=true→u.st=0→W64 (wordOf L (adK P b))):COk P (nextCB r P b u L) (nextU r P b u L):=by
 obtain ⟨n,hk⟩:=h.k
 unfold nextCB nextU
 by_cases e:goesC r P u=true
 ·rw [if_pos e,if_pos e]
  obtain ⟨e3,er⟩:=goesC_iff.mp e
  by_cases e0:u.st=0
  ·rw [if_pos e0,if_pos e0]
   have ht : ¬ thr b:=by
    rcases h.c with c | c | c
    ·exact c.2
    ·omega
    ·omega
   have hgo:goesK r P b=true:=goesK_iff.mpr ⟨ht,er⟩
   obtain ⟨a1,a2,a3⟩:=ansKK_go (L:=L) hgo
   have hk' : ∃ n,KOk P (nextK r P b L) n:=⟨_,by
        unfold nextK; rw [if_pos hgo]; exact kok_step hk (hg e e0) ht⟩
   refine ⟨hk', h.last, h.n1, h.n2, ?_⟩
   unfold holdU
   by_cases k4:ansKK r P b L=4
   ·rw [if_pos k4]; exact Or.inr (Or.inr rfl)
   ·rw [if_neg k4]
    by_cases k3:ansKK r P b L=3
    ·rw [if_pos k3]
     unfold heldU
     by_cases hs:spent P (nextK r P b L).seen=true
     ·rw [if_pos hs]; exact Or.inr (Or.inr rfl)
     ·rw [if_neg hs]
      unfold spent at hs
      simp at hs
      split
      ·exact Or.inr (Or.inl ⟨Or.inr rfl,hs.1,hs.2⟩)
      ·exact Or.inr (Or.inl ⟨Or.inl rfl,hs.1,hs.2⟩)
    ·rw [if_neg k3]
     exact Or.inl ⟨e0,fun e=>by rcases a1.mp e with e | e <;> omega⟩
  ·rw [if_neg e0,if_neg e0]
   have hc:(u.st=1∨u.st=2)∧0≤u.seen∧u.seen < P.ex.n:=by
    rcases h.c with c | c | c
    ·omega
    ·exact c
    ·omega
   by_cases e1:u.st=1
   ·rw [if_pos e1,if_pos e1]
    refine ⟨⟨n,hk⟩,h.last,h.n1,h.n2, ?_⟩
    unfold lookU
    split
    ·exact Or.inr (Or.inl ⟨Or.inr rfl,hc.2⟩)
    ·exact Or.inr (Or.inl hc)
   ·rw [if_neg e1,if_neg e1]
    unfold swapB swapU
    by_cases y:swapsY u L=true
    ·rw [if_pos y,if_pos y]
     exact ⟨⟨n,hk⟩,h.last,h.n1,h.n2,Or.inr (Or.inr rfl)⟩
    ·rw [if_neg y,if_neg y]
     exact ⟨⟨0,kok_new hk.p⟩,h.last,h.n1,h.n2,Or.inl ⟨rfl,fun e=>by unfold thr ckNew at e; simp at e⟩⟩
 ·rw [if_neg e,if_neg e]; exact h
theorem nextCL_len (c r:Nat) (P:Cp) (b:Ck) (u:Cu) (L:List Ac) (t:Int):(nextCL c r P b u L t).length≤L.length+1:=by
 unfold nextCL
 split
 ·split
  ·exact nextKL_len c r P b L t
  ·split
   ·unfold loadL; split <;> simp
   ·unfold swapL; split <;> simp
 ·simp
theorem gd_swap {c r:Nat} {L:List Ac} {t:Int} {a:Ad} {o z:Int} (h:Gd L) (hz:W64 z):Gd (swapL c r L t a o z):=fun x=>by
 unfold swapL
 split
 ·by_cases e:(wordOf L a == o)=true
  ·rw [wordOf_hit (Or.inr ⟨rfl,e⟩)]
   unfold upd
   split
   ·exact hz
   ·exact h x
  ·rw [wordOf_miss (by simp at e; simp [e])]
   exact h x
 ·exact h x
theorem gd_nextC {c r:Nat} {P:Cp} {b:Ck} {u:Cu} {L:List Ac} {t:Int} (h:COk P b u) (hg:Gd L):Gd (nextCL c r P b u L t):=by
 unfold nextCL
 split
 ·next e =>
  split
  ·exact gd_next hg
  ·next e0 =>
   split
   ·exact gd_load hg
   ·refine gd_swap hg ?_
    have e3:=(goesC_iff.mp e).1
    have hn:=h.n2
    rcases h.c with c | c | c
    ·omega
    ·unfold W64; omega
    ·omega
 ·exact hg
end Go.Proofs.YtigfjedohdgjfaaGreatDoor.Co
