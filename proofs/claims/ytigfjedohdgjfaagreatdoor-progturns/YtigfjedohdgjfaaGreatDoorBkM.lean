/- The machine of layer 11 as plain numbers: what a step makes of it. -/
import Derived.Test.YtigfjedohdgjfaaGreatDoorJMemMBegM
import Derived.Test.YtigfjedohdgjfaaGreatDoorJSigMFcM
import Derived.Test.YtigfjedohdgjfaaGreatDoorGroM
import Derived.Test.YtigfjedohdgjfaaGreatDoorJMemCAns
namespace Go.Proofs.YtigfjedohdgjfaaGreatDoor.Ba
open Go.RowKit (wrap64)
def fsW (rd:List Nat) (k:Nat):Nat:=((List.range' k (8 - k)).filter fun j=>rd.getD j 0 != 0).headD 8
theorem fsW_yes {rd:List Nat} {k:Nat} (h:k < 8) (hr:rd.getD k 0≠0):fsW rd k=k:=by
 unfold fsW
 obtain ⟨m,hm⟩ : ∃ m,8 - k=m+1:=⟨7 - k,by omega⟩
 rw [hm,List.range'_succ,List.filter_cons_of_pos (by simpa using hr)]
 rfl
theorem fsW_no {rd:List Nat} {k:Nat} (h:k < 8) (hr:rd.getD k 0=0):fsW rd k=fsW rd (k+1):=by
 unfold fsW
 obtain ⟨m,hm⟩ : ∃ m,8 - k=m+1:=⟨7 - k,by omega⟩
 have h2:8 - (k+1)=m:=by omega
 rw [hm,h2,List.range'_succ,List.filter_cons_of_neg (by rw [hr]; simp)]
theorem fsW_end (rd:List Nat):fsW rd 8=8:=rfl
theorem fsW_bd (rd:List Nat) (k:Nat) (hk:k≤8):k≤fsW rd k∧fsW rd k≤8:=by
 by_cases e:k=8
 ·subst e; rw [fsW_end]; exact ⟨Nat.le_refl _,Nat.le_refl _⟩
 ·by_cases hr:rd.getD k 0=0
  ·have:=fsW_bd rd (k+1) (by omega)
   rw [fsW_no (by omega) hr]
   omega
  ·rw [fsW_yes (by omega) hr]
   omega
termination_by 8 - k
theorem fsW_hit (rd:List Nat) (k:Nat) (hk:k≤8):(fsW rd k < 8→rd.getD (fsW rd k) 0≠0) ∧ ∀ j,k≤j→j < fsW rd k→rd.getD j 0=0:=by
 by_cases e:k=8
 ·subst e; rw [fsW_end]; exact ⟨fun h=>by omega,fun j h1 h2=>by omega⟩
 ·by_cases hr:rd.getD k 0=0
  ·have:=fsW_hit rd (k+1) (by omega)
   rw [fsW_no (by omega) hr]
   refine ⟨this.1,fun j h1 h2 => ?_⟩
   by_cases ej:j=k
   ·subst ej; exact hr
   ·exact this.2 j (by omega) h2
  ·rw [fsW_yes (by omega) hr]
   exact ⟨fun _=>hr,fun j h1 h2=>by omega⟩
termination_by 8 - k
structure Bp where
 s:Nat
 st:Int
 W:List Wt
 sg:List Nat
structure Bk where
 nx:Nat
 wd:Nat
 old:Int
 kn:Bool
 wr:Nat
def hitS (rd:List Nat) (j:Nat) (v:Int):Bool:=((IntKind.u64.wrap v).toNat &&& rd.getD j 0) != 0
def goB (P:Bp) (b:Bk):Bk:=⟨if b.wr < P.W.length then 6 else if b.kn then 8 else 7,b.wd,b.old,b.kn,b.wr⟩
def lookAtB (P:Bp) (b:Bk) (st:Int):Bk:=if st < 1∨st≤P.st - (P.s:Int) then goB P b else ⟨3,b.wd,st,b.kn,b.wr⟩
def toWordB (P:Bp) (b:Bk):Bk:=if fsW P.sg b.wd < 8 then ⟨4,fsW P.sg b.wd,b.old,b.kn,b.wr⟩ else lookAtB P ⟨b.nx,8,b.old,b.kn,b.wr⟩ (b.old - 1)
def overB (P:Bp) (b:Bk):Bk:=goB P ⟨b.nx,b.wd,b.old,b.old == P.st - 1,b.wr⟩
def waitB (P:Bp) (b:Bk) (v:Int):Bool:=if b.nx=3 then !overV v b.old && !laidV v b.old else if b.nx=5 then !overV v b.old else if b.nx=7 then !overV v (P.st - 1) else false
def stepB (P:Bp) (b:Bk) (v:Int):Bk :=
 if waitB P b v then b
 else if b.nx=1 then ⟨if b.wd+1=8 then 2 else 1,b.wd+1,b.old,b.kn,b.wr⟩
 else if b.nx=2 then (if b.kn then goB P b else lookAtB P b (P.st - 1))
 else if b.nx=3 then (if overV v b.old then overB P b else toWordB P ⟨b.nx,0,b.old,b.kn,b.wr⟩)
 else if b.nx=4 then (if hitS P.sg b.wd v then ⟨5,b.wd,b.old,b.kn,b.wr⟩ else toWordB P ⟨b.nx,b.wd+1,b.old,b.kn,b.wr⟩)
 else if b.nx=5 then overB P b
 else if b.nx=6 then goB P ⟨b.nx,b.wd,b.old,b.kn,b.wr+1⟩
 else if b.nx=7 then goB P ⟨b.nx,b.wd,b.old,true,b.wr⟩
 else ⟨0,b.wd,b.old,b.kn,b.wr⟩
def adB (P:Bp) (b:Bk):Ad :=
 if b.nx=1 then ⟨3,slotV P.st P.s,(b.wd:Int)⟩ else if b.nx=3∨b.nx=5 then ⟨2,slotV b.old P.s,0⟩ else if b.nx=4 then ⟨3,slotV b.old P.s,(b.wd:Int)⟩
 else if b.nx=6 then ⟨4,(P.W.getD b.wr noWt).c,0⟩ else if b.nx=7 then ⟨2,slotV (P.st - 1) P.s,0⟩ else ⟨2,slotV P.st P.s,0⟩
def valB (P:Bp) (b:Bk):Int:=if b.nx=1 then wrap64 ((P.sg.getD b.wd 0:Nat):Int) else if b.nx=6 then (P.W.getD b.wr noWt).v else if b.nx=8 then 2 * P.st+1 else 2 * P.st
def ldB (b:Bk):Bool:=b.nx == 3 || b.nx == 4 || b.nx == 5 || b.nx == 7
def goesB (c r:Nat) (P:Bp) (b:Bk):Bool:=decide (b.nx≠0) && decide (r=P.s) && P.W.all fun x=>decide (x.c < (c:Int))
def accL (c r:Nat) (P:Bp) (b:Bk) (L:List Ac) (t:Int):List Ac:=if ldB b then loadL c r L t (adB P b) else storeL c r L t (adB P b) (valB P b)
def nextBL (c r:Nat) (P:Bp) (b:Bk) (L:List Ac) (t:Int):List Ac:=if goesB c r P b then accL c r P b L t else L
def nextBk (c r:Nat) (P:Bp) (b:Bk) (L:List Ac):Bk:=if goesB c r P b then stepB P b (wordOf L (adB P b)) else b
def ansBk (c r:Nat) (P:Bp) (b:Bk) (L:List Ac):Int:=if goesB c r P b then (if waitB P b (wordOf L (adB P b)) then 1 else if b.nx=8 then 3 else 2) else 0
theorem goesB_iff {c r:Nat} {P:Bp} {b:Bk}:goesB c r P b=true ↔ b.nx≠0∧r=P.s ∧ ∀ x ∈ P.W,x.c < (c:Int):=by
 simp [goesB,and_assoc]
def sgOf (W:List Wt):List Nat:=W.foldl (fun s x=>Sg.put s (Sg.sigN x.c)) Sg.nought
theorem sgOf_snoc (W:List Wt) (x:Wt):sgOf (W ++ [x])=Sg.put (sgOf W) (Sg.sigN x.c):=by unfold sgOf; rw [List.foldl_append]; rfl
theorem sgOf_ok (W:List Wt):Sg.Ok (sgOf W):=by
 have : ∀ (W:List Wt) (s:List Nat),Sg.Ok s→Sg.Ok (W.foldl (fun s x=>Sg.put s (Sg.sigN x.c)) s):=fun W=>by
  induction W with
  | nil=>intro s h; exact h
  | cons x W ih=>intro s h; exact ih _ (Sg.ok_put h _ (Sg.sigN_lt _))
 exact this W _ Sg.ok_nought
structure BpOk (P:Bp):Prop where
 s1:1≤P.s
 s16:P.s≤16
 st1:1≤P.st
 st2:P.st≤1099511627776
 len:P.W.length≤24
 cell : ∀ x ∈ P.W,0≤x.c∧x.c < 1024∧W64 x.v
 sg:P.sg=sgOf P.W
def olderOk (P:Bp) (k:Int):Prop:=1≤k∧k < P.st∧P.st - (P.s:Int) < k
structure BkOk (P:Bp) (b:Bk):Prop where
 p:BpOk P
 nx:b.nx≤8
 wr:b.wr≤P.W.length
 wd:b.wd≤8
 kn:b.kn=false→olderOk P (P.st - 1)
 early:b.nx=1∨b.nx=2∨b.nx=3∨b.nx=4∨b.nx=5→b.wr=0
 w1:b.nx=1→b.wd < 8
 w4:b.nx=4→b.wd < 8∧P.sg.getD b.wd 0≠0
 old:b.nx=3∨b.nx=4∨b.nx=5→olderOk P b.old∧b.kn=false
 wr6:b.nx=6→b.wr < P.W.length
 late:b.nx=7∨b.nx=8∨b.nx=0→b.wr=P.W.length
 n7:b.nx=7→b.kn=false
 n8:b.nx=8∨b.nx=0→b.kn=true
def bkNew (P:Bp) (mu:Bool):Bk:=⟨1,0,0,!mu || decide (P.s=1) || decide (P.st=1),0⟩
theorem bk_new {P:Bp} (h:BpOk P) (mu:Bool):BkOk P (bkNew P mu):=by
 have h1:=h.s1
 have h2:=h.st1
 refine ⟨h,by simp [bkNew],by simp [bkNew],by simp [bkNew],fun e => ?_,fun _=>rfl,fun _=>by simp [bkNew],fun e=>by simp [bkNew] at e,fun e=>by simp [bkNew] at e,fun e=>by simp [bkNew] at e,fun e=>by simp [bkNew] at e,fun e=>by simp [bkNew] at e,fun e=>by simp [bkNew] at e⟩
 simp [bkNew] at e
 exact ⟨by omega,by omega,by omega⟩
theorem go_ok {P:Bp} {b:Bk} (p:BpOk P) (wr:b.wr≤P.W.length) (wd:b.wd≤8) (kn:b.kn=false→olderOk P (P.st - 1)):BkOk P (goB P b):=by
 unfold goB
 by_cases h:b.wr < P.W.length
 ·rw [if_pos h]
  exact ⟨p,by simp,wr,wd,kn,by simp,by simp,by simp,by simp,fun _=>h,by simp,by simp,by simp⟩
 ·rw [if_neg h]
  by_cases hk:b.kn=true
  ·rw [if_pos hk]
   exact ⟨p,by simp,wr,wd,kn,by simp,by simp,by simp,by simp,by simp,fun _=>by simp only; omega,by simp,fun _=>hk⟩
  ·rw [if_neg hk]
   exact ⟨p,by simp,wr,wd,kn,by simp,by simp,by simp,by simp,by simp,fun _=>by simp only; omega,fun _=>by simpa using hk,by simp⟩
theorem lookAt_ok {P:Bp} {b:Bk} {st:Int} (p:BpOk P) (wr:b.wr=0) (wd:b.wd≤8) (kn:b.kn=false) (ho:olderOk P (P.st - 1)) (hs:st < P.st):BkOk P (lookAtB P b st):=by
 unfold lookAtB
 split
 ·exact go_ok p (by omega) wd (fun _=>ho)
 ·next h =>
  exact ⟨p,by simp,by simp only; omega,wd,fun _=>ho,fun _=>wr,by simp,by simp,fun _=>⟨⟨by simp only; omega,hs,by simp only; omega⟩,kn⟩,by simp,by simp,by simp,by simp⟩
theorem toWord_ok {P:Bp} {b:Bk} (p:BpOk P) (wr:b.wr=0) (wd:b.wd≤8) (kn:b.kn=false) (ho:olderOk P (P.st - 1)) (hs:olderOk P b.old):BkOk P (toWordB P b):=by
 unfold toWordB
 have hf:=fsW_bd P.sg b.wd wd
 have hh:=fsW_hit P.sg b.wd wd
 split
 ·next h=>exact ⟨p,by simp,by simp only; omega,by simp only; omega,fun _=>ho,fun _=>wr,by simp,fun _=>⟨h,hh.1 h⟩,fun _=>⟨hs,kn⟩,by simp,by simp,by simp,by simp⟩
 ·exact lookAt_ok p wr (by simp) kn ho (by have:=hs.2.1; omega)
theorem bk_step {P:Bp} {b:Bk} (h:BkOk P b) (v:Int):BkOk P (stepB P b v):=by
 unfold stepB
 have hw:=h.wr
 have hd:=h.wd
 split
 ·exact h
 ·split
  ·next e =>
   have:=h.w1 e
   have h0:=h.early (Or.inl e)
   by_cases e8:b.wd+1=8
   ·rw [if_pos e8]
    exact ⟨h.p,by simp,by simp only; omega,by simp only; omega,h.kn,fun _=>h0,by simp,by simp,by simp,by simp,by simp,by simp,by simp⟩
   ·rw [if_neg e8]
    exact ⟨h.p,by simp,by simp only; omega,by simp only; omega,h.kn,fun _=>h0,fun _=>by simp only; omega,by simp,by simp,by simp,by simp,by simp,by simp⟩
  ·split
   ·next e =>
    have h0:=h.early (Or.inr (Or.inl e))
    split
    ·exact go_ok h.p hw hd h.kn
    ·next hk=>exact lookAt_ok h.p h0 hd (by simpa using hk) (h.kn (by simpa using hk)) (by omega)
   ·split
    ·next e =>
     have h0:=h.early (by simp [e])
     have ho:=h.old (by simp [e])
     split
     ·exact go_ok h.p hw hd (fun _=>h.kn ho.2)
     ·exact toWord_ok h.p h0 (by simp) ho.2 (h.kn ho.2) ho.1
    ·split
     ·next e =>
      have h0:=h.early (by simp [e])
      have ho:=h.old (by simp [e])
      have h4:=h.w4 e
      split
      ·exact ⟨h.p,by simp,by simp only; omega,by simp only; omega,h.kn,fun _=>h0,by simp,by simp,fun _=>ho,by simp,by simp,by simp,by simp⟩
      ·exact toWord_ok h.p h0 (by simp only; omega) ho.2 (h.kn ho.2) ho.1
     ·split
      ·next e =>
       have ho:=h.old (by simp [e])
       exact go_ok h.p hw hd (fun _=>h.kn ho.2)
      ·split
       ·next e =>
        have:=h.wr6 e
        exact go_ok h.p (by simp only; omega) hd h.kn
       ·split
        ·exact go_ok h.p hw hd (by simp)
        ·next e1 e2 e3 e4 e5 e6 e7 =>
         have hn:=h.nx
         have e8:b.nx=8∨b.nx=0:=by omega
         exact ⟨h.p,by simp,hw,hd,h.kn,by simp,by simp,by simp,by simp,by simp,fun _=>h.late (by omega),by simp,fun _=>h.n8 e8⟩
theorem bk_next {P:Bp} {b:Bk} (h:BkOk P b) (c r:Nat) (L:List Ac):BkOk P (nextBk c r P b L):=by
 unfold nextBk
 split
 ·exact bk_step h _
 ·exact h
theorem slotB_bd {P:Bp} (h:BpOk P) (st:Int):0≤slotV st P.s∧slotV st P.s < (P.s:Int) :=
 slotV_bd st P.s (sizeOk_iff.mpr ⟨by have:=h.s1; omega,by have:=h.s16; omega⟩)
theorem accL_len {c r:Nat} {P:Bp} {b:Bk} {L:List Ac} {t:Int}:(accL c r P b L t).length≤L.length+1:=by
 unfold accL loadL storeL
 split <;> split <;> simp
theorem nextBL_len {c r:Nat} {P:Bp} {b:Bk} {L:List Ac} {t:Int}:(nextBL c r P b L t).length≤L.length+1:=by
 unfold nextBL
 split
 ·exact accL_len
 ·omega
end Go.Proofs.YtigfjedohdgjfaaGreatDoor.Ba
