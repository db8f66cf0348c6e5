/- The machine of layer 11 as plain numbers: what a step makes of it. -/
import Derived.Test.YtdkpgdkjohjcaaaGreatJMemMMath
import Derived.Test.YtdkpgdkjohjcaaaGreatJSigMFcM
import Derived.Test.YtdkpgdkjohjcaaaGreatGroM
import Derived.Test.YtdkpgdkjohjcaaaGreatJMemCAns
import Derived.Test.YtdkpgdkjohjcaaaGreatJRngAMemB
import Derived.Test.YtdkpgdkjohjcaaaGreatJSigPSigU
import Derived.RegionTactic
import Derived.BigRegion
import Derived.Laws.EntriesVeiled
import Derived.Deep.RegionHeld3
set_option maxHeartbeats 6400000
set_option maxRecDepth 10000
namespace Go.Proofs.YtdkpgdkjohjcaaaGreat.Ba
open Go.RowKit (wrap64)
def fsW (rd:List Nat) (k:Nat):Nat:=((List.range' k (8 - k)).filter fun j=>rd.getD j 0 != 0).headD 8
theorem fsW_yes {rd:List Nat} {k:Nat} (h:k < 8) (hr:rd.getD k 0≠0):fsW rd k=k:=by
 unfold fsW
 obtain ⟨m,hm⟩ : ∃ m,8 - k=m+1:=⟨7 - k,by omega⟩
 rw [hm,List.range'_succ,List.filter_cons_of_pos (by simpa using hr)]
 rfl
theorem fsW_no {rd:List Nat} {k:Nat} (h:k < 8) (hr:rd.getD k 0=0):fsW rd k=fsW rd (k+1):=by
 unfold fsW
 obtain ⟨m,hm⟩ : ∃ m,8 - k=m+1:=⟨7 - k,by omega⟩
 have h2:8 - (k+1)=m:=by omega
 rw [hm,h2,List.range'_succ,List.filter_cons_of_neg (by rw [hr]; simp)]
theorem fsW_end (rd:List Nat):fsW rd 8=8:=rfl
theorem fsW_bd (rd:List Nat) (k:Nat) (hk:k≤8):k≤fsW rd k∧fsW rd k≤8:=by
 by_cases e:k=8
 ·subst e; rw [fsW_end]; exact ⟨Nat.le_refl _,Nat.le_refl _⟩
 ·by_cases hr:rd.getD k 0=0
  ·have:=fsW_bd rd (k+1) (by omega)
   rw [fsW_no (by omega) hr]
   omega
  ·rw [fsW_yes (by omega) hr]
   omega
termination_by 8 - k
theorem fsW_hit (rd:List Nat) (k:Nat) (hk:k≤8):(fsW rd k < 8→rd.getD (fsW rd k) 0≠0) ∧ ∀ j,k≤j→j < fsW rd k→rd.getD j 0=0:=by
 by_cases e:k=8
 ·subst e; rw [fsW_end]; exact ⟨fun h=>by omega,fun j h1 h2=>by omega⟩
 ·by_cases hr:rd.getD k 0=0
  ·have:=fsW_hit rd (k+1) (by omega)
   rw [fsW_no (by omega) hr]
   refine ⟨this.1,fun j h1 h2 => ?_⟩
   by_cases ej:j=k
   ·subst ej; exact hr
   ·exact this.2 j (by omega) h2
  ·rw [fsW_yes (by omega) hr]
   exact ⟨fun _=>hr,fun j h1 h2=>by omega⟩
termination_by 8 - k
structure Bp where
 s:Nat
 st:Int
 W:List Wt
 sg:List Nat
structure Bk where
 nx:Nat
 wd:Nat
 old:Int
 kn:Bool
 wr:Nat
def hitS (rd:List Nat) (j:Nat) (v:Int):Bool:=((IntKind.u64.wrap v).toNat &&& rd.getD j 0) != 0
def goB (P:Bp) (b:Bk):Bk:=⟨if b.wr < P.W.length then 6 else if b.kn then 8 else 7,b.wd,b.old,b.kn,b.wr⟩
def lookAtB (P:Bp) (b:Bk) (st:Int):Bk:=if st < 1∨st≤P.st - (P.s:Int) then goB P b else ⟨3,b.wd,st,b.kn,b.wr⟩
def toWordB (P:Bp) (b:Bk):Bk:=if fsW P.sg b.wd < 8 then ⟨4,fsW P.sg b.wd,b.old,b.kn,b.wr⟩ else lookAtB P ⟨b.nx,8,b.old,b.kn,b.wr⟩ (b.old - 1)
def overB (P:Bp) (b:Bk):Bk:=goB P ⟨b.nx,b.wd,b.old,b.old == P.st - 1,b.wr⟩
def waitB (P:Bp) (b:Bk) (v:Int):Bool:=if b.nx=3 then !overV v b.old && !laidV v b.old else if b.nx=5 then !overV v b.old else if b.nx=7 then !overV v (P.st - 1) else false
def stepB (P:Bp) (b:Bk) (v:Int):Bk :=
 if waitB P b v then b
 else if b.nx=1 then ⟨if b.wd+1=8 then 2 else 1,b.wd+1,b.old,b.kn,b.wr⟩
 else if b.nx=2 then (if b.kn then goB P b else lookAtB P b (P.st - 1))
 else if b.nx=3 then (if overV v b.old then overB P b else toWordB P ⟨b.nx,0,b.old,b.kn,b.wr⟩)
 else if b.nx=4 then (if hitS P.sg b.wd v then ⟨5,b.wd,b.old,b.kn,b.wr⟩ else toWordB P ⟨b.nx,b.wd+1,b.old,b.kn,b.wr⟩)
 else if b.nx=5 then overB P b
 else if b.nx=6 then goB P ⟨b.nx,b.wd,b.old,b.kn,b.wr+1⟩
 else if b.nx=7 then goB P ⟨b.nx,b.wd,b.old,true,b.wr⟩
 else ⟨0,b.wd,b.old,b.kn,b.wr⟩
def adB (P:Bp) (b:Bk):Ad :=
 if b.nx=1 then ⟨3,slotV P.st P.s,(b.wd:Int)⟩ else if b.nx=3∨b.nx=5 then ⟨2,slotV b.old P.s,0⟩ else if b.nx=4 then ⟨3,slotV b.old P.s,(b.wd:Int)⟩
 else if b.nx=6 then ⟨4,(P.W.getD b.wr noWt).c,0⟩ else if b.nx=7 then ⟨2,slotV (P.st - 1) P.s,0⟩ else ⟨2,slotV P.st P.s,0⟩
def valB (P:Bp) (b:Bk):Int:=if b.nx=1 then wrap64 ((P.sg.getD b.wd 0:Nat):Int) else if b.nx=6 then (P.W.getD b.wr noWt).v else if b.nx=8 then 2 * P.st+1 else 2 * P.st
def ldB (b:Bk):Bool:=b.nx == 3 || b.nx == 4 || b.nx == 5 || b.nx == 7
def goesB (c r:Nat) (P:Bp) (b:Bk):Bool:=decide (b.nx≠0) && decide (r=P.s) && P.W.all fun x=>decide (x.c < (c:Int))
def accL (c r:Nat) (P:Bp) (b:Bk) (L:List Ac) (t:Int):List Ac:=if ldB b then loadL c r L t (adB P b) else storeL c r L t (adB P b) (valB P b)
def nextBL (c r:Nat) (P:Bp) (b:Bk) (L:List Ac) (t:Int):List Ac:=if goesB c r P b then accL c r P b L t else L
def nextBk (c r:Nat) (P:Bp) (b:Bk) (L:List Ac):Bk:=if goesB c r P b then stepB P b (wordOf L (adB P b)) else b
def ansBk (c r:Nat) (P:Bp) (b:Bk) (L:List Ac):Int:=if goesB c r P b then (if waitB P b (wordOf L (adB P b)) then 1 else if b.nx=8 then 3 else 2) else 0
theorem goesB_iff {c r:Nat} {P:Bp} {b:Bk}:goesB c r P b=true ↔ b.nx≠0∧r=P.s ∧ ∀ x ∈ P.W,x.c < (c:Int):=by
 simp [goesB,and_assoc]
def sgOf (W:List Wt):List Nat:=W.foldl (fun s x=>Sg.put s (Sg.sigN x.c)) Sg.nought
theorem sgOf_snoc (W:List Wt) (x:Wt):sgOf (W ++ [x])=Sg.put (sgOf W) (Sg.sigN x.c):=by unfold sgOf; rw [List.foldl_append]; rfl
theorem sgOf_ok (W:List Wt):Sg.Ok (sgOf W):=by
 have : ∀ (W:List Wt) (s:List Nat),Sg.Ok s→Sg.Ok (W.foldl (fun s x=>Sg.put s (Sg.sigN x.c)) s):=fun W=>by
  induction W with
  | nil=>intro s h; exact h
  | cons x W ih=>intro s h; exact ih _ (Sg.ok_put h _ (Sg.sigN_lt _))
 exact this W _ Sg.ok_nought
structure BpOk (P:Bp):Prop where
 s1:1≤P.s
 s16:P.s≤16
 st1:1≤P.st
 st2:P.st≤1099511627776
 len:P.W.length≤24
 cell : ∀ x ∈ P.W,0≤x.c∧x.c < 1024∧W64 x.v
 sg:P.sg=sgOf P.W
def olderOk (P:Bp) (k:Int):Prop:=1≤k∧k < P.st∧P.st - (P.s:Int) < k
structure BkOk (P:Bp) (b:Bk):Prop where
 p:BpOk P
 nx:b.nx≤8
 wr:b.wr≤P.W.length
 wd:b.wd≤8
 kn:b.kn=false→olderOk P (P.st - 1)
 early:b.nx=1∨b.nx=2∨b.nx=3∨b.nx=4∨b.nx=5→b.wr=0
 w1:b.nx=1→b.wd < 8
 w4:b.nx=4→b.wd < 8∧P.sg.getD b.wd 0≠0
 old:b.nx=3∨b.nx=4∨b.nx=5→olderOk P b.old∧b.kn=false
 wr6:b.nx=6→b.wr < P.W.length
 late:b.nx=7∨b.nx=8∨b.nx=0→b.wr=P.W.length
 n7:b.nx=7→b.kn=false
 n8:b.nx=8∨b.nx=0→b.kn=true
def bkNew (P:Bp) (mu:Bool):Bk:=⟨1,0,0,!mu || decide (P.s=1) || decide (P.st=1),0⟩
theorem bk_new {P:Bp} (h:BpOk P) (mu:Bool):BkOk P (bkNew P mu):=by
 have h1:=h.s1
 have h2:=h.st1
 refine ⟨h,by simp [bkNew],by simp [bkNew],by simp [bkNew],fun e => ?_,fun _=>rfl,fun _=>by simp [bkNew],fun e=>by simp [bkNew] at e,fun e=>by simp [bkNew] at e,fun e=>by simp [bkNew] at e,fun e=>by simp [bkNew] at e,fun e=>by simp [bkNew] at e,fun e=>by simp [bkNew] at e⟩
 simp [bkNew] at e
 exact ⟨by omega,by omega,by omega⟩
theorem go_ok {P:Bp} {b:Bk} (p:BpOk P) (wr:b.wr≤P.W.length) (wd:b.wd≤8) (kn:b.kn=false→olderOk P (P.st - 1)):BkOk P (goB P b):=by
 unfold goB
 by_cases h:b.wr < P.W.length
 ·rw [if_pos h]
  exact ⟨p,by simp,wr,wd,kn,by simp,by simp,by simp,by simp,fun _=>h,by simp,by simp,by simp⟩
 ·rw [if_neg h]
  by_cases hk:b.kn=true
  ·rw [if_pos hk]
   exact ⟨p,by simp,wr,wd,kn,by simp,by simp,by simp,by simp,by simp,fun _=>by simp only; omega,by simp,fun _=>hk⟩
  ·rw [if_neg hk]
   exact ⟨p,by simp,wr,wd,kn,by simp,by simp,by simp,by simp,by simp,fun _=>by simp only; omega,fun _=>by simpa using hk,by simp⟩
theorem lookAt_ok {P:Bp} {b:Bk} {st:Int} (p:BpOk P) (wr:b.wr=0) (wd:b.wd≤8) (kn:b.kn=false) (ho:olderOk P (P.st - 1)) (hs:st < P.st):BkOk P (lookAtB P b st):=by
 unfold lookAtB
 split
 ·exact go_ok p (by omega) wd (fun _=>ho)
 ·next h =>
  exact ⟨p,by simp,by simp only; omega,wd,fun _=>ho,fun _=>wr,by simp,by simp,fun _=>⟨⟨by simp only; omega,hs,by simp only; omega⟩,kn⟩,by simp,by simp,by simp,by simp⟩
theorem toWord_ok {P:Bp} {b:Bk} (p:BpOk P) (wr:b.wr=0) (wd:b.wd≤8) (kn:b.kn=false) (ho:olderOk P (P.st - 1)) (hs:olderOk P b.old):BkOk P (toWordB P b):=by
 unfold toWordB
 have hf:=fsW_bd P.sg b.wd wd
 have hh:=fsW_hit P.sg b.wd wd
 split
 ·next h=>exact ⟨p,by simp,by simp only; omega,by simp only; omega,fun _=>ho,fun _=>wr,by simp,fun _=>⟨h,hh.1 h⟩,fun _=>⟨hs,kn⟩,by simp,by simp,by simp,by simp⟩
 ·exact lookAt_ok p wr (by simp) kn ho (by have:=hs.2.1; omega)
theorem bk_step {P:Bp} {b:Bk} (h:BkOk P b) (v:Int):BkOk P (stepB P b v):=by
 unfold stepB
 have hw:=h.wr
 have hd:=h.wd
 split
 ·exact h
 ·split
  ·next e =>
   have:=h.w1 e
   have h0:=h.early (Or.inl e)
   by_cases e8:b.wd+1=8
   ·rw [if_pos e8]
    exact ⟨h.p,by simp,by simp only; omega,by simp only; omega,h.kn,fun _=>h0,by simp,by simp,by simp,by simp,by simp,by simp,by simp⟩
   ·rw [if_neg e8]
    exact ⟨h.p,by simp,by simp only; omega,by simp only; omega,h.kn,fun _=>h0,fun _=>by simp only; omega,by simp,by simp,by simp,by simp,by simp,by simp⟩
  ·split
   ·next e =>
    have h0:=h.early (Or.inr (Or.inl e))
    split
    ·exact go_ok h.p hw hd h.kn
    ·next hk=>exact lookAt_ok h.p h0 hd (by simpa using hk) (h.kn (by simpa using hk)) (by omega)
   ·split
    ·next e =>
     have h0:=h.early (by simp [e])
     have ho:=h.old (by simp [e])
     split
     ·exact go_ok h.p hw hd (fun _=>h.kn ho.2)
     ·exact toWord_ok h.p h0 (by simp) ho.2 (h.kn ho.2) ho.1
    ·split
     ·next e =>
      have h0:=h.early (by simp [e])
      have ho:=h.old (by simp [e])
      have h4:=h.w4 e
      split
      ·exact ⟨h.p,by simp,by simp only; omega,by simp only; omega,h.kn,fun _=>h0,by simp,by simp,fun _=>ho,by simp,by simp,by simp,by simp⟩
      ·exact toWord_ok h.p h0 (by simp only; omega) ho.2 (h.kn ho.2) ho.1
     ·split
      ·next e =>
       have ho:=h.old (by simp [e])
       exact go_ok h.p hw hd (fun _=>h.kn ho.2)
      ·split
       ·next e =>
        have:=h.wr6 e
        exact go_ok h.p (by simp only; omega) hd h.kn
       ·split
        ·exact go_ok h.p hw hd (by simp)
        ·next e1 e2 e3 e4 e5 e6 e7 =>
         have hn:=h.nx
         have e8:b.nx=8∨b.nx=0:=by omega
         exact ⟨h.p,by simp,hw,hd,h.kn,by simp,by simp,by simp,by simp,by simp,fun _=>h.late (by omega),by simp,fun _=>h.n8 e8⟩
theorem bk_next {P:Bp} {b:Bk} (h:BkOk P b) (c r:Nat) (L:List Ac):BkOk P (nextBk c r P b L):=by
 unfold nextBk
 split
 ·exact bk_step h _
 ·exact h
theorem slotB_bd {P:Bp} (h:BpOk P) (st:Int):0≤slotV st P.s∧slotV st P.s < (P.s:Int) :=
 slotV_bd st P.s (sizeOk_iff.mpr ⟨by have:=h.s1; omega,by have:=h.s16; omega⟩)
theorem adB_is {c r:Nat} {P:Bp} {b:Bk} (h:BkOk P b) (hg:goesB c r P b=true):isAd c r (adB P b)=true:=by
 obtain ⟨_,rfl,hc⟩:=goesB_iff.mp hg
 have s1:=slotB_bd h.p P.st
 have s2:=slotB_bd h.p b.old
 have s3:=slotB_bd h.p (P.st - 1)
 unfold adB
 split
 ·next e=>have:=h.w1 e; simp [isAd,s1]; omega
 ·split
  ·simp [isAd,s2]
  ·split
   ·next e=>have:=h.w4 e; simp [isAd,s2]; omega
   ·split
    ·next e =>
     have hl:=h.wr6 e
     have hm:P.W.getD b.wr noWt ∈ P.W:=by rw [List.getD_eq_getElem?_getD,List.getElem?_eq_getElem hl]; simp
     have h1:=(h.p.cell _ hm).1
     have h2:=hc _ hm
     generalize P.W.getD b.wr noWt=x at *
     simp [isAd,h1,h2]
    ·split
     ·simp [isAd,s3]
     ·simp [isAd,s1]
theorem accL_len {c r:Nat} {P:Bp} {b:Bk} {L:List Ac} {t:Int}:(accL c r P b L t).length≤L.length+1:=by
 unfold accL loadL storeL
 split <;> split <;> simp
theorem nextBL_len {c r:Nat} {P:Bp} {b:Bk} {L:List Ac} {t:Int}:(nextBL c r P b L t).length≤L.length+1:=by
 unfold nextBL
 split
 ·exact accL_len
 ·omega
theorem nextBL_word {c r:Nat} {P:Bp} {b:Bk} {L:List Ac} {t:Int} (h:BkOk P b):wordOf (nextBL c r P b L t)=if goesB c r P b=true∧ldB b=false then upd (wordOf L) (adB P b) (valB P b) else wordOf L:=by
 unfold nextBL accL
 by_cases hg:goesB c r P b=true
 ·have ha:=adB_is h hg
  rw [if_pos hg]
  cases hl:ldB b
  ·rw [if_neg (by simp),if_pos ⟨hg,rfl⟩]
   unfold storeL
   rw [if_pos ha]
   exact wordOf_hit (Or.inl rfl)
  ·rw [if_pos rfl,if_neg (by simp)]
   unfold loadL
   rw [if_pos ha]
   exact wordOf_miss rfl
 ·rw [if_neg hg,if_neg (fun e=>hg e.1)]
end Go.Proofs.YtdkpgdkjohjcaaaGreat.Ba
namespace Go.Proofs.YtdkpgdkjohjcaaaGreat.Ba
open Go.ChangeShapes Go.WideShapes Go.ChangeAt Go.RowKit
attribute [local go_sem ↓] Go.wp_at_zero Go.wp_at_succ
def fnB (k:Nat):Value :=
 if k=1 then .func (.func 79) #[] #[] else if k=2 then .func (.func 88) #[] #[] else if k=3 then .func (.func 101) #[] #[] else if k=4 then .func (.func 111) #[] #[]
 else if k=5 then .func (.func 112) #[] #[] else if k=6 then .func (.func 98) #[] #[] else if k=7 then .func (.func 99) #[] #[] else if k=8 then .func (.func 100) #[] #[] else .nilFunc
def bsV (s:List Nat) (i:Nat):Value:=.int .u64 ((s.getD i 0:Nat):Int)
def bkR (s:Int) (st:Int) (lv:Value) (sg:List Nat) (f:Value) (wd old:Int) (kn:Bool) (wr:Int):Array Value:=#[.int .i64 s,.int .i64 st,lv,bsV sg 0,bsV sg 1,bsV sg 2,bsV sg 3,bsV sg 4,bsV sg 5,bsV sg 6,bsV sg 7,f,.int .i64 wd,.int .i64 old,.bool kn,.int .i64 wr]
def BRaw (w:World) (Z:Nat) (s st:Int) (lv:Value) (sg:List Nat) (f:Value) (wd old:Int) (kn:Bool) (wr:Int):Prop:=w.heap[Z]? = some (.cells (bkR s st lv sg f wd old kn wr) 163 (0,0))
def BRow (w:World) (Z:Nat) (P:Bp) (b:Bk) (lv:Value):Prop:=BRaw w Z (P.s:Int) P.st lv P.sg (fnB b.nx) (b.wd:Int) b.old b.kn (b.wr:Int)
theorem BRaw.keep {w w':World} {Z:Nat} {s st:Int} {lv:Value} {sg:List Nat} {f:Value} {wd old:Int} {kn:Bool} {wr:Int} {F:List Nat} (h:BRaw w Z s st lv sg f wd old kn wr) (k:Keep F w w') (hx:Z ∉ F):BRaw w' Z s st lv sg f wd old kn wr:=by
 unfold BRaw; rw [k.block _ (heap_lt h) hx]; exact h
theorem BRaw.below {w w':World} {Z:Nat} {s st:Int} {lv:Value} {sg:List Nat} {f:Value} {wd old:Int} {kn:Bool} {wr:Int} {B:Nat} (h:BRaw w Z s st lv sg f wd old kn wr) (k:Below B w w') (hx:Z < B):BRaw w' Z s st lv sg f wd old kn wr:=by
 unfold BRaw; rw [k.block _ hx]; exact h
theorem BRaw.cells {w:World} {Z:Nat} {s st:Int} {lv:Value} {sg:List Nat} {f:Value} {wd old:Int} {kn:Bool} {wr:Int} (h:BRaw w Z s st lv sg f wd old kn wr):w.cell? ⟨Z,0,none⟩=some (.int .i64 s)∧w.cell? ⟨Z,1,none⟩=some (.int .i64 st)∧w.cell? ⟨Z,2,none⟩=some lv ∧
  w.cell? ⟨Z,11,none⟩=some f∧w.cell? ⟨Z,12,none⟩=some (.int .i64 wd)∧w.cell? ⟨Z,13,none⟩=some (.int .i64 old)∧w.cell? ⟨Z,14,none⟩=some (.bool kn)∧w.cell? ⟨Z,15,none⟩=some (.int .i64 wr) :=
 ⟨by rw [cell_at h]; rfl,by rw [cell_at h]; rfl,by rw [cell_at h]; rfl,by rw [cell_at h]; rfl,by rw [cell_at h]; rfl,by rw [cell_at h]; rfl,by rw [cell_at h]; rfl,by rw [cell_at h]; rfl⟩
theorem BRaw.sig {w:World} {Z:Nat} {s st:Int} {lv:Value} {sg:List Nat} {f:Value} {wd old:Int} {kn:Bool} {wr:Int} (h:BRaw w Z s st lv sg f wd old kn wr):w.cell? ⟨Z,3,none⟩=some (bsV sg 0)∧w.cell? ⟨Z,4,none⟩=some (bsV sg 1)∧w.cell? ⟨Z,5,none⟩=some (bsV sg 2)∧w.cell? ⟨Z,6,none⟩=some (bsV sg 3)∧w.cell? ⟨Z,7,none⟩=some (bsV sg 4)∧w.cell? ⟨Z,8,none⟩=some (bsV sg 5)∧w.cell? ⟨Z,9,none⟩=some (bsV sg 6)∧w.cell? ⟨Z,10,none⟩=some (bsV sg 7) :=
 ⟨by rw [cell_at h]; rfl,by rw [cell_at h]; rfl,by rw [cell_at h]; rfl,by rw [cell_at h]; rfl,by rw [cell_at h]; rfl,by rw [cell_at h]; rfl,by rw [cell_at h]; rfl,by rw [cell_at h]; rfl⟩
theorem BRaw.sigAt {w:World} {Z:Nat} {s st:Int} {lv:Value} {sg:List Nat} {f:Value} {wd old:Int} {kn:Bool} {wr:Int} (h:BRaw w Z s st lv sg f wd old kn wr) (j:Nat) (hj:j < 8):w.cell? ⟨Z,3+j,none⟩=some (bsV sg j):=by
 rw [cell_at h]
 match j,hj with
 | 0,_ | 1,_ | 2,_ | 3,_ | 4,_ | 5,_ | 6,_ | 7,_=>rfl
theorem BRaw.fz {w:World} {Z:Nat} {s st:Int} {lv:Value} {sg:List Nat} {f:Value} {wd old:Int} {kn:Bool} {wr:Int} (h:BRaw w Z s st lv sg f wd old kn wr):w.frozen? ⟨Z,11,none⟩=false∧w.frozen? ⟨Z,12,none⟩=false∧w.frozen? ⟨Z,13,none⟩=false∧w.frozen? ⟨Z,14,none⟩=false∧w.frozen? ⟨Z,15,none⟩=false:=⟨frozen_at h 11,frozen_at h 12,frozen_at h 13,frozen_at h 14,frozen_at h 15⟩
theorem BRaw.set11 {w:World} {Z:Nat} {s st:Int} {lv:Value} {sg:List Nat} {f:Value} {wd old:Int} {kn:Bool} {wr:Int} (h:BRaw w Z s st lv sg f wd old kn wr) (v:Value):BRaw (w.setCell ⟨Z,11,none⟩ v) Z s st lv sg v wd old kn wr:=by unfold BRaw; rw [heap_set h]; rfl
theorem BRaw.set12 {w:World} {Z:Nat} {s st:Int} {lv:Value} {sg:List Nat} {f:Value} {wd old:Int} {kn:Bool} {wr:Int} (h:BRaw w Z s st lv sg f wd old kn wr) (v:Int):BRaw (w.setCell ⟨Z,12,none⟩ (.int .i64 v)) Z s st lv sg f v old kn wr:=by unfold BRaw; rw [heap_set h]; rfl
theorem BRaw.set13 {w:World} {Z:Nat} {s st:Int} {lv:Value} {sg:List Nat} {f:Value} {wd old:Int} {kn:Bool} {wr:Int} (h:BRaw w Z s st lv sg f wd old kn wr) (v:Int):BRaw (w.setCell ⟨Z,13,none⟩ (.int .i64 v)) Z s st lv sg f wd v kn wr:=by unfold BRaw; rw [heap_set h]; rfl
theorem BRaw.set14 {w:World} {Z:Nat} {s st:Int} {lv:Value} {sg:List Nat} {f:Value} {wd old:Int} {kn:Bool} {wr:Int} (h:BRaw w Z s st lv sg f wd old kn wr) (v:Bool):BRaw (w.setCell ⟨Z,14,none⟩ (.bool v)) Z s st lv sg f wd old v wr:=by unfold BRaw; rw [heap_set h]; rfl
theorem BRaw.set15 {w:World} {Z:Nat} {s st:Int} {lv:Value} {sg:List Nat} {f:Value} {wd old:Int} {kn:Bool} {wr:Int} (h:BRaw w Z s st lv sg f wd old kn wr) (v:Int):BRaw (w.setCell ⟨Z,15,none⟩ (.int .i64 v)) Z s st lv sg f wd old kn v:=by unfold BRaw; rw [heap_set h]; rfl
theorem BRow.keep {w w':World} {Z:Nat} {P:Bp} {b:Bk} {lv:Value} {F:List Nat} (h:BRow w Z P b lv) (k:Keep F w w') (hx:Z ∉ F):BRow w' Z P b lv:=BRaw.keep h k hx
theorem BRow.below {w w':World} {Z:Nat} {P:Bp} {b:Bk} {lv:Value} {B:Nat} (h:BRow w Z P b lv) (k:Below B w w') (hx:Z < B):BRow w' Z P b lv:=BRaw.below h k hx
theorem keepZ {w0 w:World} {Z:Nat} (k:Keep [Z] w0 w) (i:Nat) (v:Value):Keep [Z] w0 (w.setCell ⟨Z,i,none⟩ v):=k.setCell _ _ (Or.inl (by simp))
def ansM (k:Int):Value:=.agg #[.int .i64 k,.int .i64 0,.int .i64 0,.bool true]
theorem bmoved_any (w:World):Calls Tryz.prog 89 #[] w fun e w' => e = .returned (ansM 2)∧Below w.heap.size w w':=by
 unfold ansM
 go_enter Tryz.func89,Tryz.ntmps89
 go_wp2
 exact ret_ans rfl rfl (heap_alloc_new _ _) rfl rfl ⟨rfl,below_a1 _ _⟩
theorem bwaits_any (w:World):Calls Tryz.prog 104 #[] w fun e w' => e = .returned (ansM 1)∧Below w.heap.size w w':=by
 unfold ansM
 go_enter Tryz.func104,Tryz.ntmps104
 go_wp2
 exact ret_ans rfl rfl (heap_alloc_new _ _) rfl rfl ⟨rfl,below_a1 _ _⟩
theorem head_any (x:Int) (d:Bool) (w:World):Calls Tryz.prog 93 #[.int .i64 x,.bool d] w fun e w' => e = .returned (.int .i64 (headV x d))∧w'=w:=by
 have h1:=or1 x
 cases d
 all_goals
  go_enter Tryz.func93,Tryz.ntmps93
  go_wp2
  go_ret
  exact ⟨by simp [headV],rfl⟩
theorem headV_is {P:Bp} (h:BpOk P) (d:Bool):headV P.st d=if d then 2 * P.st+1 else 2 * P.st:=by
 have h1:=h.st1
 have h2:=h.st2
 unfold headV
 cases d
 ·rw [if_neg (by simp),if_neg (by simp)]; unfold wrap64; omega
 ·rw [if_pos rfl,if_pos rfl]; unfold wrap64; omega
theorem bleft_any {w:World} {Z:Nat} {P:Bp} {b:Bk} {lv:Value} {cap:Nat} {a:Option Addr} (h:BRow w Z P b lv) (hl:lv = .slice a P.W.length cap) (hk:P.W.length≤24) (hb:b.wr≤P.W.length):Calls Tryz.prog 97 #[.pointer (some ⟨Z,0,none⟩)] w fun e w' => e = .returned (.int .i64 ((P.W.length:Int) - (b.wr:Int)))∧Below w.heap.size w w':=by
 subst hl
 obtain ⟨x0,x1,x2,x11,x12,x13,x14,x15⟩:=BRaw.cells h
 generalize P.W.length=n at *
 clear h
 go_enter Tryz.func97,Tryz.ntmps97
 go_wp2
 go_quiet (fail)
 go_wp2
 go_ret
 exact ⟨rfl,below_drawn (Below.refl _ _) _⟩
theorem ret_addr {fn:Func} {p:Tmp} {R:Ending→World→Prop} {a:Act} {w:World} {g:Nat} {cs:Array Value} (h:fn.results = #[.cell p 34]) (hp:a.tmps.getD p undef = .pointer (some ⟨g,0,none⟩))
  (hg:w.heap[g]? = some (.cells cs 34 (0,0))) (hz:cs.size=3) (hd:a.defers = []) (hR:R (.returned (.agg cs)) w):bodyPost Tryz.prog fn R .ret a w :=
 bodyPost_ret (results_cell_row h _ _ g 34 cs (0,0) _ hp hg Tryz.underlying34 rfl (by rw [hz]; kernel_rfl)) hd hR
theorem bheadOf_any {w:World} {Z:Nat} {P:Bp} {b:Bk} {lv:Value} (h:BRow w Z P b lv) (st:Int):Calls Tryz.prog 92 #[.pointer (some ⟨Z,0,none⟩),.int .i64 st] w fun e w' => e = .returned (.agg #[.int .i64 2,.int .i64 (slotV st P.s),.int .i64 0])∧Below w.heap.size w w':=by
 have HSL:Hid (∀ w,Calls Tryz.prog 91 #[.int .i64 st,.int .i64 (P.s:Int)] w fun e w' => e = .returned (.int .i64 (slotV st P.s))∧w'=w):=slot_any st P.s
 obtain ⟨x0,x1,x2,x11,x12,x13,x14,x15⟩:=BRaw.cells h
 have hx:Z < w.heap.size:=heap_lt h
 clear h
 generalize slotV st P.s=sl at *
 go_enter Tryz.func92,Tryz.ntmps92
 go_wp2_with fail
 refine (HSL.out _).mono ?_
 rintro e w1 ⟨rfl,rfl⟩
 go_wp2
 exact ret_addr rfl rfl (heap_alloc_new _ _) rfl rfl ⟨rfl,below_a1 _ _⟩
theorem bwordAt_any {w:World} {Z:Nat} {P:Bp} {b:Bk} {lv:Value} (h:BRow w Z P b lv) (st:Int):Calls Tryz.prog 87 #[.pointer (some ⟨Z,0,none⟩),.int .i64 st] w fun e w' => e = .returned (.agg #[.int .i64 3,.int .i64 (slotV st P.s),.int .i64 (b.wd:Int)])∧Below w.heap.size w w':=by
 have HSL:Hid (∀ w,Calls Tryz.prog 91 #[.int .i64 st,.int .i64 (P.s:Int)] w fun e w' => e = .returned (.int .i64 (slotV st P.s))∧w'=w):=slot_any st P.s
 obtain ⟨x0,x1,x2,x11,x12,x13,x14,x15⟩:=BRaw.cells h
 have hx:Z < w.heap.size:=heap_lt h
 clear h
 generalize slotV st P.s=sl at *
 go_enter Tryz.func87,Tryz.ntmps87
 go_wp2
 go_region_with ((go_at_call 91; refine (HSL.out _).mono ?_; rintro e w' ⟨rfl,rfl⟩))
 all_goals
  go_wp2
  exact ret_addr rfl rfl (heap_alloc_new _ _) rfl rfl ⟨rfl,below_drawn (below_a1 _ _) _⟩
theorem bgoOn_any {w:World} {Z:Nat} {P:Bp} {b:Bk} {lv:Value} {cap:Nat} {a:Option Addr} (h:BRow w Z P b lv) (hl:lv = .slice a P.W.length cap) (hk:P.W.length≤24) (hb:b.wr≤P.W.length) :
  Calls Tryz.prog 94 #[.pointer (some ⟨Z,0,none⟩)] w fun e w' => e = .returned (.tuple #[])∧BRow w' Z P (goB P b) lv∧Keep [Z] w w':=by
 have HL:Hid (Calls Tryz.prog 97 #[.pointer (some ⟨Z,0,none⟩)] w fun e w' => e = .returned (.int .i64 ((P.W.length:Int) - (b.wr:Int)))∧Below w.heap.size w w'):=bleft_any h hl hk hb
 have hx:Z < w.heap.size:=heap_lt h
 have HR : Hid (∀ w', Below w.heap.size w w' → BRow w' Z P b lv) := fun w' k => h.below k hx
 have HD:Hid (∀ (w:World) (n:Nat),BRow w Z P b lv→goB P b=⟨n,b.wd,b.old,b.kn,b.wr⟩→BRow (w.setCell ⟨Z,11,none⟩ (fnB n)) Z P (goB P b) lv):=fun w n h e=>by rw [e]; exact BRaw.set11 h (fnB n)
 clear h hl hk hb
 by_cases e6:b.wr < P.W.length
 ·have H6:Hid (∀ w,BRow w Z P b lv→BRow (w.setCell ⟨Z,11,none⟩ (.func (.func 98) #[] #[])) Z P (goB P b) lv):=fun w h=>HD.out w 6 h (by unfold goB; rw [if_pos e6])
  have d:decide ((P.W.length:Int) - (b.wr:Int) > 0)=true:=decide_eq_true (by omega)
  generalize (P.W.length:Int) - (b.wr:Int)=n at *
  clear HD e6
  go_enter Tryz.func94,Tryz.ntmps94
  go_wp2_with fail
  refine HL.out.mono ?_
  rintro e w1 ⟨rfl,hb1⟩
  obtain ⟨x0,x1,x2,x11,x12,x13,x14,x15⟩:=BRaw.cells (HR.out _ hb1)
  obtain ⟨f11,f12,f13,f14,f15⟩:=BRaw.fz (HR.out _ hb1)
  have HB:Hid (Below w.heap.size w w1):=hb1
  clear hb1
  go_wp2
  refine bodyPost_end (results_none rfl _ _ _) rfl ?_
  exact ⟨rfl,H6.out _ (HR.out _ HB.out),keepZ (Keep.of_below HB.out _) _ _⟩
 ·have d:decide ((P.W.length:Int) - (b.wr:Int) > 0)=false:=decide_eq_false (by omega)
  cases hkn:b.kn
  ·have H6:Hid (∀ w,BRow w Z P b lv→BRow (w.setCell ⟨Z,11,none⟩ (.func (.func 99) #[] #[])) Z P (goB P b) lv):=fun w h=>HD.out w 7 h (by unfold goB; rw [if_neg e6,if_neg (by simp [hkn])])
   generalize (P.W.length:Int) - (b.wr:Int)=n at *
   clear HD e6
   go_enter Tryz.func94,Tryz.ntmps94
   go_wp2_with fail
   refine HL.out.mono ?_
   rintro e w1 ⟨rfl,hb1⟩
   obtain ⟨x0,x1,x2,x11,x12,x13,x14,x15⟩:=BRaw.cells (HR.out _ hb1)
   obtain ⟨f11,f12,f13,f14,f15⟩:=BRaw.fz (HR.out _ hb1)
   rw [hkn] at x14
   have HB:Hid (Below w.heap.size w w1):=hb1
   clear hb1 hkn
   go_wp2
   refine bodyPost_end (results_none rfl _ _ _) rfl ?_
   exact ⟨rfl,H6.out _ (HR.out _ HB.out),keepZ (Keep.of_below HB.out _) _ _⟩
  ·have H6:Hid (∀ w,BRow w Z P b lv→BRow (w.setCell ⟨Z,11,none⟩ (.func (.func 100) #[] #[])) Z P (goB P b) lv):=fun w h=>HD.out w 8 h (by unfold goB; rw [if_neg e6,if_pos hkn])
   generalize (P.W.length:Int) - (b.wr:Int)=n at *
   clear HD e6
   go_enter Tryz.func94,Tryz.ntmps94
   go_wp2_with fail
   refine HL.out.mono ?_
   rintro e w1 ⟨rfl,hb1⟩
   obtain ⟨x0,x1,x2,x11,x12,x13,x14,x15⟩:=BRaw.cells (HR.out _ hb1)
   obtain ⟨f11,f12,f13,f14,f15⟩:=BRaw.fz (HR.out _ hb1)
   rw [hkn] at x14
   have HB:Hid (Below w.heap.size w w1):=hb1
   clear hb1 hkn
   go_wp2
   refine bodyPost_end (results_none rfl _ _ _) rfl ?_
   exact ⟨rfl,H6.out _ (HR.out _ HB.out),keepZ (Keep.of_below HB.out _) _ _⟩
def An (w0 w:World):Prop:=w.heap[w0.heap.size]? = some (.cells #[.int .i64 0,.int .i64 0,.int .i64 0,.bool false] 55 (0,0))
theorem An.keep {w0 w w':World} {F:List Nat} (h:An w0 w) (k:Keep F w w') (hF:w0.heap.size ∉ F):An w0 w':=by
 unfold An; rw [k.block _ (heap_lt h) hF]; exact h
theorem An.below {w0 w w':World} (h:An w0 w) (k:Below w.heap.size w w'):An w0 w':=h.keep (Keep.of_below k []) (by simp)
def AB (w0 w:World) (Z:Nat) (P:Bp) (b:Bk) (lv:Value):Prop:=An w0 w∧BRow w Z P b lv∧Keep [Z] w0 w∧Z < w0.heap.size
theorem AB.below {w0 w w':World} {Z:Nat} {P:Bp} {b:Bk} {lv:Value} (h:AB w0 w Z P b lv) (k:Below w.heap.size w w'):AB w0 w' Z P b lv :=
 ⟨h.1.below k,h.2.1.below k (heap_lt h.2.1),h.2.2.1.trans (Keep.of_below k [Z]) (fun _ hq=>Or.inl hq),h.2.2.2⟩
theorem AB.keep {w0 w w':World} {Z:Nat} {P:Bp} {b b':Bk} {lv:Value} (h:AB w0 w Z P b lv) (hb:BRow w' Z P b' lv) (k:Keep [Z] w w'):AB w0 w' Z P b' lv :=
 ⟨h.1.keep k (by have:=h.2.2.2; simp; omega),hb,h.2.2.1.trans k (fun _ hq=>Or.inl hq),h.2.2.2⟩
theorem AB.fin {w0 w:World} {Z:Nat} {P:Bp} {b:Bk} {lv:Value} (h:AB w0 w Z P b lv) (k:Int) (y:Bool):BRow (laid4 w w0.heap.size k y) Z P b lv∧Keep [Z] w0 (laid4 w w0.heap.size k y) :=
 ⟨h.2.1.keep (keepB k y) (by have:=h.2.2.2; simp; omega),keep4 h.2.2.1 (Nat.le_refl _) k y⟩
theorem blookAt_any {w:World} {Z:Nat} {P:Bp} {b:Bk} {lv:Value} {cap:Nat} {a:Option Addr} (h:BRow w Z P b lv) (hl:lv = .slice a P.W.length cap) (hp:BpOk P) (hb:b.wr≤P.W.length) (st:Int) :
  Calls Tryz.prog 95 #[.pointer (some ⟨Z,0,none⟩),.int .i64 st] w fun e w' => e = .returned (.tuple #[])∧BRow w' Z P (lookAtB P b st) lv∧Keep [Z] w w':=by
 have HG : Hid (∀ w', Below w.heap.size w w' → Calls Tryz.prog 94 #[.pointer (some ⟨Z, 0, none⟩)] w' fun e w'' => e = .returned (.tuple #[]) ∧ BRow w'' Z P (goB P b) lv ∧ Keep [Z] w w'') := fun w' k => (bgoOn_any (h.below k (heap_lt h)) hl hp.len hb).mono fun e w'' h => ⟨h.1, h.2.1, (Keep.of_below k _).trans h.2.2 (fun q hq => Or.inl hq)⟩
 obtain ⟨x0,x1,x2,x11,x12,x13,x14,x15⟩:=BRaw.cells h
 obtain ⟨f11,f12,f13,f14,f15⟩:=BRaw.fz h
 have hx:Z < w.heap.size:=heap_lt h
 have HR:Hid (BRow w Z P b lv):=h
 have hw:wrap64 (P.st - (P.s:Int))=P.st - (P.s:Int):=by
  have h1:=hp.s1
  have h2:=hp.s16
  have h3:=hp.st1
  have h4:=hp.st2
  unfold wrap64; omega
 clear h hl hp hb
 unfold lookAtB
 by_cases e1:st < 1∨st≤P.st - (P.s:Int)
 ·rw [if_pos e1]
  by_cases e2:st < 1
  ·have d1:decide (st < 1)=true:=decide_eq_true e2
   clear e1
   go_enter Tryz.func95,Tryz.ntmps95
   go_wp2
   go_quiet (fail)
   go_wp2_with fail
   refine (HG.out _ (below_drawn (Below.refl _ _) _)).mono ?_
   rintro e w1 ⟨rfl,h1,k1⟩
   have HE:Hid (BRow w1 Z P (goB P b) lv∧Keep [Z] w w1):=⟨h1,k1⟩
   clear h1 k1
   go_wp2
   refine bodyPost_ret (results_none rfl _ _ _) rfl ?_
   exact ⟨rfl,HE.out⟩
  ·have d1:decide (st < 1)=false:=decide_eq_false e2
   have e3:st≤P.st - (P.s:Int):=by omega
   have d2:decide (st≤P.st - (P.s:Int))=true:=decide_eq_true e3
   clear e1
   go_enter Tryz.func95,Tryz.ntmps95
   go_wp2
   go_quiet (fail)
   go_wp2_with fail
   refine (HG.out _ (below_drawn (Below.refl _ _) _)).mono ?_
   rintro e w1 ⟨rfl,h1,k1⟩
   have HE:Hid (BRow w1 Z P (goB P b) lv∧Keep [Z] w w1):=⟨h1,k1⟩
   clear h1 k1
   go_wp2
   refine bodyPost_ret (results_none rfl _ _ _) rfl ?_
   exact ⟨rfl,HE.out⟩
 ·rw [if_neg e1]
  have d1:decide (st < 1)=false:=decide_eq_false (by omega)
  have d2:decide (st≤P.st - (P.s:Int))=false:=decide_eq_false (by omega)
  clear e1
  go_enter Tryz.func95,Tryz.ntmps95
  go_wp2
  go_quiet (fail)
  go_wp2
  refine bodyPost_end (results_none rfl _ _ _) rfl ?_
  exact ⟨rfl,BRaw.set11 (BRaw.set13 (HR.out.below (below_drawn (Below.refl _ _) _) hx) st) (fnB 3),keepZ (keepZ ((Keep.refl _ _).drewN _) _ _) _ _⟩
theorem bover_any {w:World} {Z:Nat} {P:Bp} {b:Bk} {lv:Value} {cap:Nat} {a:Option Addr} (h:BRow w Z P b lv) (hl:lv = .slice a P.W.length cap) (hp:BpOk P) (hb:b.wr≤P.W.length) :
  Calls Tryz.prog 105 #[.pointer (some ⟨Z,0,none⟩)] w fun e w' => e = .returned (ansM 2)∧BRow w' Z P (overB P b) lv∧Keep [Z] w w':=by
 have HM:Hid (∀ w,Calls Tryz.prog 89 #[] w fun e w' => e = .returned (ansM 2)∧Below w.heap.size w w'):=bmoved_any
 have HG:Hid (∀ w' (b:Bk),b.wr≤P.W.length→BRow w' Z P b lv→Calls Tryz.prog 94 #[.pointer (some ⟨Z,0,none⟩)] w' fun e w'' => e = .returned (.tuple #[])∧BRow w'' Z P (goB P b) lv∧Keep [Z] w' w''):=fun w' b hb h=>bgoOn_any h hl hp.len hb
 obtain ⟨x0,x1,x2,x11,x12,x13,x14,x15⟩:=BRaw.cells h
 obtain ⟨f11,f12,f13,f14,f15⟩:=BRaw.fz h
 have hx:Z < w.heap.size:=heap_lt h
 have HR:Hid (BRow w Z P b lv):=h
 have hw:wrap64 (P.st - 1)=P.st - 1:=by
  have h3:=hp.st1
  have h4:=hp.st2
  unfold wrap64; omega
 clear h hl hp
 unfold ansM overB at *
 go_enter Tryz.func105,Tryz.ntmps105
 go_wp2
 go_region
 all_goals
  go_wp2_with fail
  have q:AB w ((w.setCell ⟨Z,14,none⟩ (.bool (b.old == P.st - 1))).alloc (.cells #[.int .i64 0,.int .i64 0,.int .i64 0,.bool false] 55)) Z P ⟨b.nx,b.wd,b.old,b.old == P.st - 1,b.wr⟩ lv :=
   ⟨by unfold An; rw [show w.heap.size=(w.setCell ⟨Z,14,none⟩ (.bool (b.old == P.st - 1))).heap.size by simp]; exact heap_alloc_new _ _,(BRaw.set14 HR.out _).below (below_a1 _ _) (by simpa using hx),(keepZ (Keep.refl _ _) _ _).alloc _,hx⟩
  have Q:Hid (AB w (World.drew ((w.setCell ⟨Z,14,none⟩ (.bool (b.old == P.st - 1))).alloc (.cells #[.int .i64 0,.int .i64 0,.int .i64 0,.bool false] 55))) Z P ⟨b.nx,b.wd,b.old,b.old == P.st - 1,b.wr⟩ lv):=q.below (below_drawn (Below.refl _ _) 1)
  refine (HG.out _ ⟨b.nx,b.wd,b.old,b.old == P.st - 1,b.wr⟩ hb Q.out.2.1).mono ?_
  rintro e w1 ⟨rfl,h1,k1⟩
  have Q1:Hid (AB w w1 Z P (goB P ⟨b.nx,b.wd,b.old,b.old == P.st - 1,b.wr⟩) lv):=Q.out.keep h1 k1
  clear h1 k1 q Q
  go_wp2_with fail
  refine (HM.out _).mono ?_
  rintro e w2 ⟨rfl,b2⟩
  have Q2:Hid (AB w w2 Z P (goB P ⟨b.nx,b.wd,b.old,b.old == P.st - 1,b.wr⟩) lv):=Q1.out.below b2
  clear b2 Q1
  obtain ⟨⟨a0,a1,a2,a3⟩,g0,g1,g2,g3⟩:=ans_cells Q2.out.1
  have hB:=heap_lt Q2.out.1
  go_wp2
  exact ret_ans rfl rfl (ans_set rfl Q2.out.1 2 true) rfl rfl ⟨rfl,Q2.out.fin 2 true⟩
theorem btoWord_any {w:World} {Z:Nat} {P:Bp} {b:Bk} {lv:Value} {cap:Nat} {a:Option Addr} (h:BRow w Z P b lv) (hl:lv = .slice a P.W.length cap) (hp:BpOk P) (hb:b.wr≤P.W.length) (hd:b.wd≤8) (ho:olderOk P b.old) :
  Calls Tryz.prog 107 #[.pointer (some ⟨Z,0,none⟩)] w fun e w' => e = .returned (.tuple #[])∧BRow w' Z P (toWordB P b) lv∧Keep [Z] w w':=by
 have HG:Hid (∀ w' (b:Bk) st,b.wr≤P.W.length→BRow w' Z P b lv→Calls Tryz.prog 95 #[.pointer (some ⟨Z,0,none⟩),.int .i64 st] w' fun e w'' => e = .returned (.tuple #[])∧BRow w'' Z P (lookAtB P b st) lv∧Keep [Z] w' w''):=fun w' b st hb h=>blookAt_any h hl hp hb st
 have hw:wrap64 (b.old - 1)=b.old - 1:=by
  have h1:=ho.1
  have h2:=ho.2.1
  have h4:=hp.st2
  unfold wrap64; omega
 have HR:Hid (BRow w Z P b lv):=h
 clear h hl hp ho
 generalize hT:toWordB P b=T
 have HT:Hid (toWordB P b=T):=hT
 clear hT
 go_enter Tryz.func107,Tryz.ntmps107
 go_wp2
 go_loopw [2] (fun _ wr => ∃ q:Nat,q≤8∧fsW P.sg q=fsW P.sg b.wd∧BRow wr Z P ⟨b.nx,q,b.old,b.kn,b.wr⟩ lv∧Keep [Z] w wr) (fun _ wr=>8 - (intOf ((wr.cell? ⟨Z,12,none⟩).getD (.bool false))).toNat)
 case atStart=>exact ⟨b.wd,hd,rfl,HR.out,Keep.refl _ _⟩
 case round =>
  obtain ⟨q,hq,hn,ha,hkp⟩:=hrel
  obtain ⟨x0,x1,x2,x11,x12,x13,x14,x15⟩:=BRaw.cells ha
  obtain ⟨f11,f12,f13,f14,f15⟩:=BRaw.fz ha
  simp only at x12 x13
  have HA:Hid (BRow wr Z P ⟨b.nx,q,b.old,b.kn,b.wr⟩ lv):=ha
  have HK:Hid (Keep [Z] w wr):=hkp
  have hxr:Z < wr.heap.size:=heap_lt ha
  clear hkp
  by_cases hlt:q < 8
  ·have d1:decide ((q:Int) < 8)=true:=by simp; omega
   have hrd:=BRaw.sigAt ha q hlt
   clear ha
   unfold bsV at hrd
   have hr8:(q:Int) < 8:=by omega
   by_cases hr:P.sg.getD q 0=0
   ·rw [hr] at hrd
    have hn2:fsW P.sg (q+1)=fsW P.sg b.wd:=by rw [← hn,fsW_no hlt hr]
    clear hr
    go_wp2
    go_quiet (fail)
    go_wp2
    go_roundw
    case rel=>exact ⟨q+1,by omega,hn2,by unfold BRow; rw [show ((q+1:Nat):Int)=(q:Int)+1 by omega]; exact BRaw.set12 (w:=wr.drewN _) HA.out _,keepZ (HK.out.drewN _) _ _⟩
    case measure =>
     have hm:=(BRaw.cells (BRaw.set12 (w:=wr.drewN nq) HA.out ((q:Int)+1))).2.2.2.2.1
     rw [x12,hm]; simp [intOf]; omega
   ·have HE:Hid (fsW P.sg b.wd=q):=by rw [← hn,fsW_yes hlt hr]; exact rfl
    clear hn
    generalize P.sg.getD q 0=z at *
    have d2:decide ((z:Int)=0)=false:=decide_eq_false (by omega)
    go_wp2
    go_quiet (fail)
    go_wp2
    refine bodyPost_ret (results_none rfl _ _ _) rfl ?_
    refine ⟨rfl, ?_,keepZ (HK.out.drewN _) _ _⟩
    rw [← HT.out]
    unfold toWordB
    rw [HE.out,if_pos hlt]
    exact BRaw.set11 (w:=wr.drewN _) HA.out (fnB 4)
  ·obtain rfl:q=8:=by omega
   have d1:decide (((8:Nat):Int) < 8)=false:=by simp
   have HE:Hid (fsW P.sg b.wd=8):=by rw [← hn,fsW_end]; exact rfl
   clear ha hn
   go_wp2_with fail
   refine (HG.out _ ⟨b.nx,8,b.old,b.kn,b.wr⟩ _ hb HA.out).mono ?_
   rintro e w1 ⟨rfl,h1,k1⟩
   have HF:Hid (BRow w1 Z P T lv∧Keep [Z] w w1):=by
    refine ⟨?_,HK.out.trans k1 (fun q hq=>Or.inl hq)⟩
    rw [← HT.out]
    unfold toWordB
    rw [HE.out,if_neg (by omega)]
    exact h1
   clear h1 k1
   go_wp2
   refine bodyPost_end (results_none rfl _ _ _) rfl ?_
   exact ⟨rfl,HF.out⟩
structure BS (w:World) (base:Nat) (p:Value) (c r:Nat) (L:List Ac) (F:List Nat) (Z:Nat) (P:Bp) (b:Bk) (lv:Value):Prop where
 mem:MemAt w base p c r L F
 row:BRow w Z P b lv
 own:w.ownsRow base 60 2 lv P.W.length (wtC P.W)
 out:Z ∉ F
 gout : ∀ k,lv.ownBlock=some k→k ∉ Z :: F
 lo:base≤Z
theorem BS.lt {w:World} {base:Nat} {p:Value} {c r:Nat} {L:List Ac} {F:List Nat} {Z:Nat} {P:Bp} {b:Bk} {lv:Value} (h:BS w base p c r L F Z P b lv) : ∀ q ∈ Z :: F,base≤q∧q < w.heap.size:=fun q hq=>by
 rcases List.mem_cons.1 hq with rfl | hq
 ·exact ⟨h.lo,heap_lt h.row⟩
 ·exact h.mem.lt q hq
theorem BS.keep {w w':World} {base:Nat} {p:Value} {c r:Nat} {L:List Ac} {F G:List Nat} {Z:Nat} {P:Bp} {b:Bk} {lv:Value} (h:BS w base p c r L F Z P b lv) (k:Keep G w w') (hd : ∀ q ∈ Z :: F,q ∉ G) (hl : ∀ q,lv.ownBlock=some q→q ∉ G):BS w' base p c r L F Z P b lv :=
 ⟨h.mem.keep k (fun q hq=>hd q (List.mem_cons_of_mem _ hq)),h.row.keep k (hd Z (by simp)),own_keep h.own k hl,h.out,h.gout,h.lo⟩
theorem BS.below {w w':World} {base:Nat} {p:Value} {c r:Nat} {L:List Ac} {F:List Nat} {Z:Nat} {P:Bp} {b:Bk} {lv:Value} (h:BS w base p c r L F Z P b lv) (hb:Below w.heap.size w w'):BS w' base p c r L F Z P b lv:=h.keep (Keep.of_below hb []) (fun _ _=>by simp) (fun _ _=>by simp)
theorem BS.onMem {w w':World} {base:Nat} {p:Value} {c r:Nat} {L L':List Ac} {F F':List Nat} {Z:Nat} {P:Bp} {b:Bk} {lv:Value} (h:BS w base p c r L F Z P b lv) (hm:MemAt w' base p c r L' F') (hn:Next F F' w w'):BS w' base p c r L' F' Z P b lv:=by
 have hZ:=heap_lt h.row
 refine ⟨hm,h.row.keep hn.1 h.out,own_keep h.own hn.1 (fun q hq e=>h.gout q hq (List.mem_cons_of_mem _ e)),fun e => ?_,fun k hk e => ?_,h.lo⟩
 ·rcases hn.2 Z e with h1 | h1
  ·exact h.out h1
  ·omega
 ·rcases List.mem_cons.1 e with e | e
  ·exact h.gout k hk (by simp [e])
  ·rcases hn.2 k e with h1 | h1
   ·exact h.gout k hk (List.mem_cons_of_mem _ h1)
   ·have:=(own_block h.own k hk).2; omega
theorem BS.onRow {w w':World} {base:Nat} {p:Value} {c r:Nat} {L:List Ac} {F:List Nat} {Z:Nat} {P:Bp} {b b':Bk} {lv:Value} (h:BS w base p c r L F Z P b lv) (hr:BRow w' Z P b' lv) (hk:Keep [Z] w w'):BS w' base p c r L F Z P b' lv :=
 ⟨h.mem.keep hk (fun q hq e=>by simp at e; exact h.out (e ▸ hq)),hr,own_keep h.own hk (fun q hq e=>by simp at e; exact h.gout q hq (by simp [e])),h.out,h.gout,h.lo⟩
theorem BS.slice {w:World} {base:Nat} {p:Value} {c r:Nat} {L:List Ac} {F:List Nat} {Z:Nat} {P:Bp} {b:Bk} {lv:Value} (h:BS w base p c r L F Z P b lv) : ∃ a cap,lv = .slice a P.W.length cap:=own_slice h.own
structure AS (w0 w:World) (base:Nat) (p:Value) (c r:Nat) (L:List Ac) (F F':List Nat) (Z:Nat) (P:Bp) (b:Bk) (lv:Value):Prop where
 an:An w0 w
 bs:BS w base p c r L F' Z P b lv
 nx:Next (Z :: F) (Z :: F') w0 w
 no:w0.heap.size ∉ Z :: F'
 nl : ∀ k,lv.ownBlock=some k→k≠w0.heap.size
 hb:base≤w0.heap.size
theorem AS.new {w w':World} {base:Nat} {p:Value} {c r:Nat} {L:List Ac} {F:List Nat} {Z:Nat} {P:Bp} {b:Bk} {lv:Value} (h:BS w base p c r L F Z P b lv) (hb:base≤w.heap.size)
  (k:Below (w.alloc (.cells #[.int .i64 0,.int .i64 0,.int .i64 0,.bool false] 55)).heap.size (w.alloc (.cells #[.int .i64 0,.int .i64 0,.int .i64 0,.bool false] 55)) w'):AS w w' base p c r L F F Z P b lv:=by
 have kb:=below_then (below_a1 w _) k
 refine ⟨An.below (w:=w.alloc _) (heap_alloc_new _ _) k,h.below kb,Next.of_below kb _,fun e => ?_,fun q hq e => ?_,hb⟩
 ·have:=(h.lt _ e).2; omega
 ·have:=(own_block h.own q hq).2; omega
theorem AS.below {w0 w w':World} {base:Nat} {p:Value} {c r:Nat} {L:List Ac} {F F':List Nat} {Z:Nat} {P:Bp} {b:Bk} {lv:Value} (h:AS w0 w base p c r L F F' Z P b lv) (k:Below w.heap.size w w'):AS w0 w' base p c r L F F' Z P b lv :=
 ⟨h.an.below k,h.bs.below k,h.nx.trans (Next.of_below k _),h.no,h.nl,h.hb⟩
theorem AS.onMem {w0 w w':World} {base:Nat} {p:Value} {c r:Nat} {L L':List Ac} {F F' F'':List Nat} {Z:Nat} {P:Bp} {b:Bk} {lv:Value} (h:AS w0 w base p c r L F F' Z P b lv) (hm:MemAt w' base p c r L' F'') (hn:Next F' F'' w w'):AS w0 w' base p c r L' F F'' Z P b lv :=
 ⟨h.an.keep hn.1 (fun e=>h.no (List.mem_cons_of_mem _ e)),h.bs.onMem hm hn,h.nx.trans (nextX hn),fun e=>by
    rcases List.mem_cons.1 e with e | e
    · exact h.no (by simp [e])
    · rcases hn.2 _ e with h1 | h1
      · exact h.no (List.mem_cons_of_mem _ h1)
      · have:=heap_lt h.an; omega,h.nl,h.hb⟩
theorem AS.onRow {w0 w w':World} {base:Nat} {p:Value} {c r:Nat} {L:List Ac} {F F':List Nat} {Z:Nat} {P:Bp} {b b':Bk} {lv:Value} (h:AS w0 w base p c r L F F' Z P b lv) (hr:BRow w' Z P b' lv) (hk:Keep [Z] w w'):AS w0 w' base p c r L F F' Z P b' lv :=
 ⟨h.an.keep hk (fun e=>h.no (by simp at e; simp [e])),h.bs.onRow hr hk,h.nx.trans ⟨hk.mono (fun q hq=>by simp at hq; simp [hq]),fun q hq=>Or.inl hq⟩,h.no,h.nl,h.hb⟩
theorem AS.size {w0 w:World} {base:Nat} {p:Value} {c r:Nat} {L:List Ac} {F F':List Nat} {Z:Nat} {P:Bp} {b:Bk} {lv:Value} (h:AS w0 w base p c r L F F' Z P b lv):base≤w.heap.size:=Nat.le_trans h.hb h.nx.1.size
theorem AS.fin {w0 w:World} {base:Nat} {p:Value} {c r:Nat} {L:List Ac} {F F':List Nat} {Z:Nat} {P:Bp} {b:Bk} {lv:Value} (h:AS w0 w base p c r L F F' Z P b lv) (k:Int) (y:Bool):BS (laid4 w w0.heap.size k y) base p c r L F' Z P b lv∧Next (Z :: F) (Z :: F') w0 (laid4 w w0.heap.size k y) :=
 ⟨h.bs.keep (keepB k y) (fun q hq e=>by simp at e; exact h.no (e ▸ hq)) (fun q hq e=>by simp at e; exact h.nl q hq e),keep4 h.nx.1 (Nat.le_refl _) k y,h.nx.2⟩
theorem AS.drew {w0 w:World} {base:Nat} {p:Value} {c r:Nat} {L:List Ac} {F F':List Nat} {Z:Nat} {P:Bp} {b:Bk} {lv:Value} (h:AS w0 w base p c r L F F' Z P b lv):AS w0 w.drew base p c r L F F' Z P b lv:=h.below (below_drawn (Below.refl _ _) 1)
def Does (f:FuncId) (w:World) (base:Nat) (p:Value) (c r:Nat) (F:List Nat) (Z:Nat) (P:Bp) (lv:Value) (t:Int) (k:Int) (L':List Ac) (b':Bk):Prop :=
 Calls Tryz.prog f #[.pointer (some ⟨Z, 0, none⟩), p, .int .i64 t] w fun e w' => e = .returned (ansM k) ∧ ∃ F', BS w' base p c r L' F' Z P b' lv ∧ Next (Z :: F) (Z :: F') w w'
theorem as_store {w0 w:World} {base:Nat} {p:Value} {c r:Nat} {L:List Ac} {F F':List Nat} {Z:Nat} {P:Bp} {b:Bk} {lv:Value} (h:AS w0 w base p c r L F F' Z P b lv) (hL:L.length < 3298534883328) (t:Int) (a:Ad) (z:Int) (ha:isAd c r a=true) :
  Calls Tryz.prog 86 #[p, .int .i64 t, .agg #[.int .i64 a.k, .int .i64 a.i, .int .i64 a.j], .int .i64 z] w fun e w' => e = .returned (.int .i64 0) ∧ ∃ F'', AS w0 w' base p c r (storeL c r L t a z) F F'' Z P b lv := by
 have:=store_any h.bs.mem h.size hL t a z
 rw [if_pos ha] at this
 refine this.mono ?_
 rintro e w' ⟨rfl, F'', h1, h2⟩
 exact ⟨rfl, F'', h.onMem h1 h2⟩
theorem as_load {w0 w:World} {base:Nat} {p:Value} {c r:Nat} {L:List Ac} {F F':List Nat} {Z:Nat} {P:Bp} {b:Bk} {lv:Value} (h:AS w0 w base p c r L F F' Z P b lv) (hL:L.length < 3298534883328) (t:Int) (a:Ad) (ha:isAd c r a=true) :
  Calls Tryz.prog 110 #[p, .int .i64 t, .agg #[.int .i64 a.k, .int .i64 a.i, .int .i64 a.j]] w fun e w' => e = .returned (.tuple #[.int .i64 (wordOf L a), .int .i64 0]) ∧ ∃ F'', AS w0 w' base p c r (loadL c r L t a) F F'' Z P b lv := by
 have:=load_any h.bs.mem h.size hL t a
 rw [if_pos ha,if_pos ha] at this
 refine this.mono ?_
 rintro e w' ⟨rfl, F'', h1, h2⟩
 exact ⟨rfl, F'', h.onMem h1 h2⟩
theorem AS.start {w:World} {base:Nat} {p:Value} {c r:Nat} {L:List Ac} {F:List Nat} {Z:Nat} {P:Bp} {b:Bk} {lv:Value} (h:BS w base p c r L F Z P b lv) (hb:base≤w.heap.size):AS w (w.alloc (.cells #[.int .i64 0,.int .i64 0,.int .i64 0,.bool false] 55)) base p c r L F F Z P b lv:=AS.new h hb (Below.refl _ _)
theorem AS.cells {w0 w:World} {base:Nat} {p:Value} {c r:Nat} {L:List Ac} {F F':List Nat} {Z:Nat} {P:Bp} {b:Bk} {lv:Value} (h:AS w0 w base p c r L F F' Z P b lv):w.cell? ⟨Z,0,none⟩=some (.int .i64 (P.s:Int))∧w.cell? ⟨Z,1,none⟩=some (.int .i64 P.st)∧w.cell? ⟨Z,2,none⟩=some lv ∧
  w.cell? ⟨Z,11,none⟩=some (fnB b.nx)∧w.cell? ⟨Z,12,none⟩=some (.int .i64 (b.wd:Int))∧w.cell? ⟨Z,13,none⟩=some (.int .i64 b.old)∧w.cell? ⟨Z,14,none⟩=some (.bool b.kn)∧w.cell? ⟨Z,15,none⟩=some (.int .i64 (b.wr:Int)):=BRaw.cells h.bs.row
theorem AS.fz {w0 w:World} {base:Nat} {p:Value} {c r:Nat} {L:List Ac} {F F':List Nat} {Z:Nat} {P:Bp} {b:Bk} {lv:Value} (h:AS w0 w base p c r L F F' Z P b lv):w.frozen? ⟨Z,11,none⟩=false∧w.frozen? ⟨Z,12,none⟩=false∧w.frozen? ⟨Z,13,none⟩=false∧w.frozen? ⟨Z,14,none⟩=false∧w.frozen? ⟨Z,15,none⟩=false:=BRaw.fz h.bs.row
theorem AS.z {w0 w:World} {base:Nat} {p:Value} {c r:Nat} {L:List Ac} {F F':List Nat} {Z:Nat} {P:Bp} {b:Bk} {lv:Value} (h:AS w0 w base p c r L F F' Z P b lv):Z < w.heap.size:=heap_lt h.bs.row
theorem as_goOn {w0 w:World} {base:Nat} {p:Value} {c r:Nat} {L:List Ac} {F F':List Nat} {Z:Nat} {P:Bp} {b:Bk} {lv:Value} (h:AS w0 w base p c r L F F' Z P b lv) (hp:BpOk P) (hb:b.wr≤P.W.length) :
  Calls Tryz.prog 94 #[.pointer (some ⟨Z,0,none⟩)] w fun e w' => e = .returned (.tuple #[])∧AS w0 w' base p c r L F F' Z P (goB P b) lv:=by
 obtain ⟨a,cap,hl⟩:=h.bs.slice
 exact (bgoOn_any h.bs.row hl hp.len hb).mono fun _ _ q=>⟨q.1,h.onRow q.2.1 q.2.2⟩
theorem as_lookAt {w0 w:World} {base:Nat} {p:Value} {c r:Nat} {L:List Ac} {F F':List Nat} {Z:Nat} {P:Bp} {b:Bk} {lv:Value} (h:AS w0 w base p c r L F F' Z P b lv) (hp:BpOk P) (hb:b.wr≤P.W.length) (st:Int) :
  Calls Tryz.prog 95 #[.pointer (some ⟨Z,0,none⟩),.int .i64 st] w fun e w' => e = .returned (.tuple #[])∧AS w0 w' base p c r L F F' Z P (lookAtB P b st) lv:=by
 obtain ⟨a,cap,hl⟩:=h.bs.slice
 exact (blookAt_any h.bs.row hl hp hb st).mono fun _ _ q=>⟨q.1,h.onRow q.2.1 q.2.2⟩
theorem as_toWord {w0 w:World} {base:Nat} {p:Value} {c r:Nat} {L:List Ac} {F F':List Nat} {Z:Nat} {P:Bp} {b:Bk} {lv:Value} (h:AS w0 w base p c r L F F' Z P b lv) (hp:BpOk P) (hb:b.wr≤P.W.length) (hd:b.wd≤8) (ho:olderOk P b.old) :
  Calls Tryz.prog 107 #[.pointer (some ⟨Z,0,none⟩)] w fun e w' => e = .returned (.tuple #[])∧AS w0 w' base p c r L F F' Z P (toWordB P b) lv:=by
 obtain ⟨a,cap,hl⟩:=h.bs.slice
 exact (btoWord_any h.bs.row hl hp hb hd ho).mono fun _ _ q=>⟨q.1,h.onRow q.2.1 q.2.2⟩
theorem as_over {w0 w:World} {base:Nat} {p:Value} {c r:Nat} {L:List Ac} {F F':List Nat} {Z:Nat} {P:Bp} {b:Bk} {lv:Value} (h:AS w0 w base p c r L F F' Z P b lv) (hp:BpOk P) (hb:b.wr≤P.W.length) :
  Calls Tryz.prog 105 #[.pointer (some ⟨Z,0,none⟩)] w fun e w' => e = .returned (ansM 2)∧AS w0 w' base p c r L F F' Z P (overB P b) lv:=by
 obtain ⟨a,cap,hl⟩:=h.bs.slice
 exact (bover_any h.bs.row hl hp hb).mono fun _ _ q=>⟨q.1,h.onRow q.2.1 q.2.2⟩
theorem as_moved {w0 w:World} {base:Nat} {p:Value} {c r:Nat} {L:List Ac} {F F':List Nat} {Z:Nat} {P:Bp} {b:Bk} {lv:Value} (h:AS w0 w base p c r L F F' Z P b lv) :
  Calls Tryz.prog 89 #[] w fun e w' => e = .returned (ansM 2)∧AS w0 w' base p c r L F F' Z P b lv:=(bmoved_any w).mono fun _ _ q=>⟨q.1,h.below q.2⟩
theorem as_waits {w0 w:World} {base:Nat} {p:Value} {c r:Nat} {L:List Ac} {F F':List Nat} {Z:Nat} {P:Bp} {b:Bk} {lv:Value} (h:AS w0 w base p c r L F F' Z P b lv) :
  Calls Tryz.prog 104 #[] w fun e w' => e = .returned (ansM 1)∧AS w0 w' base p c r L F F' Z P b lv:=(bwaits_any w).mono fun _ _ q=>⟨q.1,h.below q.2⟩
theorem as_headOf {w0 w:World} {base:Nat} {p:Value} {c r:Nat} {L:List Ac} {F F':List Nat} {Z:Nat} {P:Bp} {b:Bk} {lv:Value} (h:AS w0 w base p c r L F F' Z P b lv) (st:Int) :
  Calls Tryz.prog 92 #[.pointer (some ⟨Z,0,none⟩),.int .i64 st] w fun e w' => e = .returned (.agg #[.int .i64 2,.int .i64 (slotV st P.s),.int .i64 0])∧AS w0 w' base p c r L F F' Z P b lv:=(bheadOf_any h.bs.row st).mono fun _ _ q=>⟨q.1,h.below q.2⟩
theorem as_wordAt {w0 w:World} {base:Nat} {p:Value} {c r:Nat} {L:List Ac} {F F':List Nat} {Z:Nat} {P:Bp} {b:Bk} {lv:Value} (h:AS w0 w base p c r L F F' Z P b lv) (st:Int) :
  Calls Tryz.prog 87 #[.pointer (some ⟨Z,0,none⟩),.int .i64 st] w fun e w' => e = .returned (.agg #[.int .i64 3,.int .i64 (slotV st P.s),.int .i64 (b.wd:Int)])∧AS w0 w' base p c r L F F' Z P b lv:=(bwordAt_any h.bs.row st).mono fun _ _ q=>⟨q.1,h.below q.2⟩
def wdB (P:Bp) (st:Int) (j:Nat):Ad:=⟨3,slotV st P.s,(j:Int)⟩
theorem wdB_is {c:Nat} {P:Bp} (h:BpOk P) (st:Int) {j:Nat} (hj:j < 8):isAd c P.s (wdB P st j)=true:=by
 have:=slotB_bd h st
 unfold wdB; simp [isAd,this]; omega
theorem u64_bd (x:Int):0≤IntKind.u64.wrap x∧(IntKind.u64.wrap x).toNat < 18446744073709551616:=by rw [IntKind.wrap_u64]; omega
theorem bhold_any {w:World} {base:Nat} {p:Value} {c:Nat} {L:List Ac} {F:List Nat} {Z:Nat} {P:Bp} {b:Bk} {lv:Value} (h:BS w base p c P.s L F Z P b lv) (hb:base≤w.heap.size) (hL:L.length < 3298534883328) (hk:BkOk P b) (h1:b.nx=4) (t:Int) :
  Does 111 w base p c P.s F Z P lv t 2 (loadL c P.s L t (wdB P b.old b.wd)) (if hitS P.sg b.wd (wordOf L (wdB P b.old b.wd)) then ⟨5,b.wd,b.old,b.kn,b.wr⟩ else toWordB P ⟨b.nx,b.wd+1,b.old,b.kn,b.wr⟩):=by
 have hwd:=(hk.w4 h1).1
 have ho:=(hk.old (by simp [h1])).1
 have HL : Hid (∀ w', AS w w' base p c P.s L F F Z P b lv → Calls Tryz.prog 110 #[p, .int .i64 t, .agg #[.int .i64 3, .int .i64 (slotV b.old P.s), .int .i64 (b.wd : Int)]] w' fun e w'' => e = .returned (.tuple #[.int .i64 (wordOf L (wdB P b.old b.wd)), .int .i64 0]) ∧ ∃ F'', AS w w'' base p c P.s (loadL c P.s L t (wdB P b.old b.wd)) F F'' Z P b lv) := fun w' h => as_load h hL t (wdB P b.old b.wd) (wdB_is hk.p _ hwd)
 have HW : Hid (∀ w', AS w w' base p c P.s L F F Z P b lv → Calls Tryz.prog 87 #[.pointer (some ⟨Z, 0, none⟩), .int .i64 b.old] w' fun e w'' => e = .returned (.agg #[.int .i64 3, .int .i64 (slotV b.old P.s), .int .i64 (b.wd : Int)]) ∧ AS w w'' base p c P.s L F F Z P b lv) := fun w' h => as_wordAt h b.old
 have HM : Hid (∀ w' L' F' b', AS w w' base p c P.s L' F F' Z P b' lv → Calls Tryz.prog 89 #[] w' fun e w'' => e = .returned (ansM 2) ∧ AS w w'' base p c P.s L' F F' Z P b' lv) := fun w' L' F' b' h => as_moved h
 have HT : Hid (∀ w' L' F', AS w w' base p c P.s L' F F' Z P ⟨b.nx, b.wd + 1, b.old, b.kn, b.wr⟩ lv → Calls Tryz.prog 107 #[.pointer (some ⟨Z, 0, none⟩)] w' fun e w'' => e = .returned (.tuple #[]) ∧ AS w w'' base p c P.s L' F F' Z P (toWordB P ⟨b.nx, b.wd + 1, b.old, b.kn, b.wr⟩) lv) := fun w' L' F' h => as_toWord h hk.p hk.wr (by simp only; omega) ho
 have QL:Hid (AS w (w.alloc (.cells #[.int .i64 0,.int .i64 0,.int .i64 0,.bool false] 55)) base p c P.s L F F Z P b lv):=AS.start h hb
 obtain ⟨x0,x1,x2,x11,x12,x13,x14,x15⟩:=BRaw.cells h.row
 have hx:Z < w.heap.size:=heap_lt h.row
 obtain ⟨M,rfl⟩:=h.mem.ptr
 have hr8:(b.wd:Int) < 8:=by omega
 have SC : Hid (∀ w' L' F', AS w w' base (.pointer (some ⟨M, 0, none⟩)) c P.s L' F F' Z P b lv → w'.cell? ⟨Z, 3 + b.wd, none⟩ = some (.int .u64 ((P.sg.getD b.wd 0 : Nat) : Int))) := fun w' _ _ h => BRaw.sigAt h.bs.row b.wd hwd
 have hsl:P.sg.getD b.wd 0 < 18446744073709551616:=by rw [hk.p.sg]; exact (sgOf_ok _).2 _
 unfold Does ansM at *
 have HHIT:Hid (hitS P.sg b.wd (wordOf L (wdB P b.old b.wd))=(((IntKind.u64.wrap (wordOf L (wdB P b.old b.wd))).toNat &&& P.sg.getD b.wd 0) != 0)):=rfl
 generalize hitS P.sg b.wd (wordOf L (wdB P b.old b.wd))=hit at *
 generalize wordOf L (wdB P b.old b.wd)=v at *
 generalize loadL c P.s L t (wdB P b.old b.wd)=L' at *
 generalize P.sg.getD b.wd 0=z at *
 generalize slotV b.old P.s=sl at *
 obtain ⟨u,hu⟩ : ∃ u:Nat,IntKind.u64.wrap v=(u:Int):=⟨(IntKind.u64.wrap v).toNat,by have:=(u64_bd v).1; omega⟩
 have hul:u < 18446744073709551616:=by have:=(u64_bd v).2; rw [hu] at this; simpa using this
 have hand:bits .and .u64 (u:Int) (z:Int)=((u &&& z:Nat):Int):=bits_and_u64_nat _ _ hul hsl
 have HH2:Hid (hit=((u &&& z) != 0)):=by rw [Hid,HHIT.out,hu]; rfl
 generalize u &&& z=a at *
 clear h hk h1 ho HHIT
 cases hit
 ·rw [if_neg (by simp)]
  have ha:a=0:=by have:=HH2.out; simpa using this.symm
  subst ha
  go_enter Tryz.func111,Tryz.ntmps111
  go_wp2_with fail
  refine (HW.out _ QL.out).mono ?_
  rintro e w1 ⟨rfl,q1⟩
  have Q1:Hid (AS w w1 base (.pointer (some ⟨M,0,none⟩)) c P.s L F F Z P b lv):=q1
  clear q1 x0 x1 x2 x11 x12 x13 x14 x15
  go_wp2_with fail
  refine (HL.out _ Q1.out).mono ?_
  rintro e w2 ⟨rfl,F2,q2⟩
  have Q2:Hid (AS w w2 base (.pointer (some ⟨M,0,none⟩)) c P.s L' F F2 Z P b lv):=q2
  clear q2 Q1
  obtain ⟨y0,y1,y2,y11,y12,y13,y14,y15⟩:=Q2.out.cells
  obtain ⟨f11,f12,f13,f14,f15⟩:=Q2.out.fz
  have yrd:=SC.out _ _ _ Q2.out
  have hx2:Z < w2.heap.size:=Q2.out.z
  go_wp2_with fail
  go_quiet (fail)
  obtain ⟨w3,hw3⟩ : ∃ w3,w3=w2.drewN nq:=⟨_,rfl⟩
  rw [← hw3]
  have Q3:Hid (AS w w3 base (.pointer (some ⟨M,0,none⟩)) c P.s L' F F2 Z P b lv):=by rw [hw3]; exact Q2.out.below (below_drawn (Below.refl _ _) _)
  clear hw3 Q2 y0 y1 y2 y11 y12 y13 y14 y15 f11 f12 f13 f14 f15 yrd hx2
  obtain ⟨y0,y1,y2,y11,y12,y13,y14,y15⟩:=Q3.out.cells
  obtain ⟨f11,f12,f13,f14,f15⟩:=Q3.out.fz
  have hx2:Z < w3.heap.size:=Q3.out.z
  have Q4:Hid (AS w (w3.setCell ⟨Z,12,none⟩ (.int .i64 ((b.wd:Int)+1))) base (.pointer (some ⟨M,0,none⟩)) c P.s L' F F2 Z P ⟨b.nx,b.wd+1,b.old,b.kn,b.wr⟩ lv):=Q3.out.onRow (by unfold BRow; rw [show ((b.wd+1:Nat):Int)=(b.wd:Int)+1 by omega]; exact BRaw.set12 Q3.out.bs.row _) (keepZ (Keep.refl _ _) _ _)
  go_wp2_with fail
  refine (HT.out _ _ _ Q4.out).mono ?_
  rintro e w5 ⟨rfl,q5⟩
  have Q5:Hid (AS w w5 base (.pointer (some ⟨M,0,none⟩)) c P.s L' F F2 Z P (toWordB P ⟨b.nx,b.wd+1,b.old,b.kn,b.wr⟩) lv):=q5
  clear q5 Q3 Q4 y0 y1 y2 y11 y12 y13 y14 y15 f11 f12 f13 f14 f15
  go_wp2_with fail
  refine (HM.out _ _ _ _ Q5.out).mono ?_
  rintro e w6 ⟨rfl,q6⟩
  have Q6:Hid (AS w w6 base (.pointer (some ⟨M,0,none⟩)) c P.s L' F F2 Z P (toWordB P ⟨b.nx,b.wd+1,b.old,b.kn,b.wr⟩) lv):=q6
  clear q6 Q5
  obtain ⟨⟨a0,a1,a2,a3⟩,g0,g1,g2,g3⟩:=ans_cells Q6.out.an
  have hB:=heap_lt Q6.out.an
  go_wp2
  exact ret_ans rfl rfl (ans_set rfl Q6.out.an 2 true) rfl rfl ⟨rfl,F2,Q6.out.fin 2 true⟩
 ·rw [if_pos rfl]
  have ha : ¬ a=0:=by have:=HH2.out; simpa using this.symm
  have ha' : ¬ (a:Int)=0:=by omega
  have ha2:decide ((a:Int)=0)=false:=decide_eq_false ha'
  go_enter Tryz.func111,Tryz.ntmps111
  go_wp2_with fail
  refine (HW.out _ QL.out).mono ?_
  rintro e w1 ⟨rfl,q1⟩
  have Q1:Hid (AS w w1 base (.pointer (some ⟨M,0,none⟩)) c P.s L F F Z P b lv):=q1
  clear q1 x0 x1 x2 x11 x12 x13 x14 x15
  go_wp2_with fail
  refine (HL.out _ Q1.out).mono ?_
  rintro e w2 ⟨rfl,F2,q2⟩
  have Q2:Hid (AS w w2 base (.pointer (some ⟨M,0,none⟩)) c P.s L' F F2 Z P b lv):=q2
  clear q2 Q1
  obtain ⟨y0,y1,y2,y11,y12,y13,y14,y15⟩:=Q2.out.cells
  obtain ⟨f11,f12,f13,f14,f15⟩:=Q2.out.fz
  have yrd:=SC.out _ _ _ Q2.out
  have hx2:Z < w2.heap.size:=Q2.out.z
  go_wp2_with fail
  go_quiet (fail)
  obtain ⟨w3,hw3⟩ : ∃ w3,w3=w2.drewN nq:=⟨_,rfl⟩
  rw [← hw3]
  have Q3:Hid (AS w w3 base (.pointer (some ⟨M,0,none⟩)) c P.s L' F F2 Z P b lv):=by rw [hw3]; exact Q2.out.below (below_drawn (Below.refl _ _) _)
  clear hw3 Q2 y0 y1 y2 y11 y12 y13 y14 y15 f11 f12 f13 f14 f15 yrd hx2
  obtain ⟨y0,y1,y2,y11,y12,y13,y14,y15⟩:=Q3.out.cells
  obtain ⟨f11,f12,f13,f14,f15⟩:=Q3.out.fz
  have hx2:Z < w3.heap.size:=Q3.out.z
  have Q4:Hid (AS w (w3.setCell ⟨Z,11,none⟩ (.func (.func 112) #[] #[])) base (.pointer (some ⟨M,0,none⟩)) c P.s L' F F2 Z P ⟨5,b.wd,b.old,b.kn,b.wr⟩ lv):=Q3.out.onRow (BRaw.set11 Q3.out.bs.row (fnB 5)) (keepZ (Keep.refl _ _) _ _)
  go_wp2_with fail
  refine (HM.out _ _ _ _ Q4.out).mono ?_
  rintro e w6 ⟨rfl,q6⟩
  have Q6:Hid (AS w w6 base (.pointer (some ⟨M,0,none⟩)) c P.s L' F F2 Z P ⟨5,b.wd,b.old,b.kn,b.wr⟩ lv):=q6
  clear q6 Q3 Q4 y0 y1 y2 y11 y12 y13 y14 y15 f11 f12 f13 f14 f15
  obtain ⟨⟨a0,a1,a2,a3⟩,g0,g1,g2,g3⟩:=ans_cells Q6.out.an
  have hB:=heap_lt Q6.out.an
  go_wp2
  exact ret_ans rfl rfl (ans_set rfl Q6.out.an 2 true) rfl rfl ⟨rfl,F2,Q6.out.fin 2 true⟩
theorem own_wr {w:World} {base g cap:Nat} {W:List Wt} (h:w.ownsRow base 60 2 (.slice (some ⟨g,0,none⟩) W.length cap) W.length (wtC W)) (i:Nat) (hi:i < W.length):w.cell? ⟨g,i * 2,none⟩=some (.int .i64 (W.getD i noWt).c)∧w.cell? ⟨g,i * 2+1,none⟩=some (.int .i64 (W.getD i noWt).v):=by
 have hg:=wtC_get W i hi
 rcases h.2 with ⟨e, _⟩ | ⟨g', cap', cur, e, _, hh, _, _, _, ht⟩
 ·cases e
 ·simp at e
  obtain ⟨rfl,rfl⟩:=e
  have key : ∀ j u,(wtC W)[j]? = some u→w.cell? ⟨g,j,none⟩=some u:=fun j u hu=>by
   rw [cell_at hh]
   rw [← ht,List.getElem?_take] at hu
   split at hu
   ·simpa using hu
   ·cases hu
  exact ⟨key _ _ hg.1,key _ _ hg.2⟩
theorem bwrite_any {w:World} {base:Nat} {p:Value} {c:Nat} {L:List Ac} {F:List Nat} {Z:Nat} {P:Bp} {b:Bk} {lv:Value} (h:BS w base p c P.s L F Z P b lv) (hb:base≤w.heap.size) (hL:L.length < 3298534883328) (hk:BkOk P b) (hc : ∀ x ∈ P.W,x.c < (c:Int)) (h1:b.nx=6) (t:Int) :
  Does 98 w base p c P.s F Z P lv t 2 (storeL c P.s L t ⟨4,(P.W.getD b.wr noWt).c,0⟩ (P.W.getD b.wr noWt).v) (goB P ⟨b.nx,b.wd,b.old,b.kn,b.wr+1⟩):=by
 have hwr:=hk.wr6 h1
 have hm:P.W.getD b.wr noWt ∈ P.W:=by rw [List.getD_eq_getElem?_getD,List.getElem?_eq_getElem hwr]; simp
 have hc0:=(hk.p.cell _ hm).1
 have hc1:=hc _ hm
 have HS : Hid (∀ w', AS w w' base p c P.s L F F Z P b lv → Calls Tryz.prog 86 #[p, .int .i64 t, .agg #[.int .i64 4, .int .i64 (P.W.getD b.wr noWt).c, .int .i64 0], .int .i64 (P.W.getD b.wr noWt).v] w' fun e w'' => e = .returned (.int .i64 0) ∧ ∃ F'', AS w w'' base p c P.s (storeL c P.s L t ⟨4, (P.W.getD b.wr noWt).c, 0⟩ (P.W.getD b.wr noWt).v) F F'' Z P b lv) := fun w' h => as_store h hL t ⟨4, (P.W.getD b.wr noWt).c, 0⟩ _ (by generalize P.W.getD b.wr noWt = x at *; simp [isAd, hc0, hc1])
 have HM : Hid (∀ w' L' F' b', AS w w' base p c P.s L' F F' Z P b' lv → Calls Tryz.prog 89 #[] w' fun e w'' => e = .returned (ansM 2) ∧ AS w w'' base p c P.s L' F F' Z P b' lv) := fun w' L' F' b' h => as_moved h
 have HG : Hid (∀ w' L' F', AS w w' base p c P.s L' F F' Z P ⟨b.nx, b.wd, b.old, b.kn, b.wr + 1⟩ lv → Calls Tryz.prog 94 #[.pointer (some ⟨Z, 0, none⟩)] w' fun e w'' => e = .returned (.tuple #[]) ∧ AS w w'' base p c P.s L' F F' Z P (goB P ⟨b.nx, b.wd, b.old, b.kn, b.wr + 1⟩) lv) := fun w' L' F' h => as_goOn h hk.p (by simp only; omega)
 have QL:Hid (AS w (w.alloc (.cells #[.int .i64 0,.int .i64 0,.int .i64 0,.bool false] 55)) base p c P.s L F F Z P b lv):=AS.start h hb
 obtain ⟨x0,x1,x2,x11,x12,x13,x14,x15⟩:=BRaw.cells h.row
 have hx:Z < w.heap.size:=heap_lt h.row
 have h24:=hk.p.len
 obtain ⟨M,rfl⟩:=h.mem.ptr
 obtain ⟨g,cap,rfl,_,hgl⟩:=h.own.form (by omega)
 have hcl:=own_wr h.own b.wr hwr
 have hgz:g≠Z:=fun e=>h.gout g rfl (by simp [e])
 unfold Does ansM at *
 generalize storeL c P.s L t ⟨4,(P.W.getD b.wr noWt).c,0⟩ (P.W.getD b.wr noWt).v=L' at *
 generalize P.W.getD b.wr noWt=x at *
 obtain ⟨xc,xv⟩:=x
 simp only at hcl HS
 obtain ⟨cl0,cl1⟩:=hcl
 generalize P.W.length=n at *
 have hlt:(b.wr:Int) < (n:Int):=by omega
 clear h hk h1 hm hc
 go_enter Tryz.func98,Tryz.ntmps98
 go_wp2_with fail
 go_region
 all_goals
  go_wp2_with fail
  have q1:=QL.out.below (below_drawn (below_a1 _ (.cells #[.int .i64 xc,.int .i64 xv] 60)) 1)
  refine (HS.out _ q1).mono ?_
  clear q1
  rintro e w2 ⟨rfl,F2,q2⟩
  have Q2:Hid (AS w w2 base (.pointer (some ⟨M,0,none⟩)) c P.s L' F F2 Z P b (.slice (some ⟨g,0,none⟩) n cap)):=q2
  clear q2 QL x0 x1 x2 x11 x12 x13 x14 x15 cl0 cl1
  obtain ⟨y0,y1,y2,y11,y12,y13,y14,y15⟩:=Q2.out.cells
  obtain ⟨f11,f12,f13,f14,f15⟩:=Q2.out.fz
  have hx2:Z < w2.heap.size:=Q2.out.z
  have Q4:Hid (AS w (w2.setCell ⟨Z,15,none⟩ (.int .i64 ((b.wr:Int)+1))) base (.pointer (some ⟨M,0,none⟩)) c P.s L' F F2 Z P ⟨b.nx,b.wd,b.old,b.kn,b.wr+1⟩ (.slice (some ⟨g,0,none⟩) n cap)):=Q2.out.onRow (by unfold BRow; rw [show ((b.wr+1:Nat):Int)=(b.wr:Int)+1 by omega]; exact BRaw.set15 Q2.out.bs.row _) (keepZ (Keep.refl _ _) _ _)
  go_wp2_with fail
  refine (HG.out _ _ _ Q4.out).mono ?_
  rintro e w5 ⟨rfl,q5⟩
  have Q5:Hid (AS w w5 base (.pointer (some ⟨M,0,none⟩)) c P.s L' F F2 Z P (goB P ⟨b.nx,b.wd,b.old,b.kn,b.wr+1⟩) (.slice (some ⟨g,0,none⟩) n cap)):=q5
  clear q5 Q2 Q4 y0 y1 y2 y11 y12 y13 y14 y15 f11 f12 f13 f14 f15
  go_wp2_with fail
  refine (HM.out _ _ _ _ Q5.out).mono ?_
  rintro e w6 ⟨rfl,q6⟩
  have Q6:Hid (AS w w6 base (.pointer (some ⟨M,0,none⟩)) c P.s L' F F2 Z P (goB P ⟨b.nx,b.wd,b.old,b.kn,b.wr+1⟩) (.slice (some ⟨g,0,none⟩) n cap)):=q6
  clear q6 Q5
  obtain ⟨⟨a0,a1,a2,a3⟩,g0,g1,g2,g3⟩:=ans_cells Q6.out.an
  have hB:=heap_lt Q6.out.an
  go_wp2
  exact ret_ans rfl rfl (ans_set rfl Q6.out.an 2 true) rfl rfl ⟨rfl,F2,Q6.out.fin 2 true⟩
def lack (W:List Wt) (c:Nat):Bool:=W.any fun x=>decide ((c:Int)≤x.c)
theorem goesB_lack (c r:Nat) (P:Bp) (b:Bk):goesB c r P b=(decide (b.nx≠0) && decide (r=P.s) && !lack P.W c):=by
 unfold goesB lack
 congr 1
 rw [Bool.eq_iff_iff]
 simp
theorem lack_at {W:List Wt} {c i:Nat} (hi:i < W.length) (h:(c:Int)≤(W.getD i noWt).c):lack W c=true:=by
 unfold lack
 rw [List.any_eq_true]
 exact ⟨W.getD i noWt,by rw [List.getD_eq_getElem?_getD,List.getElem?_eq_getElem hi]; simp,by simpa using h⟩
theorem lack_none {W:List Wt} {c:Nat} (h : ∀ i,i < W.length → ¬ (c:Int)≤(W.getD i noWt).c):lack W c=false:=by
 unfold lack
 rw [List.any_eq_false]
 intro x hx
 obtain ⟨i,hi,rfl⟩:=List.getElem_of_mem hx
 have:=h i hi
 rw [List.getD_eq_getElem?_getD,List.getElem?_eq_getElem hi] at this
 simpa using this
theorem goes1_any (w:World) (xc xv:Int) (c B:Nat) (hB:w.cell? ⟨B,0,none⟩=some (.int .i64 (c:Int))) :
  Calls Tryz.prog 162 #[.agg #[.int .i64 xc,.int .i64 xv],.pointer (some ⟨B,0,none⟩)] w fun e w' => e = .returned (.bool (decide ((c:Int)≤xc)))∧Below w.heap.size w w':=by
 have hx:B < w.heap.size:=World.block_lt_of_cell? _ _ hB
 go_enter Tryz.func162,Tryz.ntmps162
 go_wp2
 go_ret
 exact ⟨by simp,below_a1 _ _⟩
theorem idxf_any {w:World} {base:Nat} {lv:Value} {W:List Wt} (h:w.ownsRow base 60 2 lv W.length (wtC W)) (hl:W.length≤24) (c B:Nat) (hB:w.cell? ⟨B,0,none⟩=some (.int .i64 (c:Int))) :
  Calls Tryz.prog 164 #[lv,.func (.func 162) #[] #[.pointer (some ⟨B,0,none⟩)]] w fun e w' => (∃ ix:Int,e = .returned (.int .i64 ix)∧decide (ix ≥ 0)=lack W c)∧Below w.heap.size w w':=by
 have hx:B < w.heap.size:=World.block_lt_of_cell? _ _ hB
 have HG:Hid (∀ w' xc xv,Below w.heap.size w w'→Calls Tryz.prog 162 #[.agg #[.int .i64 xc,.int .i64 xv],.pointer (some ⟨B,0,none⟩)] w' fun e w'' => e = .returned (.bool (decide ((c:Int)≤xc)))∧Below w.heap.size w w''):=fun w' xc xv k=>(goes1_any w' xc xv c B ((k.cell (p:=⟨B,0,none⟩) hx).trans hB)).mono fun _ _ q=>⟨q.1,below_then k q.2⟩
 have HLN:Hid ((∀ i,i < W.length → ¬ (c:Int)≤(W.getD i noWt).c)→lack W c=false):=lack_none
 have HLA:Hid (∀ i,i < W.length→(c:Int)≤(W.getD i noWt).c→lack W c=true):=fun i=>lack_at
 have HC:Hid (∀ a cap,lv = .slice a W.length cap → ∀ w' i,Below w.heap.size w w'→i < W.length → ∃ g,a=some ⟨g,0,none⟩∧w'.cell? ⟨g,i * 2,none⟩=some (.int .i64 (W.getD i noWt).c)∧w'.cell? ⟨g,i * 2+1,none⟩=some (.int .i64 (W.getD i noWt).v)):=fun a cap e w' i k hi=>by
  subst e
  obtain ⟨g, cap', e, _, hgl⟩ := h.form (by omega)
  simp at e
  obtain ⟨rfl,rfl⟩:=e
  exact ⟨g,rfl,(k.cell (p:=⟨g,i * 2,none⟩) hgl).trans (own_wr h i hi).1,(k.cell (p:=⟨g,i * 2+1,none⟩) hgl).trans (own_wr h i hi).2⟩
 obtain ⟨a,cap,rfl⟩:=own_slice h
 have HD:Hid (∀ w' i,Below w.heap.size w w'→i < W.length → ∃ g,a=some ⟨g,0,none⟩∧w'.cell? ⟨g,i * 2,none⟩=some (.int .i64 (W.getD i noWt).c)∧w'.cell? ⟨g,i * 2+1,none⟩=some (.int .i64 (W.getD i noWt).v)):=HC.out a cap rfl
 clear h hB HC
 generalize hn:W.length=n at *
 clear hn
 go_enter Tryz.func164,Tryz.ntmps164
 go_wp2
 go_loopw [5,8] (fun _ iv wr => ∃ q:Nat,q≤n∧iv = .int .i64 q∧Below w.heap.size w wr ∧ ∀ i,i < q → ¬ (c:Int)≤(W.getD i noWt).c) (fun _ iv _=>n - (intOf iv).toNat)
 case atStart=>exact ⟨0,by omega,rfl,Below.refl _ _,fun i hi=>by omega⟩
 case round =>
  obtain ⟨q,hq,rfl,hb,hno⟩:=hrel
  have HB:Hid (Below w.heap.size w wr):=hb
  have HNO:Hid (∀ i,i < q → ¬ (c:Int)≤(W.getD i noWt).c):=hno
  clear hb hno
  by_cases hlt:q < n
  ·have d1:decide ((q:Int) < (n:Int))=true:=decide_eq_true (by omega)
   have hlt':(q:Int) < (n:Int):=by omega
   obtain ⟨g,rfl,c0,c1⟩:=HD.out _ q HB.out hlt
   have HNX:Hid (¬ (c:Int)≤(W.getD q noWt).c → ∀ i,i < q+1 → ¬ (c:Int)≤(W.getD i noWt).c):=fun hh i hi=>by
    by_cases e:i=q
    ·subst e; exact hh
    ·exact HNO.out i (by omega)
   have HLQ:Hid ((c:Int)≤(W.getD q noWt).c→lack W c=true):=HLA.out q hlt
   generalize W.getD q noWt=x at *
   obtain ⟨xc,xv⟩:=x
   simp only at c0 c1 HNX HLQ
   have HGQ:Hid (Calls Tryz.prog 162 #[.agg #[.int .i64 xc,.int .i64 xv],.pointer (some ⟨B,0,none⟩)] wr fun e w'' => e = .returned (.bool (decide ((c:Int)≤xc)))∧Below w.heap.size w w''):=HG.out wr xc xv HB.out
   by_cases hcx:(c:Int)≤xc
   ·have d2:decide ((c:Int)≤xc)=true:=decide_eq_true hcx
    rw [d2] at HGQ
    go_wp2_with fail
    refine HGQ.out.mono ?_
    rintro e w' ⟨rfl,hb'⟩
    have HB':Hid (Below w.heap.size w w'):=hb'
    clear hb'
    go_wp2
    go_ret
    exact ⟨⟨_,rfl,by rw [HLQ.out hcx]; simp⟩,HB'.out⟩
   ·have d2:decide ((c:Int)≤xc)=false:=decide_eq_false hcx
    rw [d2] at HGQ
    go_wp2_with fail
    refine HGQ.out.mono ?_
    rintro e w' ⟨rfl,hb'⟩
    have HB':Hid (Below w.heap.size w w'):=hb'
    clear hb'
    go_wp2
    go_roundw
    case rel=>exact ⟨q+1,by omega,by go_num,HB'.out,fun i hi=>Int.not_le.mpr (HNX.out hcx i hi)⟩
    case measure=>simp [intOf]; omega
  ·obtain rfl:q=n:=by omega
   have d1:decide ((q:Int) < (q:Int))=false:=by simp
   go_wp2
   go_ret
   exact ⟨⟨-1,rfl,by rw [HLN.out HNO.out]; rfl⟩,HB.out⟩
theorem cont_any {w:World} {base:Nat} {lv:Value} {W:List Wt} (h:w.ownsRow base 60 2 lv W.length (wtC W)) (hl:W.length≤24) (c B:Nat) (hB:w.cell? ⟨B,0,none⟩=some (.int .i64 (c:Int))) :
  Calls Tryz.prog 163 #[lv,.func (.func 162) #[] #[.pointer (some ⟨B,0,none⟩)]] w fun e w' => e = .returned (.bool (lack W c))∧Below w.heap.size w w':=by
 have HI:Hid (Calls Tryz.prog 164 #[lv,.func (.func 162) #[] #[.pointer (some ⟨B,0,none⟩)]] w fun e w' => (∃ ix:Int,e = .returned (.int .i64 ix)∧decide (ix ≥ 0)=lack W c)∧Below w.heap.size w w'):=idxf_any h hl c B hB
 obtain ⟨a,cap,rfl⟩:=own_slice h
 generalize W.length=n at *
 clear h hB
 go_enter Tryz.func163,Tryz.ntmps163
 go_wp2_with fail
 refine HI.out.mono ?_
 rintro e w1 ⟨⟨ix,rfl,hix⟩,hb1⟩
 have HX:Hid (decide (ix ≥ 0)=lack W c):=hix
 have HB:Hid (Below w.heap.size w w1):=hb1
 clear hix hb1
 go_wp2
 go_ret
 exact ⟨by rw [← HX.out]; rfl,HB.out⟩
theorem blayw_any {w:World} {base:Nat} {p:Value} {c:Nat} {L:List Ac} {F:List Nat} {Z:Nat} {P:Bp} {b:Bk} {lv:Value} (h:BS w base p c P.s L F Z P b lv) (hb:base≤w.heap.size) (hL:L.length < 3298534883328) (hk:BkOk P b) (h1:b.nx=1) (t:Int) :
  Does 79 w base p c P.s F Z P lv t 2 (storeL c P.s L t ⟨3,slotV P.st P.s,(b.wd:Int)⟩ (wrap64 ((P.sg.getD b.wd 0:Nat):Int))) ⟨if b.wd+1=8 then 2 else 1,b.wd+1,b.old,b.kn,b.wr⟩:=by
 have hwd:=hk.w1 h1
 have E1:Hid (b.nx=1):=h1
 have hbd:=slotB_bd hk.p P.st
 have HS : Hid (∀ w', AS w w' base p c P.s L F F Z P b lv → Calls Tryz.prog 86 #[p, .int .i64 t, .agg #[.int .i64 3, .int .i64 (slotV P.st P.s), .int .i64 (b.wd : Int)], .int .i64 (wrap64 ((P.sg.getD b.wd 0 : Nat) : Int))] w' fun e w'' => e = .returned (.int .i64 0) ∧ ∃ F'', AS w w'' base p c P.s (storeL c P.s L t ⟨3, slotV P.st P.s, (b.wd : Int)⟩ (wrap64 ((P.sg.getD b.wd 0 : Nat) : Int))) F F'' Z P b lv) := fun w' h => as_store h hL t ⟨3, slotV P.st P.s, (b.wd : Int)⟩ _ (by simp [isAd, hbd]; omega)
 have HW : Hid (∀ w', AS w w' base p c P.s L F F Z P b lv → Calls Tryz.prog 87 #[.pointer (some ⟨Z, 0, none⟩), .int .i64 P.st] w' fun e w'' => e = .returned (.agg #[.int .i64 3, .int .i64 (slotV P.st P.s), .int .i64 (b.wd : Int)]) ∧ AS w w'' base p c P.s L F F Z P b lv) := fun w' h => as_wordAt h P.st
 have QL:Hid (AS w (w.alloc (.cells #[.int .i64 0,.int .i64 0,.int .i64 0,.bool false] 55)) base p c P.s L F F Z P b lv):=AS.start h hb
 obtain ⟨x0,x1,x2,x11,x12,x13,x14,x15⟩:=BRaw.cells h.row
 have hrd:=BRaw.sigAt h.row b.wd hwd
 unfold bsV at hrd
 have hx:Z < w.heap.size:=heap_lt h.row
 obtain ⟨M,rfl⟩:=h.mem.ptr
 have HM : Hid (∀ w' L' F' b', AS w w' base (.pointer (some ⟨M, 0, none⟩)) c P.s L' F F' Z P b' lv → Calls Tryz.prog 89 #[] w' fun e w'' => e = .returned (ansM 2) ∧ AS w w'' base (.pointer (some ⟨M, 0, none⟩)) c P.s L' F F' Z P b' lv) := fun w' L' F' b' h => as_moved h
 unfold Does ansM at *
 have hr8:(b.wd:Int) < 8:=by omega
 have SC : Hid (∀ w' L' F', AS w w' base (.pointer (some ⟨M, 0, none⟩)) c P.s L' F F' Z P b lv → w'.cell? ⟨Z, 1, none⟩ = some (.int .i64 P.st) ∧ w'.cell? ⟨Z, 12, none⟩ = some (.int .i64 (b.wd : Int)) ∧ w'.cell? ⟨Z, 3 + b.wd, none⟩ = some (.int .u64 ((P.sg.getD b.wd 0 : Nat) : Int))) := fun w' _ _ h => ⟨h.cells.2.1, h.cells.2.2.2.2.1, BRaw.sigAt h.bs.row b.wd hwd⟩
 have hwz:IntKind.i64.wrap ((P.sg.getD b.wd 0:Nat):Int)=wrap64 ((P.sg.getD b.wd 0:Nat):Int):=by rw [IntKind.wrap_i64]; unfold wrap64; omega
 generalize P.sg.getD b.wd 0=z at *
 generalize wrap64 (z:Int)=vz at *
 generalize storeL c P.s L t ⟨3,slotV P.st P.s,(b.wd:Int)⟩ vz=L' at *
 generalize slotV P.st P.s=sl at *
 obtain ⟨B', HB'⟩ : ∃ B' : Bk, Hid (B' = ⟨if b.wd + 1 = 8 then 2 else 1, b.wd + 1, b.old, b.kn, b.wr⟩) := ⟨_, rfl⟩
 rw [← HB'.out]
 clear h hk h1
 go_enter Tryz.func79,Tryz.ntmps79
 go_wp2_with fail
 go_region_with ((first
      | (go_at_call 87; have q0:=QL.out.drew; refine (HW.out _ q0).mono ?_; clear q0; rintro e w1 ⟨rfl,q1⟩; have QL:Hid (AS w w1 base (.pointer (some ⟨M,0,none⟩)) c P.s L F F Z P b lv):=q1; clear q1; obtain ⟨c1,c12,c3⟩:=SC.out _ _ _ QL.out)
      | (go_at_call 86; refine (HS.out _ QL.out).mono ?_; rintro e w2 ⟨rfl,F2,q2⟩)))
 all_goals
  have Q2:Hid (AS w w2 base (.pointer (some ⟨M,0,none⟩)) c P.s L' F F2 Z P b lv):=q2
  clear q2 QL c1 c12 c3 x0 x1 x2 x11 x12 x13 x14 x15 hrd
  obtain ⟨y0,y1,y2,y11,y12,y13,y14,y15⟩:=Q2.out.cells
  obtain ⟨f11,f12,f13,f14,f15⟩:=Q2.out.fz
  have hx2:Z < w2.heap.size:=Q2.out.z
  by_cases e8:b.wd+1=8
  ·have d8:decide ((b.wd:Int)+1=8)=true:=decide_eq_true (by omega)
   have d8':(b.wd:Int)+1=8:=by omega
   have q3:=BRaw.set11 (BRaw.set12 Q2.out.bs.row ((b.wd:Int)+1)) (fnB 2)
   have Q3:Hid (AS w ((w2.setCell ⟨Z,12,none⟩ (.int .i64 ((b.wd:Int)+1))).setCell ⟨Z,11,none⟩ (.func (.func 88) #[] #[])) base (.pointer (some ⟨M,0,none⟩)) c P.s L' F F2 Z P B' lv):=by
    rw [HB'.out,if_pos e8]
    exact Q2.out.onRow (by unfold BRow; rw [show ((b.wd+1:Nat):Int)=(b.wd:Int)+1 by omega]; exact q3) (keepZ (keepZ (Keep.refl _ _) _ _) _ _)
   rw [d8'] at Q3
   clear q3
   go_wp2_with fail
   refine (HM.out _ _ _ _ Q3.out).mono ?_
   rintro e w3 ⟨rfl,q3⟩
   have Q4:Hid (AS w w3 base (.pointer (some ⟨M,0,none⟩)) c P.s L' F F2 Z P B' lv):=q3
   clear q3 Q3 y0 y1 y2 y11 y12 y13 y14 y15 f11 f12 f13 f14 f15
   obtain ⟨⟨a0,a1,a2,a3⟩,g0,g1,g2,g3⟩:=ans_cells Q4.out.an
   have hB:=heap_lt Q4.out.an
   go_wp2
   exact ret_ans rfl rfl (ans_set rfl Q4.out.an 2 true) rfl rfl ⟨rfl,F2,Q4.out.fin 2 true⟩
  ·have d8:decide ((b.wd:Int)+1=8)=false:=decide_eq_false (by omega)
   have d8' : ¬ (b.wd:Int)+1=8:=by omega
   have q3:=BRaw.set12 Q2.out.bs.row ((b.wd:Int)+1)
   have Q3:Hid (AS w (w2.setCell ⟨Z,12,none⟩ (.int .i64 ((b.wd:Int)+1))) base (.pointer (some ⟨M,0,none⟩)) c P.s L' F F2 Z P B' lv):=by
    rw [HB'.out,if_neg e8]
    exact Q2.out.onRow (by unfold BRow; rw [show ((b.wd+1:Nat):Int)=(b.wd:Int)+1 by omega,show (1:Nat)=b.nx from E1.out.symm]; exact q3) (keepZ (Keep.refl _ _) _ _)
   clear q3
   go_wp2_with fail
   refine (HM.out _ _ _ _ Q3.out).mono ?_
   rintro e w3 ⟨rfl,q3⟩
   have Q4:Hid (AS w w3 base (.pointer (some ⟨M,0,none⟩)) c P.s L' F F2 Z P B' lv):=q3
   clear q3 Q3 y0 y1 y2 y11 y12 y13 y14 y15 f11 f12 f13 f14 f15
   obtain ⟨⟨a0,a1,a2,a3⟩,g0,g1,g2,g3⟩:=ans_cells Q4.out.an
   have hB:=heap_lt Q4.out.an
   go_wp2
   exact ret_ans rfl rfl (ans_set rfl Q4.out.an 2 true) rfl rfl ⟨rfl,F2,Q4.out.fin 2 true⟩
theorem blayh_any {w:World} {base:Nat} {p:Value} {c:Nat} {L:List Ac} {F:List Nat} {Z:Nat} {P:Bp} {b:Bk} {lv:Value} (h:BS w base p c P.s L F Z P b lv) (hb:base≤w.heap.size) (hL:L.length < 3298534883328) (hk:BkOk P b) (t:Int) :
  Does 88 w base p c P.s F Z P lv t 2 (storeL c P.s L t ⟨2,slotV P.st P.s,0⟩ (2 * P.st)) (if b.kn then goB P b else lookAtB P b (P.st - 1)):=by
 have hbd:=slotB_bd hk.p P.st
 have HS : Hid (∀ w', AS w w' base p c P.s L F F Z P b lv → Calls Tryz.prog 86 #[p, .int .i64 t, .agg #[.int .i64 2, .int .i64 (slotV P.st P.s), .int .i64 0], .int .i64 (headV P.st false)] w' fun e w'' => e = .returned (.int .i64 0) ∧ ∃ F'', AS w w'' base p c P.s (storeL c P.s L t ⟨2, slotV P.st P.s, 0⟩ (2 * P.st)) F F'' Z P b lv) := fun w' h => by
  rw [headV_is hk.p,if_neg (by simp)]
  exact as_store h hL t ⟨2,slotV P.st P.s,0⟩ _ (by simp [isAd,hbd])
 have HW : Hid (∀ w', AS w w' base p c P.s L F F Z P b lv → Calls Tryz.prog 92 #[.pointer (some ⟨Z, 0, none⟩), .int .i64 P.st] w' fun e w'' => e = .returned (.agg #[.int .i64 2, .int .i64 (slotV P.st P.s), .int .i64 0]) ∧ AS w w'' base p c P.s L F F Z P b lv) := fun w' h => as_headOf h P.st
 have HH:Hid (∀ w,Calls Tryz.prog 93 #[.int .i64 P.st,.bool false] w fun e w' => e = .returned (.int .i64 (headV P.st false))∧w'=w):=fun w=>head_any P.st false w
 have HM : Hid (∀ w' L' F' b', AS w w' base p c P.s L' F F' Z P b' lv → Calls Tryz.prog 89 #[] w' fun e w'' => e = .returned (ansM 2) ∧ AS w w'' base p c P.s L' F F' Z P b' lv) := fun w' L' F' b' h => as_moved h
 have HG : Hid (∀ w' L' F', AS w w' base p c P.s L' F F' Z P b lv → Calls Tryz.prog 94 #[.pointer (some ⟨Z, 0, none⟩)] w' fun e w'' => e = .returned (.tuple #[]) ∧ AS w w'' base p c P.s L' F F' Z P (goB P b) lv) := fun w' L' F' h => as_goOn h hk.p hk.wr
 have HA : Hid (∀ w' L' F', AS w w' base p c P.s L' F F' Z P b lv → Calls Tryz.prog 95 #[.pointer (some ⟨Z, 0, none⟩), .int .i64 (P.st - 1)] w' fun e w'' => e = .returned (.tuple #[]) ∧ AS w w'' base p c P.s L' F F' Z P (lookAtB P b (P.st - 1)) lv) := fun w' L' F' h => as_lookAt h hk.p hk.wr _
 have QL:Hid (AS w (w.alloc (.cells #[.int .i64 0,.int .i64 0,.int .i64 0,.bool false] 55)) base p c P.s L F F Z P b lv):=AS.start h hb
 obtain ⟨x0,x1,x2,x11,x12,x13,x14,x15⟩:=BRaw.cells h.row
 have hx:Z < w.heap.size:=heap_lt h.row
 obtain ⟨M,rfl⟩:=h.mem.ptr
 unfold Does ansM at *
 have hw:wrap64 (P.st - 1)=P.st - 1:=by
  have:=hk.p.st1
  have:=hk.p.st2
  unfold wrap64; omega
 have hw':IntKind.i64.wrap (P.st - 1)=P.st - 1:=by
  have:=hk.p.st1
  have:=hk.p.st2
  rw [IntKind.wrap_i64]; omega
 have SC : Hid (∀ w' L' F', AS w w' base (.pointer (some ⟨M, 0, none⟩)) c P.s L' F F' Z P b lv → w'.cell? ⟨Z, 1, none⟩ = some (.int .i64 P.st) ∧ w'.cell? ⟨Z, 14, none⟩ = some (.bool b.kn)) := fun w' _ _ h => ⟨h.cells.2.1, h.cells.2.2.2.2.2.2.1⟩
 generalize headV P.st false=hv at *
 generalize storeL c P.s L t ⟨2,slotV P.st P.s,0⟩ (2 * P.st)=L' at *
 generalize slotV P.st P.s=sl at *
 obtain ⟨B', HB'⟩ : ∃ B' : Bk, Hid (B' = if b.kn then goB P b else lookAtB P b (P.st - 1)) := ⟨_, rfl⟩
 rw [← HB'.out]
 clear h hk
 go_enter Tryz.func88,Tryz.ntmps88
 go_wp2_with fail
 go_region_with ((first
      | (go_at_call 92; have q0:=QL.out.drew; refine (HW.out _ q0).mono ?_; clear q0; rintro e w1 ⟨rfl,q1⟩; have QL:Hid (AS w w1 base (.pointer (some ⟨M,0,none⟩)) c P.s L F F Z P b lv):=q1; clear q1; obtain ⟨c1,c14⟩:=SC.out _ _ _ QL.out)
      | (go_at_call 93; refine (HH.out _).mono ?_; rintro e w' ⟨rfl,rfl⟩)
      | (go_at_call 86; refine (HS.out _ QL.out).mono ?_; rintro e w2 ⟨rfl,F2,q2⟩)))
 all_goals
  have Q2:Hid (AS w w2 base (.pointer (some ⟨M,0,none⟩)) c P.s L' F F2 Z P b lv):=q2
  clear q2 QL c1 c14 x0 x1 x2 x11 x12 x13 x14 x15
  obtain ⟨y0,y1,y2,y11,y12,y13,y14,y15⟩:=Q2.out.cells
  have hx2:Z < w2.heap.size:=Q2.out.z
  cases hkn:b.kn
  ·rw [hkn] at y14
   go_wp2_with fail
   refine (HA.out _ _ _ Q2.out).mono ?_
   rintro e w3 ⟨rfl,q3⟩
   have Q3:Hid (AS w w3 base (.pointer (some ⟨M,0,none⟩)) c P.s L' F F2 Z P B' lv):=by rw [HB'.out,if_neg (by simp [hkn])]; exact q3
   clear q3 Q2 y0 y1 y2 y11 y12 y13 y14 y15
   go_wp2_with fail
   refine (HM.out _ _ _ _ Q3.out).mono ?_
   rintro e w4 ⟨rfl,q4⟩
   have Q4:Hid (AS w w4 base (.pointer (some ⟨M,0,none⟩)) c P.s L' F F2 Z P B' lv):=q4
   clear q4 Q3
   obtain ⟨⟨a0,a1,a2,a3⟩,g0,g1,g2,g3⟩:=ans_cells Q4.out.an
   have hB:=heap_lt Q4.out.an
   go_wp2
   exact ret_ans rfl rfl (ans_set rfl Q4.out.an 2 true) rfl rfl ⟨rfl,F2,Q4.out.fin 2 true⟩
  ·rw [hkn] at y14
   go_wp2_with fail
   refine (HG.out _ _ _ Q2.out).mono ?_
   rintro e w3 ⟨rfl,q3⟩
   have Q3:Hid (AS w w3 base (.pointer (some ⟨M,0,none⟩)) c P.s L' F F2 Z P B' lv):=by rw [HB'.out,if_pos hkn]; exact q3
   clear q3 Q2 y0 y1 y2 y11 y12 y13 y14 y15
   go_wp2_with fail
   refine (HM.out _ _ _ _ Q3.out).mono ?_
   rintro e w4 ⟨rfl,q4⟩
   have Q4:Hid (AS w w4 base (.pointer (some ⟨M,0,none⟩)) c P.s L' F F2 Z P B' lv):=q4
   clear q4 Q3
   obtain ⟨⟨a0,a1,a2,a3⟩,g0,g1,g2,g3⟩:=ans_cells Q4.out.an
   have hB:=heap_lt Q4.out.an
   go_wp2
   exact ret_ans rfl rfl (ans_set rfl Q4.out.an 2 true) rfl rfl ⟨rfl,F2,Q4.out.fin 2 true⟩
def hdB (P:Bp) (st:Int):Ad:=⟨2,slotV st P.s,0⟩
theorem hdB_is {c:Nat} {P:Bp} (h:BpOk P) (st:Int):isAd c P.s (hdB P st)=true:=by
 have:=slotB_bd h st
 unfold hdB; simp [isAd,this]
theorem as_head {w0 w:World} {base:Nat} {p:Value} {c:Nat} {L:List Ac} {F F':List Nat} {Z:Nat} {P:Bp} {b:Bk} {lv:Value} (h:AS w0 w base p c P.s L F F' Z P b lv) (hL:L.length < 3298534883328) (hp:BpOk P) (t st:Int) :
  Calls Tryz.prog 103 #[.pointer (some ⟨Z, 0, none⟩), p, .int .i64 t, .int .i64 st] w fun e w' => e = .returned (.int .i64 (wordOf L (hdB P st))) ∧ ∃ F'', AS w0 w' base p c P.s (loadL c P.s L t (hdB P st)) F F'' Z P b lv := by
 have HL : Hid (∀ w', AS w0 w' base p c P.s L F F' Z P b lv → Calls Tryz.prog 110 #[p, .int .i64 t, .agg #[.int .i64 2, .int .i64 (slotV st P.s), .int .i64 0]] w' fun e w'' => e = .returned (.tuple #[.int .i64 (wordOf L (hdB P st)), .int .i64 0]) ∧ ∃ F'', AS w0 w'' base p c P.s (loadL c P.s L t (hdB P st)) F F'' Z P b lv) := fun w' h => as_load h hL t (hdB P st) (hdB_is hp st)
 have HW : Hid (∀ w', AS w0 w' base p c P.s L F F' Z P b lv → Calls Tryz.prog 92 #[.pointer (some ⟨Z, 0, none⟩), .int .i64 st] w' fun e w'' => e = .returned (.agg #[.int .i64 2, .int .i64 (slotV st P.s), .int .i64 0]) ∧ AS w0 w'' base p c P.s L F F' Z P b lv) := fun w' h => as_headOf h st
 have Q:Hid (AS w0 w base p c P.s L F F' Z P b lv):=h
 obtain ⟨M,rfl⟩:=h.bs.mem.ptr
 generalize wordOf L (hdB P st)=v at *
 generalize loadL c P.s L t (hdB P st)=L' at *
 generalize slotV st P.s=sl at *
 clear h hp
 go_enter Tryz.func103,Tryz.ntmps103
 go_wp2_with fail
 refine (HW.out _ Q.out).mono ?_
 rintro e w1 ⟨rfl,q1⟩
 have Q1:Hid (AS w0 w1 base (.pointer (some ⟨M,0,none⟩)) c P.s L F F' Z P b lv):=q1
 clear q1
 go_wp2_with fail
 refine (HL.out _ Q1.out).mono ?_
 rintro e w2 ⟨rfl,F2,q2⟩
 have Q2:Hid (AS w0 w2 base (.pointer (some ⟨M,0,none⟩)) c P.s L' F F2 Z P b lv):=q2
 clear q2
 go_wp2
 go_ret
 exact ⟨rfl,F2,Q2.out⟩
theorem blook_any {w:World} {base:Nat} {p:Value} {c:Nat} {L:List Ac} {F:List Nat} {Z:Nat} {P:Bp} {b:Bk} {lv:Value} (h:BS w base p c P.s L F Z P b lv) (hb:base≤w.heap.size) (hL:L.length < 3298534883328) (hk:BkOk P b) (h1:b.nx=3) (t:Int) :
  Does 101 w base p c P.s F Z P lv t (if overV (wordOf L (hdB P b.old)) b.old=false∧laidV (wordOf L (hdB P b.old)) b.old=false then 1 else 2) (loadL c P.s L t (hdB P b.old)) (if overV (wordOf L (hdB P b.old)) b.old then overB P b else if laidV (wordOf L (hdB P b.old)) b.old then toWordB P ⟨b.nx,0,b.old,b.kn,b.wr⟩ else b):=by
 have ho:=(hk.old (by simp [h1])).1
 have HH : Hid (∀ w', AS w w' base p c P.s L F F Z P b lv → Calls Tryz.prog 103 #[.pointer (some ⟨Z, 0, none⟩), p, .int .i64 t, .int .i64 b.old] w' fun e w'' => e = .returned (.int .i64 (wordOf L (hdB P b.old))) ∧ ∃ F'', AS w w'' base p c P.s (loadL c P.s L t (hdB P b.old)) F F'' Z P b lv) := fun w' h => as_head h hL hk.p t b.old
 have HO:Hid (∀ w,Calls Tryz.prog 102 #[.int .i64 (wordOf L (hdB P b.old)),.int .i64 b.old] w fun e w' => e = .returned (.bool (overV (wordOf L (hdB P b.old)) b.old))∧w'=w):=over_any _ _
 have HD:Hid (∀ w,Calls Tryz.prog 106 #[.int .i64 (wordOf L (hdB P b.old)),.int .i64 b.old] w fun e w' => e = .returned (.bool (laidV (wordOf L (hdB P b.old)) b.old))∧w'=w):=laid_any _ _
 have HM : Hid (∀ w' L' F' b', AS w w' base p c P.s L' F F' Z P b' lv → Calls Tryz.prog 89 #[] w' fun e w'' => e = .returned (ansM 2) ∧ AS w w'' base p c P.s L' F F' Z P b' lv) := fun w' L' F' b' h => as_moved h
 have HX : Hid (∀ w' L' F' b', AS w w' base p c P.s L' F F' Z P b' lv → Calls Tryz.prog 104 #[] w' fun e w'' => e = .returned (ansM 1) ∧ AS w w'' base p c P.s L' F F' Z P b' lv) := fun w' L' F' b' h => as_waits h
 have HV : Hid (∀ w' L' F', AS w w' base p c P.s L' F F' Z P b lv → Calls Tryz.prog 105 #[.pointer (some ⟨Z, 0, none⟩)] w' fun e w'' => e = .returned (ansM 2) ∧ AS w w'' base p c P.s L' F F' Z P (overB P b) lv) := fun w' L' F' h => as_over h hk.p hk.wr
 have HT : Hid (∀ w' L' F', AS w w' base p c P.s L' F F' Z P ⟨b.nx, 0, b.old, b.kn, b.wr⟩ lv → Calls Tryz.prog 107 #[.pointer (some ⟨Z, 0, none⟩)] w' fun e w'' => e = .returned (.tuple #[]) ∧ AS w w'' base p c P.s L' F F' Z P (toWordB P ⟨b.nx, 0, b.old, b.kn, b.wr⟩) lv) := fun w' L' F' h => as_toWord h hk.p hk.wr (by simp) ho
 have QL:Hid (AS w (w.alloc (.cells #[.int .i64 0,.int .i64 0,.int .i64 0,.bool false] 55)) base p c P.s L F F Z P b lv):=AS.start h hb
 obtain ⟨x0,x1,x2,x11,x12,x13,x14,x15⟩:=BRaw.cells h.row
 have hx:Z < w.heap.size:=heap_lt h.row
 obtain ⟨M,rfl⟩:=h.mem.ptr
 unfold Does ansM at *
 generalize overV (wordOf L (hdB P b.old)) b.old=ov at *
 generalize laidV (wordOf L (hdB P b.old)) b.old=la at *
 generalize wordOf L (hdB P b.old)=v at *
 generalize loadL c P.s L t (hdB P b.old)=L' at *
 clear h hk h1 ho
 cases ov
 ·cases la
  ·rw [if_pos ⟨rfl,rfl⟩,if_neg (by simp),if_neg (by simp)]
   go_enter Tryz.func101,Tryz.ntmps101
   go_wp2_with fail
   refine (HH.out _ QL.out).mono ?_
   rintro e w1 ⟨rfl,F1,q1⟩
   have Q1:Hid (AS w w1 base (.pointer (some ⟨M,0,none⟩)) c P.s L' F F1 Z P b lv):=q1
   clear q1 x0 x1 x2 x11 x12 x13 x14 x15
   obtain ⟨y0,y1,y2,y11,y12,y13,y14,y15⟩:=Q1.out.cells
   have hx2:Z < w1.heap.size:=Q1.out.z
   go_wp2_with fail
   refine (HO.out _).mono ?_
   rintro e w2 ⟨rfl,rfl⟩
   go_wp2_with fail
   refine (HD.out _).mono ?_
   rintro e w2 ⟨rfl,rfl⟩
   go_wp2_with fail
   refine (HX.out _ _ _ _ Q1.out).mono ?_
   rintro e w4 ⟨rfl,q4⟩
   have Q4:Hid (AS w w4 base (.pointer (some ⟨M,0,none⟩)) c P.s L' F F1 Z P b lv):=q4
   clear q4 Q1 y0 y1 y2 y11 y12 y13 y14 y15
   obtain ⟨⟨a0,a1,a2,a3⟩,g0,g1,g2,g3⟩:=ans_cells Q4.out.an
   have hB:=heap_lt Q4.out.an
   go_wp2
   exact ret_ans rfl rfl (ans_set rfl Q4.out.an 1 true) rfl rfl ⟨rfl,F1,Q4.out.fin 1 true⟩
  ·rw [if_neg (by simp),if_neg (by simp),if_pos rfl]
   go_enter Tryz.func101,Tryz.ntmps101
   go_wp2_with fail
   refine (HH.out _ QL.out).mono ?_
   rintro e w1 ⟨rfl,F1,q1⟩
   have Q1:Hid (AS w w1 base (.pointer (some ⟨M,0,none⟩)) c P.s L' F F1 Z P b lv):=q1
   clear q1 x0 x1 x2 x11 x12 x13 x14 x15
   obtain ⟨y0,y1,y2,y11,y12,y13,y14,y15⟩:=Q1.out.cells
   obtain ⟨f11,f12,f13,f14,f15⟩:=Q1.out.fz
   have hx2:Z < w1.heap.size:=Q1.out.z
   go_wp2_with fail
   refine (HO.out _).mono ?_
   rintro e w2 ⟨rfl,rfl⟩
   go_wp2_with fail
   refine (HD.out _).mono ?_
   rintro e w2 ⟨rfl,rfl⟩
   have Q2:Hid (AS w (w2.setCell ⟨Z,12,none⟩ (.int .i64 0)) base (.pointer (some ⟨M,0,none⟩)) c P.s L' F F1 Z P ⟨b.nx,0,b.old,b.kn,b.wr⟩ lv):=Q1.out.onRow (BRaw.set12 Q1.out.bs.row 0) (keepZ (Keep.refl _ _) _ _)
   go_wp2_with fail
   refine (HT.out _ _ _ Q2.out).mono ?_
   rintro e w3 ⟨rfl,q3⟩
   have Q3:Hid (AS w w3 base (.pointer (some ⟨M,0,none⟩)) c P.s L' F F1 Z P (toWordB P ⟨b.nx,0,b.old,b.kn,b.wr⟩) lv):=q3
   clear q3 Q1 Q2 y0 y1 y2 y11 y12 y13 y14 y15 f11 f12 f13 f14 f15
   go_wp2_with fail
   refine (HM.out _ _ _ _ Q3.out).mono ?_
   rintro e w4 ⟨rfl,q4⟩
   have Q4:Hid (AS w w4 base (.pointer (some ⟨M,0,none⟩)) c P.s L' F F1 Z P (toWordB P ⟨b.nx,0,b.old,b.kn,b.wr⟩) lv):=q4
   clear q4 Q3
   obtain ⟨⟨a0,a1,a2,a3⟩,g0,g1,g2,g3⟩:=ans_cells Q4.out.an
   have hB:=heap_lt Q4.out.an
   go_wp2
   exact ret_ans rfl rfl (ans_set rfl Q4.out.an 2 true) rfl rfl ⟨rfl,F1,Q4.out.fin 2 true⟩
 ·rw [if_neg (by simp),if_pos rfl]
  go_enter Tryz.func101,Tryz.ntmps101
  go_wp2_with fail
  refine (HH.out _ QL.out).mono ?_
  rintro e w1 ⟨rfl,F1,q1⟩
  have Q1:Hid (AS w w1 base (.pointer (some ⟨M,0,none⟩)) c P.s L' F F1 Z P b lv):=q1
  clear q1 x0 x1 x2 x11 x12 x13 x14 x15
  obtain ⟨y0,y1,y2,y11,y12,y13,y14,y15⟩:=Q1.out.cells
  have hx2:Z < w1.heap.size:=Q1.out.z
  go_wp2_with fail
  refine (HO.out _).mono ?_
  rintro e w2 ⟨rfl,rfl⟩
  go_wp2_with fail
  refine (HV.out _ _ _ Q1.out).mono ?_
  rintro e w4 ⟨rfl,q4⟩
  have Q4:Hid (AS w w4 base (.pointer (some ⟨M,0,none⟩)) c P.s L' F F1 Z P (overB P b) lv):=q4
  clear q4 Q1 y0 y1 y2 y11 y12 y13 y14 y15
  obtain ⟨⟨a0,a1,a2,a3⟩,g0,g1,g2,g3⟩:=ans_cells Q4.out.an
  have hB:=heap_lt Q4.out.an
  go_wp2
  exact ret_ans rfl rfl (ans_set rfl Q4.out.an 2 true) rfl rfl ⟨rfl,F1,Q4.out.fin 2 true⟩
theorem bold_any {w:World} {base:Nat} {p:Value} {c:Nat} {L:List Ac} {F:List Nat} {Z:Nat} {P:Bp} {b:Bk} {lv:Value} (h:BS w base p c P.s L F Z P b lv) (hb:base≤w.heap.size) (hL:L.length < 3298534883328) (hk:BkOk P b) (t:Int) :
  Does 112 w base p c P.s F Z P lv t (if overV (wordOf L (hdB P b.old)) b.old=false then 1 else 2) (loadL c P.s L t (hdB P b.old)) (if overV (wordOf L (hdB P b.old)) b.old then overB P b else b):=by
 have HH : Hid (∀ w', AS w w' base p c P.s L F F Z P b lv → Calls Tryz.prog 103 #[.pointer (some ⟨Z, 0, none⟩), p, .int .i64 t, .int .i64 b.old] w' fun e w'' => e = .returned (.int .i64 (wordOf L (hdB P b.old))) ∧ ∃ F'', AS w w'' base p c P.s (loadL c P.s L t (hdB P b.old)) F F'' Z P b lv) := fun w' h => as_head h hL hk.p t b.old
 have HO:Hid (∀ w,Calls Tryz.prog 102 #[.int .i64 (wordOf L (hdB P b.old)),.int .i64 b.old] w fun e w' => e = .returned (.bool (overV (wordOf L (hdB P b.old)) b.old))∧w'=w):=over_any _ _
 have HX : Hid (∀ w' L' F' b', AS w w' base p c P.s L' F F' Z P b' lv → Calls Tryz.prog 104 #[] w' fun e w'' => e = .returned (ansM 1) ∧ AS w w'' base p c P.s L' F F' Z P b' lv) := fun w' L' F' b' h => as_waits h
 have HV : Hid (∀ w' L' F', AS w w' base p c P.s L' F F' Z P b lv → Calls Tryz.prog 105 #[.pointer (some ⟨Z, 0, none⟩)] w' fun e w'' => e = .returned (ansM 2) ∧ AS w w'' base p c P.s L' F F' Z P (overB P b) lv) := fun w' L' F' h => as_over h hk.p hk.wr
 have QL:Hid (AS w (w.alloc (.cells #[.int .i64 0,.int .i64 0,.int .i64 0,.bool false] 55)) base p c P.s L F F Z P b lv):=AS.start h hb
 obtain ⟨x0,x1,x2,x11,x12,x13,x14,x15⟩:=BRaw.cells h.row
 have hx:Z < w.heap.size:=heap_lt h.row
 obtain ⟨M,rfl⟩:=h.mem.ptr
 have SC : Hid (∀ w' L' F', AS w w' base (.pointer (some ⟨M, 0, none⟩)) c P.s L' F F' Z P b lv → w'.cell? ⟨Z, 13, none⟩ = some (.int .i64 b.old)) := fun w' _ _ h => h.cells.2.2.2.2.2.1
 unfold Does ansM at *
 generalize overV (wordOf L (hdB P b.old)) b.old=ov at *
 generalize wordOf L (hdB P b.old)=v at *
 generalize loadL c P.s L t (hdB P b.old)=L' at *
 clear h hk
 cases ov
 ·rw [if_pos rfl,if_neg (by simp)]
  go_enter Tryz.func112,Tryz.ntmps112
  go_wp2_with fail
  go_region_with ((first
      | (go_at_call 103; have q0:=QL.out.drew; refine (HH.out _ q0).mono ?_; clear q0; rintro e w1 ⟨rfl,F1,q1⟩; have Q1:Hid (AS w w1 base (.pointer (some ⟨M,0,none⟩)) c P.s L' F F1 Z P b lv):=q1; clear q1; have c13:=SC.out _ _ _ Q1.out)
      | (go_at_call 102; refine (HO.out _).mono ?_; rintro e w' ⟨rfl,rfl⟩)))
  all_goals
   clear QL c13 x0 x1 x2 x11 x12 x13 x14 x15
   go_wp2_with fail
   refine (HX.out _ _ _ _ Q1.out).mono ?_
   rintro e w4 ⟨rfl,q4⟩
   have Q4:Hid (AS w w4 base (.pointer (some ⟨M,0,none⟩)) c P.s L' F F1 Z P b lv):=q4
   clear q4 Q1
   obtain ⟨⟨a0,a1,a2,a3⟩,g0,g1,g2,g3⟩:=ans_cells Q4.out.an
   have hB:=heap_lt Q4.out.an
   go_wp2
   exact ret_ans rfl rfl (ans_set rfl Q4.out.an 1 true) rfl rfl ⟨rfl,F1,Q4.out.fin 1 true⟩
 ·rw [if_neg (by simp),if_pos rfl]
  go_enter Tryz.func112,Tryz.ntmps112
  go_wp2_with fail
  go_region_with ((first
      | (go_at_call 103; have q0:=QL.out.drew; refine (HH.out _ q0).mono ?_; clear q0; rintro e w1 ⟨rfl,F1,q1⟩; have Q1:Hid (AS w w1 base (.pointer (some ⟨M,0,none⟩)) c P.s L' F F1 Z P b lv):=q1; clear q1; have c13:=SC.out _ _ _ Q1.out)
      | (go_at_call 102; refine (HO.out _).mono ?_; rintro e w' ⟨rfl,rfl⟩)))
  all_goals
   clear QL c13 x0 x1 x2 x11 x12 x13 x14 x15
   go_wp2_with fail
   refine (HV.out _ _ _ Q1.out).mono ?_
   rintro e w4 ⟨rfl,q4⟩
   have Q4:Hid (AS w w4 base (.pointer (some ⟨M,0,none⟩)) c P.s L' F F1 Z P (overB P b) lv):=q4
   clear q4 Q1
   obtain ⟨⟨a0,a1,a2,a3⟩,g0,g1,g2,g3⟩:=ans_cells Q4.out.an
   have hB:=heap_lt Q4.out.an
   go_wp2
   exact ret_ans rfl rfl (ans_set rfl Q4.out.an 2 true) rfl rfl ⟨rfl,F1,Q4.out.fin 2 true⟩
theorem ball_any {w:World} {base:Nat} {p:Value} {c:Nat} {L:List Ac} {F:List Nat} {Z:Nat} {P:Bp} {b:Bk} {lv:Value} (h:BS w base p c P.s L F Z P b lv) (hb:base≤w.heap.size) (hL:L.length < 3298534883328) (hk:BkOk P b) (t:Int) :
  Does 99 w base p c P.s F Z P lv t (if overV (wordOf L (hdB P (P.st - 1))) (P.st - 1)=false then 1 else 2) (loadL c P.s L t (hdB P (P.st - 1))) (if overV (wordOf L (hdB P (P.st - 1))) (P.st - 1) then goB P ⟨b.nx,b.wd,b.old,true,b.wr⟩ else b):=by
 have HH : Hid (∀ w', AS w w' base p c P.s L F F Z P b lv → Calls Tryz.prog 103 #[.pointer (some ⟨Z, 0, none⟩), p, .int .i64 t, .int .i64 (P.st - 1)] w' fun e w'' => e = .returned (.int .i64 (wordOf L (hdB P (P.st - 1)))) ∧ ∃ F'', AS w w'' base p c P.s (loadL c P.s L t (hdB P (P.st - 1))) F F'' Z P b lv) := fun w' h => as_head h hL hk.p t (P.st - 1)
 have HO:Hid (∀ w,Calls Tryz.prog 102 #[.int .i64 (wordOf L (hdB P (P.st - 1))),.int .i64 (P.st - 1)] w fun e w' => e = .returned (.bool (overV (wordOf L (hdB P (P.st - 1))) (P.st - 1)))∧w'=w):=over_any _ _
 have HX : Hid (∀ w' L' F' b', AS w w' base p c P.s L' F F' Z P b' lv → Calls Tryz.prog 104 #[] w' fun e w'' => e = .returned (ansM 1) ∧ AS w w'' base p c P.s L' F F' Z P b' lv) := fun w' L' F' b' h => as_waits h
 have HM : Hid (∀ w' L' F' b', AS w w' base p c P.s L' F F' Z P b' lv → Calls Tryz.prog 89 #[] w' fun e w'' => e = .returned (ansM 2) ∧ AS w w'' base p c P.s L' F F' Z P b' lv) := fun w' L' F' b' h => as_moved h
 have HG : Hid (∀ w' L' F', AS w w' base p c P.s L' F F' Z P ⟨b.nx, b.wd, b.old, true, b.wr⟩ lv → Calls Tryz.prog 94 #[.pointer (some ⟨Z, 0, none⟩)] w' fun e w'' => e = .returned (.tuple #[]) ∧ AS w w'' base p c P.s L' F F' Z P (goB P ⟨b.nx, b.wd, b.old, true, b.wr⟩) lv) := fun w' L' F' h => as_goOn h hk.p hk.wr
 have QL:Hid (AS w (w.alloc (.cells #[.int .i64 0,.int .i64 0,.int .i64 0,.bool false] 55)) base p c P.s L F F Z P b lv):=AS.start h hb
 obtain ⟨x0,x1,x2,x11,x12,x13,x14,x15⟩:=BRaw.cells h.row
 have hx:Z < w.heap.size:=heap_lt h.row
 obtain ⟨M,rfl⟩:=h.mem.ptr
 have SC : Hid (∀ w' L' F', AS w w' base (.pointer (some ⟨M, 0, none⟩)) c P.s L' F F' Z P b lv → w'.cell? ⟨Z, 1, none⟩ = some (.int .i64 P.st)) := fun w' _ _ h => h.cells.2.1
 have hw:wrap64 (P.st - 1)=P.st - 1:=by
  have:=hk.p.st1
  have:=hk.p.st2
  unfold wrap64; omega
 have hw':IntKind.i64.wrap (P.st - 1)=P.st - 1:=by
  have:=hk.p.st1
  have:=hk.p.st2
  rw [IntKind.wrap_i64]; omega
 unfold Does ansM at *
 generalize overV (wordOf L (hdB P (P.st - 1))) (P.st - 1)=ov at *
 generalize wordOf L (hdB P (P.st - 1))=v at *
 generalize loadL c P.s L t (hdB P (P.st - 1))=L' at *
 clear h hk
 cases ov
 ·rw [if_pos rfl,if_neg (by simp)]
  go_enter Tryz.func99,Tryz.ntmps99
  go_wp2_with fail
  go_region_with ((first
      | (go_at_call 103; have q0:=QL.out.drew; refine (HH.out _ q0).mono ?_; clear q0; rintro e w1 ⟨rfl,F1,q1⟩; have Q1:Hid (AS w w1 base (.pointer (some ⟨M,0,none⟩)) c P.s L' F F1 Z P b lv):=q1; clear q1; have c1:=SC.out _ _ _ Q1.out)
      | (go_at_call 102; refine (HO.out _).mono ?_; rintro e w' ⟨rfl,rfl⟩)))
  all_goals
   clear QL c1 x0 x1 x2 x11 x12 x13 x14 x15
   go_wp2_with fail
   refine (HX.out _ _ _ _ Q1.out).mono ?_
   rintro e w4 ⟨rfl,q4⟩
   have Q4:Hid (AS w w4 base (.pointer (some ⟨M,0,none⟩)) c P.s L' F F1 Z P b lv):=q4
   clear q4 Q1
   obtain ⟨⟨a0,a1,a2,a3⟩,g0,g1,g2,g3⟩:=ans_cells Q4.out.an
   have hB:=heap_lt Q4.out.an
   go_wp2
   exact ret_ans rfl rfl (ans_set rfl Q4.out.an 1 true) rfl rfl ⟨rfl,F1,Q4.out.fin 1 true⟩
 ·rw [if_neg (by simp),if_pos rfl]
  go_enter Tryz.func99,Tryz.ntmps99
  go_wp2_with fail
  go_region_with ((first
      | (go_at_call 103; have q0:=QL.out.drew; refine (HH.out _ q0).mono ?_; clear q0; rintro e w1 ⟨rfl,F1,q1⟩; have Q1:Hid (AS w w1 base (.pointer (some ⟨M,0,none⟩)) c P.s L' F F1 Z P b lv):=q1; clear q1; have c1:=SC.out _ _ _ Q1.out)
      | (go_at_call 102; refine (HO.out _).mono ?_; rintro e w' ⟨rfl,rfl⟩)))
  all_goals
   clear QL c1 x0 x1 x2 x11 x12 x13 x14 x15
   obtain ⟨f11,f12,f13,f14,f15⟩:=Q1.out.fz
   obtain ⟨y0,y1,y2,y11,y12,y13,y14,y15⟩:=Q1.out.cells
   have hx2:Z < w'.heap.size:=Q1.out.z
   have Q2:Hid (AS w (w'.setCell ⟨Z,14,none⟩ (.bool true)) base (.pointer (some ⟨M,0,none⟩)) c P.s L' F F1 Z P ⟨b.nx,b.wd,b.old,true,b.wr⟩ lv):=Q1.out.onRow (BRaw.set14 Q1.out.bs.row true) (keepZ (Keep.refl _ _) _ _)
   go_wp2_with fail
   refine (HG.out _ _ _ Q2.out).mono ?_
   rintro e w3 ⟨rfl,q3⟩
   have Q3:Hid (AS w w3 base (.pointer (some ⟨M,0,none⟩)) c P.s L' F F1 Z P (goB P ⟨b.nx,b.wd,b.old,true,b.wr⟩) lv):=q3
   clear q3 Q1 Q2 f11 f12 f13 f14 f15 y0 y1 y2 y11 y12 y13 y14 y15
   go_wp2_with fail
   refine (HM.out _ _ _ _ Q3.out).mono ?_
   rintro e w4 ⟨rfl,q4⟩
   have Q4:Hid (AS w w4 base (.pointer (some ⟨M,0,none⟩)) c P.s L' F F1 Z P (goB P ⟨b.nx,b.wd,b.old,true,b.wr⟩) lv):=q4
   clear q4 Q3
   obtain ⟨⟨a0,a1,a2,a3⟩,g0,g1,g2,g3⟩:=ans_cells Q4.out.an
   have hB:=heap_lt Q4.out.an
   go_wp2
   exact ret_ans rfl rfl (ans_set rfl Q4.out.an 2 true) rfl rfl ⟨rfl,F1,Q4.out.fin 2 true⟩
theorem bcomp_any {w:World} {base:Nat} {p:Value} {c:Nat} {L:List Ac} {F:List Nat} {Z:Nat} {P:Bp} {b:Bk} {lv:Value} (h:BS w base p c P.s L F Z P b lv) (hb:base≤w.heap.size) (hL:L.length < 3298534883328) (hk:BkOk P b) (t:Int) :
  Does 100 w base p c P.s F Z P lv t 3 (storeL c P.s L t ⟨2,slotV P.st P.s,0⟩ (2 * P.st+1)) ⟨0,b.wd,b.old,b.kn,b.wr⟩:=by
 have hbd:=slotB_bd hk.p P.st
 have HS : Hid (∀ w', AS w w' base p c P.s L F F Z P b lv → Calls Tryz.prog 86 #[p, .int .i64 t, .agg #[.int .i64 2, .int .i64 (slotV P.st P.s), .int .i64 0], .int .i64 (headV P.st true)] w' fun e w'' => e = .returned (.int .i64 0) ∧ ∃ F'', AS w w'' base p c P.s (storeL c P.s L t ⟨2, slotV P.st P.s, 0⟩ (2 * P.st + 1)) F F'' Z P b lv) := fun w' h => by
  rw [headV_is hk.p,if_pos rfl]
  exact as_store h hL t ⟨2,slotV P.st P.s,0⟩ _ (by simp [isAd,hbd])
 have HW : Hid (∀ w', AS w w' base p c P.s L F F Z P b lv → Calls Tryz.prog 92 #[.pointer (some ⟨Z, 0, none⟩), .int .i64 P.st] w' fun e w'' => e = .returned (.agg #[.int .i64 2, .int .i64 (slotV P.st P.s), .int .i64 0]) ∧ AS w w'' base p c P.s L F F Z P b lv) := fun w' h => as_headOf h P.st
 have HH:Hid (∀ w,Calls Tryz.prog 93 #[.int .i64 P.st,.bool true] w fun e w' => e = .returned (.int .i64 (headV P.st true))∧w'=w):=fun w=>head_any P.st true w
 have QL:Hid (AS w (w.alloc (.cells #[.int .i64 0,.int .i64 0,.int .i64 0,.bool false] 55)) base p c P.s L F F Z P b lv):=AS.start h hb
 obtain ⟨x0,x1,x2,x11,x12,x13,x14,x15⟩:=BRaw.cells h.row
 have hx:Z < w.heap.size:=heap_lt h.row
 obtain ⟨M,rfl⟩:=h.mem.ptr
 unfold Does ansM at *
 have SC : Hid (∀ w' L' F', AS w w' base (.pointer (some ⟨M, 0, none⟩)) c P.s L' F F' Z P b lv → w'.cell? ⟨Z, 1, none⟩ = some (.int .i64 P.st)) := fun w' _ _ h => h.cells.2.1
 generalize headV P.st true=hv at *
 generalize storeL c P.s L t ⟨2,slotV P.st P.s,0⟩ (2 * P.st+1)=L' at *
 generalize slotV P.st P.s=sl at *
 clear h hk
 go_enter Tryz.func100,Tryz.ntmps100
 go_wp2_with fail
 go_region_with ((first
      | (go_at_call 92; have q0:=QL.out.drew; refine (HW.out _ q0).mono ?_; clear q0; rintro e w1 ⟨rfl,q1⟩; have QL:Hid (AS w w1 base (.pointer (some ⟨M,0,none⟩)) c P.s L F F Z P b lv):=q1; clear q1; have c1:=SC.out _ _ _ QL.out)
      | (go_at_call 93; refine (HH.out _).mono ?_; rintro e w' ⟨rfl,rfl⟩)
      | (go_at_call 86; refine (HS.out _ QL.out).mono ?_; rintro e w2 ⟨rfl,F2,q2⟩)))
 all_goals
  have Q2:Hid (AS w w2 base (.pointer (some ⟨M,0,none⟩)) c P.s L' F F2 Z P b lv):=q2
  clear q2 QL c1 x0 x1 x2 x11 x12 x13 x14 x15
  obtain ⟨y0,y1,y2,y11,y12,y13,y14,y15⟩:=Q2.out.cells
  obtain ⟨f11,f12,f13,f14,f15⟩:=Q2.out.fz
  have hx2:Z < w2.heap.size:=Q2.out.z
  have Q4:Hid (AS w (w2.setCell ⟨Z,11,none⟩ .nilFunc) base (.pointer (some ⟨M,0,none⟩)) c P.s L' F F2 Z P ⟨0,b.wd,b.old,b.kn,b.wr⟩ lv):=Q2.out.onRow (BRaw.set11 Q2.out.bs.row (fnB 0)) (keepZ (Keep.refl _ _) _ _)
  obtain ⟨⟨a0,a1,a2,a3⟩,g0,g1,g2,g3⟩:=ans_cells Q2.out.an
  have hB:=heap_lt Q2.out.an
  have hne:w.heap.size≠Z:=fun e=>Q2.out.no (by simp [e])
  go_wp2
  exact ret_ans rfl rfl (ans_set rfl Q4.out.an 3 true) rfl rfl ⟨rfl,F2,Q4.out.fin 3 true⟩
theorem bgoes_any {w:World} {base:Nat} {p:Value} {c r:Nat} {L:List Ac} {F:List Nat} {Z:Nat} {P:Bp} {b:Bk} {lv:Value} (h:BS w base p c r L F Z P b lv) (hk:BkOk P b) :
  Calls Tryz.prog 161 #[.pointer (some ⟨Z,0,none⟩),p] w fun e w' => e = .returned (.bool (goesB c r P b))∧Below w.heap.size w w':=by
 have HS : Hid (∀ w', Below w.heap.size w w' → Calls Tryz.prog 44 #[p] w' fun e w'' => e = .returned (.tuple #[.int .i64 (c : Int), .int .i64 (r : Int)]) ∧ Below w.heap.size w w'') := fun w' k => (sizes_any (h.mem.below k)).mono fun _ _ q => ⟨q.1, below_then k q.2⟩
 have hx:Z < w.heap.size:=heap_lt h.row
 obtain ⟨M,rfl⟩:=h.mem.ptr
 have HC:Hid (∀ w' B,Below w.heap.size w w'→w'.cell? ⟨B,0,none⟩=some (.int .i64 (c:Int))→Calls Tryz.prog 163 #[lv,.func (.func 162) #[] #[.pointer (some ⟨B,0,none⟩)]] w' fun e w'' => e = .returned (.bool (lack P.W c))∧Below w.heap.size w w''):=fun w' B k hB=>(cont_any (own_keep h.own (Keep.of_below k []) (fun _ _=>by simp)) hk.p.len c B hB).mono fun _ _ q=>⟨q.1,below_then k q.2⟩
 have HR : Hid (∀ w', Below w.heap.size w w' → BRow w' Z P b lv) := fun w' k => h.row.below k hx
 obtain ⟨x0,x1,x2,x11,x12,x13,x14,x15⟩:=BRaw.cells h.row
 have HF1 : ∀ w,(binOp .eql 161 .nilFunc .nilFunc).run Tryz.prog w = .ok (.bool true) w:=fun _=>rfl
 have HF2 : ∀ (fn:FuncId) w,(binOp .eql 161 (.func (.func fn) #[] #[]) .nilFunc).run Tryz.prog w = .ok (.bool false) w:=fun _ _=>rfl
 have hmf : ∀ (fn:Fn) (first cap:Array Value) (w:World),(Instr.makeFunc fn first cap).run Tryz.prog w = .ok (.func fn first cap) w:=fun _ _ _ _=>rfl
 rw [goesB_lack]
 by_cases e0:b.nx=0
 ·have d0:decide (b.nx≠0)=false:=decide_eq_false (by omega)
  rw [d0]
  have ef:fnB b.nx = .nilFunc:=by rw [e0]; rfl
  rw [ef] at x11
  clear h hk
  go_enter Tryz.func161,Tryz.ntmps161
  go_wp2
  go_ret
  exact ⟨by simp,Below.refl _ _⟩
 ·have d0:decide (b.nx≠0)=true:=decide_eq_true e0
  rw [d0]
  have hn8:=hk.nx
  obtain ⟨fn,ef⟩ : ∃ fn,fnB b.nx = .func (.func fn) #[] #[]:=by
   have:b.nx=1∨b.nx=2∨b.nx=3∨b.nx=4∨b.nx=5∨b.nx=6∨b.nx=7∨b.nx=8:=by omega
   rcases this with e | e | e | e | e | e | e | e <;> rw [e] <;> exact ⟨_,rfl⟩
  rw [ef] at x11
  have HSL:Hid (∃ a cap,lv = .slice a P.W.length cap):=h.slice
  clear h hk
  obtain ⟨la,lcap,hlv⟩:=HSL.out
  subst hlv
  generalize lack P.W c=lk at *
  by_cases er:r=P.s
  ·have dr:decide (r=P.s)=true:=decide_eq_true er
   rw [dr]
   subst er
   go_enter Tryz.func161,Tryz.ntmps161
   go_wp2_with fail
   refine (HS.out _ (by first | exact Below.refl _ _ | exact below_a1 _ _)).mono ?_
   rintro e w1 ⟨rfl,hb1⟩
   have HB:Hid (Below w.heap.size w w1):=hb1
   clear x0 x1 x2 x11 x12 x13 x14 x15
   obtain ⟨x0,x1,x2,x11,x12,x13,x14,x15⟩:=BRaw.cells (HR.out _ hb1)
   have hx1:Z < w1.heap.size:=Nat.lt_of_lt_of_le hx hb1.size
   clear hb1
   go_wp2_with fail
   refine (HC.out _ _ (below_alloc HB.out _) (by rw [cell_at (heap_alloc_new _ _)]; rfl)).mono ?_
   rintro e w2 ⟨rfl,hb2⟩
   have HB2:Hid (Below w.heap.size w w2):=hb2
   clear hb2
   go_wp2
   go_ret
   exact ⟨by simp,HB2.out⟩
  ·have dr:decide (r=P.s)=false:=decide_eq_false er
   have er' : ¬ (r:Int)=(P.s:Int):=by omega
   have er2:((r:Int) == (P.s:Int))=false:=by simp; omega
   rw [dr]
   go_enter Tryz.func161,Tryz.ntmps161
   go_wp2_with fail
   refine (HS.out _ (by first | exact Below.refl _ _ | exact below_a1 _ _)).mono ?_
   rintro e w1 ⟨rfl,hb1⟩
   have HB:Hid (Below w.heap.size w w1):=hb1
   clear x0 x1 x2 x11 x12 x13 x14 x15
   obtain ⟨x0,x1,x2,x11,x12,x13,x14,x15⟩:=BRaw.cells (HR.out _ hb1)
   have hx1:Z < w1.heap.size:=Nat.lt_of_lt_of_le hx hb1.size
   clear hb1
   go_wp2
   first | (go_ret; exact ⟨by simp,below_alloc HB.out _⟩) | (go_quiet (fail); go_wp2; go_ret; exact ⟨by simp,below_drawn (below_alloc HB.out _) _⟩)
theorem bstep_none {w:World} {base:Nat} {p:Value} {c r:Nat} {L:List Ac} {F:List Nat} {Z:Nat} {P:Bp} {b:Bk} {lv:Value} (h:BS w base p c r L F Z P b lv) (hk:BkOk P b) (hn:goesB c r P b=false) (t:Int) :
  Calls Tryz.prog 160 #[.pointer (some ⟨Z,0,none⟩),p,.int .i64 t] w fun e w' => e = .returned (ansC 0 false)∧Below w.heap.size w w':=by
 have HG:Hid (∀ o,Calls Tryz.prog 161 #[.pointer (some ⟨Z,0,none⟩),p] (w.alloc o) fun e w' => e = .returned (.bool false)∧Below (w.alloc o).heap.size (w.alloc o) w'):=fun o=>by
  rw [← hn]; exact bgoes_any (h.below (below_a1 _ _)) hk
 obtain ⟨M,rfl⟩:=h.mem.ptr
 clear h hk hn
 unfold ansC
 go_enter Tryz.func160,Tryz.ntmps160
 go_wp2_with fail
 refine (HG.out _).mono ?_
 rintro e w1 ⟨rfl,hb⟩
 have HR:Hid (w1.heap[w.heap.size]? = some (.cells #[.int .i64 0,.int .i64 0,.int .i64 0,.bool false] 55 (0,0))):=row_on (heap_alloc_new _ _) hb
 obtain ⟨⟨a0,a1,a2,a3⟩,g0,g1,g2,g3⟩:=ans_cells HR.out
 have hB:=heap_lt HR.out
 have HB:Hid (Below w.heap.size w w1):=below_then (below_a1 _ _) hb
 clear hb
 go_wp2
 exact ret_ans rfl rfl (ans_set rfl HR.out 0 false) rfl rfl ⟨rfl,below4 HB.out (Nat.le_refl _) 0 false⟩
theorem bstep_by {w:World} {base:Nat} {p:Value} {c r:Nat} {L L':List Ac} {F:List Nat} {Z:Nat} {P:Bp} {b b':Bk} {lv:Value} (h:BS w base p c r L F Z P b lv) (hk:BkOk P b) (hg:goesB c r P b=true) (hb:base≤w.heap.size) (t k:Int) (fn:FuncId) (ef:fnB b.nx = .func (.func fn) #[] #[])
  (HC : ∀ w', Below w.heap.size w w' → Does fn w' base p c r F Z P lv t k L' b') :
  Calls Tryz.prog 160 #[.pointer (some ⟨Z, 0, none⟩), p, .int .i64 t] w fun e w' => e = .returned (ansM k) ∧ ∃ F', BS w' base p c r L' F' Z P b' lv ∧ Next (Z :: F) (Z :: F') w w' := by
 have HG:Hid (∀ o,Calls Tryz.prog 161 #[.pointer (some ⟨Z,0,none⟩),p] (w.alloc o) fun e w' => e = .returned (.bool true)∧Below (w.alloc o).heap.size (w.alloc o) w'):=fun o=>by
  rw [← hg]; exact bgoes_any (h.below (below_a1 _ _)) hk
 have HT : Hid (∀ w', Below w.heap.size w w' → w'.cell? ⟨Z, 11, none⟩ = some (fnB b.nx)) := fun w' hb' => (BRaw.cells (h.below hb').row).2.2.2.1
 have HA : Hid (∀ w', Below (w.alloc (.cells #[.int .i64 0, .int .i64 0, .int .i64 0, .bool false] 55)).heap.size (w.alloc (.cells #[.int .i64 0, .int .i64 0, .int .i64 0, .bool false] 55)) w' → AS w w' base p c r L F F Z P b lv) := fun w' k => AS.new h hb k
 have hx:Z < w.heap.size:=heap_lt h.row
 obtain ⟨M,rfl⟩:=h.mem.ptr
 have HE : Hid (∀ w' w'' F', AS w w' base (.pointer (some ⟨M, 0, none⟩)) c r L F F Z P b lv → BS w'' base (.pointer (some ⟨M, 0, none⟩)) c r L' F' Z P b' lv → Next (Z :: F) (Z :: F') w' w'' → AS w w'' base (.pointer (some ⟨M, 0, none⟩)) c r L' F F' Z P b' lv) := fun w' w'' F' ha hbs hn =>
  ⟨ha.an.keep hn.1 ha.no,hbs,ha.nx.trans hn,fun e=>by
      rcases hn.2 _ e with h1 | h1
      · exact ha.no h1
      · have:=heap_lt ha.an; omega,ha.nl,ha.hb⟩
 have hnx:=hk.nx
 have hn0:=(goesB_iff.mp hg).1
 have hc:b.nx=1∨b.nx=2∨b.nx=3∨b.nx=4∨b.nx=5∨b.nx=6∨b.nx=7∨b.nx=8:=by omega
 unfold Does at HC
 unfold ansM at *
 rcases hc with e | e | e | e | e | e | e | e
 all_goals
  rw [e] at ef HT
  simp [fnB] at ef
  subst ef
  simp only [fnB] at HT
  have HC2:=HC
  clear h hg hk e HC hnx hn0
  go_enter Tryz.func160,Tryz.ntmps160
  go_wp2_with fail
  refine (HG.out _).mono ?_
  rintro e w1 ⟨rfl,hb1⟩
  have Q1:Hid (AS w w1 base (.pointer (some ⟨M,0,none⟩)) c r L F F Z P b lv):=HA.out _ hb1
  have HB:Hid (Below w.heap.size w w1):=below_then (below_a1 _ _) hb1
  have t2:=HT.out _ HB.out
  have hx1:Z < w1.heap.size:=Nat.lt_of_lt_of_le hx HB.out.size
  clear hb1
  go_wp2_with fail
  refine (HC2 _ HB.out).mono ?_
  rintro e w2 ⟨rfl,F2,k2,n2⟩
  have Q2:Hid (AS w w2 base (.pointer (some ⟨M,0,none⟩)) c r L' F F2 Z P b' lv):=HE.out _ _ _ Q1.out k2 n2
  clear k2 n2 t2
  obtain ⟨⟨a0,a1,a2,a3⟩,g0,g1,g2,g3⟩:=ans_cells Q2.out.an
  have hB:=heap_lt Q2.out.an
  go_wp2
  exact ret_ans rfl rfl (ans_set rfl Q2.out.an k true) rfl rfl ⟨rfl,F2,Q2.out.fin k true⟩
theorem bstep {w:World} {base:Nat} {p:Value} {c r:Nat} {L:List Ac} {F:List Nat} {Z:Nat} {P:Bp} {b:Bk} {lv:Value} (h:BS w base p c r L F Z P b lv) (hk:BkOk P b) (hb:base≤w.heap.size) (hL:L.length < 3298534883328) (t:Int) :
  Calls Tryz.prog 160 #[.pointer (some ⟨Z, 0, none⟩), p, .int .i64 t] w fun e w' => e = .returned (ansC (ansBk c r P b L) (goesB c r P b)) ∧ ∃ F', BS w' base p c r (nextBL c r P b L t) F' Z P (nextBk c r P b L) lv ∧ Next (Z :: F) (Z :: F') w w' := by
 by_cases hg:goesB c r P b=true
 ·obtain ⟨h0,er,hc⟩:=goesB_iff.mp hg
  subst er
  have hnx:=hk.nx
  have key : ∀ (k : Int) (L' : List Ac) (b' : Bk), ansBk c P.s P b L = k → nextBL c P.s P b L t = L' → nextBk c P.s P b L = b' → ∀ fn, fnB b.nx = .func (.func fn) #[] #[] → (∀ w', Below w.heap.size w w' → Does fn w' base p c P.s F Z P lv t k L' b') →
    Calls Tryz.prog 160 #[.pointer (some ⟨Z, 0, none⟩), p, .int .i64 t] w fun e w' => e = .returned (ansC (ansBk c P.s P b L) (goesB c P.s P b)) ∧ ∃ F', BS w' base p c P.s (nextBL c P.s P b L t) F' Z P (nextBk c P.s P b L) lv ∧ Next (Z :: F) (Z :: F') w w' := fun k L' b' e1 e2 e3 fn ef HC => by
   rw [e1,e2,e3,hg]
   exact bstep_by h hk hg hb t k fn ef HC
  have hle : ∀ w', Below w.heap.size w w' → base ≤ w'.heap.size := fun w' k => Nat.le_trans hb k.size
  have hcs:b.nx=1∨b.nx=2∨b.nx=3∨b.nx=4∨b.nx=5∨b.nx=6∨b.nx=7∨b.nx=8:=by omega
  rcases hcs with e | e | e | e | e | e | e | e
  ·refine key _ _ _ ?_ ?_ ?_ 79 (by rw [e]; rfl) (fun w' k=>blayw_any (h.below k) (hle w' k) hL hk e t)
   ·simp [ansBk,hg,waitB,e]
   ·simp [nextBL,hg,accL,ldB,adB,valB,e]
   ·simp [nextBk,hg,stepB,waitB,e]
  ·refine key _ _ _ ?_ ?_ ?_ 88 (by rw [e]; rfl) (fun w' k=>blayh_any (h.below k) (hle w' k) hL hk t)
   ·simp [ansBk,hg,waitB,e]
   ·simp [nextBL,hg,accL,ldB,adB,valB,e]
   ·simp [nextBk,hg,stepB,waitB,e]
  ·refine key _ _ _ ?_ ?_ ?_ 101 (by rw [e]; rfl) (fun w' k=>blook_any (h.below k) (hle w' k) hL hk e t)
   ·have:adB P b=hdB P b.old:=by simp [adB,e,hdB]
    unfold ansBk
    rw [if_pos hg,this]
    unfold waitB
    rw [if_pos e]
    cases overV (wordOf L (hdB P b.old)) b.old <;> cases laidV (wordOf L (hdB P b.old)) b.old <;> simp [e]
   ·simp [nextBL,hg,accL,ldB,adB,e,hdB]
   ·have:adB P b=hdB P b.old:=by simp [adB,e,hdB]
    unfold nextBk
    rw [if_pos hg,this]
    unfold stepB waitB
    rw [if_pos e]
    cases overV (wordOf L (hdB P b.old)) b.old <;> cases laidV (wordOf L (hdB P b.old)) b.old <;> simp [e]
  ·refine key _ _ _ ?_ ?_ ?_ 111 (by rw [e]; rfl) (fun w' k=>bhold_any (h.below k) (hle w' k) hL hk e t)
   ·simp [ansBk,hg,waitB,e]
   ·simp [nextBL,hg,accL,ldB,adB,e,wdB]
   ·simp [nextBk,hg,stepB,waitB,e,adB,wdB]
  ·refine key _ _ _ ?_ ?_ ?_ 112 (by rw [e]; rfl) (fun w' k=>bold_any (h.below k) (hle w' k) hL hk t)
   ·have:adB P b=hdB P b.old:=by simp [adB,e,hdB]
    unfold ansBk
    rw [if_pos hg,this]
    unfold waitB
    cases hov:overV (wordOf L (hdB P b.old)) b.old <;> simp [e]
   ·simp [nextBL,hg,accL,ldB,adB,e,hdB]
   ·have:adB P b=hdB P b.old:=by simp [adB,e,hdB]
    unfold nextBk
    rw [if_pos hg,this]
    unfold stepB waitB
    cases hov:overV (wordOf L (hdB P b.old)) b.old <;> simp [e]
  ·refine key _ _ _ ?_ ?_ ?_ 98 (by rw [e]; rfl) (fun w' k=>bwrite_any (h.below k) (hle w' k) hL hk hc e t)
   ·simp [ansBk,hg,waitB,e]
   ·simp [nextBL,hg,accL,ldB,adB,valB,e]
   ·simp [nextBk,hg,stepB,waitB,e]
  ·refine key _ _ _ ?_ ?_ ?_ 99 (by rw [e]; rfl) (fun w' k=>ball_any (h.below k) (hle w' k) hL hk t)
   ·have:adB P b=hdB P (P.st - 1):=by simp [adB,e,hdB]
    unfold ansBk
    rw [if_pos hg,this]
    unfold waitB
    cases hov:overV (wordOf L (hdB P (P.st - 1))) (P.st - 1) <;> simp [e]
   ·simp [nextBL,hg,accL,ldB,adB,e,hdB]
   ·have:adB P b=hdB P (P.st - 1):=by simp [adB,e,hdB]
    unfold nextBk
    rw [if_pos hg,this]
    unfold stepB waitB
    cases hov:overV (wordOf L (hdB P (P.st - 1))) (P.st - 1) <;> simp [e]
  ·refine key _ _ _ ?_ ?_ ?_ 100 (by rw [e]; rfl) (fun w' k=>bcomp_any (h.below k) (hle w' k) hL hk t)
   ·simp [ansBk,hg,waitB,e]
   ·simp [nextBL,hg,accL,ldB,adB,valB,e]
   ·simp [nextBk,hg,stepB,waitB,e]
 ·have hf:goesB c r P b=false:=by simpa using hg
  refine (bstep_none h hk hf t).mono ?_
  rintro e w' ⟨rfl,hb'⟩
  unfold ansBk nextBL nextBk
  rw [hf]
  exact ⟨rfl, F, h.below hb', Next.of_below hb' _⟩
end Go.Proofs.YtdkpgdkjohjcaaaGreat.Ba
