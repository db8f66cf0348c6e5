/- A whole transaction as plain data: what Do and Step make of it. -/
import Derived.Test.YtigfjedohdgjfaaGreatDoorBegX
import Derived.Test.YtigfjedohdgjfaaGreatDoorJFcJFtB
import Derived.Test.YtigfjedohdgjfaaGreatDoorJCmACmD
import Derived.Test.YtigfjedohdgjfaaGreatDoorJBkABkJ
import Derived.Test.YtigfjedohdgjfaaGreatDoorJBkNBkO
import Derived.Test.YtigfjedohdgjfaaGreatDoorJLogALogB
namespace Go.Proofs.YtigfjedohdgjfaaGreatDoor
open Go.RowKit (wrap64)
structure Ev where
 kind:Int
 cell:Int:=0
 value:Int:=0
 own:Bool:=false
 start:Int:=0
 seen:Int:=0
 stamp:Int:=0
 sig:List Nat:=Sg.nought
 err:Int:=0
def toW (R:List Tl.Wr):List Wt:=R.map fun x=>⟨x.c,x.v⟩
inductive Wy where
 | no
 | bg (b:Bg)
 | rd (P:Fe.Cp) (b:Fe.Ck)
 | cm (P:Co.Cp) (b:Co.Ck) (u:Co.Cu)
 | wr (P:Ba.Bp) (b:Ba.Bk)
structure Tx where
 s:Nat
 n:Int
 mu:Bool
 tb:Tl.Tb
 rd:List Nat
 ev:List Ev
 wy:Wy
 begun:Bool
 z:Int
 seen:Int
def Tx.phase (x:Tx):Int:=match x.wy with
 | .no=>if x.begun then 2 else 0
 | .bg _=>1
 | .rd _ _=>3
 | .cm _ _ _=>4
 | .wr _ _=>5
structure Out where
 x:Tx
 L:List Ac
 k:Int
 e:Int
 v:Int
 y:Bool
def newX (s:Nat) (n:Int) (mu:Bool) (m:Nat):Tx:=⟨s,n,mu,Tl.empty m,Sg.nought,[],.no,false,0,0⟩
def Tx.tell (x:Tx) (e:Ev):Tx:={ x with ev:=x.ev ++ [e] }
def Tx.reset (x:Tx):Tx:={ x with tb:=Tl.empty x.tb.m,rd:=Sg.nought,wy:=.no,begun:=false,z:=0,seen:=0 }
def Tx.ended (x:Tx) (why:Int):Ev:={ kind:=6,err:=why,start:=x.z,seen:=x.seen,sig:=x.rd }
def Tx.finis (x:Tx) (why:Int):Tx:=(x.tell (x.ended why)).reset
def Tx.live (x:Tx) (z seen:Int):Tx:={ x with wy:=.no,begun:=true,z:=z,seen:=seen }
def backP (x:Tx) (st:Int):Ba.Bp:=⟨x.s,st,toW x.tb.R,Ba.sgOf (toW x.tb.R)⟩
def commP (x:Tx):Co.Cp:=⟨x.s,x.z,x.rd,false,⟨x.n,x.mu,false,false,0,false,0⟩⟩
structure Ms where
 wy:Wy
 L:List Ac
 k:Int
 e:Int
 v:Int
 y:Bool
def stepM (c r:Nat) (x:Tx) (L:List Ac) (t:Int):Ms:=match x.wy with
 | .no=>⟨.no,L,0,0,0,false⟩
 | .bg b=>⟨.bg (Be.nextB r x.s b L),Be.nextL c r x.s b L t,Be.ansK r x.s b L,0,0,Be.goesB r x.s b⟩
 | .rd P b=>⟨.rd (Fe.nextFP c r P L) (Fe.nextFB c r P b L),Fe.nextFL c r P b L t,Fe.ansF c r P b L,Fe.errF c r P b L,Fe.valF c r P b L,Fe.accF c r P b⟩
 | .cm P b u=>⟨.cm P (Co.nextCB r P b u L) (Co.nextU r P b u L),Co.nextCL c r P b u L t,Co.ansZ r P b u L,Co.errZ r P b u L,Co.valZ r P u L,Co.goesC r P u⟩
 | .wr P b=>⟨.wr P (Ba.nextBk c r P b L),Ba.nextBL c r P b L t,Ba.ansBk c r P b L,0,0,Ba.goesB c r P b⟩
def finX (x:Tx) (v:Int):Wy→Tx × Bool
 | .no=>(x,true)
 | .bg b=>((x.live b.stamp b.seen).tell { kind:=1,start:=b.stamp,seen:=b.seen },true)
 | .rd P b=>((x.live b.comp b.seen).tell { kind:=2,cell:=P.cell,value:=v,start:=b.comp,seen:=b.seen },true)
 | .cm _ _ u=>({ x with wy:=.wr (backP x u.stamp) (Ba.bkNew (backP x u.stamp) x.mu) }.tell { kind:=4,stamp:=u.stamp,sig:=Tl.wrS x.tb },false)
 | .wr P _=>((x.tell { kind:=5,stamp:=P.st }).reset,true)
def goOn (x:Tx) (a:Ms):Out :=
 if a.k=4 then ⟨x.finis a.e,a.L,a.k,a.e,a.v,a.y⟩
 else if a.k=3 then (if (finX x a.v a.wy).2 then ⟨(finX x a.v a.wy).1,a.L,a.k,a.e,a.v,a.y⟩ else ⟨(finX x a.v a.wy).1,a.L,2,0,0,true⟩)
 else ⟨{ x with wy:=a.wy },a.L,a.k,a.e,a.v,a.y⟩
def stepX (c r:Nat) (x:Tx) (L:List Ac) (t:Int):Out:=goOn x (stepM c r x L t)
structure Wa where
 kind:Int
 cell:Int
 value:Int
 code:Int
def takesX (c r:Nat) (x:Tx) (a:Wa):Bool :=
 decide (r=x.s) && (if a.kind=1 then decide (x.phase=0) else if a.kind=2∨a.kind=3 then decide (x.phase=2) && decide (0≤a.cell) && decide (a.cell < (c:Int))
    else if a.kind=4 then decide (x.phase=2) else if a.kind=5 then decide (x.phase=2) && (decide (a.code=8) || decide (a.code=7)) else false)
def openX (x:Tx):Tx:={ x with wy:=.bg bgNew,ev:=x.ev ++ [{ kind:=7 }] }
def readP (x:Tx) (c:Int):Fe.Cp:=Fe.newP x.s x.z (Tl.readR x.rd c) c
def readX (x:Tx) (c:Int):Tx:={ x with rd:=Tl.readR x.rd c,wy:=.rd (readP x c) (Fe.ckNew (readP x c)) }
def commX (x:Tx):Tx:={ x with wy:=.cm (commP x) (Co.ckNew (commP x)) Co.cuNew }
def ownE (x:Tx) (c:Int):Ev:={ kind:=2,cell:=c,value:=Tl.getV x.tb c,own:=true,start:=x.z,seen:=x.seen }
def doX (c r:Nat) (x:Tx) (L:List Ac) (t:Int) (a:Wa):Out :=
 if takesX c r x a then
  (if a.kind=1 then stepX c r (openX x) L t
     else if a.kind=2 then (if Tl.getY x.tb a.cell then ⟨x.tell (ownE x a.cell),L,3,0,Tl.getV x.tb a.cell,false⟩ else stepX c r (readX x a.cell) L t)
     else if a.kind=3 then (if Tl.writeE x.tb a.cell=5 then ⟨x.finis 5,L,4,5,0,false⟩ else ⟨{ x with tb:=Tl.put x.tb a.cell a.value }.tell { kind:=3,cell:=a.cell,value:=a.value },L,3,0,0,false⟩)
     else if a.kind=4 then (if x.tb.R.length=0 then ⟨x.finis 0,L,3,0,0,false⟩ else stepX c r (commX x) L t)
     else ⟨x.finis a.code,L,4,a.code,0,false⟩)
 else ⟨x,L,4,1,0,false⟩
def Wd (L:List Ac):Prop:=∀ a,W64 (wordOf L a)
def wyOk (x:Tx):Prop:=match x.wy with
 | .no=>True
 | .bg b=>BOk x.s b∧b.st≠2
 | .rd P b=>P.s=x.s∧P.last=true∧0≤P.cell∧P.cell < 1024∧(∃ n,Fe.KOk P b n) ∧ ¬ Fe.thr b∧P.rd=x.rd∧P.z=x.z∧(P.read=false→b=Fe.ckNew P)
 | .cm P b u=>P.s=x.s∧P.ex.n=x.n∧P.ex.mu=x.mu∧Co.COk P b u∧u.st≠3∧P.rd=x.rd∧P.z=x.z
 | .wr P b=>P.s=x.s∧P.W=toW x.tb.R∧Ba.BkOk P b∧b.nx≠0
structure XOk (x:Tx):Prop where
 s1:1≤x.s
 s16:x.s≤16
 n1:1≤x.n
 n2:x.n≤1099511627776
 inv:Tl.Inv x.tb
 val : ∀ y ∈ x.tb.R,W64 y.v
 rd:Sg.Ok x.rd
 z0:0≤x.z
 z1:x.z≤9223372036854775807
 seen:W64 x.seen
 non:x.phase=0∨x.phase=1→x.begun=false∧x.tb.R = [] ∧ x.rd=Sg.nought∧x.z=0∧x.seen=0
 liv:x.phase≠0→x.phase≠1→x.begun=true
 ne:x.phase=4∨x.phase=5→x.tb.R ≠ []
 wy:wyOk x
end Go.Proofs.YtigfjedohdgjfaaGreatDoor
