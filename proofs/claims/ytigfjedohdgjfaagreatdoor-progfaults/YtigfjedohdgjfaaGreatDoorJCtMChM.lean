/- A call of a row of counters (layer 15) as plain data: how it goes on, what the document says of it, and that both are the same. -/
import Derived.Test.YtigfjedohdgjfaaGreatDoorJCoMPgR
namespace Go.Proofs.YtigfjedohdgjfaaGreatDoor.Tl.Ct
open Go.ChangeShapes Go.WideShapes Go.ChangeAt Go.RowKit
def arV (call:Int):Int:=if call=1 then 2 else if call=2 then 1 else -1
def rightV (base most call:Int) (n:Nat):Bool:=takesV base most (arV call) n
structure Mc where
 first:Wn
 told:Wn
 writes:Bool
 by_:Int
def firstW (base most i:Int):Wn:=if i < 0∨most≤i then endW 0 1 else readW (base+i)
def mkM (base most call:Int) (A:List Int):Mc:=⟨firstW base most (nth A 0),wn0,decide (call=1),if call=1 then nth A 1 else 0⟩
def mostW (_:Int):Nat:=2
end Go.Proofs.YtigfjedohdgjfaaGreatDoor.Tl.Ct
namespace Go.Proofs.YtigfjedohdgjfaaGreatDoor.Tl.Qu
open Go.ChangeShapes Go.WideShapes Go.ChangeAt Go.RowKit
def arV (call:Int):Int:=if call=3 then 1 else if call=2 then 0 else if call=5 then 0 else -1
def rightV (base most call:Int) (n:Nat):Bool:=takesV base most (arV call) n
def uW (z:Int):Int:=z % 18446744073709551616
def behV (f k n:Int):Int:=(uW f % n+uW k % n) % n
structure Mc where
 base:Int
 most:Int
 call:Int
 told:Int
 last:Wn
 first:Int
 len:Int
 val:Int
def mkM (base most call:Int) (A:List Int):Mc:=⟨base,most,call,0,wn0,0,0,if call=3 then nth A 0 else 0⟩
def putT (m:Mc):Wn:=if uW m.len < uW m.most then (if m.told=2 then putW (m.base+(2+behV m.first m.len m.most)) m.val else if m.told=3 then putW (m.base+1) (wrap64 (m.len+1)) else endW 0 0) else endW 0 2
def getT (m:Mc):Wn:=if m.len=0∨m.most=0 then endW 0 1 else if m.told=2 then readW (m.base+(2+behV m.first 0 m.most)) else if m.told=3 then putW m.base (behV m.first 1 m.most) else if m.told=4 then putW (m.base+1) (wrap64 (m.len - 1)) else endW m.val 0
def At (base most call:Int) (A:List Int) (m:Mc) (R:List Int) (k:Int) (last:Wn):Prop :=
 (last=wn0∧m.told=0∧R = [] ∧ k=0) ∨
 (last=readW base∧m.told=1∧R = [] ∧ k=0) ∨
 (last=readW (base+1)∧m.told=2∧R = [m.first] ∧ k=0) ∨
 (call=3∧uW m.len < uW most∧last=putW (base+(2+behV m.first m.len most)) (nth A 0)∧m.told=3∧R = [m.first,m.len] ∧ k=0) ∨
 (call=3∧uW m.len < uW most∧last=putW (base+1) (wrap64 (m.len+1))∧m.told=4∧R = [m.first,m.len] ∧ k=1) ∨
 (call=2 ∧ ¬ (m.len=0∨most=0)∧last=readW (base+(2+behV m.first 0 most))∧m.told=3∧R = [m.first,m.len] ∧ k=0) ∨
 (call=2 ∧ ¬ (m.len=0∨most=0)∧last=putW base (behV m.first 1 most)∧m.told=4∧R = [m.first,m.len,m.val] ∧ k=0) ∨
 (call=2 ∧ ¬ (m.len=0∨most=0)∧last=putW (base+1) (wrap64 (m.len - 1))∧m.told=5∧R = [m.first,m.len,m.val] ∧ k=1) ∨
 (last.kind=6∧last.cell=0∧(last.code=0∨last.val=0)∧R.length≤3∧0≤k∧k≤2∧0≤m.told∧m.told≤6)
def mostW (_:Int):Nat:=5
end Go.Proofs.YtigfjedohdgjfaaGreatDoor.Tl.Qu
namespace Go.Proofs.YtigfjedohdgjfaaGreatDoor.Tl.Di
open Go.ChangeShapes Go.WideShapes Go.ChangeAt Go.RowKit
def arV (call:Int):Int:=if call=3 then 2 else if call=2 then 1 else if call=4 then 1 else if call=5 then 0 else -1
def rightV (base most call:Int) (n:Nat):Bool:=takesV base most (arV call) n
def uW (z:Int):Int:=z % 18446744073709551616
def firV (k n:Int):Int:=uW k * 11400714819323198485 % 18446744073709551616 / 4294967296 * n % 18446744073709551616 / 4294967296
structure Se where
 key:Int
 most:Int
 left:Int
 slot:Int
 asked:Int
 free:Int
 found:Int
def se0:Se:=⟨0,0,0,0,0,0,0⟩
def mkS (key most:Int):Se:=⟨key,most,most,firV key most,0,-1,-1⟩
def nxtV (n i:Int):Int:=if i+1=n then 0 else i+1
def walkS (s:Se):Se:={ s with slot:=nxtV s.most s.slot,asked:=0,left:=s.left - 1 }
def freeS (s:Se):Se:=if s.free = -1 then { s with free:=s.slot } else s
def askS (s:Se):Se × Int × Bool:=if 0 < s.left then ({ s with asked:=1 },1+3 * s.slot,true) else ({ s with left:=0 },0,false)
def goS (s:Se) (v:Int):Se × Int × Bool :=
 if 0 < s.left then
  (if s.asked=0 then ({ s with asked:=1 },1+3 * s.slot,true)
    else if s.asked=1 then (if v=1 then ({ s with asked:=2 },2+3 * s.slot,true) else if v=0 then ({ freeS s with left:=0 },0,false) else askS (walkS (freeS s)))
    else if v=s.key then ({ s with found:=s.slot,left:=0 },0,false) else askS (walkS s))
 else ({ s with left:=0 },0,false)
structure OkS (s:Se):Prop where
 l:0≤s.left∧s.left≤16
 st:0≤s.slot∧s.slot≤16
 ls:0 < s.left→s.slot < s.most
 m:0≤s.most∧s.most≤16
 a:s.asked=0∨s.asked=1∨s.asked=2
 f : -1≤s.free∧s.free≤15
 d : -1≤s.found∧s.found≤15
structure Mc where
 base:Int
 most:Int
 call:Int
 se:Se
 told:Int
 last:Wn
 val:Int
 cnt:Int
def mkM (base most call:Int) (A:List Int):Mc:=⟨base,most,call,if call=5 then se0 else mkS (nth A 0) most,0,wn0,if call=3 then nth A 1 else 0,0⟩
def clV (s p:Int):Int:=1+3 * s+p
def getT (m:Mc) (v:Int):Wn:=if m.se.found = -1 then endW 0 1 else if m.told=1 then readW (m.base+clV m.se.found 2) else endW v 0
def chgT (m:Mc):Wn:=if m.told=1 then putW (m.base+clV m.se.found 2) m.val else endW 0 0
def putS (m:Mc) (v:Int):Mc × Wn :=
 if m.se.found = -1 then
  (if m.told=1 then (m,readW (m.base+0))
    else if m.told=2 then (if m.most≤v∨m.se.free = -1 then (m,endW 0 2) else ({ m with cnt:=v },putW (m.base+clV m.se.free 0) 1))
    else if m.told=3 then (m,putW (m.base+clV m.se.free 1) m.se.key)
    else if m.told=4 then (m,putW (m.base+clV m.se.free 2) m.val)
    else if m.told=5 then (m,putW (m.base+0) (wrap64 (m.cnt+1))) else (m,endW 0 0))
 else (m,chgT m)
def delT (m:Mc) (v:Int):Wn:=if m.se.found = -1 then endW 0 1 else if m.told=1 then putW (m.base+clV m.se.found 0) 2 else if m.told=2 then readW (m.base+0) else if m.told=3 then putW (m.base+0) (wrap64 (v - 1)) else endW 0 0
def lenT (m:Mc) (v:Int):Wn:=if m.told=1 then readW (m.base+0) else endW v 0
def afterM (m:Mc) (v:Int):Mc × Wn:=if m.call=2 then (m,getT m v) else if m.call=3 then putS m v else if m.call=4 then (m,delT m v) else (m,lenT m v)
def stepM (m:Mc) (v:Int):Mc × Wn :=
 if (goS m.se v).2.2=true then ({ m with se:=(goS m.se v).1 },readW (m.base+(goS m.se v).2.1))
 else afterM { m with se:=(goS m.se v).1,told:=m.told+1 } v
structure Lk where
 found:Int
 free:Int
 reads:Nat
 over:Bool
 cell:Int
def findG (key n:Int):Nat→Int→Int→Nat→List Int→Lk
 | 0,_,free,r,_=>⟨-1,free,r,true,0⟩
 | _+1,i,free,r,[]=>⟨-1,free,r,false,1+3 * i⟩
 | c+1,i,free,r,st :: R =>
  if st=1 then (match R with
      | []=>⟨-1,free,r+1,false,2+3 * i⟩
      | k :: R' => if k=key then ⟨i,free,r+2,true,0⟩ else findG key n c (nxtV n i) free (r+2) R')
  else if st=0 then ⟨-1,if free < 0 then i else free,r+1,true,0⟩
  else findG key n c (nxtV n i) (if free < 0 then i else free) (r+1) R
def findV (key n:Int) (R:List Int):Lk:=findG key n n.toNat (firV key n) (-1) 0 R
def cellS (s:Se):Int:=if s.asked=1 then 1+3 * s.slot else 2+3 * s.slot
def resG (s:Se) (r:Nat) (T:List Int):Lk :=
 if s.asked=1 then findG s.key s.most s.left.toNat s.slot s.free r T
 else match T with
  | []=>⟨-1,s.free,r,false,2+3 * s.slot⟩
  | k :: T' => if k=s.key then ⟨s.slot,s.free,r+1,true,0⟩ else findG s.key s.most (s.left.toNat - 1) (nxtV s.most s.slot) s.free (r+1) T'
structure Srch (key most:Int) (s:Se) (R:List Int):Prop where
 l:0 < s.left
 a:s.asked=1∨s.asked=2
 d:s.found = -1
 ok:OkS s
 k:s.key=key
 m:s.most=most
 res : ∀ T,findV key most (R++T)=resG s R.length T
 len:(R.length:Int)+2 * s.left≤2 * most+s.asked - 1
 fm:s.free < most
structure Over (key most:Int) (s:Se) (R:List Int):Prop where
 ok:OkS s
 l:s.left=0
 k:s.key=key
 res : ∀ T,findV key most (R++T)=⟨s.found,s.free,R.length,true,0⟩
 len:(R.length:Int)≤2 * most
 fm:s.free < most
 dm:s.found < most
end Go.Proofs.YtigfjedohdgjfaaGreatDoor.Tl.Di
namespace Go.Proofs.YtigfjedohdgjfaaGreatDoor.Tl.Di
open Go.ChangeShapes Go.WideShapes Go.ChangeAt Go.RowKit
inductive At (base most call:Int) (A:List Int) (m:Mc) (R:List Int) (k:Int) (last:Wn):Prop
 | start (h:last=wn0) (t:m.told=0) (r:R = []) (k0:k=0) (s:m.se=if call=5 then se0 else mkS (nth A 0) most)
 | look (c:call≠5) (h:last=readW (base+cellS m.se)) (t:m.told=0) (k0:k=0) (s:Srch (nth A 0) most m.se R)
 | len (c:call=5) (h:last=readW base) (t:m.told=1) (r:R = []) (k0:k=0) (s:m.se=se0)
 | get (c:call=2) (f:0≤m.se.found) (h:last=readW (base+clV m.se.found 2)) (t:m.told=1) (k0:k=0) (s:Over (nth A 0) most m.se R)
 | chg (c:call=3) (f:0≤m.se.found) (h:last=putW (base+clV m.se.found 2) m.val) (t:m.told=1) (k0:k=0) (s:Over (nth A 0) most m.se R)
 | put1 (c:call=3) (f:m.se.found = -1) (h:last=readW base) (t:m.told=1) (k0:k=0) (s:Over (nth A 0) most m.se R)
 | put2 (R0:List Int) (c:call=3) (f:m.se.found = -1) (g : ¬ (most≤m.cnt∨m.se.free = -1)) (r:R=R0 ++ [m.cnt]) (s:Over (nth A 0) most m.se R0)
   (o:(last=putW (base+clV m.se.free 0) 1∧m.told=2∧k=0)∨(last=putW (base+clV m.se.free 1) (nth A 0)∧m.told=3∧k=1)∨(last=putW (base+clV m.se.free 2) (nth A 1)∧m.told=4∧k=2)∨(last=putW base (wrap64 (m.cnt+1))∧m.told=5∧k=3))
 | del1 (c:call=4) (f:0≤m.se.found) (s:Over (nth A 0) most m.se R) (o:(last=putW (base+clV m.se.found 0) 2∧m.told=1∧k=0)∨(last=readW base∧m.told=2∧k=1))
 | del2 (R0:List Int) (x:Int) (c:call=4) (f:0≤m.se.found) (r:R=R0 ++ [x]) (s:Over (nth A 0) most m.se R0) (h:last=putW base (wrap64 (x - 1))) (t:m.told=3) (k0:k=1)
 | fin (h:last.kind=6) (h0:last.cell=0) (h1:last.code=0∨last.val=0) (r:R.length≤40) (k0:0≤k∧k≤5) (t:0≤m.told∧m.told≤6)
def mostW (most:Int):Nat:=(2 * most).toNat+5
end Go.Proofs.YtigfjedohdgjfaaGreatDoor.Tl.Di
namespace Go.Proofs.YtigfjedohdgjfaaGreatDoor.Tl.Ch
open Go.ChangeShapes Go.WideShapes Go.ChangeAt Go.RowKit
def arV (call:Int):Int:=if call=1 then 1 else if call=4 then 1 else if call=6 then 1 else if call=8 then 1 else if call=7 then 0 else if call=5 then 0 else -1
def rightV (base most call:Int) (n:Nat):Bool:=takesV base most (arV call) n
inductive T where
 | fin (x:Wn):T
 | on (x:Wn) (g:Int→T):T
structure Wy where
 cell:Int
 link:Int
 stop:Bool
 node:Int
 key:Int
def wyAt (w:Wy) (k:Int):Bool:=w.stop && decide (w.key=k)
def leadV (p n:Int):Int:=if p < 1∨n < p then 0 else p
def keyV (i:Int):Int:=1+2 * i
def nxtV (i:Int):Int:=keyV i+1
def readT (b c:Int) (g:Int→T):T:=.on (readW (b+c)) g
def putT (b c v:Int) (t:T):T:=.on (putW (b+c) v) (fun _=>t)
def doneT (v:Int):T:=.fin (endW v 0)
def refT (c:Int):T:=.fin (endW 0 c)
def goT (b n k:Int) (h:Wy→T):Nat→Int→T
 | 0,c=>readT b c fun p=>h ⟨c,p,false,0,0⟩
 | f+1,c=>readT b c fun p=>if leadV p n=0 then h ⟨c,p,false,0,0⟩ else readT b (keyV (leadV p n)) fun v=>if k≤v then h ⟨c,p,true,leadV p n,v⟩ else goT b n k h f (nxtV (leadV p n))
def kbT (b n p:Int):T:=if leadV p n=0 then refT 1 else readT b (keyV (leadV p n)) doneT
def cntT (b n:Int):Nat→Int→Int→T
 | 0,c,i=>readT b c fun _=>doneT i
 | f+1,c,i=>readT b c fun p=>if leadV p n=0 then doneT i else cntT b n f (nxtV (leadV p n)) (i+1)
def unT (b n:Int) (h:Int→T):T:=readT b 2 fun u=>if u < 0∨n≤u then refT 2 else putT b 2 (u+1) (h (u+1))
def takeT (b n:Int) (h:Int→T):T:=readT b 1 fun f=>if leadV f n=0 then unT b n h else readT b (nxtV (leadV f n)) fun q=>putT b 1 q (h (leadV f n))
def giveT (b node:Int):T:=readT b 1 fun f=>putT b (nxtV node) f (putT b 1 node (doneT 0))
def addH (b n k:Int) (w:Wy):T:=if wyAt w k=true then refT 3 else takeT b n fun node=>putT b (keyV node) k (putT b (nxtV node) w.link (putT b w.cell node (doneT 0)))
def delH (b k:Int) (w:Wy):T:=if wyAt w k=true then readT b (nxtV w.node) fun q=>putT b w.cell q (giveT b w.node) else refT 1
def hasH (k:Int) (w:Wy):T:=if wyAt w k=true then doneT 1 else doneT 0
def nextH (b n k:Int) (w:Wy):T:=if w.stop=true then (if wyAt w k=true then readT b (nxtV w.node) (kbT b n) else doneT w.key) else refT 1
def firstT (b n call:Int) (A:List Int):T :=
 if call=1 then goT b n (nth A 0) (addH b n (nth A 0)) n.toNat 0
 else if call=4 then goT b n (nth A 0) (delH b (nth A 0)) n.toNat 0
 else if call=6 then goT b n (nth A 0) (hasH (nth A 0)) n.toNat 0
 else if call=8 then goT b n (nth A 0) (nextH b n (nth A 0)) n.toNat 0
 else if call=7 then readT b 0 (kbT b n)
 else cntT b n n.toNat 0 0
inductive Gx where
 | more (c:Int):Gx
 | over (w:Wy) (r:List Int):Gx
def behV (b:Int) (E:Wy→List Int→Int→Wn) (x:Gx) (wr:Int):Wn :=
 match x with
 | .more c=>readW (b+c)
 | .over w r=>E w r wr
def Ok (b s:Int):T→Nat→(List Int→Int→Wn)→Prop
 | .fin x,_,D=>x=D [] 0∧x.kind=6∧x.cell=0∧(x.code=0∨x.val=0)
 | .on x g,n,D=>x=D [] 0∧1≤n∧(b≤x.cell∧x.cell < b+s)∧((x.kind=2 ∧ ∀ v,Sx v→Ok b s (g v) (n - 1) (fun R k=>D (v :: R) k))∨(x.kind=3 ∧ ∀ v,Ok b s (g v) (n - 1) (fun R k=>D R (k+1))))
theorem Ok.congr {b s:Int} {t:T} {n:Nat} {D D':List Int→Int→Wn} (h:Ok b s t n D) (e : ∀ R k,0≤k→D R k=D' R k):Ok b s t n D':=by
 induction t generalizing n D D' with
 | fin x =>
  obtain ⟨h1,h2⟩:=h
  exact ⟨by rw [h1,e _ _ (by omega)],h2⟩
 | on x g ih =>
  obtain ⟨h1,h2,h3,h4⟩:=h
  refine ⟨by rw [h1,e _ _ (by omega)],h2,h3, ?_⟩
  rcases h4 with ⟨h4,h5⟩ | ⟨h4,h5⟩
  ·exact Or.inl ⟨h4,fun v hv=>ih v (h5 v hv) (fun R k hk=>e _ _ hk)⟩
  ·exact Or.inr ⟨h4,fun v=>ih v (h5 v) (fun R k hk=>e _ _ (by omega))⟩
def mostW (most:Int):Nat:=2 * most.toNat+7
structure Mc where
 last:Wn
 g:Option (Int→T)
 n:Nat
def mkM (base most call:Int) (A:List Int):Mc:=⟨wn0,some (fun _=>firstT base most call A),mostW most⟩
end Go.Proofs.YtigfjedohdgjfaaGreatDoor.Tl.Ch
