/- A whole transaction as plain data: what Do and Step make of it. -/
import Derived.Test.YtdkpgdkjohjcaaaGreatJBegABegX
import Derived.Test.YtdkpgdkjohjcaaaGreatJFcCFtB
import Derived.Test.YtdkpgdkjohjcaaaGreatJCqJCmD
import Derived.Test.YtdkpgdkjohjcaaaGreatJBkMBkJ
import Derived.Test.YtdkpgdkjohjcaaaGreatJGroABkO
import Derived.Test.YtdkpgdkjohjcaaaGreatJLogMLogB
import Derived.Great.BuildSlice
import Derived.RegionTactic
import Derived.BigRegion
set_option maxHeartbeats 3200000
set_option maxRecDepth 100000
namespace Go.Proofs.YtdkpgdkjohjcaaaGreat
open Go.RowKit (wrap64)
structure Ev where
 kind:Int
 cell:Int:=0
 value:Int:=0
 own:Bool:=false
 start:Int:=0
 seen:Int:=0
 stamp:Int:=0
 sig:List Nat:=Sg.nought
 err:Int:=0
def toW (R:List Tl.Wr):List Wt:=R.map fun x=>⟨x.c,x.v⟩
inductive Wy where
 | no
 | bg (b:Bg)
 | rd (P:Fe.Cp) (b:Fe.Ck)
 | cm (P:Co.Cp) (b:Co.Ck) (u:Co.Cu)
 | wr (P:Ba.Bp) (b:Ba.Bk)
structure Tx where
 s:Nat
 n:Int
 mu:Bool
 tb:Tl.Tb
 rd:List Nat
 ev:List Ev
 wy:Wy
 begun:Bool
 z:Int
 seen:Int
def Tx.phase (x:Tx):Int:=match x.wy with
 | .no=>if x.begun then 2 else 0
 | .bg _=>1
 | .rd _ _=>3
 | .cm _ _ _=>4
 | .wr _ _=>5
structure Out where
 x:Tx
 L:List Ac
 k:Int
 e:Int
 v:Int
 y:Bool
def newX (s:Nat) (n:Int) (mu:Bool) (m:Nat):Tx:=⟨s,n,mu,Tl.empty m,Sg.nought,[],.no,false,0,0⟩
def Tx.tell (x:Tx) (e:Ev):Tx:={ x with ev:=x.ev ++ [e] }
def Tx.reset (x:Tx):Tx:={ x with tb:=Tl.empty x.tb.m,rd:=Sg.nought,wy:=.no,begun:=false,z:=0,seen:=0 }
def Tx.ended (x:Tx) (why:Int):Ev:={ kind:=6,err:=why,start:=x.z,seen:=x.seen,sig:=x.rd }
def Tx.finis (x:Tx) (why:Int):Tx:=(x.tell (x.ended why)).reset
def Tx.live (x:Tx) (z seen:Int):Tx:={ x with wy:=.no,begun:=true,z:=z,seen:=seen }
def backP (x:Tx) (st:Int):Ba.Bp:=⟨x.s,st,toW x.tb.R,Ba.sgOf (toW x.tb.R)⟩
def commP (x:Tx):Co.Cp:=⟨x.s,x.z,x.rd,false,⟨x.n,x.mu,false,false,0,false,0⟩⟩
structure Ms where
 wy:Wy
 L:List Ac
 k:Int
 e:Int
 v:Int
 y:Bool
def stepM (c r:Nat) (x:Tx) (L:List Ac) (t:Int):Ms:=match x.wy with
 | .no=>⟨.no,L,0,0,0,false⟩
 | .bg b=>⟨.bg (Be.nextB r x.s b L),Be.nextL c r x.s b L t,Be.ansK r x.s b L,0,0,Be.goesB r x.s b⟩
 | .rd P b=>⟨.rd (Fe.nextFP c r P L) (Fe.nextFB c r P b L),Fe.nextFL c r P b L t,Fe.ansF c r P b L,Fe.errF c r P b L,Fe.valF c r P b L,Fe.accF c r P b⟩
 | .cm P b u=>⟨.cm P (Co.nextCB r P b u L) (Co.nextU r P b u L),Co.nextCL c r P b u L t,Co.ansZ r P b u L,Co.errZ r P b u L,Co.valZ r P u L,Co.goesC r P u⟩
 | .wr P b=>⟨.wr P (Ba.nextBk c r P b L),Ba.nextBL c r P b L t,Ba.ansBk c r P b L,0,0,Ba.goesB c r P b⟩
def finX (x:Tx) (v:Int):Wy→Tx × Bool
 | .no=>(x,true)
 | .bg b=>((x.live b.stamp b.seen).tell { kind:=1,start:=b.stamp,seen:=b.seen },true)
 | .rd P b=>((x.live b.comp b.seen).tell { kind:=2,cell:=P.cell,value:=v,start:=b.comp,seen:=b.seen },true)
 | .cm _ _ u=>({ x with wy:=.wr (backP x u.stamp) (Ba.bkNew (backP x u.stamp) x.mu) }.tell { kind:=4,stamp:=u.stamp,sig:=Tl.wrS x.tb },false)
 | .wr P _=>((x.tell { kind:=5,stamp:=P.st }).reset,true)
def goOn (x:Tx) (a:Ms):Out :=
 if a.k=4 then ⟨x.finis a.e,a.L,a.k,a.e,a.v,a.y⟩
 else if a.k=3 then (if (finX x a.v a.wy).2 then ⟨(finX x a.v a.wy).1,a.L,a.k,a.e,a.v,a.y⟩ else ⟨(finX x a.v a.wy).1,a.L,2,0,0,true⟩)
 else ⟨{ x with wy:=a.wy },a.L,a.k,a.e,a.v,a.y⟩
def stepX (c r:Nat) (x:Tx) (L:List Ac) (t:Int):Out:=goOn x (stepM c r x L t)
structure Wa where
 kind:Int
 cell:Int
 value:Int
 code:Int
def takesX (c r:Nat) (x:Tx) (a:Wa):Bool :=
 decide (r=x.s) && (if a.kind=1 then decide (x.phase=0) else if a.kind=2∨a.kind=3 then decide (x.phase=2) && decide (0≤a.cell) && decide (a.cell < (c:Int))
    else if a.kind=4 then decide (x.phase=2) else if a.kind=5 then decide (x.phase=2) && (decide (a.code=8) || decide (a.code=7)) else false)
def openX (x:Tx):Tx:={ x with wy:=.bg bgNew,ev:=x.ev ++ [{ kind:=7 }] }
def readP (x:Tx) (c:Int):Fe.Cp:=Fe.newP x.s x.z (Tl.readR x.rd c) c
def readX (x:Tx) (c:Int):Tx:={ x with rd:=Tl.readR x.rd c,wy:=.rd (readP x c) (Fe.ckNew (readP x c)) }
def commX (x:Tx):Tx:={ x with wy:=.cm (commP x) (Co.ckNew (commP x)) Co.cuNew }
def ownE (x:Tx) (c:Int):Ev:={ kind:=2,cell:=c,value:=Tl.getV x.tb c,own:=true,start:=x.z,seen:=x.seen }
def doX (c r:Nat) (x:Tx) (L:List Ac) (t:Int) (a:Wa):Out :=
 if takesX c r x a then
  (if a.kind=1 then stepX c r (openX x) L t
     else if a.kind=2 then (if Tl.getY x.tb a.cell then ⟨x.tell (ownE x a.cell),L,3,0,Tl.getV x.tb a.cell,false⟩ else stepX c r (readX x a.cell) L t)
     else if a.kind=3 then (if Tl.writeE x.tb a.cell=5 then ⟨x.finis 5,L,4,5,0,false⟩ else ⟨{ x with tb:=Tl.put x.tb a.cell a.value }.tell { kind:=3,cell:=a.cell,value:=a.value },L,3,0,0,false⟩)
     else if a.kind=4 then (if x.tb.R.length=0 then ⟨x.finis 0,L,3,0,0,false⟩ else stepX c r (commX x) L t)
     else ⟨x.finis a.code,L,4,a.code,0,false⟩)
 else ⟨x,L,4,1,0,false⟩
def Wd (L:List Ac):Prop:=∀ a,W64 (wordOf L a)
def wyOk (x:Tx):Prop:=match x.wy with
 | .no=>True
 | .bg b=>BOk x.s b∧b.st≠2
 | .rd P b=>P.s=x.s∧P.last=true∧0≤P.cell∧P.cell < 1024∧(∃ n,Fe.KOk P b n) ∧ ¬ Fe.thr b∧P.rd=x.rd∧P.z=x.z∧(P.read=false→b=Fe.ckNew P)
 | .cm P b u=>P.s=x.s∧P.ex.n=x.n∧P.ex.mu=x.mu∧Co.COk P b u∧u.st≠3∧P.rd=x.rd∧P.z=x.z
 | .wr P b=>P.s=x.s∧P.W=toW x.tb.R∧Ba.BkOk P b∧b.nx≠0
structure XOk (x:Tx):Prop where
 s1:1≤x.s
 s16:x.s≤16
 n1:1≤x.n
 n2:x.n≤1099511627776
 inv:Tl.Inv x.tb
 val : ∀ y ∈ x.tb.R,W64 y.v
 rd:Sg.Ok x.rd
 z0:0≤x.z
 z1:x.z≤9223372036854775807
 seen:W64 x.seen
 non:x.phase=0∨x.phase=1→x.begun=false∧x.tb.R = [] ∧ x.rd=Sg.nought∧x.z=0∧x.seen=0
 liv:x.phase≠0→x.phase≠1→x.begun=true
 ne:x.phase=4∨x.phase=5→x.tb.R ≠ []
 wy:wyOk x
theorem Wd.load {c r:Nat} {L:List Ac} {t:Int} {a:Ad} (h:Wd L):Wd (loadL c r L t a):=fun q=>by rw [wordOf_load]; exact h q
theorem wd_store {c r:Nat} {L:List Ac} {t:Int} {a:Ad} {z:Int} (h:Wd L) (hz:W64 z):Wd (storeL c r L t a z):=fun q=>by
 unfold storeL
 split
 ·rw [wordOf_hit (Or.inl rfl)]
  unfold upd
  split
  ·exact hz
  ·exact h q
 ·exact h q
theorem put_had (r:List Nat) (h:Sg.Ok r) (c:Int) (hc:Tl.right c=true):Sg.put (Tl.readR r c) (Sg.sigN c)=Tl.readR r c:=by
 unfold Tl.readR
 rw [if_pos hc]
 exact Sg.put_had (Sg.ok_put h _ (Sg.sigN_lt c)) _ (Sg.sigN_lt c) (by rw [Sg.bit_put h _ _ (Sg.sigN_lt c)]; simp)
theorem xok_new {s m:Nat} {n:Int} {mu:Bool} (h1:1≤s) (h2:s≤16) (h3:1≤n) (h4:n≤1099511627776) (m1:1≤m) (m2:m≤24):XOk (newX s n mu m) :=
 ⟨h1,h2,h3,h4,Tl.empty_inv m1 m2,fun y hy=>by simp [newX,Tl.empty] at hy,Sg.ok_nought,by simp [newX],by simp [newX],by simp [newX,W64],fun _=>⟨rfl,rfl,rfl,rfl,rfl⟩,fun h=>by simp [newX,Tx.phase] at h,fun h=>by simp [newX,Tx.phase] at h,trivial⟩
theorem xok_tell {x:Tx} (h:XOk x) (e:Ev):XOk (x.tell e):=⟨h.s1,h.s16,h.n1,h.n2,h.inv,h.val,h.rd,h.z0,h.z1,h.seen,h.non,h.liv,h.ne,h.wy⟩
theorem xok_reset {x:Tx} (h:XOk x):XOk x.reset :=
 ⟨h.s1,h.s16,h.n1,h.n2,Tl.empty_inv h.inv.m1 h.inv.m24,fun y hy=>by simp [Tx.reset,Tl.empty] at hy,Sg.ok_nought,by simp [Tx.reset],by simp [Tx.reset],by simp [Tx.reset,W64],fun _=>⟨rfl,rfl,rfl,rfl,rfl⟩,fun h=>by simp [Tx.reset,Tx.phase] at h,fun h=>by simp [Tx.reset,Tx.phase] at h,trivial⟩
theorem xok_fin {x:Tx} (h:XOk x) (why:Int):XOk (x.finis why):=xok_reset (xok_tell h _)
theorem xok_live {x:Tx} (h:XOk x) {z seen:Int} (z0:0≤z) (z1:z≤9223372036854775807) (hs:W64 seen):XOk (x.live z seen) :=
 ⟨h.s1,h.s16,h.n1,h.n2,h.inv,h.val,h.rd,z0,z1,hs,fun e=>by simp [Tx.live,Tx.phase] at e,fun _ _=>rfl,fun e=>by simp [Tx.live,Tx.phase] at e,trivial⟩
theorem xok_open {x:Tx} (h:XOk x) (hp:x.phase=0):XOk (openX x):=by
 obtain ⟨a1,a2,a3,a4,a5⟩:=h.non (Or.inl hp)
 exact ⟨h.s1,h.s16,h.n1,h.n2,h.inv,h.val,h.rd,h.z0,h.z1,h.seen,fun _=>⟨a1,a2,a3,a4,a5⟩,fun _ e=>by simp [openX,Tx.phase] at e,fun e=>by simp [openX,Tx.phase] at e,⟨bok_new h.s1 h.s16,by simp [bgNew]⟩⟩
theorem xok_read {x:Tx} (h:XOk x) (hp:x.phase=2) {cl:Int} (c0:0≤cl) (c1:cl < 1024):XOk (readX x cl):=by
 have hb:x.begun=true:=h.liv (by omega) (by omega)
 have hro:=Tl.readR_ok h.rd cl
 have hr:Tl.right cl=true:=by unfold Tl.right; simp [c0,c1]
 have hok:Fe.POk (readP x cl):=⟨h.s1,h.s16,h.z0,h.z1,by show Sg.Ok (Sg.put (Tl.readR x.rd cl) (Sg.sigN cl)); rw [put_had _ h.rd _ hr]; exact hro⟩
 refine ⟨h.s1,h.s16,h.n1,h.n2,h.inv,h.val,hro,h.z0,h.z1,h.seen,fun e=>by simp [readX,Tx.phase] at e,fun _ _=>hb,fun e=>by simp [readX,Tx.phase] at e,rfl,rfl,c0,c1,⟨0,Fe.kok_new hok⟩,fun e=>by simp [Fe.thr,Fe.ckNew] at e,put_had _ h.rd _ hr,rfl,fun _=>rfl⟩
theorem xok_comm {x:Tx} (h:XOk x) (hp:x.phase=2) (hne:x.tb.R.length≠0):XOk (commX x):=by
 have hb:x.begun=true:=h.liv (by omega) (by omega)
 refine ⟨h.s1,h.s16,h.n1,h.n2,h.inv,h.val,h.rd,h.z0,h.z1,h.seen,fun e=>by simp [commX,Tx.phase] at e,fun _ _=>hb,fun _ e=>hne (by rw [show x.tb.R = [] from e]; rfl),rfl,rfl,rfl,Co.cok_new ⟨h.s1,h.s16,h.z0,h.z1,h.rd⟩ rfl h.n1 h.n2,by simp [Co.cuNew],rfl,rfl⟩
theorem put_val {s:Tl.Tb} (h : ∀ y ∈ s.R,W64 y.v) {c v:Int} (hv:W64 v) : ∀ y ∈ (Tl.put s c v).R,W64 y.v:=by
 intro y hy
 unfold Tl.put at hy
 split at hy
 ·split at hy
  ·simp only at hy
   rcases List.mem_or_eq_of_mem_set hy with h1 | h1
   ·exact h y h1
   ·rw [h1]; exact hv
  ·split at hy
   ·exact h y hy
   ·simp only [List.mem_append,List.mem_cons,List.not_mem_nil,or_false] at hy
    rcases hy with h1 | h1
    ·exact h y h1
    ·rw [h1]; exact hv
 ·exact h y hy
end Go.Proofs.YtdkpgdkjohjcaaaGreat
namespace Go.Proofs.YtdkpgdkjohjcaaaGreat
open Go.ChangeShapes Go.WideShapes Go.ChangeAt Go.RowKit
attribute [local go_sem ↓] Go.wp_at_zero Go.wp_at_succ
def swV (s:List Nat) (j:Nat):Value:=.int .u64 ((s.getD j 0:Nat):Int)
def evC (e:Ev):List Value:=[.int .i64 0,.int .i64 0,.int .i64 0,.int .i64 e.kind,.int .i64 e.cell,.int .i64 e.value,.bool e.own,.int .i64 e.start,.int .i64 e.seen,.int .i64 e.stamp,swV e.sig 0,swV e.sig 1,swV e.sig 2,swV e.sig 3,swV e.sig 4,swV e.sig 5,swV e.sig 6,swV e.sig 7,.int .i64 e.err]
def evV (e:Ev):Value:=.agg (evC e).toArray
def evsC (l:List Ev):List Value:=l.flatMap evC
theorem evsC_len (l:List Ev):(evsC l).length=l.length * 19:=by
 induction l with
 | nil=>rfl
 | cons x l ih=>simp only [evsC,List.flatMap_cons,List.length_append,List.length_cons] at ih ⊢; rw [ih]; simp [evC]; omega
theorem evsC_snoc (l:List Ev) (x:Ev):evsC (l ++ [x])=evsC l++evC x:=by simp [evsC]
def txR (s n:Int) (mu:Bool) (lg ev wv:Value) (bg:Bool) (z seen:Int):Array Value:=#[.int .i64 0,.int .i64 s,.int .i64 0,.int .i64 n,.bool mu,.int .i64 0,.slice none 0 0,lg,ev,wv,.bool bg,.int .i64 z,.int .i64 seen]
def TRaw (w:World) (T:Nat) (s n:Int) (mu:Bool) (lg ev wv:Value) (bg:Bool) (z seen:Int):Prop:=w.heap[T]? = some (.cells (txR s n mu lg ev wv bg z seen) 80 (0,0))
theorem TRaw.keep {w w':World} {T:Nat} {s n:Int} {mu:Bool} {lg ev wv:Value} {bg:Bool} {z seen:Int} {F:List Nat} (h:TRaw w T s n mu lg ev wv bg z seen) (k:Keep F w w') (hT:T ∉ F):TRaw w' T s n mu lg ev wv bg z seen:=by
 unfold TRaw at h ⊢; rw [k.block T (heap_lt h) hT]; exact h
theorem TRaw.below {w w':World} {T:Nat} {s n:Int} {mu:Bool} {lg ev wv:Value} {bg:Bool} {z seen:Int} (h:TRaw w T s n mu lg ev wv bg z seen) (k:Below w.heap.size w w'):TRaw w' T s n mu lg ev wv bg z seen:=h.keep (Keep.of_below k []) (by simp)
theorem TRaw.cells {w:World} {T:Nat} {s n:Int} {mu:Bool} {lg ev wv:Value} {bg:Bool} {z seen:Int} (h:TRaw w T s n mu lg ev wv bg z seen) :
  w.cell? ⟨T,0,none⟩=some (.int .i64 0)∧w.cell? ⟨T,1,none⟩=some (.int .i64 s)∧w.cell? ⟨T,2,none⟩=some (.int .i64 0)∧w.cell? ⟨T,3,none⟩=some (.int .i64 n)∧w.cell? ⟨T,4,none⟩=some (.bool mu)∧w.cell? ⟨T,5,none⟩=some (.int .i64 0)∧w.cell? ⟨T,6,none⟩=some (.slice none 0 0) ∧
  w.cell? ⟨T,7,none⟩=some lg∧w.cell? ⟨T,8,none⟩=some ev∧w.cell? ⟨T,9,none⟩=some wv∧w.cell? ⟨T,10,none⟩=some (.bool bg)∧w.cell? ⟨T,11,none⟩=some (.int .i64 z)∧w.cell? ⟨T,12,none⟩=some (.int .i64 seen):=by
 refine ⟨?_, ?_, ?_, ?_, ?_, ?_, ?_, ?_, ?_, ?_, ?_, ?_, ?_⟩
 all_goals rw [cell_at h]; rfl
theorem TRaw.fz {w:World} {T:Nat} {s n:Int} {mu:Bool} {lg ev wv:Value} {bg:Bool} {z seen:Int} (h:TRaw w T s n mu lg ev wv bg z seen) (i:Nat):w.frozen? ⟨T,i,none⟩=false:=frozen_at h i
theorem tset {w:World} {T:Nat} {s n:Int} {mu:Bool} {lg ev wv:Value} {bg:Bool} {z seen:Int} (h:TRaw w T s n mu lg ev wv bg z seen) :
  (∀ v,TRaw (w.setCell ⟨T,8,none⟩ v) T s n mu lg v wv bg z seen)∧(∀ v,TRaw (w.setCell ⟨T,9,none⟩ v) T s n mu lg ev v bg z seen)∧(∀ v,TRaw (w.setCell ⟨T,10,none⟩ (.bool v)) T s n mu lg ev wv v z seen)∧(∀ v,TRaw (w.setCell ⟨T,11,none⟩ (.int .i64 v)) T s n mu lg ev wv bg v seen)∧(∀ v,TRaw (w.setCell ⟨T,12,none⟩ (.int .i64 v)) T s n mu lg ev wv bg z v):=by
 unfold TRaw at *
 refine ⟨fun v => ?_,fun v => ?_,fun v => ?_,fun v => ?_,fun v => ?_⟩
 all_goals rw [heap_set h]; rfl
theorem info_ev:(Tryz.prog.info? 58).map (fun i=>(i.zero,i.size,i.bytes))=some (some (.agg #[.int .i64 0,.int .i64 0,.int .i64 0,.int .i64 0,.int .i64 0,.int .i64 0,.bool false,.int .i64 0,.int .i64 0,.int .i64 0,.int .u64 0,.int .u64 0,.int .u64 0,.int .u64 0,.int .u64 0,.int .u64 0,.int .u64 0,.int .u64 0,.int .i64 0]),19,152):=by kernel_rfl
theorem tell_end {w w1:World} {base T gg cap' m:Nat} {s n:Int} {mu:Bool} {lg ev wv:Value} {bg:Bool} {z seen:Int} {l:List Ev} {x:Ev} {o1 o2:Obj} (h:TRaw w T s n mu lg ev wv bg z seen) (hown:w.ownsRow base 58 19 ev l.length (evsC l)) (hn:l.length=m)
  (hown1:w1.ownsRow base 58 19 (.slice (some ⟨gg,0,none⟩) (m+1) cap') (m+1) (evsC l++evC x)) (hgrow:((w.alloc o1).alloc o2).drew.grownBy w1 ev.ownBlock) (hat:ev.ownBlock=some gg∨gg=w.heap.size+2) :
  ∃ v', TRaw (w1.setCell ⟨T, 8, none⟩ (.slice (some ⟨gg, 0, none⟩) (m + 1) cap')) T s n mu lg v' wv bg z seen ∧ (w1.setCell ⟨T, 8, none⟩ (.slice (some ⟨gg, 0, none⟩) (m + 1) cap')).ownsRow base 58 19 v' (l ++ [x]).length (evsC (l ++ [x])) ∧
   (v'.ownBlock=ev.ownBlock ∨ ∃ g,v'.ownBlock=some g∧w.heap.size≤g)∧Keep (T :: ev.ownBlock.toList) w (w1.setCell ⟨T,8,none⟩ (.slice (some ⟨gg,0,none⟩) (m+1) cap')):=by
 have k0:Keep ev.ownBlock.toList w w1:=by
  have:Keep ev.ownBlock.toList w ((w.alloc o1).alloc o2).drew:=((Keep.refl _ _).alloc o1).alloc o2 |>.drewN 1
  exact this.grown hgrow (fun b hb=>Or.inl (by rw [hb]; simp))
 have hT:T ∉ ev.ownBlock.toList:=fun hm=>own_ne hown h (by decide) (by simpa using hm)
 have h1:=h.keep k0 hT
 have hg1:(Value.slice (some ⟨gg,0,none⟩) (m+1) cap').ownBlock≠some T:=own_ne hown1 h1 (by decide)
 have kset:Keep [T] w1 (w1.setCell ⟨T,8,none⟩ (.slice (some ⟨gg,0,none⟩) (m+1) cap')):=(Keep.refl _ _).setCell _ _ (Or.inl (by simp))
 refine ⟨.slice (some ⟨gg, 0, none⟩) (m + 1) cap', (tset h1).1 _, ?_, ?_, ?_⟩
 ·rw [evsC_snoc,List.length_append,hn]
  exact own_keep hown1 kset (fun b hb hm=>by simp at hm; subst hm; exact hg1 hb)
 ·rcases hat with e | e
  ·exact Or.inl (by rw [e]; rfl)
  ·exact Or.inr ⟨gg,rfl,by omega⟩
 ·exact (k0.mono (fun b hb=>by simp at hb ⊢; exact Or.inr hb)).trans kset (fun b hb=>by simp at hb; subst hb; exact Or.inl (by simp))
theorem step_load_row {P:Program} {ops:Array Oper} {o:Oper} {a:Act} {w:World} {K:Act→World→Prop} {Q:Exit→Act→World→Prop} {E:Prop} (hgd:o.guard=none) (ty:TypeId) (x:Operand) (ho:o.op = .load ty x)
  (g:Nat) (hx:a.eval x = .pointer (some ⟨g,0,none⟩)) (t:TypeId) (cs:Array Value) (fr:Nat × Nat) (d:TypeDesc) (hg:w.heap[g]? = some (.cells cs t fr))
  (hu:P.underlying ty=some d) (hd:(match d with | .struct _ | .array _ _=>true | _=>false)=true) (hi:(P.info? ty).map (·.size)=some cs.size)
  (h:K (a.put o.dst (.agg cs)) w):if Region.wanted o (yielded ops a.tmps)=true then Oper.wp P o a w K Q else E:=by
 have hw:Region.wanted o (yielded ops a.tmps)=true:=by simp [Region.wanted,hgd]
 rw [if_pos hw]
 exact wp_load_row ty x ho g hx t cs fr d hg hu hd hi h
theorem fold_at (l:List Value) : ∀ (k:Nat) (b:Array Value),((l.zipIdx k).foldl (fun cs (p:Value × Nat)=>cs.setIfInBounds (0+p.2) p.1) b).size=b.size ∧ ∀ i,i < b.size→((l.zipIdx k).foldl (fun cs (p:Value × Nat)=>cs.setIfInBounds (0+p.2) p.1) b)[i]? = if k≤i∧i < k+l.length then l[i - k]? else b[i]?:=by
 induction l with
 | nil=>exact fun k b=>⟨rfl,fun i _=>by simp; omega⟩
 | cons x l ih =>
  intro k b
  rw [List.zipIdx_cons,List.foldl_cons]
  obtain ⟨h1,h2⟩:=ih (k+1) (b.setIfInBounds (0+k) x)
  simp only [Array.size_setIfInBounds] at h1 h2
  refine ⟨h1,fun i hi => ?_⟩
  rw [h2 i hi]
  by_cases e:i=k
  ·subst e
   rw [if_neg (by omega),if_pos (by simp)]
   simp [hi]
  ·by_cases e2:k+1≤i∧i < k+1+l.length
   ·rw [if_pos e2,if_pos (by simp; omega)]
    rw [show i - k=(i - (k+1))+1 by omega,List.getElem?_cons_succ]
   ·rw [if_neg e2,if_neg (by simp; omega),Array.getElem?_setIfInBounds_ne (by omega)]
theorem fold_all {cells b:Array Value} (h:b.size=cells.size):cells.zipIdx.foldl (fun cs (p:Value × Nat)=>cs.setIfInBounds (0+p.2) p.1) b=cells:=by
 rw [← Array.foldl_toList,Array.toList_zipIdx]
 obtain ⟨h1,h2⟩:=fold_at cells.toList 0 b
 refine Array.ext (by rw [h1,h]) (fun i hi hi' => ?_)
 have:=h2 i (by omega)
 rw [if_pos (by simp; omega)] at this
 rw [Array.getElem?_eq_getElem hi] at this
 simp [hi'] at this
 simpa using this
theorem step_build_one {P:Program} {ops:Array Oper} {o:Oper} {a:Act} {w:World} {K:Act→World→Prop} {Q:Exit→Act→World→Prop} {E:Prop} (hgd:o.guard=none) (t e:TypeId) (x:Operand) (ho:o.op = .buildSlice t 1 #[(0,x)])
  (cells:Array Value) (hx:a.eval x = .agg cells) (ie:TypeInfo) (z:Value)
  (hu:P.underlying t=some (.slice e)) (hie:P.info? e=some ie) (hz:ie.zero=some z) (hsz:ie.size=cells.size) (hzs:z.cells.size=cells.size) (hsmall:cells.size≤1000) (hpos:0 < cells.size)
  (h:K (a.put o.dst (.slice (some ⟨w.heap.size,0,none⟩) 1 1)) (w.alloc (.cells cells e))):if Region.wanted o (yielded ops a.tmps)=true then Oper.wp P o a w K Q else E:=by
 have hw:Region.wanted o (yielded ops a.tmps)=true:=by simp [Region.wanted,hgd]
 rw [if_pos hw]
 refine wp_buildSlice t e 1 #[(0,x)] ho cells ie z hu hie hz (by rw [hsz]; omega) (by rw [hsz]; omega) ?_ h
 have hz2:((Array.range (1 * ie.size)).map (z.cells[· % z.cells.size]!)).size=cells.size:=by simp [hsz]
 generalize (Array.range (1 * ie.size)).map (z.cells[· % z.cells.size]!)=b at hz2 ⊢
 simp only [List.map_toArray,List.map_cons,List.map_nil,hx]
 unfold Instr.fill
 simp only [Nat.zero_mul]
 have hc:(Value.agg cells).cells=cells:=rfl
 rw [hc,if_neg (by simp [hsz,hz2])]
 unfold Instr.fill
 exact congrArg some (fold_all hz2)
theorem tell_any {w:World} {base T:Nat} {s n:Int} {mu:Bool} {lg ev wv:Value} {bg:Bool} {z seen:Int} {l:List Ev} (h:TRaw w T s n mu lg ev wv bg z seen) (hown:w.ownsRow base 58 19 ev l.length (evsC l)) (hb:base≤w.heap.size) (hL:l.length < 1073741824) (x:Ev) :
  Calls Tryz.prog 46 #[.pointer (some ⟨T, 0, none⟩), evV x] w fun e w' => ∃ v', e = .returned (.tuple #[]) ∧ TRaw w' T s n mu lg v' wv bg z seen ∧ w'.ownsRow base 58 19 v' (l ++ [x]).length (evsC (l ++ [x])) ∧ (v'.ownBlock = ev.ownBlock ∨ ∃ g, v'.ownBlock = some g ∧ w.heap.size ≤ g) ∧ Keep (T :: ev.ownBlock.toList) w w' := by
 obtain ⟨i0,hi,hz0,hz1,hz2⟩:=info_parts info_ev
 have hM:T < w.heap.size:=heap_lt h
 have hc4:w.cell? ⟨T,8,none⟩=some ev:=h.cells.2.2.2.2.2.2.2.2.1
 have hf4:w.frozen? ⟨T,8,none⟩=false:=h.fz 8
 obtain ⟨a,cap,rfl⟩ : ∃ a cap,ev = .slice a l.length cap:=by
  rcases hown.2 with ⟨e,h0⟩ | ⟨g,cp,cur,e,_⟩
  ·exact ⟨none,0,by rw [e,h0]⟩
  ·exact ⟨_,_,e⟩
 have hMv:(Value.slice a l.length cap).ownBlock≠some T:=own_ne hown h (by decide)
 have hNv:(Value.slice a l.length cap).ownBlock≠some w.heap.size:=fun e=>by
  have:=hown.lt _ e
  omega
 have hM2:T < w.heap.size+1:=by omega
 have HH:Hid (TRaw w T s n mu lg (.slice a l.length cap) wv bg z seen):=h
 have HOWN:Hid (w.ownsRow base 58 19 (.slice a l.length cap) l.length (evsC l)):=hown
 have hlen:(evsC l).length=l.length * 19:=evsC_len l
 clear h hown
 generalize hxs:evsC l=xs at *
 generalize hn:l.length=nn at *
 unfold evV
 have hcs:(evC x).toArray.size=19:=rfl
 generalize hcx:(evC x).toArray=cs at *
 have HB:Hid ((w.alloc (.cells cs 58)).drew.heap[w.heap.size]? = some (.cells cs 58 (0,0))):=heap_alloc_new w _
 have HI0:(Tryz.prog.info? 58).map (·.size)=some cs.size:=by rw [hi]; simp [hz1,hcs]
 have HI:Hid ((Tryz.prog.info? 58).map (·.size)=some cs.size):=HI0
 have HN0 : ∀ u ∈ cs.toList,u.oneCell'=true:=by rw [← hcx]; simp [evC,swV,Value.oneCell']
 have HON:Hid (∀ u ∈ cs.toList,u.oneCell'=true):=HN0
 clear HI0 HN0
 go_enter Tryz.func46,Tryz.ntmps46
 go_wp2_with fail
 refine wp_region_any (by kernel_rfl) ?_
 change wpAny _ _ _ _ _ _ _ (World.drew _)
 refine wpAny_take (i:=0) (v:=.pointer (some ⟨T,0,none⟩)) rfl (by kernel_rfl) (by kernel_rfl) (by kernel_rfl) (fun _ _ _ h=>h) (Or.inl ⟨by rfl,by intro w; go_simp⟩) ?_
 refine wpAny_take (i:=1) (v:=.pointer (some ⟨T,0,none⟩)) rfl (by kernel_rfl) (by kernel_rfl) (by kernel_rfl) (fun _ _ _ h=>h) (Or.inl ⟨by rfl,by intro w; go_simp⟩) ?_
 refine wpAny_take (i:=2) (v:=.pointer (some ⟨T,0,none⟩)) rfl (by kernel_rfl) (by kernel_rfl) (by kernel_rfl) (fun _ _ _ h=>h) (Or.inl ⟨by rfl,by intro w; go_simp⟩) ?_
 refine wpAny_take (i:=3) (v:=.pointer (some ⟨T,8,none⟩)) rfl (by kernel_rfl) (by kernel_rfl) (by kernel_rfl) (fun _ _ _ h=>h) (Or.inl ⟨by rfl,by intro w; go_simp⟩) ?_
 refine wpAny_ready (rs:=[4,5]) (by kernel_rfl) (by simp) ?_
 refine AllReady.cons rfl (fun K hK => ?_) (AllReady.cons rfl (fun K hK => ?_) AllReady.nil)
 ·(go_simp; refine hK _ _ ?_; clear hK K)
  refine wpAny_ready (rs:=[5]) (by kernel_rfl) (by simp) ?_
  refine AllReady.cons rfl (fun K hK => ?_) AllReady.nil
  (refine step_load_row (by rfl) _ _ (by rfl) w.heap.size (by rfl) 58 cs (0,0) _ HB.out Tryz.underlying58 (by rfl) HI.out ?_; go_simp; refine hK _ _ ?_; clear hK K)
  refine wpAny_ready (rs:=[6]) (by kernel_rfl) (by simp) ?_
  refine AllReady.cons rfl (fun K hK => ?_) AllReady.nil
  (refine step_build_one (by rfl) _ 58 _ (by rfl) cs (by rfl) i0 _ Tryz.underlying45 hi hz0 (by omega) (by rw [hcs]; rfl) (by omega) (by omega) ?_; go_simp; refine hK _ _ ?_; clear hK K)
  refine wpAny_ready (rs:=[7]) (by kernel_rfl) (by simp) ?_
  refine AllReady.cons rfl (fun K hK => ?_) AllReady.nil
  (refine step_lies_wide _ (by rfl) _ _ _ (by rfl) base 58 i0 _ 19 152 Tryz.underlying45 hi hz0 hz1 hz2 rfl (by omega) (.slice a nn cap) nn xs (by rfl) (((HOWN.out.alloc _).alloc _).drew)
        ⟨w.heap.size+1,0,none⟩ 1 1 cs.toList (by rfl) (by simp [hcs]) (World.news_of_block (cs:=cs) (t:=58) (fr:=(0,0)) (heap_alloc2_new w _ _)) HON.out
        (by omega) (by unfold maxLen; omega) (by omega) (by simp; omega) (w.heap.size+2) (by simp) ?_; intro gg cap' w1 hown1 hgrow hat hlt; have ht1:w1.cell? ⟨T,8,none⟩=some (.slice a nn cap):=(by rw [hgrow.cell_far _ (by simp; omega) (Ne.symm hMv)]; simp [hM,hM2,World.cell?_alloc_past,hc4]); have ht2:w1.frozen? ⟨T,8,none⟩=false:=(by rw [hgrow.frozen_far _ (by simp; omega) (Ne.symm hMv)]; rw [fr_drew,World.frozen?_alloc_past _ _ _ (by simp; omega),World.frozen?_alloc_past _ _ _ hM]; exact hf4); go_simp; refine hK _ _ ?_; clear hK K)
  refine wpAny_take (i:=8) (v:=.pointer (some ⟨T,0,none⟩)) rfl (by kernel_rfl) (by kernel_rfl) (by kernel_rfl) (fun _ _ _ h=>h) (Or.inl ⟨by rfl,by intro w; go_simp⟩) ?_
  refine wpAny_take (i:=9) (v:=.pointer (some ⟨T,8,none⟩)) rfl (by kernel_rfl) (by kernel_rfl) (by kernel_rfl) (fun _ _ _ h=>h) (Or.inl ⟨by rfl,by intro w; go_simp⟩) ?_
  refine wpAny_ready (rs:=[10]) (by kernel_rfl) (by simp) ?_
  refine AllReady.cons rfl (fun K hK => ?_) AllReady.nil
  (go_simp; refine hK _ _ ?_; clear hK K)
  refine wpAny_done (by kernel_rfl) ?_ _
  (subst hxs; obtain ⟨v', e1, e2, e3, e4⟩ := tell_end (x := x) HH.out (by rw [hn]; exact HOWN.out) hn (by rw [← hcx] at hown1; exact hown1) hgrow hat; exact bodyPost_end (results_none rfl _ _ _) rfl ⟨v', rfl, e1, e2, e3, e4⟩)
 ·(refine step_load_row (by rfl) _ _ (by rfl) w.heap.size (by rfl) 58 cs (0,0) _ HB.out Tryz.underlying58 (by rfl) HI.out ?_; go_simp; refine hK _ _ ?_; clear hK K)
  refine wpAny_ready (rs:=[4,6]) (by kernel_rfl) (by simp) ?_
  refine AllReady.cons rfl (fun K hK => ?_) (AllReady.cons rfl (fun K hK => ?_) AllReady.nil)
  ·(go_simp; refine hK _ _ ?_; clear hK K)
   refine wpAny_ready (rs:=[6]) (by kernel_rfl) (by simp) ?_
   refine AllReady.cons rfl (fun K hK => ?_) AllReady.nil
   (refine step_build_one (by rfl) _ 58 _ (by rfl) cs (by rfl) i0 _ Tryz.underlying45 hi hz0 (by omega) (by rw [hcs]; rfl) (by omega) (by omega) ?_; go_simp; refine hK _ _ ?_; clear hK K)
   refine wpAny_ready (rs:=[7]) (by kernel_rfl) (by simp) ?_
   refine AllReady.cons rfl (fun K hK => ?_) AllReady.nil
   (refine step_lies_wide _ (by rfl) _ _ _ (by rfl) base 58 i0 _ 19 152 Tryz.underlying45 hi hz0 hz1 hz2 rfl (by omega) (.slice a nn cap) nn xs (by rfl) (((HOWN.out.alloc _).alloc _).drew)
        ⟨w.heap.size+1,0,none⟩ 1 1 cs.toList (by rfl) (by simp [hcs]) (World.news_of_block (cs:=cs) (t:=58) (fr:=(0,0)) (heap_alloc2_new w _ _)) HON.out
        (by omega) (by unfold maxLen; omega) (by omega) (by simp; omega) (w.heap.size+2) (by simp) ?_; intro gg cap' w1 hown1 hgrow hat hlt; have ht1:w1.cell? ⟨T,8,none⟩=some (.slice a nn cap):=(by rw [hgrow.cell_far _ (by simp; omega) (Ne.symm hMv)]; simp [hM,hM2,World.cell?_alloc_past,hc4]); have ht2:w1.frozen? ⟨T,8,none⟩=false:=(by rw [hgrow.frozen_far _ (by simp; omega) (Ne.symm hMv)]; rw [fr_drew,World.frozen?_alloc_past _ _ _ (by simp; omega),World.frozen?_alloc_past _ _ _ hM]; exact hf4); go_simp; refine hK _ _ ?_; clear hK K)
   refine wpAny_take (i:=8) (v:=.pointer (some ⟨T,0,none⟩)) rfl (by kernel_rfl) (by kernel_rfl) (by kernel_rfl) (fun _ _ _ h=>h) (Or.inl ⟨by rfl,by intro w; go_simp⟩) ?_
   refine wpAny_take (i:=9) (v:=.pointer (some ⟨T,8,none⟩)) rfl (by kernel_rfl) (by kernel_rfl) (by kernel_rfl) (fun _ _ _ h=>h) (Or.inl ⟨by rfl,by intro w; go_simp⟩) ?_
   refine wpAny_ready (rs:=[10]) (by kernel_rfl) (by simp) ?_
   refine AllReady.cons rfl (fun K hK => ?_) AllReady.nil
   (go_simp; refine hK _ _ ?_; clear hK K)
   refine wpAny_done (by kernel_rfl) ?_ _
   (subst hxs; obtain ⟨v', e1, e2, e3, e4⟩ := tell_end (x := x) HH.out (by rw [hn]; exact HOWN.out) hn (by rw [← hcx] at hown1; exact hown1) hgrow hat; exact bodyPost_end (results_none rfl _ _ _) rfl ⟨v', rfl, e1, e2, e3, e4⟩)
  ·(refine step_build_one (by rfl) _ 58 _ (by rfl) cs (by rfl) i0 _ Tryz.underlying45 hi hz0 (by omega) (by rw [hcs]; rfl) (by omega) (by omega) ?_; go_simp; refine hK _ _ ?_; clear hK K)
   refine wpAny_ready (rs:=[4]) (by kernel_rfl) (by simp) ?_
   refine AllReady.cons rfl (fun K hK => ?_) AllReady.nil
   (go_simp; refine hK _ _ ?_; clear hK K)
   refine wpAny_ready (rs:=[7]) (by kernel_rfl) (by simp) ?_
   refine AllReady.cons rfl (fun K hK => ?_) AllReady.nil
   (refine step_lies_wide _ (by rfl) _ _ _ (by rfl) base 58 i0 _ 19 152 Tryz.underlying45 hi hz0 hz1 hz2 rfl (by omega) (.slice a nn cap) nn xs (by rfl) (((HOWN.out.alloc _).alloc _).drew)
        ⟨w.heap.size+1,0,none⟩ 1 1 cs.toList (by rfl) (by simp [hcs]) (World.news_of_block (cs:=cs) (t:=58) (fr:=(0,0)) (heap_alloc2_new w _ _)) HON.out
        (by omega) (by unfold maxLen; omega) (by omega) (by simp; omega) (w.heap.size+2) (by simp) ?_; intro gg cap' w1 hown1 hgrow hat hlt; have ht1:w1.cell? ⟨T,8,none⟩=some (.slice a nn cap):=(by rw [hgrow.cell_far _ (by simp; omega) (Ne.symm hMv)]; simp [hM,hM2,World.cell?_alloc_past,hc4]); have ht2:w1.frozen? ⟨T,8,none⟩=false:=(by rw [hgrow.frozen_far _ (by simp; omega) (Ne.symm hMv)]; rw [fr_drew,World.frozen?_alloc_past _ _ _ (by simp; omega),World.frozen?_alloc_past _ _ _ hM]; exact hf4); go_simp; refine hK _ _ ?_; clear hK K)
   refine wpAny_take (i:=8) (v:=.pointer (some ⟨T,0,none⟩)) rfl (by kernel_rfl) (by kernel_rfl) (by kernel_rfl) (fun _ _ _ h=>h) (Or.inl ⟨by rfl,by intro w; go_simp⟩) ?_
   refine wpAny_take (i:=9) (v:=.pointer (some ⟨T,8,none⟩)) rfl (by kernel_rfl) (by kernel_rfl) (by kernel_rfl) (fun _ _ _ h=>h) (Or.inl ⟨by rfl,by intro w; go_simp⟩) ?_
   refine wpAny_ready (rs:=[10]) (by kernel_rfl) (by simp) ?_
   refine AllReady.cons rfl (fun K hK => ?_) AllReady.nil
   (go_simp; refine hK _ _ ?_; clear hK K)
   refine wpAny_done (by kernel_rfl) ?_ _
   (subst hxs; obtain ⟨v', e1, e2, e3, e4⟩ := tell_end (x := x) HH.out (by rw [hn]; exact HOWN.out) hn (by rw [← hcx] at hown1; exact hown1) hgrow hat; exact bodyPost_end (results_none rfl _ _ _) rfl ⟨v', rfl, e1, e2, e3, e4⟩)
def WyAt (w:World) (base s:Nat) (wv:Value) (G:List Nat):Wy→Prop
 | .no=>wv = .nilIface∧G = []
 | .bg b => ∃ X,wv = .iface 98 (.pointer (some ⟨X,0,none⟩))∧G = [X] ∧ Be.BAt w X s b∧base≤X
 | .rd P b => ∃ X,wv = .iface 101 (.agg #[.pointer (some ⟨X,0,none⟩),.int .i64 P.cell])∧G = [X] ∧ Fe.KAt w X P b∧base≤X
 | .cm P b u => ∃ Z X,wv = .iface 102 (.pointer (some ⟨Z,0,none⟩))∧G = [Z,X] ∧ Co.CAt w Z P u (Co.ptr X)∧Co.KAt w X P b∧base≤Z∧base≤X∧Z≠X
 | .wr P b => ∃ Z lv,wv = .iface 105 (.agg #[.pointer (some ⟨Z,0,none⟩),.int .i64 P.st])∧G=Z :: lv.ownBlock.toList∧Ba.BRow w Z P b lv∧w.ownsRow base 60 2 lv P.W.length (wtC P.W)∧(∀ k,lv.ownBlock=some k→k≠Z)∧base≤Z
theorem WyAt.lt {w:World} {base s:Nat} {wv:Value} {G:List Nat} {y:Wy} (h:WyAt w base s wv G y) : ∀ q ∈ G,base≤q∧q < w.heap.size:=fun q hq=>by
 cases y with
 | no=>rw [h.2] at hq; simp at hq
 | bg b =>
  obtain ⟨X,_,rfl,h1,h2⟩:=h
  simp at hq; subst hq; exact ⟨h2,heap_lt h1⟩
 | rd P b =>
  obtain ⟨X,_,rfl,h1,h2⟩:=h
  simp at hq; subst hq; exact ⟨h2,heap_lt h1⟩
 | cm P b u =>
  obtain ⟨Z,X,_,rfl,h1,h2,h3,h4,_⟩:=h
  simp at hq
  rcases hq with rfl | rfl
  ·exact ⟨h3,heap_lt h1⟩
  ·exact ⟨h4,heap_lt h2⟩
 | wr P b =>
  obtain ⟨Z,lv,_,rfl,h1,h2,h3,h4⟩:=h
  rcases List.mem_cons.1 hq with rfl | hq
  ·exact ⟨h4,heap_lt h1⟩
  ·exact own_block h2 q (by simpa using hq)
theorem WyAt.keep {w w':World} {base s:Nat} {wv:Value} {G H:List Nat} {y:Wy} (h:WyAt w base s wv G y) (k:Keep H w w') (hd : ∀ q ∈ G,q ∉ H):WyAt w' base s wv G y:=by
 cases y with
 | no=>exact h
 | bg b =>
  obtain ⟨X,e,rfl,h1,h2⟩:=h
  exact ⟨X,e,rfl,h1.keep k (hd X (by simp)),h2⟩
 | rd P b =>
  obtain ⟨X,e,rfl,h1,h2⟩:=h
  exact ⟨X,e,rfl,h1.keep k (hd X (by simp)),h2⟩
 | cm P b u =>
  obtain ⟨Z,X,e,rfl,h1,h2,h3⟩:=h
  exact ⟨Z,X,e,rfl,h1.keep k (hd Z (by simp)),h2.keep k (hd X (by simp)),h3⟩
 | wr P b =>
  obtain ⟨Z,lv,e,rfl,h1,h2,h3,h4⟩:=h
  exact ⟨Z,lv,e,rfl,Ba.BRow.keep h1 k (hd Z (by simp)),own_keep h2 k (fun b hb=>hd b (by simp [hb])),h3,h4⟩
theorem keep_tl {F:List Nat} {w w':World} (h:Keep F w w'):Tl.Keep F w w':=⟨h.os,h.tape,h.output,h.size,h.block⟩
theorem tl_keep {F:List Nat} {w w':World} (h:Tl.Keep F w w'):Keep F w w':=⟨h.os,h.tape,h.output,h.size,h.block⟩
structure TxAt' (w:World) (base T:Nat) (x:Tx) (G:List Nat) (lg tk:Nat) (ev wv:Value) (Gm:List Nat):Prop where
 raw:TRaw w T (x.s:Int) x.n x.mu (.pointer (some ⟨lg,0,none⟩)) ev wv x.begun x.z x.seen
 log:Tl.LogAt w lg tk x.tb x.rd
 evs:w.ownsRow base 58 19 ev x.ev.length (evsC x.ev)
 wy:WyAt w base x.s wv Gm x.wy
 eG:G=T :: lg :: tk :: (ev.ownBlock.toList++Gm)
 bT:base≤T
 bl:base≤lg
 bk:base≤tk
 nd:G.Nodup
def TxAt (w:World) (base T:Nat) (x:Tx) (G:List Nat):Prop:=∃ lg tk ev wv Gm,TxAt' w base T x G lg tk ev wv Gm
theorem TxAt'.lt {w:World} {base T:Nat} {x:Tx} {G:List Nat} {lg tk:Nat} {ev wv:Value} {Gm:List Nat} (h:TxAt' w base T x G lg tk ev wv Gm) : ∀ q ∈ G,base≤q∧q < w.heap.size:=fun q hq=>by
 rw [h.eG] at hq
 simp only [List.mem_cons,List.mem_append,Option.mem_toList] at hq
 rcases hq with rfl | rfl | rfl | hq | hq
 ·exact ⟨h.bT,heap_lt h.raw⟩
 ·exact ⟨h.bl,heap_lt h.log.log⟩
 ·exact ⟨h.bk,heap_lt h.log.tab⟩
 ·exact own_block h.evs q (by simpa using hq)
 ·exact h.wy.lt q hq
theorem TxAt.lt {w:World} {base T:Nat} {x:Tx} {G:List Nat} (h:TxAt w base T x G) : ∀ q ∈ G,base≤q∧q < w.heap.size:=by
 obtain ⟨lg,tk,ev,wv,Gm,h⟩:=h
 exact h.lt
theorem TxAt'.keep {w w':World} {base T:Nat} {x:Tx} {G H:List Nat} {lg tk:Nat} {ev wv:Value} {Gm:List Nat} (h:TxAt' w base T x G lg tk ev wv Gm) (k:Keep H w w') (hd : ∀ q ∈ G,q ∉ H):TxAt' w' base T x G lg tk ev wv Gm:=by
 have hG:=h.eG
 refine ⟨h.raw.keep k (hd _ ?_),h.log.keep (keep_tl k) (hd _ ?_) (hd _ ?_),own_keep h.evs k (fun b hb=>hd b ?_),h.wy.keep k (fun q hq=>hd q ?_),h.eG,h.bT,h.bl,h.bk,h.nd⟩
 all_goals rw [hG]; simp
 ·simp [hb]
 ·simp [hq]
theorem TxAt.keep {w w':World} {base T:Nat} {x:Tx} {G H:List Nat} (h:TxAt w base T x G) (k:Keep H w w') (hd : ∀ q ∈ G,q ∉ H):TxAt w' base T x G:=by
 obtain ⟨lg,tk,ev,wv,Gm,h⟩:=h
 exact ⟨lg,tk,ev,wv,Gm,h.keep k hd⟩
theorem TxAt'.below {w w':World} {base T:Nat} {x:Tx} {G:List Nat} {lg tk:Nat} {ev wv:Value} {Gm:List Nat} (h:TxAt' w base T x G lg tk ev wv Gm) (k:Below w.heap.size w w'):TxAt' w' base T x G lg tk ev wv Gm:=h.keep (Keep.of_below k []) (fun _ _=>by simp)
theorem TxAt.below {w w':World} {base T:Nat} {x:Tx} {G:List Nat} (h:TxAt w base T x G) (k:Below w.heap.size w w'):TxAt w' base T x G:=h.keep (Keep.of_below k []) (fun _ _=>by simp)
theorem TxAt'.ne {w:World} {base T:Nat} {x:Tx} {G:List Nat} {lg tk:Nat} {ev wv:Value} {Gm:List Nat} (h:TxAt' w base T x G lg tk ev wv Gm):T≠lg∧T≠tk∧lg≠tk∧(∀ k,ev.ownBlock=some k→k≠T∧k≠lg∧k≠tk∧k ∉ Gm)∧T ∉ Gm∧lg ∉ Gm∧tk ∉ Gm∧Gm.Nodup:=by
 have hn:=h.nd
 rw [h.eG] at hn
 simp only [List.nodup_cons,List.mem_cons,List.mem_append,Option.mem_toList,not_or,List.nodup_append] at hn
 obtain ⟨⟨a1,a2,a3,a4⟩,⟨b1,b2,b3⟩,⟨c1,c2⟩,d1,d2,d3⟩:=hn
 refine ⟨a1,a2,b1,fun k hk=>⟨fun e=>a3 (e ▸ hk),fun e=>b2 (e ▸ hk),fun e=>c1 (e ▸ hk),fun e=>d3 k hk k e rfl⟩,a4,b3,c2,d2⟩
theorem tx_build {w:World} {base T:Nat} {x:Tx} {lg tk:Nat} {ev wv:Value} {Gm:List Nat} (raw:TRaw w T (x.s:Int) x.n x.mu (.pointer (some ⟨lg,0,none⟩)) ev wv x.begun x.z x.seen) (log:Tl.LogAt w lg tk x.tb x.rd) (evs:w.ownsRow base 58 19 ev x.ev.length (evsC x.ev)) (wy:WyAt w base x.s wv Gm x.wy)
  (bT:base≤T) (bl:base≤lg) (bk:base≤tk) (nd:Gm.Nodup) (n1:T ∉ Gm) (n2:lg ∉ Gm) (n3:tk ∉ Gm) (n4 : ∀ k,ev.ownBlock=some k→k ∉ Gm):TxAt' w base T x (T :: lg :: tk :: (ev.ownBlock.toList++Gm)) lg tk ev wv Gm:=by
 refine ⟨raw,log,evs,wy,rfl,bT,bl,bk, ?_⟩
 have e1 : ∀ k,ev.ownBlock=some k→k≠T:=fun k hk e=>own_ne evs raw (by decide) (e ▸ hk)
 have e2 : ∀ k,ev.ownBlock=some k→k≠lg:=fun k hk e=>own_ne evs log.log (by decide) (e ▸ hk)
 have e3 : ∀ k,ev.ownBlock=some k→k≠tk:=fun k hk e=>own_ne evs log.tab (by decide) (e ▸ hk)
 have t1:T≠lg:=ne_of_type raw log.log (by decide)
 have t2:T≠tk:=ne_of_type raw log.tab (by decide)
 simp only [List.nodup_cons,List.mem_cons,List.mem_append,Option.mem_toList,not_or,List.nodup_append]
 refine ⟨⟨t1,t2,fun e=>e1 _ e rfl,n1⟩,⟨log.ne,fun e=>e2 _ e rfl,n2⟩,⟨fun e=>e3 _ e rfl,n3⟩, ?_,nd,fun a ha b hb e=>n4 a ha (e ▸ hb)⟩
 cases ev.ownBlock <;> simp
theorem live_raw {w:World} {T:Nat} {s n:Int} {mu:Bool} {lg ev wv:Value} {bg:Bool} {z seen:Int} (h:TRaw w T s n mu lg ev wv bg z seen) (z' seen':Int) (b':Bool) :
  Calls Tryz.prog 58 #[.pointer (some ⟨T, 0, none⟩), .int .i64 z', .int .i64 seen', .bool b'] w fun e w' => e = .returned (.tuple #[]) ∧ TRaw w' T s n mu lg ev .nilIface b' z' seen' ∧ Keep [T] w w' := by
 have HH:Hid (TRaw w T s n mu lg ev wv bg z seen):=h
 obtain ⟨x0,x1,x2,x3,x4,x5,x6,x7,x8,x9,x10,x11,x12⟩:=h.cells
 have f9:=h.fz 9
 have f10:=h.fz 10
 have f11:=h.fz 11
 have f12:=h.fz 12
 have hT:T < w.heap.size:=heap_lt h
 clear h
 go_enter Tryz.func58,Tryz.ntmps58
 go_wp2
 refine bodyPost_end (results_none rfl _ _ _) rfl ⟨rfl, ?_, ?_⟩
 ·exact (tset ((tset ((tset ((tset HH.out).2.2.2.1 z')).2.2.2.2 seen')).2.2.1 b')).2.1 _
 ·exact ((((Keep.refl _ _).setCell _ _ (Or.inl (by simp))).setCell _ _ (Or.inl (by simp))).setCell _ _ (Or.inl (by simp))).setCell _ _ (Or.inl (by simp))
theorem reset_raw {w:World} {T lg tk:Nat} {s n:Int} {mu:Bool} {ev wv:Value} {bg:Bool} {z seen:Int} {tb:Tl.Tb} {rd:List Nat} (h:TRaw w T s n mu (.pointer (some ⟨lg,0,none⟩)) ev wv bg z seen) (hl:Tl.LogAt w lg tk tb rd) :
  Calls Tryz.prog 57 #[.pointer (some ⟨T,0,none⟩)] w fun e w' => e = .returned (.tuple #[])∧TRaw w' T s n mu (.pointer (some ⟨lg,0,none⟩)) ev .nilIface false 0 0∧Tl.LogAt w' lg tk (Tl.empty tb.m) Sg.nought∧Keep [T,lg,tk] w w':=by
 have HC:Hid (Calls Tryz.prog 69 #[.pointer (some ⟨lg,0,none⟩)] w fun e w' => e = .returned (.tuple #[])∧Tl.LogAt w' lg tk (Tl.empty tb.m) Sg.nought∧Tl.Keep [lg,tk] w w'):=Tl.lclear_any hl
 have t1:T≠lg:=ne_of_type h hl.log (by decide)
 have t2:T≠tk:=ne_of_type h hl.tab (by decide)
 have HR : Hid (∀ w', Tl.Keep [lg, tk] w w' → TRaw w' T s n mu (.pointer (some ⟨lg, 0, none⟩)) ev wv bg z seen) := fun w' k => h.keep (tl_keep k) (by simp [t1, t2])
 obtain ⟨x0,x1,x2,x3,x4,x5,x6,x7,x8,x9,x10,x11,x12⟩:=h.cells
 clear h hl
 go_enter Tryz.func57,Tryz.ntmps57
 go_wp2_with fail
 refine HC.out.mono ?_
 rintro e w1 ⟨rfl,hl1,k1⟩
 have HL:Hid (Tl.LogAt w1 lg tk (Tl.empty tb.m) Sg.nought):=hl1
 have HK:Hid (Tl.Keep [lg,tk] w w1):=k1
 have HH:Hid (TRaw w1 T s n mu (.pointer (some ⟨lg,0,none⟩)) ev wv bg z seen):=HR.out _ k1
 clear x0 x1 x2 x3 x4 x5 x6 x7 x8 x9 x10 x11 x12 hl1 k1
 obtain ⟨x0,x1,x2,x3,x4,x5,x6,x7,x8,x9,x10,x11,x12⟩:=HH.out.cells
 have f9:=HH.out.fz 9
 have f10:=HH.out.fz 10
 have f11:=HH.out.fz 11
 have f12:=HH.out.fz 12
 have hT:T < w1.heap.size:=heap_lt HH.out
 go_wp2
 refine bodyPost_end (results_none rfl _ _ _) rfl ⟨rfl, ?_, ?_, ?_⟩
 ·exact (tset ((tset ((tset ((tset HH.out).2.2.2.1 0)).2.2.2.2 0)).2.2.1 false)).2.1 _
 all_goals
  have k4:Keep [T] w1 ((((w1.setCell ⟨T,11,none⟩ (.int .i64 0)).setCell ⟨T,12,none⟩ (.int .i64 0)).setCell ⟨T,10,none⟩ (.bool false)).setCell ⟨T,9,none⟩ .nilIface):=((((Keep.refl _ _).setCell _ _ (Or.inl (by simp))).setCell _ _ (Or.inl (by simp))).setCell _ _ (Or.inl (by simp))).setCell _ _ (Or.inl (by simp))
 ·exact HL.out.keep (keep_tl k4) (by simp [Ne.symm t1]) (by simp [Ne.symm t2])
 ·exact ((tl_keep HK.out).mono (fun b hb=>by simp at hb ⊢; omega)).trans k4 (fun b hb=>by simp at hb ⊢; omega)
theorem reset_any {w:World} {base T:Nat} {x:Tx} {G:List Nat} (h:TxAt w base T x G) :
  Calls Tryz.prog 57 #[.pointer (some ⟨T, 0, none⟩)] w fun e w' => e = .returned (.tuple #[]) ∧ ∃ G', TxAt w' base T x.reset G' ∧ Next G G' w w' := by
 obtain ⟨lg,tk,ev,wv,Gm,h⟩:=h
 obtain ⟨n1,n2,n3,n4,n5,n6,n7,n8⟩:=h.ne
 have hG:=h.eG
 refine (reset_raw h.raw h.log).mono ?_
 rintro e w1 ⟨rfl,r1,l1,k1⟩
 refine ⟨rfl,_,⟨_,_,_,_,_,tx_build (x:=x.reset) (Gm:=[]) r1 l1 (own_keep h.evs k1 (fun b hb => ?_)) ⟨rfl,rfl⟩ h.bT h.bl h.bk List.nodup_nil (by simp) (by simp) (by simp) (fun _ _=>by simp)⟩,k1.mono (fun b hb => ?_),fun b hb=>Or.inl ?_⟩
 ·have:=n4 b hb
  simp
  exact ⟨this.1,this.2.1,this.2.2.1⟩
 ·rw [hG]; simp at hb ⊢; grind
 ·rw [hG]; simp at hb ⊢; grind
theorem tx_tell0 {w:World} {base T:Nat} {x:Tx} {G:List Nat} {lg tk:Nat} {ev wv:Value} {Gm:List Nat} (h:TxAt' w base T x G lg tk ev wv Gm) (hb:base≤w.heap.size) (hL:x.ev.length < 1073741824) (v:Ev) :
  Calls Tryz.prog 46 #[.pointer (some ⟨T, 0, none⟩), evV v] w fun e w' => e = .returned (.tuple #[]) ∧ ∃ G' v', TxAt' w' base T (x.tell v) G' lg tk v' wv Gm ∧ Next G G' w w' := by
 obtain ⟨n1,n2,n3,n4,n5,n6,n7,n8⟩:=h.ne
 have hG:=h.eG
 have hlt:=h.lt
 refine (tell_any h.raw h.evs hb hL v).mono ?_
 rintro e w1 ⟨v', rfl, r1, o1, hat, k1⟩
 have k2:Keep (T :: ev.ownBlock.toList) w w1:=k1
 have nb : ∀ b ∈ G,b≠T→ev.ownBlock≠some b→b ∉ T :: ev.ownBlock.toList:=fun b _ h1 h2=>by simp [h1,h2]
 have hGm : ∀ q ∈ Gm,q ∉ T :: ev.ownBlock.toList:=fun q hq=>by
  simp
  exact ⟨fun e=>n5 (e ▸ hq),fun e=>(n4 q e).2.2.2 hq⟩
 refine ⟨rfl,_,_,tx_build (x:=x.tell v) (Gm:=Gm) r1 (h.log.keep (keep_tl k2) (by simp; exact ⟨Ne.symm n1,fun e=>(n4 _ e).2.1 rfl⟩) (by simp; exact ⟨Ne.symm n2,fun e=>(n4 _ e).2.2.1 rfl⟩)) o1 (h.wy.keep k2 hGm) h.bT h.bl h.bk n8 n5 n6 n7 (fun k hk hm => ?_),k1.mono (fun b hb => ?_),fun b hb => ?_⟩
 ·rcases hat with e | ⟨g,e,hg⟩
  ·exact (n4 k (by rw [← e]; exact hk)).2.2.2 hm
  ·rw [e] at hk
   injection hk with hk
   subst hk
   have:=(hlt g (by rw [hG]; simp [hm])).2
   omega
 ·rw [hG]; simp at hb ⊢; grind
 ·rw [hG]
  simp only [List.mem_cons,List.mem_append,Option.mem_toList] at hb ⊢
  rcases hb with e | e | e | e | e
  ·exact Or.inl (Or.inl e)
  ·exact Or.inl (Or.inr (Or.inl e))
  ·exact Or.inl (Or.inr (Or.inr (Or.inl e)))
  ·rcases hat with e1 | ⟨g,e1,hg⟩
   ·exact Or.inl (Or.inr (Or.inr (Or.inr (Or.inl (by rw [← e1]; exact e)))))
   ·rw [e1] at e
    injection e with e
    exact Or.inr (by omega)
  ·exact Or.inl (Or.inr (Or.inr (Or.inr (Or.inr e))))
theorem tx_tell {w:World} {base T:Nat} {x:Tx} {G:List Nat} (h:TxAt w base T x G) (hb:base≤w.heap.size) (hL:x.ev.length < 1073741824) (v:Ev) :
  Calls Tryz.prog 46 #[.pointer (some ⟨T, 0, none⟩), evV v] w fun e w' => e = .returned (.tuple #[]) ∧ ∃ G', TxAt w' base T (x.tell v) G' ∧ Next G G' w w' := by
 obtain ⟨lg,tk,ev,wv,Gm,h⟩:=h
 refine (tx_tell0 h hb hL v).mono ?_
 rintro e w1 ⟨rfl, G', v', h1, h2⟩
 exact ⟨rfl, G', ⟨_, _, _, _, _, h1⟩, h2⟩
theorem bl_drew (w:World):Below w.heap.size w w.drew:=⟨rfl,rfl,rfl,Nat.le_refl _,fun _ _=>rfl⟩
theorem sv_eight {r:List Nat} (h:Sg.Ok r):Sg.sv r = .agg #[swV r 0,swV r 1,swV r 2,swV r 3,swV r 4,swV r 5,swV r 6,swV r 7]:=by
 obtain ⟨a,b,c,d,e,f,g,k,rfl⟩:=Tl.eight r h.1
 rfl
theorem end_any {w:World} {base T:Nat} {x:Tx} {G:List Nat} (h:TxAt w base T x G) (hb:base≤w.heap.size) (hL:x.ev.length < 1073741824) (why:Int) :
  Calls Tryz.prog 41 #[.pointer (some ⟨T, 0, none⟩), .int .i64 why] w fun e w' => e = .returned (.tuple #[]) ∧ ∃ G', TxAt w' base T (x.finis why) G' ∧ Next G G' w w' := by
 obtain ⟨lg,tk,ev,wv,Gm,h'⟩:=h
 have HRD : Hid (∀ w', Below w.heap.size w w' → Calls Tryz.prog 26 #[.pointer (some ⟨lg, 0, none⟩)] w' fun e w'' => e = .returned (.agg #[swV x.rd 0, swV x.rd 1, swV x.rd 2, swV x.rd 3, swV x.rd 4, swV x.rd 5, swV x.rd 6, swV x.rd 7]) ∧ Below w'.heap.size w' w'') := fun w' k => by
  rw [← sv_eight h'.log.ok]; exact Tl.reads_any (h'.log.below k)
 have HTL : Hid (∀ w', Below w.heap.size w w' → Calls Tryz.prog 46 #[.pointer (some ⟨T, 0, none⟩), evV (x.ended why)] w' fun e w'' => e = .returned (.tuple #[]) ∧ ∃ G' v', TxAt' w'' base T (x.tell (x.ended why)) G' lg tk v' wv Gm ∧ Next G G' w' w'') := fun w' k => tx_tell0 (h'.below k) (Nat.le_trans hb k.size) hL _
 have HEV:Hid (evV (x.ended why) = .agg #[.int .i64 0,.int .i64 0,.int .i64 0,.int .i64 6,.int .i64 0,.int .i64 0,.bool false,.int .i64 x.z,.int .i64 x.seen,.int .i64 0,swV x.rd 0,swV x.rd 1,swV x.rd 2,swV x.rd 3,swV x.rd 4,swV x.rd 5,swV x.rd 6,swV x.rd 7,.int .i64 why]):=rfl
 have HCE : Hid (∀ w', Below w.heap.size w w' → TRaw w' T (x.s : Int) x.n x.mu (.pointer (some ⟨lg, 0, none⟩)) ev wv x.begun x.z x.seen) := fun w' k => h'.raw.below k
 obtain ⟨x0,x1,x2,x3,x4,x5,x6,x7,x8,x9,x10,x11,x12⟩:=h'.raw.cells
 have hT:=heap_lt h'.raw
 clear h' x0 x1 x2 x3 x4 x5 x6 x8 x9 x10
 go_enter Tryz.func41,Tryz.ntmps41
 go_wp2_with fail
 rw [HEV.out] at HTL
 go_region_held3 (fun w' => w'.cell? ⟨T,7,none⟩=some (.pointer (some ⟨lg,0,none⟩))∧w'.cell? ⟨T,11,none⟩=some (.int .i64 x.z)∧w'.cell? ⟨T,12,none⟩=some (.int .i64 x.seen)) (first | go_keep | exact hS) (first
    | (go_at_call 26; refine (HRD.out _ (bl_drew _)).mono ?_; rintro e w1 ⟨rfl,hb1⟩; have hB1:Below w.heap.size w w1:=below_then (bl_drew _) hb1; have hS:w1.cell? ⟨T,7,none⟩=some (.pointer (some ⟨lg,0,none⟩))∧w1.cell? ⟨T,11,none⟩=some (.int .i64 x.z)∧w1.cell? ⟨T,12,none⟩=some (.int .i64 x.seen):=⟨(HCE.out _ hB1).cells.2.2.2.2.2.2.2.1,(HCE.out _ hB1).cells.2.2.2.2.2.2.2.2.2.2.2⟩)
    | (go_at_call 46; refine (HTL.out _ hB1).mono ?_; rintro e w2 ⟨rfl,G2,v2,q2,k2⟩; have hS:w2.cell? ⟨T,7,none⟩=some (.pointer (some ⟨lg,0,none⟩))∧w2.cell? ⟨T,11,none⟩=some (.int .i64 x.z)∧w2.cell? ⟨T,12,none⟩=some (.int .i64 x.seen):=⟨q2.raw.cells.2.2.2.2.2.2.2.1,q2.raw.cells.2.2.2.2.2.2.2.2.2.2.2⟩))
 clear hS
 have HQ:Hid (TxAt w2 base T (x.tell (x.ended why)) G2):=⟨_,_,_,_,_,q2⟩
 have HK:Hid (Next G G2 w w2):=(Next.of_below hB1 G).trans k2
 clear q2 k2 hB1 hb1
 go_wp2_with fail
 refine (reset_any HQ.out).mono ?_
 rintro e w3 ⟨rfl,G3,q3,k3⟩
 go_wp2
 exact bodyPost_end (results_none rfl _ _ _) rfl ⟨rfl,G3,q3,HK.out.trans k3⟩
theorem toW_len (R:List Tl.Wr):(toW R).length=R.length:=by simp [toW]
theorem toW_cells (R:List Tl.Wr):wtC (toW R)=Tl.rowsC R:=by
 induction R with
 | nil=>rfl
 | cons x R ih=>simp only [toW,wtC,Tl.rowsC,List.map_cons,List.flatMap_cons] at ih ⊢; rw [ih]; rfl
theorem tk_of {x:Tx} (hi:Tl.Inv x.tb) {st:Int} (h1:1≤x.s) (h2:x.s≤16) (h3:1≤st) (h4:st≤1099511627776):Ba.tkB x.s st (toW x.tb.R)=true:=by
 have hl:=hi.len
 have hm:=hi.m24
 unfold Ba.tkB
 simp only [Bool.and_eq_true,decide_eq_true_eq,List.all_eq_true,toW_len]
 refine ⟨⟨⟨⟨⟨by omega,by omega⟩,h3⟩,h4⟩,by omega⟩,fun y hy => ?_⟩
 unfold toW at hy
 obtain ⟨z,hz,rfl⟩:=List.mem_map.1 hy
 obtain ⟨i, hi', rfl⟩ := List.getElem_of_mem hz
 exact hi.right i hi'
theorem tx_way {w w' : World} {base T : Nat} {x : Tx} {G : List Nat} {lg tk : Nat} {ev wv wv' : Value} {Gm Gm' : List Nat} {y : Wy} (h : TxAt' w base T x G lg tk ev wv Gm) (hr : TRaw w' T (x.s : Int) x.n x.mu (.pointer (some ⟨lg, 0, none⟩)) ev wv' x.begun x.z x.seen) (hk : Keep [T] w w') (hy : WyAt w' base x.s wv' Gm' y) (hnew : ∀ q ∈ Gm', w.heap.size ≤ q) (hnd : Gm'.Nodup) : ∃ G', TxAt' w' base T { x with wy := y } G' lg tk ev wv' Gm' ∧ Next G G' w w' := by
 obtain ⟨n1,n2,n3,n4,n5,n6,n7,n8⟩:=h.ne
 have hG:=h.eG
 have hlt:=h.lt
 have hm : ∀ q ∈ G,q ∉ Gm':=fun q hq hq' => by have:=(hlt q hq).2; have:=hnew q hq'; omega
 refine ⟨_,tx_build (x:={ x with wy:=y }) hr (h.log.keep (keep_tl hk) (by simp; exact Ne.symm n1) (by simp; exact Ne.symm n2)) (own_keep h.evs hk (fun b hb=>by simp; exact (n4 b hb).1)) hy h.bT h.bl h.bk hnd (hm T (by rw [hG]; simp)) (hm lg (by rw [hG]; simp)) (hm tk (by rw [hG]; simp)) (fun k hk=>hm k (by rw [hG]; simp [hk])),hk.mono (fun b hb=>by rw [hG]; simp at hb ⊢; exact Or.inl hb),fun b hb => ?_⟩
 rw [hG]
 simp only [List.mem_cons,List.mem_append,Option.mem_toList] at hb ⊢
 rcases hb with e | e | e | e | e
 ·exact Or.inl (Or.inl e)
 ·exact Or.inl (Or.inr (Or.inl e))
 ·exact Or.inl (Or.inr (Or.inr (Or.inl e)))
 ·exact Or.inl (Or.inr (Or.inr (Or.inr (Or.inl e))))
 ·exact Or.inr (hnew b e)
theorem publish_any {w:World} {base T:Nat} {x:Tx} {G:List Nat} (h:TxAt w base T x G) (hb:base≤w.heap.size) (hL:x.ev.length < 1073741824) (h1:1≤x.s) (h2:x.s≤16) {st:Int} (h3:1≤st) (h4:st≤1099511627776) :
  Calls Tryz.prog 62 #[.pointer (some ⟨T, 0, none⟩), .int .i64 st] w fun e w' => e = .returned (.tuple #[]) ∧ ∃ G', TxAt w' base T ({ x with wy := .wr (backP x st) (Ba.bkNew (backP x st) x.mu) }.tell { kind := 4, stamp := st, sig := Tl.wrS x.tb }) G' ∧ Next G G' w w' := by
 obtain ⟨lg,tk,ev,wv,Gm,h'⟩:=h
 have hinv:=h'.log.inv
 have htk:=tk_of hinv h1 h2 h3 h4
 have hlen:(toW x.tb.R).length≤24:=by rw [toW_len]; have:=hinv.len; have:=hinv.m24; omega
 have HX:Hid (TxAt' w base T x G lg tk ev wv Gm):=h'
 have HWR : Hid (∀ w', Below w.heap.size w w' → Calls Tryz.prog 25 #[.pointer (some ⟨lg, 0, none⟩)] w' fun e w'' => ∃ v, e = .returned v ∧ Ba.WL w'' v (toW x.tb.R) ∧ Below w'.heap.size w' w'') := fun w' k => by
  refine (Tl.writes_any (h'.log.below k)).mono ?_
  rintro e w'' ⟨v,rfl,o,b⟩
  exact ⟨v,rfl,Ba.WL.of_own (base:=w'.heap.size) (by rw [toW_len,toW_cells]; exact o) (by omega),b⟩
 have HBN:Hid (∀ w' v,Ba.WL w' v (toW x.tb.R)→Calls Tryz.prog 71 #[.agg #[.int .i64 0,.int .i64 (x.s:Int),.int .i64 0,.int .i64 x.n,.bool x.mu,.int .i64 0,.slice none 0 0],.int .i64 st,v] w' fun e w'' => ∃ Z u,e = .returned (.tuple #[.pointer (some ⟨Z,0,none⟩),.int .i64 0])∧w'.heap.size≤Z∧Ba.BRow w'' Z (backP x st) (Ba.bkNew (backP x st) x.mu) u∧w''.ownsRow w'.heap.size 60 2 u (toW x.tb.R).length (wtC (toW x.tb.R))∧(∀ k,u.ownBlock=some k→k≠Z)∧Below w'.heap.size w' w''):=fun w' v hv=>by
  refine (Ba.bnew_any w' 0 0 x.n x.mu 0 (.slice none 0 0) (P:=backP x st) (lv:=v) hv h1 h2 h3 h4 hlen).mono ?_
  rintro e w'' ⟨b,hh⟩
  rw [if_pos (show Ba.tkB (backP x st).s (backP x st).st (backP x st).W=true from htk)] at hh
  obtain ⟨Z,u,rfl,a1,a2,a3,a4⟩:=hh
  exact ⟨Z,u,rfl,a1,a2,a3,a4,b⟩
 have HCE : Hid (∀ w', Below w.heap.size w w' → TRaw w' T (x.s : Int) x.n x.mu (.pointer (some ⟨lg, 0, none⟩)) ev wv x.begun x.z x.seen) := fun w' k => h'.raw.below k
 obtain ⟨x0,x1,x2,x3,x4,x5,x6,x7,x8,x9,x10,x11,x12⟩:=h'.raw.cells
 have hT:=heap_lt h'.raw
 clear h' x8 x9 x10 x11 x12 hinv htk hlen
 go_enter Tryz.func62,Tryz.ntmps62
 go_wp2_with fail
 go_region_held3 (fun w' => w'.cell? ⟨T,0,none⟩=some (.int .i64 0)∧w'.cell? ⟨T,1,none⟩=some (.int .i64 (x.s:Int))∧w'.cell? ⟨T,2,none⟩=some (.int .i64 0)∧w'.cell? ⟨T,3,none⟩=some (.int .i64 x.n)∧w'.cell? ⟨T,4,none⟩=some (.bool x.mu)∧w'.cell? ⟨T,5,none⟩=some (.int .i64 0)∧w'.cell? ⟨T,6,none⟩=some (.slice none 0 0)∧w'.cell? ⟨T,7,none⟩=some (.pointer (some ⟨lg,0,none⟩))) (first | go_keep | exact hS) (first
    | (go_at_call 25; refine (HWR.out _ (bl_drew _)).mono ?_; rintro e w1 ⟨vv,rfl,hwl,hb1⟩; have hB1:Below w.heap.size w w1:=below_then (bl_drew _) hb1; obtain ⟨q0,q1,q2,q3,q4,q5,q6,q7,_⟩:=(HCE.out _ hB1).cells; have hS:=And.intro q0 (And.intro q1 (And.intro q2 (And.intro q3 (And.intro q4 (And.intro q5 (And.intro q6 q7)))))); clear q0 q1 q2 q3 q4 q5 q6 q7)
    | (go_at_call 71; refine (HBN.out _ _ hwl).mono ?_; rintro e w2 ⟨Z,u,rfl,z1,z2,z3,z4,hb2⟩; have hB2:Below w.heap.size w w2:=below_then hB1 hb2; obtain ⟨q0,q1,q2,q3,q4,q5,q6,q7,_⟩:=(HCE.out _ hB2).cells; have hS:=And.intro q0 (And.intro q1 (And.intro q2 (And.intro q3 (And.intro q4 (And.intro q5 (And.intro q6 q7)))))); clear q0 q1 q2 q3 q4 q5 q6 q7))
 have HR2:Hid (TRaw w2 T (x.s:Int) x.n x.mu (.pointer (some ⟨lg,0,none⟩)) ev wv x.begun x.z x.seen):=HCE.out _ hB2
 have HW2:Hid (∃ G3,TxAt' (w2.setCell ⟨T,9,none⟩ (.iface 105 (.agg #[.pointer (some ⟨Z,0,none⟩),.int .i64 st]))) base T { x with wy:=.wr (backP x st) (Ba.bkNew (backP x st) x.mu) } G3 lg tk ev (.iface 105 (.agg #[.pointer (some ⟨Z,0,none⟩),.int .i64 st])) (Z :: u.ownBlock.toList)∧Next G G3 w (w2.setCell ⟨T,9,none⟩ (.iface 105 (.agg #[.pointer (some ⟨Z,0,none⟩),.int .i64 st])))):=by
  have ks:Keep [T] w2 (w2.setCell ⟨T,9,none⟩ (.iface 105 (.agg #[.pointer (some ⟨Z,0,none⟩),.int .i64 st]))):=(Keep.refl _ _).setCell _ _ (Or.inl (by simp))
  have hw1:=hB1.size
  have hu : ∀ k,u.ownBlock=some k→w1.heap.size≤k:=fun k hk=>(own_block z3 k hk).1
  refine tx_way HX.out ((tset HR2.out).2.1 _) ((Keep.of_below hB2 [T]).trans ks (fun b hb=>Or.inl hb)) ⟨Z,u,rfl,rfl,z2.keep ks (by simp; omega),own_base (own_keep z3 ks (fun b hb=>by have:=hu b hb; simp; omega)) (by omega),z4,by omega⟩ (fun q hq => ?_) ?_
  ·simp at hq
   rcases hq with rfl | hq
   ·omega
   ·have:=hu q hq; omega
  ·simp only [List.nodup_cons,Option.mem_toList]
   refine ⟨fun e=>z4 Z e rfl, ?_⟩
   cases u.ownBlock <;> simp
 clear hS x0 x1 x2 x3 x4 x5 x6 x7 hwl z2 z3 z4 hb1 hb2
 obtain ⟨x0,x1,x2,x3,x4,x5,x6,x7,x8,x9,x10,x11,x12⟩:=HR2.out.cells
 have f9:=HR2.out.fz 9
 have hT2:T < w2.heap.size:=heap_lt HR2.out
 clear x0 x1 x2 x3 x4 x5 x6 x8 x10 x11 x12
 go_wp2_with fail
 obtain ⟨G3,q3,k3⟩:=HW2.out
 clear HW2
 obtain ⟨w3,hw3⟩ : ∃ w3,w3=w2.setCell ⟨T,9,none⟩ (.iface 105 (.agg #[.pointer (some ⟨Z,0,none⟩),.int .i64 st])):=⟨_,rfl⟩
 rw [← hw3] at q3 k3 ⊢
 have HQ3:Hid (TxAt' w3 base T { x with wy:=.wr (backP x st) (Ba.bkNew (backP x st) x.mu) } G3 lg tk ev (.iface 105 (.agg #[.pointer (some ⟨Z,0,none⟩),.int .i64 st])) (Z :: u.ownBlock.toList)):=q3
 have HK3:Hid (Next G G3 w w3):=k3
 have HSG : Hid (∀ w', Below w3.heap.size w3 w' → Calls Tryz.prog 72 #[.pointer (some ⟨lg, 0, none⟩)] w' fun e w'' => e = .returned (.agg #[swV (Tl.wrS x.tb) 0, swV (Tl.wrS x.tb) 1, swV (Tl.wrS x.tb) 2, swV (Tl.wrS x.tb) 3, swV (Tl.wrS x.tb) 4, swV (Tl.wrS x.tb) 5, swV (Tl.wrS x.tb) 6, swV (Tl.wrS x.tb) 7]) ∧ Below w'.heap.size w' w'') := fun w' k => by
  rw [← sv_eight (Tl.wrS_ok x.tb)]; exact Tl.sig_any (HQ3.out.log.below k)
 have HTL : Hid (∀ w', Below w3.heap.size w3 w' → Calls Tryz.prog 46 #[.pointer (some ⟨T, 0, none⟩), .agg #[.int .i64 0, .int .i64 0, .int .i64 0, .int .i64 4, .int .i64 0, .int .i64 0, .bool false, .int .i64 0, .int .i64 0, .int .i64 st, swV (Tl.wrS x.tb) 0, swV (Tl.wrS x.tb) 1, swV (Tl.wrS x.tb) 2, swV (Tl.wrS x.tb) 3, swV (Tl.wrS x.tb) 4, swV (Tl.wrS x.tb) 5, swV (Tl.wrS x.tb) 6, swV (Tl.wrS x.tb) 7, .int .i64 0]] w' fun e w'' => e = .returned (.tuple #[]) ∧ ∃ G' v', TxAt' w'' base T ({ x with wy := .wr (backP x st) (Ba.bkNew (backP x st) x.mu) }.tell { kind := 4, stamp := st, sig := Tl.wrS x.tb }) G' lg tk v' (.iface 105 (.agg #[.pointer (some ⟨Z, 0, none⟩), .int .i64 st])) (Z :: u.ownBlock.toList) ∧ Next G3 G' w' w'') := fun w' k => tx_tell0 (HQ3.out.below k) (Nat.le_trans hb (Nat.le_trans HK3.out.1.size k.size)) hL { kind := 4, stamp := st, sig := Tl.wrS x.tb }
 have HC3 : Hid (∀ w', Below w3.heap.size w3 w' → w'.cell? ⟨T, 7, none⟩ = some (.pointer (some ⟨lg, 0, none⟩))) := fun w' k => (HQ3.out.below k).raw.cells.2.2.2.2.2.2.2.1
 have y7:=HC3.out w3 (Below.refl _ _)
 clear q3 k3 hw3 x7 x9 f9 HR2 HX HWR HBN HCE hB2 hB1 hT2 hT
 have hT3:T < w3.heap.size:=heap_lt HQ3.out.raw
 refine (HSG.out _ (Below.refl _ _)).mono ?_
 rintro e w4 ⟨rfl,hB4⟩
 go_wp2_with fail
 refine (HTL.out _ hB4).mono ?_
 rintro e w5 ⟨rfl,G5,v5,q5,k5⟩
 go_wp2
 exact bodyPost_end (results_none rfl _ _ _) rfl ⟨rfl,G5,⟨_,_,_,_,_,q5⟩,HK3.out.trans ((Next.of_below hB4 G3).trans k5)⟩
theorem ta_b_b (w:World) (a:Addr):(Instr.typeAssert (.iface 98 (.pointer (some a))) 78 98 true).run Tryz.prog w = .ok (.tuple #[.pointer (some a),.bool true]) w:=by kernel_rfl
theorem ta_r_b (w:World) (a:Addr) (c:Int):(Instr.typeAssert (.iface 101 (.agg #[.pointer (some a),.int .i64 c])) 78 98 true).run Tryz.prog w = .ok (.tuple #[.pointer none,.bool false]) w:=by kernel_rfl
theorem ta_r_r (w:World) (a:Addr) (c:Int):(Instr.typeAssert (.iface 101 (.agg #[.pointer (some a),.int .i64 c])) 78 101 true).run Tryz.prog w = .ok (.tuple #[.agg #[.pointer (some a),.int .i64 c],.bool true]) w:=by kernel_rfl
theorem ta_c_b (w:World) (a:Addr):(Instr.typeAssert (.iface 102 (.pointer (some a))) 78 98 true).run Tryz.prog w = .ok (.tuple #[.pointer none,.bool false]) w:=by kernel_rfl
theorem ta_c_r (w:World) (a:Addr):(Instr.typeAssert (.iface 102 (.pointer (some a))) 78 101 true).run Tryz.prog w = .ok (.tuple #[.agg #[.pointer none,.int .i64 0],.bool false]) w:=by kernel_rfl
theorem ta_c_c (w:World) (a:Addr):(Instr.typeAssert (.iface 102 (.pointer (some a))) 78 102 true).run Tryz.prog w = .ok (.tuple #[.pointer (some a),.bool true]) w:=by kernel_rfl
theorem ta_w_b (w:World) (a:Addr) (c:Int):(Instr.typeAssert (.iface 105 (.agg #[.pointer (some a),.int .i64 c])) 78 98 true).run Tryz.prog w = .ok (.tuple #[.pointer none,.bool false]) w:=by kernel_rfl
theorem ta_w_r (w:World) (a:Addr) (c:Int):(Instr.typeAssert (.iface 105 (.agg #[.pointer (some a),.int .i64 c])) 78 101 true).run Tryz.prog w = .ok (.tuple #[.agg #[.pointer none,.int .i64 0],.bool false]) w:=by kernel_rfl
theorem ta_w_c (w:World) (a:Addr) (c:Int):(Instr.typeAssert (.iface 105 (.agg #[.pointer (some a),.int .i64 c])) 78 102 true).run Tryz.prog w = .ok (.tuple #[.pointer none,.bool false]) w:=by kernel_rfl
theorem ta_w_w (w:World) (a:Addr) (c:Int):(Instr.typeAssert (.iface 105 (.agg #[.pointer (some a),.int .i64 c])) 78 105 true).run Tryz.prog w = .ok (.tuple #[.agg #[.pointer (some a),.int .i64 c],.bool true]) w:=by kernel_rfl
theorem ta_n (w:World):(Instr.typeAssert .nilIface 78 98 true).run Tryz.prog w = .ok (.tuple #[.pointer none,.bool false]) w∧(Instr.typeAssert .nilIface 78 101 true).run Tryz.prog w = .ok (.tuple #[.agg #[.pointer none,.int .i64 0],.bool false]) w∧(Instr.typeAssert .nilIface 78 102 true).run Tryz.prog w = .ok (.tuple #[.pointer none,.bool false]) w∧(Instr.typeAssert .nilIface 78 105 true).run Tryz.prog w = .ok (.tuple #[.agg #[.pointer none,.int .i64 0],.bool false]) w:=⟨by kernel_rfl,by kernel_rfl,by kernel_rfl,by kernel_rfl⟩
theorem live_any {w:World} {base T:Nat} {x:Tx} {G:List Nat} {lg tk:Nat} {ev wv:Value} {Gm:List Nat} (h:TxAt' w base T x G lg tk ev wv Gm) (z seen:Int) :
  Calls Tryz.prog 58 #[.pointer (some ⟨T, 0, none⟩), .int .i64 z, .int .i64 seen, .bool true] w fun e w' => e = .returned (.tuple #[]) ∧ ∃ G', TxAt' w' base T (x.live z seen) G' lg tk ev .nilIface [] ∧ Next G G' w w' := by
 obtain ⟨n1,n2,n3,n4,n5,n6,n7,n8⟩:=h.ne
 have hG:=h.eG
 refine (live_raw h.raw z seen true).mono ?_
 rintro e w1 ⟨rfl,r1,k1⟩
 refine ⟨rfl,_,tx_build (x:=x.live z seen) (Gm:=[]) r1 (h.log.keep (keep_tl k1) (by simp; exact Ne.symm n1) (by simp; exact Ne.symm n2)) (own_keep h.evs k1 (fun b hb=>by simp; exact (n4 b hb).1)) ⟨rfl,rfl⟩ h.bT h.bl h.bk List.nodup_nil (by simp) (by simp) (by simp) (fun _ _=>by simp),k1.mono (fun b hb => ?_),fun b hb=>Or.inl ?_⟩
 ·rw [hG]; simp at hb ⊢; exact Or.inl hb
 ·rw [hG]; simp at hb ⊢; grind
theorem finish_bg {w:World} {base T:Nat} {x:Tx} {G:List Nat} (h:TxAt w base T x G) (hb:base≤w.heap.size) (hL:x.ev.length < 1073741824) {b:Bg} (hy:x.wy = .bg b) (h2:b.st=2) (v:Int) :
  Calls Tryz.prog 42 #[.pointer (some ⟨T, 0, none⟩), .int .i64 v] w fun e w' => e = .returned (.bool true) ∧ ∃ G', TxAt w' base T (finX x v (.bg b)).1 G' ∧ Next G G' w w' := by
 obtain ⟨lg,tk,ev,wv,Gm,h'⟩:=h
 have hw:=h'.wy
 rw [hy] at hw
 obtain ⟨X,rfl,rfl,hX,hlo⟩:=hw
 have HST : Hid (∀ w', Below w.heap.size w w' → Calls Tryz.prog 59 #[.pointer (some ⟨X, 0, none⟩)] w' fun e w'' => e = .returned (.tuple #[.int .i64 b.stamp, .int .i64 b.seen, .bool true]) ∧ Below w'.heap.size w' w'') := fun w' k => by
  have:=Be.start_any (hX.below k (heap_lt hX))
  rw [if_pos h2,if_pos h2,show decide (b.st=2)=true by simp [h2]] at this
  exact this
 have HLV : Hid (∀ w', Below w.heap.size w w' → Calls Tryz.prog 58 #[.pointer (some ⟨T, 0, none⟩), .int .i64 b.stamp, .int .i64 b.seen, .bool true] w' fun e w'' => e = .returned (.tuple #[]) ∧ ∃ G', TxAt' w'' base T (x.live b.stamp b.seen) G' lg tk ev .nilIface [] ∧ Next G G' w' w'') := fun w' k => live_any (h'.below k) _ _
 obtain ⟨x0,x1,x2,x3,x4,x5,x6,x7,x8,x9,x10,x11,x12⟩:=h'.raw.cells
 have hT:=heap_lt h'.raw
 clear h' x0 x1 x2 x3 x4 x5 x6 x7 x8 x10 x11 x12 hX h2
 have qa : ∀ w,(Instr.typeAssert (.iface 98 (.pointer (some ⟨X,0,none⟩))) 78 98 true).run Tryz.prog w = .ok (.tuple #[.pointer (some ⟨X,0,none⟩),.bool true]) w:=fun w=>ta_b_b w _
 go_enter Tryz.func42,Tryz.ntmps42
 go_wp2_with fail
 refine (HST.out _ (Below.refl _ _)).mono ?_
 rintro e w1 ⟨rfl,hB1⟩
 go_wp2_with fail
 refine (HLV.out _ hB1).mono ?_
 rintro e w2 ⟨rfl,G2,q2,k2⟩
 have HQ:Hid (TxAt' w2 base T (x.live b.stamp b.seen) G2 lg tk ev .nilIface []):=q2
 have HK:Hid (Next G G2 w w2):=(Next.of_below hB1 G).trans k2
 have HTL : Hid (∀ w', Below w2.heap.size w2 w' → Calls Tryz.prog 46 #[.pointer (some ⟨T, 0, none⟩), .agg #[.int .i64 0, .int .i64 0, .int .i64 0, .int .i64 1, .int .i64 0, .int .i64 0, .bool false, .int .i64 b.stamp, .int .i64 b.seen, .int .i64 0, .int .u64 0, .int .u64 0, .int .u64 0, .int .u64 0, .int .u64 0, .int .u64 0, .int .u64 0, .int .u64 0, .int .i64 0]] w' fun e w'' => e = .returned (.tuple #[]) ∧ ∃ G' v', TxAt' w'' base T ((x.live b.stamp b.seen).tell { kind := 1, start := b.stamp, seen := b.seen }) G' lg tk v' .nilIface [] ∧ Next G2 G' w' w'') := fun w' k => tx_tell0 (HQ.out.below k) (Nat.le_trans hb (Nat.le_trans HK.out.1.size k.size)) hL { kind := 1, start := b.stamp, seen := b.seen }
 have HCC:Hid (∀ w' x' G' v' ,TxAt' w' base T ((x.live b.stamp b.seen).tell x') G' lg tk v' .nilIface [] → w'.cell? ⟨T,11,none⟩=some (.int .i64 b.stamp)∧w'.cell? ⟨T,12,none⟩=some (.int .i64 b.seen)):=fun w' x' G' v' q=>q.raw.cells.2.2.2.2.2.2.2.2.2.2.2
 obtain ⟨_,_,_,_,_,_,_,_,_,_,_,y11,y12⟩:=q2.raw.cells
 have hT2:T < w2.heap.size:=heap_lt q2.raw
 have y11':w2.cell? ⟨T,11,none⟩=some (.int .i64 b.stamp):=y11
 have y12':w2.cell? ⟨T,12,none⟩=some (.int .i64 b.seen):=y12
 clear q2 k2 x9 HST HLV hB1 hT y11 y12
 go_wp2_with fail
 go_region_held3 (fun w' => w'.cell? ⟨T,11,none⟩=some (.int .i64 b.stamp)∧w'.cell? ⟨T,12,none⟩=some (.int .i64 b.seen)) (first | go_keep | exact hS) (first
    | (go_at_call 46; refine (HTL.out _ (bl_drew _)).mono ?_; rintro e w5 ⟨rfl,G5,v5,q5,k5⟩; have hS:=HCC.out _ _ _ _ q5))
 go_wp2
 go_ret
 exact ⟨rfl,G5,⟨_,_,_,_,_,q5⟩,HK.out.trans ((Next.of_below (bl_drew w2) G2).trans k5)⟩
theorem finish_rd {w:World} {base T:Nat} {x:Tx} {G:List Nat} (h:TxAt w base T x G) (hb:base≤w.heap.size) (hL:x.ev.length < 1073741824) {P:Fe.Cp} {b:Fe.Ck} (hy:x.wy = .rd P b) (h2:b.st=4) (v:Int) :
  Calls Tryz.prog 42 #[.pointer (some ⟨T, 0, none⟩), .int .i64 v] w fun e w' => e = .returned (.bool true) ∧ ∃ G', TxAt w' base T (finX x v (.rd P b)).1 G' ∧ Next G G' w w' := by
 obtain ⟨lg,tk,ev,wv,Gm,h'⟩:=h
 have hw:=h'.wy
 rw [hy] at hw
 obtain ⟨X,rfl,rfl,hX,hlo⟩:=hw
 have HST : Hid (∀ w', Below w.heap.size w w' → Calls Tryz.prog 60 #[.pointer (some ⟨X, 0, none⟩)] w' fun e w'' => e = .returned (.tuple #[.int .i64 b.comp, .int .i64 b.seen, .bool true]) ∧ Below w'.heap.size w' w'') := fun w' k => by
  have:=Fe.fstart_any (hX.keep (Keep.of_below k []) (by simp))
  rw [if_pos h2,if_pos h2,show decide (b.st=4)=true by simp [h2]] at this
  exact this
 have HLV : Hid (∀ w', Below w.heap.size w w' → Calls Tryz.prog 58 #[.pointer (some ⟨T, 0, none⟩), .int .i64 b.comp, .int .i64 b.seen, .bool true] w' fun e w'' => e = .returned (.tuple #[]) ∧ ∃ G', TxAt' w'' base T (x.live b.comp b.seen) G' lg tk ev .nilIface [] ∧ Next G G' w' w'') := fun w' k => live_any (h'.below k) _ _
 obtain ⟨x0,x1,x2,x3,x4,x5,x6,x7,x8,x9,x10,x11,x12⟩:=h'.raw.cells
 have hT:=heap_lt h'.raw
 have HLT:Hid (∀ q ∈ G,q < w.heap.size):=fun q hq=>(h'.lt q hq).2
 clear h' x0 x1 x2 x3 x4 x5 x6 x7 x8 x10 x11 x12 hX h2
 have qa : ∀ w,(Instr.typeAssert (.iface 101 (.agg #[.pointer (some ⟨X,0,none⟩),.int .i64 P.cell])) 78 98 true).run Tryz.prog w = .ok (.tuple #[.pointer none,.bool false]) w:=fun w=>ta_r_b w _ _
 have qb : ∀ w,(Instr.typeAssert (.iface 101 (.agg #[.pointer (some ⟨X,0,none⟩),.int .i64 P.cell])) 78 101 true).run Tryz.prog w = .ok (.tuple #[.agg #[.pointer (some ⟨X,0,none⟩),.int .i64 P.cell],.bool true]) w:=fun w=>ta_r_r w _ _
 go_enter Tryz.func42,Tryz.ntmps42
 go_wp2_with fail
 refine (HST.out _ (below_a1 _ _)).mono ?_
 rintro e w1 ⟨rfl,hB0⟩
 have hB1:Below w.heap.size w w1:=below_then (below_a1 _ _) hB0
 have HRW:Hid (w1.heap[w.heap.size]? = some (.cells #[.pointer (some ⟨X,0,none⟩),.int .i64 P.cell] 101 (0,0))):=row_on (heap_alloc_new _ _) hB0
 go_wp2_with fail
 refine (HLV.out _ hB1).mono ?_
 rintro e w2 ⟨rfl,G2,q2,k2⟩
 have HR2:Hid (w2.heap[w.heap.size]? = some (.cells #[.pointer (some ⟨X,0,none⟩),.int .i64 P.cell] 101 (0,0))):=by
  have hg:w.heap.size ∉ G:=fun hm=>by have:=HLT.out _ hm; omega
  have:=k2.1.block w.heap.size (heap_lt HRW.out) hg
  exact this.trans HRW.out
 have HN2:Hid (w.heap.size ∉ G2):=fun hm=>by
  rcases k2.2 _ hm with h1 | h1
  ·have:=HLT.out _ h1; omega
  ·have:=heap_lt HRW.out; omega
 have HQ:Hid (TxAt' w2 base T (x.live b.comp b.seen) G2 lg tk ev .nilIface []):=q2
 have HK:Hid (Next G G2 w w2):=(Next.of_below hB1 G).trans k2
 have HTL : Hid (∀ w', Below w2.heap.size w2 w' → Calls Tryz.prog 46 #[.pointer (some ⟨T, 0, none⟩), .agg #[.int .i64 0, .int .i64 0, .int .i64 0, .int .i64 2, .int .i64 P.cell, .int .i64 v, .bool false, .int .i64 b.comp, .int .i64 b.seen, .int .i64 0, .int .u64 0, .int .u64 0, .int .u64 0, .int .u64 0, .int .u64 0, .int .u64 0, .int .u64 0, .int .u64 0, .int .i64 0]] w' fun e w'' => e = .returned (.tuple #[]) ∧ ∃ G' v', TxAt' w'' base T ((x.live b.comp b.seen).tell { kind := 2, cell := P.cell, value := v, start := b.comp, seen := b.seen }) G' lg tk v' .nilIface [] ∧ Next G2 G' w' w'') := fun w' k => tx_tell0 (HQ.out.below k) (Nat.le_trans hb (Nat.le_trans HK.out.1.size k.size)) hL { kind := 2, cell := P.cell, value := v, start := b.comp, seen := b.seen }
 have HCC:Hid (∀ w' x' G' v' ,TxAt' w' base T ((x.live b.comp b.seen).tell x') G' lg tk v' .nilIface [] → w'.cell? ⟨T,11,none⟩=some (.int .i64 b.comp)∧w'.cell? ⟨T,12,none⟩=some (.int .i64 b.seen)):=fun w' x' G' v' q=>q.raw.cells.2.2.2.2.2.2.2.2.2.2.2
 obtain ⟨_,_,_,_,_,_,_,_,_,_,_,y11,y12⟩:=q2.raw.cells
 have hT2:T < w2.heap.size:=heap_lt q2.raw
 have y11':w2.cell? ⟨T,11,none⟩=some (.int .i64 b.comp):=y11
 have y12':w2.cell? ⟨T,12,none⟩=some (.int .i64 b.seen):=y12
 clear q2 k2 x9 HST HLV hB1 hT y11 y12
 have y1:w2.cell? ⟨w.heap.size,1,none⟩=some (.int .i64 P.cell):=by rw [cell_at HR2.out]; rfl
 have hH2:w.heap.size < w2.heap.size:=heap_lt HR2.out
 have HC1 : Hid (∀ w' G', Next G2 G' w2.drew w' → w'.cell? ⟨w.heap.size, 1, none⟩ = some (.int .i64 P.cell)) := fun w' G' k => by
  rw [cell_at ((k.1.block w.heap.size hH2 HN2.out).trans HR2.out)]; rfl
 clear HRW hB0
 go_wp2_with fail
 go_region_held3 (fun w' => w'.cell? ⟨w.heap.size,1,none⟩=some (.int .i64 P.cell)∧w'.cell? ⟨T,11,none⟩=some (.int .i64 b.comp)∧w'.cell? ⟨T,12,none⟩=some (.int .i64 b.seen)) (first | go_keep | exact hS) (first
    | (go_at_call 46; refine (HTL.out _ (bl_drew _)).mono ?_; rintro e w5 ⟨rfl,G5,v5,q5,k5⟩; have hS:=And.intro (HC1.out _ _ k5) (HCC.out _ _ _ _ q5)))
 go_wp2
 go_ret
 exact ⟨rfl,G5,⟨_,_,_,_,_,q5⟩,HK.out.trans ((Next.of_below (bl_drew w2) G2).trans k5)⟩
theorem finish_cm {w:World} {base T:Nat} {x:Tx} {G:List Nat} (h:TxAt w base T x G) (hb:base≤w.heap.size) (hL:x.ev.length < 1073741824) (h1:1≤x.s) (h2:x.s≤16) {P:Co.Cp} {b:Co.Ck} {u:Co.Cu} (hy:x.wy = .cm P b u) (h3:1≤u.stamp) (h4:u.stamp≤1099511627776) (v:Int) :
  Calls Tryz.prog 42 #[.pointer (some ⟨T, 0, none⟩), .int .i64 v] w fun e w' => e = .returned (.bool false) ∧ ∃ G', TxAt w' base T (finX x v (.cm P b u)).1 G' ∧ Next G G' w w' := by
 have HX:Hid (TxAt w base T x G):=h
 obtain ⟨lg,tk,ev,wv,Gm,h'⟩:=h
 have hw:=h'.wy
 rw [hy] at hw
 obtain ⟨Z,X,rfl,rfl,hZ,hX,hlo⟩:=hw
 have HST : Hid (∀ w', Below w.heap.size w w' → Calls Tryz.prog 61 #[.pointer (some ⟨Z, 0, none⟩)] w' fun e w'' => e = .returned (.tuple #[.int .i64 u.stamp, .bool (u.stamp != 0)]) ∧ Below w'.heap.size w' w'') := fun w' k => Co.mstamp_any (hZ.below k (heap_lt hZ))
 have HPB : Hid (∀ w', Below w.heap.size w w' → Calls Tryz.prog 62 #[.pointer (some ⟨T, 0, none⟩), .int .i64 u.stamp] w' fun e w'' => e = .returned (.tuple #[]) ∧ ∃ G', TxAt w'' base T (finX x v (.cm P b u)).1 G' ∧ Next G G' w' w'') := fun w' k => publish_any (HX.out.below k) (Nat.le_trans hb k.size) hL h1 h2 h3 h4
 obtain ⟨x0,x1,x2,x3,x4,x5,x6,x7,x8,x9,x10,x11,x12⟩:=h'.raw.cells
 have hT:=heap_lt h'.raw
 clear h' x0 x1 x2 x3 x4 x5 x6 x7 x8 x10 x11 x12 hX hZ hlo HX
 have qa : ∀ w,(Instr.typeAssert (.iface 102 (.pointer (some ⟨Z,0,none⟩))) 78 98 true).run Tryz.prog w = .ok (.tuple #[.pointer none,.bool false]) w:=fun w=>ta_c_b w _
 have qb : ∀ w,(Instr.typeAssert (.iface 102 (.pointer (some ⟨Z,0,none⟩))) 78 101 true).run Tryz.prog w = .ok (.tuple #[.agg #[.pointer none,.int .i64 0],.bool false]) w:=fun w=>ta_c_r w _
 have qc : ∀ w,(Instr.typeAssert (.iface 102 (.pointer (some ⟨Z,0,none⟩))) 78 102 true).run Tryz.prog w = .ok (.tuple #[.pointer (some ⟨Z,0,none⟩),.bool true]) w:=fun w=>ta_c_c w _
 go_enter Tryz.func42,Tryz.ntmps42
 go_wp2_with fail
 refine (HST.out _ (Below.refl _ _)).mono ?_
 rintro e w1 ⟨rfl,hB1⟩
 go_wp2_with fail
 refine (HPB.out _ hB1).mono ?_
 rintro e w2 ⟨rfl,G2,q2,k2⟩
 go_wp2
 go_ret
 exact ⟨rfl,G2,q2,(Next.of_below hB1 G).trans k2⟩
theorem finish_wr {w:World} {base T:Nat} {x:Tx} {G:List Nat} (h:TxAt w base T x G) (hb:base≤w.heap.size) (hL:x.ev.length < 1073741824) {P:Ba.Bp} {b:Ba.Bk} (hy:x.wy = .wr P b) (v:Int) :
  Calls Tryz.prog 42 #[.pointer (some ⟨T, 0, none⟩), .int .i64 v] w fun e w' => e = .returned (.bool true) ∧ ∃ G', TxAt w' base T (finX x v (.wr P b)).1 G' ∧ Next G G' w w' := by
 have HX:Hid (TxAt w base T x G):=h
 obtain ⟨lg,tk,ev,wv,Gm,h'⟩:=h
 have hw:=h'.wy
 rw [hy] at hw
 obtain ⟨Z,lv,rfl,rfl,hZ,hlo⟩:=hw
 have HTL : Hid (∀ w', Below w.heap.size w w' → Calls Tryz.prog 46 #[.pointer (some ⟨T, 0, none⟩), .agg #[.int .i64 0, .int .i64 0, .int .i64 0, .int .i64 5, .int .i64 0, .int .i64 0, .bool false, .int .i64 0, .int .i64 0, .int .i64 P.st, .int .u64 0, .int .u64 0, .int .u64 0, .int .u64 0, .int .u64 0, .int .u64 0, .int .u64 0, .int .u64 0, .int .i64 0]] w' fun e w'' => e = .returned (.tuple #[]) ∧ ∃ G', TxAt w'' base T (x.tell { kind := 5, stamp := P.st }) G' ∧ Next G G' w' w'') := fun w' k => tx_tell (HX.out.below k) (Nat.le_trans hb k.size) hL { kind := 5, stamp := P.st }
 obtain ⟨x0,x1,x2,x3,x4,x5,x6,x7,x8,x9,x10,x11,x12⟩:=h'.raw.cells
 have hT:=heap_lt h'.raw
 clear h' x0 x1 x2 x3 x4 x5 x6 x7 x8 x10 x11 x12 hZ hlo HX
 have qa : ∀ w,(Instr.typeAssert (.iface 105 (.agg #[.pointer (some ⟨Z,0,none⟩),.int .i64 P.st])) 78 98 true).run Tryz.prog w = .ok (.tuple #[.pointer none,.bool false]) w:=fun w=>ta_w_b w _ _
 have qb : ∀ w,(Instr.typeAssert (.iface 105 (.agg #[.pointer (some ⟨Z,0,none⟩),.int .i64 P.st])) 78 101 true).run Tryz.prog w = .ok (.tuple #[.agg #[.pointer none,.int .i64 0],.bool false]) w:=fun w=>ta_w_r w _ _
 have qc : ∀ w,(Instr.typeAssert (.iface 105 (.agg #[.pointer (some ⟨Z,0,none⟩),.int .i64 P.st])) 78 102 true).run Tryz.prog w = .ok (.tuple #[.pointer none,.bool false]) w:=fun w=>ta_w_c w _ _
 have qd : ∀ w,(Instr.typeAssert (.iface 105 (.agg #[.pointer (some ⟨Z,0,none⟩),.int .i64 P.st])) 78 105 true).run Tryz.prog w = .ok (.tuple #[.agg #[.pointer (some ⟨Z,0,none⟩),.int .i64 P.st],.bool true]) w:=fun w=>ta_w_w w _ _
 go_enter Tryz.func42,Tryz.ntmps42
 go_wp2_with fail
 refine (HTL.out _ (below_a1 _ _)).mono ?_
 rintro e w1 ⟨rfl,G1,q1,k1⟩
 go_wp2_with fail
 refine (reset_any q1).mono ?_
 rintro e w2 ⟨rfl,G2,q2,k2⟩
 go_wp2
 go_ret
 exact ⟨rfl,G2,q2,(Next.of_below (below_a1 _ _) G).trans (k1.trans k2)⟩
structure TM (w:World) (base:Nat) (p:Value) (c r:Nat) (L:List Ac) (F:List Nat) (T:Nat) (x:Tx) (G:List Nat):Prop where
 mem:MemAt w base p c r L F
 tx:TxAt w base T x G
 out : ∀ q ∈ G,q ∉ F
theorem TM.below {w w':World} {base:Nat} {p:Value} {c r:Nat} {L:List Ac} {F:List Nat} {T:Nat} {x:Tx} {G:List Nat} (h:TM w base p c r L F T x G) (k:Below w.heap.size w w'):TM w' base p c r L F T x G:=⟨h.mem.below k,h.tx.below k,h.out⟩
theorem TM.lt {w:World} {base:Nat} {p:Value} {c r:Nat} {L:List Ac} {F:List Nat} {T:Nat} {x:Tx} {G:List Nat} (h:TM w base p c r L F T x G) : ∀ q ∈ G++F,base≤q∧q < w.heap.size:=fun q hq=>by
 rcases List.mem_append.1 hq with h1 | h1
 ·exact h.tx.lt q h1
 ·exact h.mem.lt q h1
theorem TM.onTx {w w':World} {base:Nat} {p:Value} {c r:Nat} {L:List Ac} {F:List Nat} {T:Nat} {x x':Tx} {G G':List Nat} (h:TM w base p c r L F T x G) (hx:TxAt w' base T x' G') (hn:Next G G' w w'):TM w' base p c r L F T x' G'∧Next (G++F) (G'++F) w w':=by
 refine ⟨⟨h.mem.keep hn.1 (fun b hb hg=>h.out b hg hb),hx,fun q hq hF => ?_⟩,hn.left⟩
 rcases hn.2 q hq with h1 | h1
 ·exact h.out q h1 hF
 ·have:=(h.mem.lt q hF).2; omega
theorem tx_mach {w w' : World} {base : Nat} {p : Value} {c r : Nat} {L' : List Ac} {F F' : List Nat} {T : Nat} {x : Tx} {G : List Nat} {lg tk : Nat} {ev wv : Value} {Gm Gm' : List Nat} {y : Wy} (h : TxAt' w base T x G lg tk ev wv Gm) (ho : ∀ q ∈ G, q ∉ F) (hm : MemAt w' base p c r L' F') (hy : WyAt w' base x.s wv Gm' y) (nd : Gm'.Nodup) (hd : ∀ q ∈ Gm', q ∉ F') (hn : Next (Gm ++ F) (Gm' ++ F') w w') : ∃ G', TM w' base p c r L' F' T { x with wy := y } G' ∧ Next (G ++ F) (G' ++ F') w w' := by
 obtain ⟨n1,n2,n3,n4,n5,n6,n7,n8⟩:=h.ne
 have hG:=h.eG
 have hlt:=h.lt
 have key : ∀ q ∈ G,q ∉ Gm→q ∉ Gm++F∧q ∉ Gm'++F':=fun q hq hg=>by
  have h1:q ∉ Gm++F:=fun e=>by
   rcases List.mem_append.1 e with e | e
   ·exact hg e
   ·exact ho q hq e
  refine ⟨h1,fun e => ?_⟩
  rcases hn.2 q e with e | e
  ·exact h1 e
  ·have:=(hlt q hq).2; omega
 have kT:=key T (by rw [hG]; simp) n5
 have kl:=key lg (by rw [hG]; simp) n6
 have kk:=key tk (by rw [hG]; simp) n7
 have ke : ∀ k,ev.ownBlock=some k→k ∉ Gm++F∧k ∉ Gm'++F':=fun k hk=>key k (by rw [hG]; simp [hk]) (n4 k hk).2.2.2
 have sp : ∀ q,q ∉ Gm'++F'→q ∉ Gm'∧q ∉ F':=fun q e=>⟨fun h=>e (by simp [h]),fun h=>e (by simp [h])⟩
 refine ⟨_,⟨hm,⟨_,_,_,_,_,tx_build (x:={ x with wy:=y }) (h.raw.keep hn.1 kT.1) (h.log.keep (keep_tl hn.1) kl.1 kk.1) (own_keep h.evs hn.1 (fun b hb=>(ke b hb).1)) hy h.bT h.bl h.bk nd (sp _ kT.2).1 (sp _ kl.2).1 (sp _ kk.2).1 (fun k hk=>(sp _ (ke k hk).2).1)⟩,fun q hq => ?_⟩,hn.1.mono (fun b hb => ?_),fun b hb => ?_⟩
 ·simp only [List.mem_cons,List.mem_append,Option.mem_toList] at hq
  rcases hq with rfl | rfl | rfl | e | e
  ·exact (sp _ kT.2).2
  ·exact (sp _ kl.2).2
  ·exact (sp _ kk.2).2
  ·exact (sp _ (ke q e).2).2
  ·exact hd q e
 ·rw [hG]; simp at hb ⊢; grind
 ·rw [hG]
  simp only [List.mem_cons,List.mem_append,Option.mem_toList] at hb ⊢
  have h2:=hn.2 b
  simp only [List.mem_append] at h2
  grind
theorem next_sub {A B A' B':List Nat} {w w':World} (h:Next A A' w w') (h1 : ∀ q,q ∈ A ↔ q ∈ B) (h2 : ∀ q,q ∈ A' ↔ q ∈ B'):Next B B' w w':=⟨h.1.mono (fun b hb=>(h1 b).1 hb),fun b hb=>by
  rcases h.2 b ((h2 b).2 hb) with e | e
  · exact Or.inl ((h1 b).1 e)
  · exact Or.inr e⟩
theorem mach_bg {w:World} {base:Nat} {p:Value} {c r:Nat} {L:List Ac} {F:List Nat} {T:Nat} {x:Tx} {G:List Nat} {lg tk:Nat} {ev wv:Value} {Gm:List Nat} {b:Bg} (hm:MemAt w base p c r L F) (h:TxAt' w base T x G lg tk ev wv Gm) (ho : ∀ q ∈ G,q ∉ F) (hb:base≤w.heap.size) (hL:L.length < 3298534883328) (hy:x.wy = .bg b) (hk:BOk x.s b) (t:Int) :
  ∃ X, wv = .iface 98 (.pointer (some ⟨X, 0, none⟩)) ∧ ∀ w', Below w.heap.size w w' → Calls Tryz.prog 128 #[.pointer (some ⟨X, 0, none⟩), p, .int .i64 t] w' fun e w'' => e = .returned (.agg #[.int .i64 (stepM c r x L t).k, .int .i64 (stepM c r x L t).e, .int .i64 (stepM c r x L t).v, .bool (stepM c r x L t).y]) ∧ ∃ F' G', TM w'' base p c r (stepM c r x L t).L F' T { x with wy := (stepM c r x L t).wy } G' ∧ Next (G ++ F) (G' ++ F') w' w'' := by
 have hw:=h.wy
 rw [hy] at hw
 obtain ⟨X,rfl,rfl,hX,hlo⟩:=hw
 have hXG:X ∈ G:=by rw [h.eG]; simp
 refine ⟨X,rfl,fun w' k => ?_⟩
 unfold stepM
 rw [hy]
 refine (Be.pstep (X:=X) (s:=x.s) ⟨hm.below k,hX.below k (heap_lt hX),ho X hXG,hlo⟩ (Nat.le_trans hb k.size) hL hk t).mono ?_
 rintro e w'' ⟨rfl, F', q, hn⟩
 obtain ⟨G', h1, h2⟩ := tx_mach (y := .bg (Be.nextB r x.s b L)) (Gm' := [X]) (h.below k) ho q.mem ⟨X, rfl, rfl, q.at_, hlo⟩ (by simp) (by simp; exact q.out) (next_sub hn (by simp) (by simp))
 exact ⟨rfl, F', G', h1, h2⟩
theorem mach_rd {w:World} {base:Nat} {p:Value} {c r:Nat} {L:List Ac} {F:List Nat} {T:Nat} {x:Tx} {G:List Nat} {lg tk:Nat} {ev wv:Value} {Gm:List Nat} {P:Fe.Cp} {b:Fe.Ck} {n:Nat} (hm:MemAt w base p c r L F) (h:TxAt' w base T x G lg tk ev wv Gm) (ho : ∀ q ∈ G,q ∉ F) (hb:base≤w.heap.size) (hL:L.length < 3298534883328) (hy:x.wy = .rd P b) (hk:Fe.KOk P b n) (h0:0≤P.cell) (hd:Wd L) (t:Int) :
  ∃ X, wv = .iface 101 (.agg #[.pointer (some ⟨X, 0, none⟩), .int .i64 P.cell]) ∧ ∀ w', Below w.heap.size w w' → Calls Tryz.prog 132 #[.pointer (some ⟨X, 0, none⟩), p, .int .i64 t] w' fun e w'' => e = .returned (.agg #[.int .i64 (stepM c r x L t).k, .int .i64 (stepM c r x L t).e, .int .i64 (stepM c r x L t).v, .bool (stepM c r x L t).y]) ∧ ∃ F' G', TM w'' base p c r (stepM c r x L t).L F' T { x with wy := (stepM c r x L t).wy } G' ∧ Next (G ++ F) (G' ++ F') w' w'' := by
 have hw:=h.wy
 rw [hy] at hw
 obtain ⟨X,rfl,rfl,hX,hlo⟩:=hw
 have hXG:X ∈ G:=by rw [h.eG]; simp
 refine ⟨X,rfl,fun w' k => ?_⟩
 unfold stepM
 rw [hy]
 refine (Fe.fstep (X:=X) ⟨hm.below k,hX.keep (Keep.of_below k []) (by simp),ho X hXG,hlo⟩ (Nat.le_trans hb k.size) hL hk h0 (fun _ _ _=>hd _) t).mono ?_
 rintro e w'' ⟨rfl, F', q, hn⟩
 have hce:(Fe.nextFP c r P L).cell=P.cell:=by
  unfold Fe.nextFP
  split
  ·split <;> rfl
  ·rfl
 obtain ⟨G', h1, h2⟩ := tx_mach (y := .rd (Fe.nextFP c r P L) (Fe.nextFB c r P b L)) (Gm' := [X]) (h.below k) ho q.mem ⟨X, by rw [hce], rfl, q.at_, hlo⟩ (by simp) (by simp; exact q.out) (next_sub hn (by simp) (by simp))
 exact ⟨rfl, F', G', h1, h2⟩
theorem mach_cm {w:World} {base:Nat} {p:Value} {c r:Nat} {L:List Ac} {F:List Nat} {T:Nat} {x:Tx} {G:List Nat} {lg tk:Nat} {ev wv:Value} {Gm:List Nat} {P:Co.Cp} {b:Co.Ck} {u:Co.Cu} (hm:MemAt w base p c r L F) (h:TxAt' w base T x G lg tk ev wv Gm) (ho : ∀ q ∈ G,q ∉ F) (hb:base≤w.heap.size) (hL:L.length < 3298534883328) (hy:x.wy = .cm P b u) (hk:Co.COk P b u) (hd:Wd L) (t:Int) :
  ∃ Z, wv = .iface 102 (.pointer (some ⟨Z, 0, none⟩)) ∧ ∀ w', Below w.heap.size w w' → Calls Tryz.prog 148 #[.pointer (some ⟨Z, 0, none⟩), p, .int .i64 t] w' fun e w'' => e = .returned (.agg #[.int .i64 (stepM c r x L t).k, .int .i64 (stepM c r x L t).e, .int .i64 (stepM c r x L t).v, .bool (stepM c r x L t).y]) ∧ ∃ F' G', TM w'' base p c r (stepM c r x L t).L F' T { x with wy := (stepM c r x L t).wy } G' ∧ Next (G ++ F) (G' ++ F') w' w'' := by
 have hw:=h.wy
 rw [hy] at hw
 obtain ⟨Z,X,rfl,rfl,hZ,hX,hlo1,hlo2,hne⟩:=hw
 have hXG:X ∈ G:=by rw [h.eG]; simp
 have hZG:Z ∈ G:=by rw [h.eG]; simp
 refine ⟨Z,rfl,fun w' k => ?_⟩
 unfold stepM
 rw [hy]
 refine (Co.mstep (X:=X) (Z:=Z) ⟨⟨hm.below k,hX.keep (Keep.of_below k []) (by simp),ho X hXG,hlo2⟩,hZ.below k (heap_lt hZ),by simp; exact ⟨hne,ho Z hZG⟩,hlo1⟩ (Nat.le_trans hb k.size) hL hk (fun _ _=>hd _) t).mono ?_
 rintro e w'' ⟨rfl, F', X', q, hn⟩
 have hq:=q.out
 simp only [List.mem_cons,not_or] at hq
 obtain ⟨G', h1, h2⟩ := tx_mach (y := .cm P (Co.nextCB r P b u L) (Co.nextU r P b u L)) (Gm' := [Z, X']) (h.below k) ho q.ks.mem ⟨Z, X', rfl, rfl, q.cm, q.ks.at_, hlo1, q.ks.lo, hq.1⟩ (by simp; exact hq.1) (by simp; exact ⟨hq.2, q.ks.out⟩) (next_sub hn (by simp) (by simp))
 exact ⟨rfl, F', G', h1, h2⟩
theorem mach_wr {w:World} {base:Nat} {p:Value} {c r:Nat} {L:List Ac} {F:List Nat} {T:Nat} {x:Tx} {G:List Nat} {lg tk:Nat} {ev wv:Value} {Gm:List Nat} {P:Ba.Bp} {b:Ba.Bk} (hm:MemAt w base p c r L F) (h:TxAt' w base T x G lg tk ev wv Gm) (ho : ∀ q ∈ G,q ∉ F) (hb:base≤w.heap.size) (hL:L.length < 3298534883328) (hy:x.wy = .wr P b) (hk:Ba.BkOk P b) (t:Int) :
  ∃ Z, wv = .iface 105 (.agg #[.pointer (some ⟨Z, 0, none⟩), .int .i64 P.st]) ∧ ∀ w', Below w.heap.size w w' → Calls Tryz.prog 160 #[.pointer (some ⟨Z, 0, none⟩), p, .int .i64 t] w' fun e w'' => e = .returned (.agg #[.int .i64 (stepM c r x L t).k, .int .i64 (stepM c r x L t).e, .int .i64 (stepM c r x L t).v, .bool (stepM c r x L t).y]) ∧ ∃ F' G', TM w'' base p c r (stepM c r x L t).L F' T { x with wy := (stepM c r x L t).wy } G' ∧ Next (G ++ F) (G' ++ F') w' w'' := by
 have hw:=h.wy
 rw [hy] at hw
 obtain ⟨Z,lv,rfl,rfl,hZ,hown,hlz,hlo⟩:=hw
 have hZG:Z ∈ G:=by rw [h.eG]; simp
 have hlG : ∀ k,lv.ownBlock=some k→k ∈ G:=fun k hk=>by rw [h.eG]; simp [hk]
 refine ⟨Z,rfl,fun w' k => ?_⟩
 unfold stepM
 rw [hy]
 refine (Ba.bstep (Z:=Z) ⟨hm.below k,Ba.BRow.keep hZ (Keep.of_below k []) (by simp),own_keep hown (Keep.of_below k []) (fun _ _=>by simp),ho Z hZG,fun q hq=>by simp; exact ⟨hlz q hq,ho q (hlG q hq)⟩,hlo⟩ hk (Nat.le_trans hb k.size) hL t).mono ?_
 rintro e w'' ⟨rfl, F', q, hn⟩
 obtain ⟨G', h1, h2⟩ := tx_mach (y := .wr P (Ba.nextBk c r P b L)) (Gm' := Z :: lv.ownBlock.toList) (h.below k) ho q.mem ⟨Z, lv, rfl, rfl, q.row, q.own, hlz, hlo⟩ (by
      simp only [List.nodup_cons,Option.mem_toList]
      exact ⟨fun e=>hlz Z e rfl,by cases lv.ownBlock <;> simp⟩) (fun q' hq' => by
      simp at hq'
      rcases hq' with rfl | hq'
      · exact q.out
      · have:=q.gout q' hq'; simp at this; exact this.2) ⟨hn.1.mono (fun b hb=>by simp at hb ⊢; grind),fun b hb=>by
      simp only [List.mem_append,List.mem_cons,Option.mem_toList] at hb ⊢
      rcases hb with (e | e) | e
      · exact Or.inl (Or.inl (Or.inl e))
      · exact Or.inl (Or.inl (Or.inr e))
      · rcases hn.2 b (by simp [e]) with h1 | h1
        · rcases List.mem_cons.1 h1 with h1 | h1
          · exact Or.inl (Or.inl (Or.inl h1))
          · exact Or.inl (Or.inr h1)
        · exact Or.inr h1⟩
 exact ⟨rfl, F', G', h1, h2⟩
set_option linter.unusedVariables false
theorem me_b (w : World) (a : Addr) : (method 311 98 (.pointer (some a)) "Step").run Tryz.prog w = .ok (128, .pointer (some a)) w := by kernel_rfl
theorem me_r (w : World) (a : Addr) (c : Int) : (method 311 101 (.agg #[.pointer (some a), .int .i64 c]) "Step").run Tryz.prog w = .ok (132, .pointer (some a)) w := by kernel_rfl
theorem me_c (w : World) (a : Addr) : (method 311 102 (.pointer (some a)) "Step").run Tryz.prog w = .ok (148, .pointer (some a)) w := by kernel_rfl
theorem me_w (w : World) (a : Addr) (c : Int) : (method 311 105 (.agg #[.pointer (some a), .int .i64 c]) "Step").run Tryz.prog w = .ok (160, .pointer (some a)) w := by kernel_rfl
def anV (k e v:Int) (y:Bool):Value:=.agg #[.int .i64 k,.int .i64 e,.int .i64 v,.bool y]
theorem row_next {w w1 w2:World} {G G':List Nat} {B:Nat} {o:Obj} (hlt : ∀ q ∈ G,q < w.heap.size) (hB:w.heap.size≤B) (hr:w1.heap[B]? = some o) (hn:Next G G' w1 w2):w2.heap[B]? = some o∧B ∉ G':=by
 have h1:B ∉ G:=fun e=>by have:=hlt B e; omega
 refine ⟨(hn.1.block B (heap_lt hr) h1).trans hr,fun e => ?_⟩
 rcases hn.2 B e with e | e
 ·exact h1 e
 ·have:=heap_lt hr; omega
theorem TM.other {w w':World} {base:Nat} {p:Value} {c r:Nat} {L:List Ac} {F:List Nat} {T:Nat} {x:Tx} {G:List Nat} {H:List Nat} (h:TM w base p c r L F T x G) (k:Keep H w w') (hd : ∀ q ∈ G++F,q ∉ H):TM w' base p c r L F T x G:=⟨h.mem.keep k (fun q hq=>hd q (by simp [hq])),h.tx.keep k (fun q hq=>hd q (by simp [hq])),h.out⟩
theorem nx_other {A B:List Nat} {w w2 w3:World} {k:Nat} (h:Next A B w w2) (hk:w.heap.size≤k) (q:Keep [k] w2 w3):Next A B w w3:=⟨h.1.trans q (fun b hb=>Or.inr (by simp at hb; omega)),h.2⟩
theorem rd_ok {x:Tx} {P:Fe.Cp} {b:Fe.Ck} (hx:XOk x) (hy:x.wy = .rd P b) : ∃ n,Fe.KOk P b n:=by have hw:=hx.wy; unfold wyOk at hw; rw [hy] at hw; exact hw.2.2.2.2.1
theorem rd_lo {x:Tx} {P:Fe.Cp} {b:Fe.Ck} (hx:XOk x) (hy:x.wy = .rd P b):0≤P.cell:=by have hw:=hx.wy; unfold wyOk at hw; rw [hy] at hw; exact hw.2.2.1
theorem cm_done {r:Nat} {P:Co.Cp} {b:Co.Ck} {u:Co.Cu} {L:List Ac} (hk:Co.COk P b u) (h:Co.ansZ r P b u L=3):1≤(Co.nextU r P b u L).stamp∧(Co.nextU r P b u L).stamp≤1099511627776:=by
 have hn:=hk.n2
 unfold Co.ansZ at h
 unfold Co.nextU
 split at h
 ·next hg =>
  rw [if_pos hg]
  have e3:=(Co.goesC_iff.mp hg).1
  split at h
  ·next e0 =>
   exfalso
   unfold Co.holdA Co.heldK at h
   split at h
   ·split at h <;> simp at h
   ·next h3=>exact h3 h
  ·next e0 =>
   rw [if_neg e0]
   split at h
   ·split at h <;> simp at h
   ·next e1 =>
    rw [if_neg e1]
    unfold Co.swapU
    split at h
    ·next hs =>
     rw [if_pos hs]
     rcases hk.c with c | c | c
     ·omega
     ·simp only; omega
     ·omega
    ·simp at h
 ·simp at h
theorem goOn_bg {w:World} {base:Nat} {p:Value} {c r:Nat} {L:List Ac} {F:List Nat} {T:Nat} {x:Tx} {G:List Nat} {b:Bg} (h:TM w base p c r L F T x G) (hb:base≤w.heap.size) (hL:L.length < 3298534883328) (hE:x.ev.length < 1073741824) (hx:XOk x) (hy:x.wy = .bg b) (hd:Wd L) (t:Int) :
  Calls Tryz.prog 29 #[.pointer (some ⟨T, 0, none⟩), p, .int .i64 t] w fun e w' => e = .returned (anV (stepX c r x L t).k (stepX c r x L t).e (stepX c r x L t).v (stepX c r x L t).y) ∧ ∃ F' G', TM w' base p c r (stepX c r x L t).L F' T (stepX c r x L t).x G' ∧ Next (G ++ F) (G' ++ F') w w' := by
 have HFN : Hid ((stepM c r x L t).k = 3 → ∀ w' G', TxAt w' base T { x with wy := (stepM c r x L t).wy } G' → base ≤ w'.heap.size → Calls Tryz.prog 42 #[.pointer (some ⟨T, 0, none⟩), .int .i64 (stepM c r x L t).v] w' fun e w'' => e = .returned (.bool (finX x (stepM c r x L t).v (stepM c r x L t).wy).2) ∧ ∃ G'', TxAt w'' base T (finX x (stepM c r x L t).v (stepM c r x L t).wy).1 G'' ∧ Next G' G'' w' w'') := fun hk3 w' G' hq hb' => by
  have hwy:(stepM c r x L t).wy = .bg (Be.nextB r x.s b L):=by unfold stepM; rw [hy]
  have hkk:Be.ansK r x.s b L=3:=by unfold stepM at hk3; rw [hy] at hk3; exact hk3
  have h2:(Be.nextB r x.s b L).st=2:=by
   unfold Be.ansK at hkk
   unfold Be.nextB
   split at hkk
   ·next hg =>
    rw [if_pos hg]
    split at hkk
    ·next h=>exact h
    ·simp at hkk
   ·simp at hkk
  rw [hwy] at hq ⊢
  exact finish_bg hq hb' hE rfl h2 _
 have HEN : Hid (∀ w' G' why, TxAt w' base T { x with wy := (stepM c r x L t).wy } G' → base ≤ w'.heap.size → Calls Tryz.prog 41 #[.pointer (some ⟨T, 0, none⟩), .int .i64 why] w' fun e w'' => e = .returned (.tuple #[]) ∧ ∃ G'', TxAt w'' base T (x.finis why) G'' ∧ Next G' G'' w' w'') := fun w' G' why hq hb' => end_any hq hb' hE why
 have hlt:=h.lt
 have HLT:Hid (∀ q ∈ G++F,q < w.heap.size):=fun q hq=>(hlt q hq).2
 obtain ⟨hm,⟨lg,tk,ev,wv,Gm,h'⟩,ho⟩:=h
 obtain ⟨X,rfl,HM⟩:=mach_bg hm h' ho hb hL hy (by have:=hx.wy; unfold wyOk at this; rw [hy] at this; exact this.1) t
 obtain ⟨M,rfl⟩:=hm.ptr
 obtain ⟨x0,x1,x2,x3,x4,x5,x6,x7,x8,x9,x10,x11,x12⟩:=h'.raw.cells
 have hT:=heap_lt h'.raw
 have hMe : ∀ w, (method 311 98 (.pointer (some ⟨X, 0, none⟩)) "Step").run Tryz.prog w = .ok (128, .pointer (some ⟨X, 0, none⟩)) w := fun w => me_b w _
 clear h' x0 x1 x2 x3 x4 x5 x6 x7 x8 x10 x11 x12 hm hd hlt hL hE hx hy ho
 unfold stepX goOn anV
 generalize stepM c r x L t=a at *
 obtain ⟨y, L', kk, ee, vv, gg⟩ := a
 simp only at HM HFN HEN ⊢
 by_cases k4:kk=4
 ·subst k4
  rw [if_pos rfl]
  clear HFN
  go_enter Tryz.func29,Tryz.ntmps29
  go_wp2_with fail
  refine (HM _ (below_a1 _ _)).mono ?_
  rintro e w1 ⟨rfl,F1,G1,q1,k1⟩
  have HQ1:Hid (TM w1 base (.pointer (some ⟨M,0,none⟩)) c r L' F1 T { x with wy:=y } G1):=q1
  have HR1:Hid (w1.heap[w.heap.size]? = some (.cells #[.int .i64 0,.int .i64 0,.int .i64 0,.bool false] 55 (0,0))∧w.heap.size ∉ G1++F1):=row_next HLT.out (Nat.le_refl _) (heap_alloc_new w _) k1
  have HK1:Hid (Next (G++F) (G1++F1) w w1):=(Next.of_below (below_a1 _ _) _).trans k1
  have HB1:Hid (base≤w1.heap.size):=Nat.le_trans hb HK1.out.1.size
  have hW1:w.heap.size < w1.heap.size:=heap_lt HR1.out.1
  clear q1 k1 HM x9
  go_wp2_with fail
  refine (HEN.out _ _ ee (HQ1.out.tx.below (below_a1 _ _)) (Nat.le_trans HB1.out (by simp))).mono ?_
  rintro e w2 ⟨rfl,G2,q2,k2⟩
  have HR2:Hid (w2.heap[w.heap.size]? = some (.cells #[.int .i64 0,.int .i64 0,.int .i64 0,.bool false] 55 (0,0))∧w.heap.size ∉ G2++F1):=by
   have a1:w.heap.size ∉ G1:=fun e=>HR1.out.2 (by simp [e])
   have a2:(w1.alloc (.cells #[.int .i64 4,.int .i64 ee,.int .i64 vv,.bool gg] 55)).heap[w.heap.size]? = some (.cells #[.int .i64 0,.int .i64 0,.int .i64 0,.bool false] 55 (0,0)):=row_on HR1.out.1 (below_a1 _ _)
   refine ⟨(k2.1.block _ (heap_lt a2) a1).trans a2,fun e => ?_⟩
   rcases List.mem_append.1 e with e | e
   ·rcases k2.2 _ e with e | e
    ·exact a1 e
    ·simp at e; omega
   ·exact HR1.out.2 (by simp [e])
  have HA2:Hid (w2.heap[w1.heap.size]? = some (.cells #[.int .i64 4,.int .i64 ee,.int .i64 vv,.bool gg] 55 (0,0))):=by
   have a1:w1.heap.size ∉ G1:=fun e=>by have:=(HQ1.out.tx.lt _ e).2; omega
   exact (k2.1.block _ (by simp) a1).trans (heap_alloc_new w1 _)
  have HQ2:Hid (TM w2 base (.pointer (some ⟨M,0,none⟩)) c r L' F1 T (x.finis ee) G2∧Next (G++F) (G2++F1) w w2):=by
   obtain ⟨a1,a2⟩:=(HQ1.out.below (below_a1 _ _)).onTx q2 k2
   exact ⟨a1,HK1.out.trans ((Next.of_below (below_a1 _ _) _).trans a2)⟩
  obtain ⟨⟨a0,a1,a2,a3⟩,g0,g1,g2,g3⟩:=ans_cells HR2.out.1
  have c0:w2.cell? ⟨w1.heap.size,0,none⟩=some (.int .i64 4):=by rw [cell_at HA2.out]; rfl
  have c1:w2.cell? ⟨w1.heap.size,1,none⟩=some (.int .i64 ee):=by rw [cell_at HA2.out]; rfl
  have c2:w2.cell? ⟨w1.heap.size,2,none⟩=some (.int .i64 vv):=by rw [cell_at HA2.out]; rfl
  have c3:w2.cell? ⟨w1.heap.size,3,none⟩=some (.bool gg):=by rw [cell_at HA2.out]; rfl
  have hBa:=heap_lt HR2.out.1
  have hBb:=heap_lt HA2.out
  clear q2 k2 hW1
  go_wp2
  have qf:=HQ2.out.1.other (Co.keepWB (w:=w2) (B:=w.heap.size) 4 ee vv gg) (fun q hq e=>HR2.out.2 (by simp only [List.mem_singleton] at e; rw [← e]; exact hq))
  exact ret_ans rfl rfl (Co.ansW_set rfl HR2.out.1 4 ee vv gg) rfl rfl ⟨rfl,F1,G2,qf,nx_other HQ2.out.2 (Nat.le_refl _) (Co.keepWB (w:=w2) (B:=w.heap.size) 4 ee vv gg)⟩
 by_cases k3:kk=3
 ·subst k3
  rw [if_neg (by decide),if_pos rfl]
  clear HEN
  cases hf:(finX x vv y).2
  all_goals
   rw [hf] at HFN
  ·rw [if_neg (by decide)]
   go_enter Tryz.func29,Tryz.ntmps29
   go_wp2_with fail
   refine (HM _ (below_a1 _ _)).mono ?_
   rintro e w1 ⟨rfl,F1,G1,q1,k1⟩
   have HQ1:Hid (TM w1 base (.pointer (some ⟨M,0,none⟩)) c r L' F1 T { x with wy:=y } G1):=q1
   have HR1:Hid (w1.heap[w.heap.size]? = some (.cells #[.int .i64 0,.int .i64 0,.int .i64 0,.bool false] 55 (0,0))∧w.heap.size ∉ G1++F1):=row_next HLT.out (Nat.le_refl _) (heap_alloc_new w _) k1
   have HK1:Hid (Next (G++F) (G1++F1) w w1):=(Next.of_below (below_a1 _ _) _).trans k1
   have HB1:Hid (base≤w1.heap.size):=Nat.le_trans hb HK1.out.1.size
   have hW1:w.heap.size < w1.heap.size:=heap_lt HR1.out.1
   clear q1 k1 HM x9
   go_wp2_with fail
   refine (HFN.out (by first | rfl | trivial) _ _ (HQ1.out.tx.below (below_a1 _ _)) (Nat.le_trans HB1.out (by simp))).mono ?_
   rintro e w2 ⟨rfl,G2,q2,k2⟩
   have HR2:Hid (w2.heap[w.heap.size]? = some (.cells #[.int .i64 0,.int .i64 0,.int .i64 0,.bool false] 55 (0,0))∧w.heap.size ∉ G2++F1):=by
    have a1:w.heap.size ∉ G1:=fun e=>HR1.out.2 (by simp [e])
    have a2:(w1.alloc (.cells #[.int .i64 3,.int .i64 ee,.int .i64 vv,.bool gg] 55)).heap[w.heap.size]? = some (.cells #[.int .i64 0,.int .i64 0,.int .i64 0,.bool false] 55 (0,0)):=row_on HR1.out.1 (below_a1 _ _)
    refine ⟨(k2.1.block _ (heap_lt a2) a1).trans a2,fun e => ?_⟩
    rcases List.mem_append.1 e with e | e
    ·rcases k2.2 _ e with e | e
     ·exact a1 e
     ·simp at e; omega
    ·exact HR1.out.2 (by simp [e])
   have HA2:Hid (w2.heap[w1.heap.size]? = some (.cells #[.int .i64 3,.int .i64 ee,.int .i64 vv,.bool gg] 55 (0,0))):=by
    have a1:w1.heap.size ∉ G1:=fun e=>by have:=(HQ1.out.tx.lt _ e).2; omega
    exact (k2.1.block _ (by simp) a1).trans (heap_alloc_new w1 _)
   have HQ2:Hid (TM w2 base (.pointer (some ⟨M,0,none⟩)) c r L' F1 T (finX x vv y).1 G2∧Next (G++F) (G2++F1) w w2):=by
    obtain ⟨a1,a2⟩:=(HQ1.out.below (below_a1 _ _)).onTx q2 k2
    exact ⟨a1,HK1.out.trans ((Next.of_below (below_a1 _ _) _).trans a2)⟩
   obtain ⟨⟨a0,a1,a2,a3⟩,g0,g1,g2,g3⟩:=ans_cells HR2.out.1
   have c0:w2.cell? ⟨w1.heap.size,0,none⟩=some (.int .i64 3):=by rw [cell_at HA2.out]; rfl
   have c1:w2.cell? ⟨w1.heap.size,1,none⟩=some (.int .i64 ee):=by rw [cell_at HA2.out]; rfl
   have c2:w2.cell? ⟨w1.heap.size,2,none⟩=some (.int .i64 vv):=by rw [cell_at HA2.out]; rfl
   have c3:w2.cell? ⟨w1.heap.size,3,none⟩=some (.bool gg):=by rw [cell_at HA2.out]; rfl
   have hBa:=heap_lt HR2.out.1
   have hBb:=heap_lt HA2.out
   clear q2 k2 hW1
   go_wp2
   have qf:=HQ2.out.1.other (Co.keepWB (w:=w2) (B:=w.heap.size) 2 0 0 true) (fun q hq e=>HR2.out.2 (by simp only [List.mem_singleton] at e; rw [← e]; exact hq))
   exact ret_ans rfl rfl (Co.ansW_set rfl HR2.out.1 2 0 0 true) rfl rfl ⟨rfl,F1,G2,qf,nx_other HQ2.out.2 (Nat.le_refl _) (Co.keepWB (w:=w2) (B:=w.heap.size) 2 0 0 true)⟩
  ·rw [if_pos rfl]
   go_enter Tryz.func29,Tryz.ntmps29
   go_wp2_with fail
   refine (HM _ (below_a1 _ _)).mono ?_
   rintro e w1 ⟨rfl,F1,G1,q1,k1⟩
   have HQ1:Hid (TM w1 base (.pointer (some ⟨M,0,none⟩)) c r L' F1 T { x with wy:=y } G1):=q1
   have HR1:Hid (w1.heap[w.heap.size]? = some (.cells #[.int .i64 0,.int .i64 0,.int .i64 0,.bool false] 55 (0,0))∧w.heap.size ∉ G1++F1):=row_next HLT.out (Nat.le_refl _) (heap_alloc_new w _) k1
   have HK1:Hid (Next (G++F) (G1++F1) w w1):=(Next.of_below (below_a1 _ _) _).trans k1
   have HB1:Hid (base≤w1.heap.size):=Nat.le_trans hb HK1.out.1.size
   have hW1:w.heap.size < w1.heap.size:=heap_lt HR1.out.1
   clear q1 k1 HM x9
   go_wp2_with fail
   refine (HFN.out (by first | rfl | trivial) _ _ (HQ1.out.tx.below (below_a1 _ _)) (Nat.le_trans HB1.out (by simp))).mono ?_
   rintro e w2 ⟨rfl,G2,q2,k2⟩
   have HR2:Hid (w2.heap[w.heap.size]? = some (.cells #[.int .i64 0,.int .i64 0,.int .i64 0,.bool false] 55 (0,0))∧w.heap.size ∉ G2++F1):=by
    have a1:w.heap.size ∉ G1:=fun e=>HR1.out.2 (by simp [e])
    have a2:(w1.alloc (.cells #[.int .i64 3,.int .i64 ee,.int .i64 vv,.bool gg] 55)).heap[w.heap.size]? = some (.cells #[.int .i64 0,.int .i64 0,.int .i64 0,.bool false] 55 (0,0)):=row_on HR1.out.1 (below_a1 _ _)
    refine ⟨(k2.1.block _ (heap_lt a2) a1).trans a2,fun e => ?_⟩
    rcases List.mem_append.1 e with e | e
    ·rcases k2.2 _ e with e | e
     ·exact a1 e
     ·simp at e; omega
    ·exact HR1.out.2 (by simp [e])
   have HA2:Hid (w2.heap[w1.heap.size]? = some (.cells #[.int .i64 3,.int .i64 ee,.int .i64 vv,.bool gg] 55 (0,0))):=by
    have a1:w1.heap.size ∉ G1:=fun e=>by have:=(HQ1.out.tx.lt _ e).2; omega
    exact (k2.1.block _ (by simp) a1).trans (heap_alloc_new w1 _)
   have HQ2:Hid (TM w2 base (.pointer (some ⟨M,0,none⟩)) c r L' F1 T (finX x vv y).1 G2∧Next (G++F) (G2++F1) w w2):=by
    obtain ⟨a1,a2⟩:=(HQ1.out.below (below_a1 _ _)).onTx q2 k2
    exact ⟨a1,HK1.out.trans ((Next.of_below (below_a1 _ _) _).trans a2)⟩
   obtain ⟨⟨a0,a1,a2,a3⟩,g0,g1,g2,g3⟩:=ans_cells HR2.out.1
   have c0:w2.cell? ⟨w1.heap.size,0,none⟩=some (.int .i64 3):=by rw [cell_at HA2.out]; rfl
   have c1:w2.cell? ⟨w1.heap.size,1,none⟩=some (.int .i64 ee):=by rw [cell_at HA2.out]; rfl
   have c2:w2.cell? ⟨w1.heap.size,2,none⟩=some (.int .i64 vv):=by rw [cell_at HA2.out]; rfl
   have c3:w2.cell? ⟨w1.heap.size,3,none⟩=some (.bool gg):=by rw [cell_at HA2.out]; rfl
   have hBa:=heap_lt HR2.out.1
   have hBb:=heap_lt HA2.out
   clear q2 k2 hW1
   go_wp2
   have qf:=HQ2.out.1.other (Co.keepWB (w:=w2) (B:=w.heap.size) 3 ee vv gg) (fun q hq e=>HR2.out.2 (by simp only [List.mem_singleton] at e; rw [← e]; exact hq))
   exact ret_ans rfl rfl (Co.ansW_set rfl HR2.out.1 3 ee vv gg) rfl rfl ⟨rfl,F1,G2,qf,nx_other HQ2.out.2 (Nat.le_refl _) (Co.keepWB (w:=w2) (B:=w.heap.size) 3 ee vv gg)⟩
 ·rw [if_neg k4,if_neg k3]
  have d4:(kk == 4)=false:=by simpa using k4
  have d3:(kk == 3)=false:=by simpa using k3
  clear HFN HEN
  go_enter Tryz.func29,Tryz.ntmps29
  go_wp2_with fail
  refine (HM _ (below_a1 _ _)).mono ?_
  rintro e w1 ⟨rfl,F1,G1,q1,k1⟩
  have HQ1:Hid (TM w1 base (.pointer (some ⟨M,0,none⟩)) c r L' F1 T { x with wy:=y } G1):=q1
  have HR1:Hid (w1.heap[w.heap.size]? = some (.cells #[.int .i64 0,.int .i64 0,.int .i64 0,.bool false] 55 (0,0))∧w.heap.size ∉ G1++F1):=row_next HLT.out (Nat.le_refl _) (heap_alloc_new w _) k1
  have HK1:Hid (Next (G++F) (G1++F1) w w1):=(Next.of_below (below_a1 _ _) _).trans k1
  have HB1:Hid (base≤w1.heap.size):=Nat.le_trans hb HK1.out.1.size
  have hW1:w.heap.size < w1.heap.size:=heap_lt HR1.out.1
  clear q1 k1 HM x9
  obtain ⟨⟨a0,a1,a2,a3⟩,g0,g1,g2,g3⟩:=ans_cells HR1.out.1
  have hBa:=heap_lt HR1.out.1
  go_wp2
  have qf:=HQ1.out.other (Co.keepWB (w:=w1) (B:=w.heap.size) kk ee vv gg) (fun q hq e=>HR1.out.2 (by simp only [List.mem_singleton] at e; rw [← e]; exact hq))
  exact ret_ans rfl rfl (row_on (Co.ansW_set rfl HR1.out.1 kk ee vv gg) (below_a1 _ _)) rfl rfl ⟨rfl,F1,G1,qf.below (below_a1 _ _),(nx_other HK1.out (Nat.le_refl _) (Co.keepWB (w:=w1) (B:=w.heap.size) kk ee vv gg)).trans (Next.of_below (below_a1 _ _) _)⟩
theorem goOn_rd {w:World} {base:Nat} {p:Value} {c r:Nat} {L:List Ac} {F:List Nat} {T:Nat} {x:Tx} {G:List Nat} {P:Fe.Cp} {b:Fe.Ck} (h:TM w base p c r L F T x G) (hb:base≤w.heap.size) (hL:L.length < 3298534883328) (hE:x.ev.length < 1073741824) (hx:XOk x) (hy:x.wy = .rd P b) (hd:Wd L) (t:Int) :
  Calls Tryz.prog 29 #[.pointer (some ⟨T, 0, none⟩), p, .int .i64 t] w fun e w' => e = .returned (anV (stepX c r x L t).k (stepX c r x L t).e (stepX c r x L t).v (stepX c r x L t).y) ∧ ∃ F' G', TM w' base p c r (stepX c r x L t).L F' T (stepX c r x L t).x G' ∧ Next (G ++ F) (G' ++ F') w w' := by
 have HFN : Hid ((stepM c r x L t).k = 3 → ∀ w' G', TxAt w' base T { x with wy := (stepM c r x L t).wy } G' → base ≤ w'.heap.size → Calls Tryz.prog 42 #[.pointer (some ⟨T, 0, none⟩), .int .i64 (stepM c r x L t).v] w' fun e w'' => e = .returned (.bool (finX x (stepM c r x L t).v (stepM c r x L t).wy).2) ∧ ∃ G'', TxAt w'' base T (finX x (stepM c r x L t).v (stepM c r x L t).wy).1 G'' ∧ Next G' G'' w' w'') := fun hk3 w' G' hq hb' => by
  have hwy:(stepM c r x L t).wy = .rd (Fe.nextFP c r P L) (Fe.nextFB c r P b L):=by unfold stepM; rw [hy]
  have hkk:Fe.ansF c r P b L=3:=by unfold stepM at hk3; rw [hy] at hk3; exact hk3
  have h2:(Fe.nextFB c r P b L).st=4:=by
   unfold Fe.ansF at hkk
   unfold Fe.nextFB
   split at hkk
   ·next hg =>
    rw [if_pos hg]
    split at hkk
    ·next hr =>
     rw [if_pos hr]
     unfold Fe.ansKK at hkk
     unfold Fe.nextK
     split at hkk
     ·next hk =>
      rw [if_pos hk]
      unfold Fe.kindK Fe.kindV at hkk
      split at hkk
      ·simp at hkk
      ·split at hkk
       ·next h=>exact h
       ·split at hkk <;> simp at hkk
     ·simp at hkk
    ·simp at hkk
   ·simp at hkk
  rw [hwy] at hq ⊢
  exact finish_rd hq hb' hE rfl h2 _
 have HEN : Hid (∀ w' G' why, TxAt w' base T { x with wy := (stepM c r x L t).wy } G' → base ≤ w'.heap.size → Calls Tryz.prog 41 #[.pointer (some ⟨T, 0, none⟩), .int .i64 why] w' fun e w'' => e = .returned (.tuple #[]) ∧ ∃ G'', TxAt w'' base T (x.finis why) G'' ∧ Next G' G'' w' w'') := fun w' G' why hq hb' => end_any hq hb' hE why
 have hlt:=h.lt
 have HLT:Hid (∀ q ∈ G++F,q < w.heap.size):=fun q hq=>(hlt q hq).2
 obtain ⟨hm,⟨lg,tk,ev,wv,Gm,h'⟩,ho⟩:=h
 obtain ⟨X,rfl,HM⟩:=mach_rd hm h' ho hb hL hy (rd_ok hx hy).choose_spec (rd_lo hx hy) hd t
 obtain ⟨M,rfl⟩:=hm.ptr
 obtain ⟨x0,x1,x2,x3,x4,x5,x6,x7,x8,x9,x10,x11,x12⟩:=h'.raw.cells
 have hT:=heap_lt h'.raw
 have hMe : ∀ w, (method 311 101 (.agg #[.pointer (some ⟨X, 0, none⟩), .int .i64 P.cell]) "Step").run Tryz.prog w = .ok (132, .pointer (some ⟨X, 0, none⟩)) w := fun w => me_r w _ _
 clear h' x0 x1 x2 x3 x4 x5 x6 x7 x8 x10 x11 x12 hm hd hlt hL hE hx hy ho
 unfold stepX goOn anV
 generalize stepM c r x L t=a at *
 obtain ⟨y, L', kk, ee, vv, gg⟩ := a
 simp only at HM HFN HEN ⊢
 by_cases k4:kk=4
 ·subst k4
  rw [if_pos rfl]
  clear HFN
  go_enter Tryz.func29,Tryz.ntmps29
  go_wp2_with fail
  refine (HM _ (below_a1 _ _)).mono ?_
  rintro e w1 ⟨rfl,F1,G1,q1,k1⟩
  have HQ1:Hid (TM w1 base (.pointer (some ⟨M,0,none⟩)) c r L' F1 T { x with wy:=y } G1):=q1
  have HR1:Hid (w1.heap[w.heap.size]? = some (.cells #[.int .i64 0,.int .i64 0,.int .i64 0,.bool false] 55 (0,0))∧w.heap.size ∉ G1++F1):=row_next HLT.out (Nat.le_refl _) (heap_alloc_new w _) k1
  have HK1:Hid (Next (G++F) (G1++F1) w w1):=(Next.of_below (below_a1 _ _) _).trans k1
  have HB1:Hid (base≤w1.heap.size):=Nat.le_trans hb HK1.out.1.size
  have hW1:w.heap.size < w1.heap.size:=heap_lt HR1.out.1
  clear q1 k1 HM x9
  go_wp2_with fail
  refine (HEN.out _ _ ee (HQ1.out.tx.below (below_a1 _ _)) (Nat.le_trans HB1.out (by simp))).mono ?_
  rintro e w2 ⟨rfl,G2,q2,k2⟩
  have HR2:Hid (w2.heap[w.heap.size]? = some (.cells #[.int .i64 0,.int .i64 0,.int .i64 0,.bool false] 55 (0,0))∧w.heap.size ∉ G2++F1):=by
   have a1:w.heap.size ∉ G1:=fun e=>HR1.out.2 (by simp [e])
   have a2:(w1.alloc (.cells #[.int .i64 4,.int .i64 ee,.int .i64 vv,.bool gg] 55)).heap[w.heap.size]? = some (.cells #[.int .i64 0,.int .i64 0,.int .i64 0,.bool false] 55 (0,0)):=row_on HR1.out.1 (below_a1 _ _)
   refine ⟨(k2.1.block _ (heap_lt a2) a1).trans a2,fun e => ?_⟩
   rcases List.mem_append.1 e with e | e
   ·rcases k2.2 _ e with e | e
    ·exact a1 e
    ·simp at e; omega
   ·exact HR1.out.2 (by simp [e])
  have HA2:Hid (w2.heap[w1.heap.size]? = some (.cells #[.int .i64 4,.int .i64 ee,.int .i64 vv,.bool gg] 55 (0,0))):=by
   have a1:w1.heap.size ∉ G1:=fun e=>by have:=(HQ1.out.tx.lt _ e).2; omega
   exact (k2.1.block _ (by simp) a1).trans (heap_alloc_new w1 _)
  have HQ2:Hid (TM w2 base (.pointer (some ⟨M,0,none⟩)) c r L' F1 T (x.finis ee) G2∧Next (G++F) (G2++F1) w w2):=by
   obtain ⟨a1,a2⟩:=(HQ1.out.below (below_a1 _ _)).onTx q2 k2
   exact ⟨a1,HK1.out.trans ((Next.of_below (below_a1 _ _) _).trans a2)⟩
  obtain ⟨⟨a0,a1,a2,a3⟩,g0,g1,g2,g3⟩:=ans_cells HR2.out.1
  have c0:w2.cell? ⟨w1.heap.size,0,none⟩=some (.int .i64 4):=by rw [cell_at HA2.out]; rfl
  have c1:w2.cell? ⟨w1.heap.size,1,none⟩=some (.int .i64 ee):=by rw [cell_at HA2.out]; rfl
  have c2:w2.cell? ⟨w1.heap.size,2,none⟩=some (.int .i64 vv):=by rw [cell_at HA2.out]; rfl
  have c3:w2.cell? ⟨w1.heap.size,3,none⟩=some (.bool gg):=by rw [cell_at HA2.out]; rfl
  have hBa:=heap_lt HR2.out.1
  have hBb:=heap_lt HA2.out
  clear q2 k2 hW1
  go_wp2
  have qf:=HQ2.out.1.other (Co.keepWB (w:=w2) (B:=w.heap.size) 4 ee vv gg) (fun q hq e=>HR2.out.2 (by simp only [List.mem_singleton] at e; rw [← e]; exact hq))
  exact ret_ans rfl rfl (Co.ansW_set rfl HR2.out.1 4 ee vv gg) rfl rfl ⟨rfl,F1,G2,qf,nx_other HQ2.out.2 (Nat.le_refl _) (Co.keepWB (w:=w2) (B:=w.heap.size) 4 ee vv gg)⟩
 by_cases k3:kk=3
 ·subst k3
  rw [if_neg (by decide),if_pos rfl]
  clear HEN
  cases hf:(finX x vv y).2
  all_goals
   rw [hf] at HFN
  ·rw [if_neg (by decide)]
   go_enter Tryz.func29,Tryz.ntmps29
   go_wp2_with fail
   refine (HM _ (below_a1 _ _)).mono ?_
   rintro e w1 ⟨rfl,F1,G1,q1,k1⟩
   have HQ1:Hid (TM w1 base (.pointer (some ⟨M,0,none⟩)) c r L' F1 T { x with wy:=y } G1):=q1
   have HR1:Hid (w1.heap[w.heap.size]? = some (.cells #[.int .i64 0,.int .i64 0,.int .i64 0,.bool false] 55 (0,0))∧w.heap.size ∉ G1++F1):=row_next HLT.out (Nat.le_refl _) (heap_alloc_new w _) k1
   have HK1:Hid (Next (G++F) (G1++F1) w w1):=(Next.of_below (below_a1 _ _) _).trans k1
   have HB1:Hid (base≤w1.heap.size):=Nat.le_trans hb HK1.out.1.size
   have hW1:w.heap.size < w1.heap.size:=heap_lt HR1.out.1
   clear q1 k1 HM x9
   go_wp2_with fail
   refine (HFN.out (by first | rfl | trivial) _ _ (HQ1.out.tx.below (below_a1 _ _)) (Nat.le_trans HB1.out (by simp))).mono ?_
   rintro e w2 ⟨rfl,G2,q2,k2⟩
   have HR2:Hid (w2.heap[w.heap.size]? = some (.cells #[.int .i64 0,.int .i64 0,.int .i64 0,.bool false] 55 (0,0))∧w.heap.size ∉ G2++F1):=by
    have a1:w.heap.size ∉ G1:=fun e=>HR1.out.2 (by simp [e])
    have a2:(w1.alloc (.cells #[.int .i64 3,.int .i64 ee,.int .i64 vv,.bool gg] 55)).heap[w.heap.size]? = some (.cells #[.int .i64 0,.int .i64 0,.int .i64 0,.bool false] 55 (0,0)):=row_on HR1.out.1 (below_a1 _ _)
    refine ⟨(k2.1.block _ (heap_lt a2) a1).trans a2,fun e => ?_⟩
    rcases List.mem_append.1 e with e | e
    ·rcases k2.2 _ e with e | e
     ·exact a1 e
     ·simp at e; omega
    ·exact HR1.out.2 (by simp [e])
   have HA2:Hid (w2.heap[w1.heap.size]? = some (.cells #[.int .i64 3,.int .i64 ee,.int .i64 vv,.bool gg] 55 (0,0))):=by
    have a1:w1.heap.size ∉ G1:=fun e=>by have:=(HQ1.out.tx.lt _ e).2; omega
    exact (k2.1.block _ (by simp) a1).trans (heap_alloc_new w1 _)
   have HQ2:Hid (TM w2 base (.pointer (some ⟨M,0,none⟩)) c r L' F1 T (finX x vv y).1 G2∧Next (G++F) (G2++F1) w w2):=by
    obtain ⟨a1,a2⟩:=(HQ1.out.below (below_a1 _ _)).onTx q2 k2
    exact ⟨a1,HK1.out.trans ((Next.of_below (below_a1 _ _) _).trans a2)⟩
   obtain ⟨⟨a0,a1,a2,a3⟩,g0,g1,g2,g3⟩:=ans_cells HR2.out.1
   have c0:w2.cell? ⟨w1.heap.size,0,none⟩=some (.int .i64 3):=by rw [cell_at HA2.out]; rfl
   have c1:w2.cell? ⟨w1.heap.size,1,none⟩=some (.int .i64 ee):=by rw [cell_at HA2.out]; rfl
   have c2:w2.cell? ⟨w1.heap.size,2,none⟩=some (.int .i64 vv):=by rw [cell_at HA2.out]; rfl
   have c3:w2.cell? ⟨w1.heap.size,3,none⟩=some (.bool gg):=by rw [cell_at HA2.out]; rfl
   have hBa:=heap_lt HR2.out.1
   have hBb:=heap_lt HA2.out
   clear q2 k2 hW1
   go_wp2
   have qf:=HQ2.out.1.other (Co.keepWB (w:=w2) (B:=w.heap.size) 2 0 0 true) (fun q hq e=>HR2.out.2 (by simp only [List.mem_singleton] at e; rw [← e]; exact hq))
   exact ret_ans rfl rfl (Co.ansW_set rfl HR2.out.1 2 0 0 true) rfl rfl ⟨rfl,F1,G2,qf,nx_other HQ2.out.2 (Nat.le_refl _) (Co.keepWB (w:=w2) (B:=w.heap.size) 2 0 0 true)⟩
  ·rw [if_pos rfl]
   go_enter Tryz.func29,Tryz.ntmps29
   go_wp2_with fail
   refine (HM _ (below_a1 _ _)).mono ?_
   rintro e w1 ⟨rfl,F1,G1,q1,k1⟩
   have HQ1:Hid (TM w1 base (.pointer (some ⟨M,0,none⟩)) c r L' F1 T { x with wy:=y } G1):=q1
   have HR1:Hid (w1.heap[w.heap.size]? = some (.cells #[.int .i64 0,.int .i64 0,.int .i64 0,.bool false] 55 (0,0))∧w.heap.size ∉ G1++F1):=row_next HLT.out (Nat.le_refl _) (heap_alloc_new w _) k1
   have HK1:Hid (Next (G++F) (G1++F1) w w1):=(Next.of_below (below_a1 _ _) _).trans k1
   have HB1:Hid (base≤w1.heap.size):=Nat.le_trans hb HK1.out.1.size
   have hW1:w.heap.size < w1.heap.size:=heap_lt HR1.out.1
   clear q1 k1 HM x9
   go_wp2_with fail
   refine (HFN.out (by first | rfl | trivial) _ _ (HQ1.out.tx.below (below_a1 _ _)) (Nat.le_trans HB1.out (by simp))).mono ?_
   rintro e w2 ⟨rfl,G2,q2,k2⟩
   have HR2:Hid (w2.heap[w.heap.size]? = some (.cells #[.int .i64 0,.int .i64 0,.int .i64 0,.bool false] 55 (0,0))∧w.heap.size ∉ G2++F1):=by
    have a1:w.heap.size ∉ G1:=fun e=>HR1.out.2 (by simp [e])
    have a2:(w1.alloc (.cells #[.int .i64 3,.int .i64 ee,.int .i64 vv,.bool gg] 55)).heap[w.heap.size]? = some (.cells #[.int .i64 0,.int .i64 0,.int .i64 0,.bool false] 55 (0,0)):=row_on HR1.out.1 (below_a1 _ _)
    refine ⟨(k2.1.block _ (heap_lt a2) a1).trans a2,fun e => ?_⟩
    rcases List.mem_append.1 e with e | e
    ·rcases k2.2 _ e with e | e
     ·exact a1 e
     ·simp at e; omega
    ·exact HR1.out.2 (by simp [e])
   have HA2:Hid (w2.heap[w1.heap.size]? = some (.cells #[.int .i64 3,.int .i64 ee,.int .i64 vv,.bool gg] 55 (0,0))):=by
    have a1:w1.heap.size ∉ G1:=fun e=>by have:=(HQ1.out.tx.lt _ e).2; omega
    exact (k2.1.block _ (by simp) a1).trans (heap_alloc_new w1 _)
   have HQ2:Hid (TM w2 base (.pointer (some ⟨M,0,none⟩)) c r L' F1 T (finX x vv y).1 G2∧Next (G++F) (G2++F1) w w2):=by
    obtain ⟨a1,a2⟩:=(HQ1.out.below (below_a1 _ _)).onTx q2 k2
    exact ⟨a1,HK1.out.trans ((Next.of_below (below_a1 _ _) _).trans a2)⟩
   obtain ⟨⟨a0,a1,a2,a3⟩,g0,g1,g2,g3⟩:=ans_cells HR2.out.1
   have c0:w2.cell? ⟨w1.heap.size,0,none⟩=some (.int .i64 3):=by rw [cell_at HA2.out]; rfl
   have c1:w2.cell? ⟨w1.heap.size,1,none⟩=some (.int .i64 ee):=by rw [cell_at HA2.out]; rfl
   have c2:w2.cell? ⟨w1.heap.size,2,none⟩=some (.int .i64 vv):=by rw [cell_at HA2.out]; rfl
   have c3:w2.cell? ⟨w1.heap.size,3,none⟩=some (.bool gg):=by rw [cell_at HA2.out]; rfl
   have hBa:=heap_lt HR2.out.1
   have hBb:=heap_lt HA2.out
   clear q2 k2 hW1
   go_wp2
   have qf:=HQ2.out.1.other (Co.keepWB (w:=w2) (B:=w.heap.size) 3 ee vv gg) (fun q hq e=>HR2.out.2 (by simp only [List.mem_singleton] at e; rw [← e]; exact hq))
   exact ret_ans rfl rfl (Co.ansW_set rfl HR2.out.1 3 ee vv gg) rfl rfl ⟨rfl,F1,G2,qf,nx_other HQ2.out.2 (Nat.le_refl _) (Co.keepWB (w:=w2) (B:=w.heap.size) 3 ee vv gg)⟩
 ·rw [if_neg k4,if_neg k3]
  have d4:(kk == 4)=false:=by simpa using k4
  have d3:(kk == 3)=false:=by simpa using k3
  clear HFN HEN
  go_enter Tryz.func29,Tryz.ntmps29
  go_wp2_with fail
  refine (HM _ (below_a1 _ _)).mono ?_
  rintro e w1 ⟨rfl,F1,G1,q1,k1⟩
  have HQ1:Hid (TM w1 base (.pointer (some ⟨M,0,none⟩)) c r L' F1 T { x with wy:=y } G1):=q1
  have HR1:Hid (w1.heap[w.heap.size]? = some (.cells #[.int .i64 0,.int .i64 0,.int .i64 0,.bool false] 55 (0,0))∧w.heap.size ∉ G1++F1):=row_next HLT.out (Nat.le_refl _) (heap_alloc_new w _) k1
  have HK1:Hid (Next (G++F) (G1++F1) w w1):=(Next.of_below (below_a1 _ _) _).trans k1
  have HB1:Hid (base≤w1.heap.size):=Nat.le_trans hb HK1.out.1.size
  have hW1:w.heap.size < w1.heap.size:=heap_lt HR1.out.1
  clear q1 k1 HM x9
  obtain ⟨⟨a0,a1,a2,a3⟩,g0,g1,g2,g3⟩:=ans_cells HR1.out.1
  have hBa:=heap_lt HR1.out.1
  go_wp2
  have qf:=HQ1.out.other (Co.keepWB (w:=w1) (B:=w.heap.size) kk ee vv gg) (fun q hq e=>HR1.out.2 (by simp only [List.mem_singleton] at e; rw [← e]; exact hq))
  exact ret_ans rfl rfl (row_on (Co.ansW_set rfl HR1.out.1 kk ee vv gg) (below_a1 _ _)) rfl rfl ⟨rfl,F1,G1,qf.below (below_a1 _ _),(nx_other HK1.out (Nat.le_refl _) (Co.keepWB (w:=w1) (B:=w.heap.size) kk ee vv gg)).trans (Next.of_below (below_a1 _ _) _)⟩
theorem goOn_cm {w:World} {base:Nat} {p:Value} {c r:Nat} {L:List Ac} {F:List Nat} {T:Nat} {x:Tx} {G:List Nat} {P:Co.Cp} {b:Co.Ck} {u:Co.Cu} (h:TM w base p c r L F T x G) (hb:base≤w.heap.size) (hL:L.length < 3298534883328) (hE:x.ev.length < 1073741824) (hx:XOk x) (hy:x.wy = .cm P b u) (hd:Wd L) (t:Int) :
  Calls Tryz.prog 29 #[.pointer (some ⟨T, 0, none⟩), p, .int .i64 t] w fun e w' => e = .returned (anV (stepX c r x L t).k (stepX c r x L t).e (stepX c r x L t).v (stepX c r x L t).y) ∧ ∃ F' G', TM w' base p c r (stepX c r x L t).L F' T (stepX c r x L t).x G' ∧ Next (G ++ F) (G' ++ F') w w' := by
 have HFN : Hid ((stepM c r x L t).k = 3 → ∀ w' G', TxAt w' base T { x with wy := (stepM c r x L t).wy } G' → base ≤ w'.heap.size → Calls Tryz.prog 42 #[.pointer (some ⟨T, 0, none⟩), .int .i64 (stepM c r x L t).v] w' fun e w'' => e = .returned (.bool (finX x (stepM c r x L t).v (stepM c r x L t).wy).2) ∧ ∃ G'', TxAt w'' base T (finX x (stepM c r x L t).v (stepM c r x L t).wy).1 G'' ∧ Next G' G'' w' w'') := fun hk3 w' G' hq hb' => by
  have hwy:(stepM c r x L t).wy = .cm P (Co.nextCB r P b u L) (Co.nextU r P b u L):=by unfold stepM; rw [hy]
  have hkk:Co.ansZ r P b u L=3:=by unfold stepM at hk3; rw [hy] at hk3; exact hk3
  have hst:=cm_done (by have hw:=hx.wy; unfold wyOk at hw; rw [hy] at hw; exact hw.2.2.2.1) hkk
  rw [hwy] at hq ⊢
  exact finish_cm hq hb' hE hx.s1 hx.s16 rfl hst.1 hst.2 _
 have HEN : Hid (∀ w' G' why, TxAt w' base T { x with wy := (stepM c r x L t).wy } G' → base ≤ w'.heap.size → Calls Tryz.prog 41 #[.pointer (some ⟨T, 0, none⟩), .int .i64 why] w' fun e w'' => e = .returned (.tuple #[]) ∧ ∃ G'', TxAt w'' base T (x.finis why) G'' ∧ Next G' G'' w' w'') := fun w' G' why hq hb' => end_any hq hb' hE why
 have hlt:=h.lt
 have HLT:Hid (∀ q ∈ G++F,q < w.heap.size):=fun q hq=>(hlt q hq).2
 obtain ⟨hm,⟨lg,tk,ev,wv,Gm,h'⟩,ho⟩:=h
 obtain ⟨X,rfl,HM⟩:=mach_cm hm h' ho hb hL hy (by have hw:=hx.wy; unfold wyOk at hw; rw [hy] at hw; exact hw.2.2.2.1) hd t
 obtain ⟨M,rfl⟩:=hm.ptr
 obtain ⟨x0,x1,x2,x3,x4,x5,x6,x7,x8,x9,x10,x11,x12⟩:=h'.raw.cells
 have hT:=heap_lt h'.raw
 have hMe : ∀ w, (method 311 102 (.pointer (some ⟨X, 0, none⟩)) "Step").run Tryz.prog w = .ok (148, .pointer (some ⟨X, 0, none⟩)) w := fun w => me_c w _
 clear h' x0 x1 x2 x3 x4 x5 x6 x7 x8 x10 x11 x12 hm hd hlt hL hE hx hy ho
 unfold stepX goOn anV
 generalize stepM c r x L t=a at *
 obtain ⟨y, L', kk, ee, vv, gg⟩ := a
 simp only at HM HFN HEN ⊢
 by_cases k4:kk=4
 ·subst k4
  rw [if_pos rfl]
  clear HFN
  go_enter Tryz.func29,Tryz.ntmps29
  go_wp2_with fail
  refine (HM _ (below_a1 _ _)).mono ?_
  rintro e w1 ⟨rfl,F1,G1,q1,k1⟩
  have HQ1:Hid (TM w1 base (.pointer (some ⟨M,0,none⟩)) c r L' F1 T { x with wy:=y } G1):=q1
  have HR1:Hid (w1.heap[w.heap.size]? = some (.cells #[.int .i64 0,.int .i64 0,.int .i64 0,.bool false] 55 (0,0))∧w.heap.size ∉ G1++F1):=row_next HLT.out (Nat.le_refl _) (heap_alloc_new w _) k1
  have HK1:Hid (Next (G++F) (G1++F1) w w1):=(Next.of_below (below_a1 _ _) _).trans k1
  have HB1:Hid (base≤w1.heap.size):=Nat.le_trans hb HK1.out.1.size
  have hW1:w.heap.size < w1.heap.size:=heap_lt HR1.out.1
  clear q1 k1 HM x9
  go_wp2_with fail
  refine (HEN.out _ _ ee (HQ1.out.tx.below (below_a1 _ _)) (Nat.le_trans HB1.out (by simp))).mono ?_
  rintro e w2 ⟨rfl,G2,q2,k2⟩
  have HR2:Hid (w2.heap[w.heap.size]? = some (.cells #[.int .i64 0,.int .i64 0,.int .i64 0,.bool false] 55 (0,0))∧w.heap.size ∉ G2++F1):=by
   have a1:w.heap.size ∉ G1:=fun e=>HR1.out.2 (by simp [e])
   have a2:(w1.alloc (.cells #[.int .i64 4,.int .i64 ee,.int .i64 vv,.bool gg] 55)).heap[w.heap.size]? = some (.cells #[.int .i64 0,.int .i64 0,.int .i64 0,.bool false] 55 (0,0)):=row_on HR1.out.1 (below_a1 _ _)
   refine ⟨(k2.1.block _ (heap_lt a2) a1).trans a2,fun e => ?_⟩
   rcases List.mem_append.1 e with e | e
   ·rcases k2.2 _ e with e | e
    ·exact a1 e
    ·simp at e; omega
   ·exact HR1.out.2 (by simp [e])
  have HA2:Hid (w2.heap[w1.heap.size]? = some (.cells #[.int .i64 4,.int .i64 ee,.int .i64 vv,.bool gg] 55 (0,0))):=by
   have a1:w1.heap.size ∉ G1:=fun e=>by have:=(HQ1.out.tx.lt _ e).2; omega
   exact (k2.1.block _ (by simp) a1).trans (heap_alloc_new w1 _)
  have HQ2:Hid (TM w2 base (.pointer (some ⟨M,0,none⟩)) c r L' F1 T (x.finis ee) G2∧Next (G++F) (G2++F1) w w2):=by
   obtain ⟨a1,a2⟩:=(HQ1.out.below (below_a1 _ _)).onTx q2 k2
   exact ⟨a1,HK1.out.trans ((Next.of_below (below_a1 _ _) _).trans a2)⟩
  obtain ⟨⟨a0,a1,a2,a3⟩,g0,g1,g2,g3⟩:=ans_cells HR2.out.1
  have c0:w2.cell? ⟨w1.heap.size,0,none⟩=some (.int .i64 4):=by rw [cell_at HA2.out]; rfl
  have c1:w2.cell? ⟨w1.heap.size,1,none⟩=some (.int .i64 ee):=by rw [cell_at HA2.out]; rfl
  have c2:w2.cell? ⟨w1.heap.size,2,none⟩=some (.int .i64 vv):=by rw [cell_at HA2.out]; rfl
  have c3:w2.cell? ⟨w1.heap.size,3,none⟩=some (.bool gg):=by rw [cell_at HA2.out]; rfl
  have hBa:=heap_lt HR2.out.1
  have hBb:=heap_lt HA2.out
  clear q2 k2 hW1
  go_wp2
  have qf:=HQ2.out.1.other (Co.keepWB (w:=w2) (B:=w.heap.size) 4 ee vv gg) (fun q hq e=>HR2.out.2 (by simp only [List.mem_singleton] at e; rw [← e]; exact hq))
  exact ret_ans rfl rfl (Co.ansW_set rfl HR2.out.1 4 ee vv gg) rfl rfl ⟨rfl,F1,G2,qf,nx_other HQ2.out.2 (Nat.le_refl _) (Co.keepWB (w:=w2) (B:=w.heap.size) 4 ee vv gg)⟩
 by_cases k3:kk=3
 ·subst k3
  rw [if_neg (by decide),if_pos rfl]
  clear HEN
  cases hf:(finX x vv y).2
  all_goals
   rw [hf] at HFN
  ·rw [if_neg (by decide)]
   go_enter Tryz.func29,Tryz.ntmps29
   go_wp2_with fail
   refine (HM _ (below_a1 _ _)).mono ?_
   rintro e w1 ⟨rfl,F1,G1,q1,k1⟩
   have HQ1:Hid (TM w1 base (.pointer (some ⟨M,0,none⟩)) c r L' F1 T { x with wy:=y } G1):=q1
   have HR1:Hid (w1.heap[w.heap.size]? = some (.cells #[.int .i64 0,.int .i64 0,.int .i64 0,.bool false] 55 (0,0))∧w.heap.size ∉ G1++F1):=row_next HLT.out (Nat.le_refl _) (heap_alloc_new w _) k1
   have HK1:Hid (Next (G++F) (G1++F1) w w1):=(Next.of_below (below_a1 _ _) _).trans k1
   have HB1:Hid (base≤w1.heap.size):=Nat.le_trans hb HK1.out.1.size
   have hW1:w.heap.size < w1.heap.size:=heap_lt HR1.out.1
   clear q1 k1 HM x9
   go_wp2_with fail
   refine (HFN.out (by first | rfl | trivial) _ _ (HQ1.out.tx.below (below_a1 _ _)) (Nat.le_trans HB1.out (by simp))).mono ?_
   rintro e w2 ⟨rfl,G2,q2,k2⟩
   have HR2:Hid (w2.heap[w.heap.size]? = some (.cells #[.int .i64 0,.int .i64 0,.int .i64 0,.bool false] 55 (0,0))∧w.heap.size ∉ G2++F1):=by
    have a1:w.heap.size ∉ G1:=fun e=>HR1.out.2 (by simp [e])
    have a2:(w1.alloc (.cells #[.int .i64 3,.int .i64 ee,.int .i64 vv,.bool gg] 55)).heap[w.heap.size]? = some (.cells #[.int .i64 0,.int .i64 0,.int .i64 0,.bool false] 55 (0,0)):=row_on HR1.out.1 (below_a1 _ _)
    refine ⟨(k2.1.block _ (heap_lt a2) a1).trans a2,fun e => ?_⟩
    rcases List.mem_append.1 e with e | e
    ·rcases k2.2 _ e with e | e
     ·exact a1 e
     ·simp at e; omega
    ·exact HR1.out.2 (by simp [e])
   have HA2:Hid (w2.heap[w1.heap.size]? = some (.cells #[.int .i64 3,.int .i64 ee,.int .i64 vv,.bool gg] 55 (0,0))):=by
    have a1:w1.heap.size ∉ G1:=fun e=>by have:=(HQ1.out.tx.lt _ e).2; omega
    exact (k2.1.block _ (by simp) a1).trans (heap_alloc_new w1 _)
   have HQ2:Hid (TM w2 base (.pointer (some ⟨M,0,none⟩)) c r L' F1 T (finX x vv y).1 G2∧Next (G++F) (G2++F1) w w2):=by
    obtain ⟨a1,a2⟩:=(HQ1.out.below (below_a1 _ _)).onTx q2 k2
    exact ⟨a1,HK1.out.trans ((Next.of_below (below_a1 _ _) _).trans a2)⟩
   obtain ⟨⟨a0,a1,a2,a3⟩,g0,g1,g2,g3⟩:=ans_cells HR2.out.1
   have c0:w2.cell? ⟨w1.heap.size,0,none⟩=some (.int .i64 3):=by rw [cell_at HA2.out]; rfl
   have c1:w2.cell? ⟨w1.heap.size,1,none⟩=some (.int .i64 ee):=by rw [cell_at HA2.out]; rfl
   have c2:w2.cell? ⟨w1.heap.size,2,none⟩=some (.int .i64 vv):=by rw [cell_at HA2.out]; rfl
   have c3:w2.cell? ⟨w1.heap.size,3,none⟩=some (.bool gg):=by rw [cell_at HA2.out]; rfl
   have hBa:=heap_lt HR2.out.1
   have hBb:=heap_lt HA2.out
   clear q2 k2 hW1
   go_wp2
   have qf:=HQ2.out.1.other (Co.keepWB (w:=w2) (B:=w.heap.size) 2 0 0 true) (fun q hq e=>HR2.out.2 (by simp only [List.mem_singleton] at e; rw [← e]; exact hq))
   exact ret_ans rfl rfl (Co.ansW_set rfl HR2.out.1 2 0 0 true) rfl rfl ⟨rfl,F1,G2,qf,nx_other HQ2.out.2 (Nat.le_refl _) (Co.keepWB (w:=w2) (B:=w.heap.size) 2 0 0 true)⟩
  ·rw [if_pos rfl]
   go_enter Tryz.func29,Tryz.ntmps29
   go_wp2_with fail
   refine (HM _ (below_a1 _ _)).mono ?_
   rintro e w1 ⟨rfl,F1,G1,q1,k1⟩
   have HQ1:Hid (TM w1 base (.pointer (some ⟨M,0,none⟩)) c r L' F1 T { x with wy:=y } G1):=q1
   have HR1:Hid (w1.heap[w.heap.size]? = some (.cells #[.int .i64 0,.int .i64 0,.int .i64 0,.bool false] 55 (0,0))∧w.heap.size ∉ G1++F1):=row_next HLT.out (Nat.le_refl _) (heap_alloc_new w _) k1
   have HK1:Hid (Next (G++F) (G1++F1) w w1):=(Next.of_below (below_a1 _ _) _).trans k1
   have HB1:Hid (base≤w1.heap.size):=Nat.le_trans hb HK1.out.1.size
   have hW1:w.heap.size < w1.heap.size:=heap_lt HR1.out.1
   clear q1 k1 HM x9
   go_wp2_with fail
   refine (HFN.out (by first | rfl | trivial) _ _ (HQ1.out.tx.below (below_a1 _ _)) (Nat.le_trans HB1.out (by simp))).mono ?_
   rintro e w2 ⟨rfl,G2,q2,k2⟩
   have HR2:Hid (w2.heap[w.heap.size]? = some (.cells #[.int .i64 0,.int .i64 0,.int .i64 0,.bool false] 55 (0,0))∧w.heap.size ∉ G2++F1):=by
    have a1:w.heap.size ∉ G1:=fun e=>HR1.out.2 (by simp [e])
    have a2:(w1.alloc (.cells #[.int .i64 3,.int .i64 ee,.int .i64 vv,.bool gg] 55)).heap[w.heap.size]? = some (.cells #[.int .i64 0,.int .i64 0,.int .i64 0,.bool false] 55 (0,0)):=row_on HR1.out.1 (below_a1 _ _)
    refine ⟨(k2.1.block _ (heap_lt a2) a1).trans a2,fun e => ?_⟩
    rcases List.mem_append.1 e with e | e
    ·rcases k2.2 _ e with e | e
     ·exact a1 e
     ·simp at e; omega
    ·exact HR1.out.2 (by simp [e])
   have HA2:Hid (w2.heap[w1.heap.size]? = some (.cells #[.int .i64 3,.int .i64 ee,.int .i64 vv,.bool gg] 55 (0,0))):=by
    have a1:w1.heap.size ∉ G1:=fun e=>by have:=(HQ1.out.tx.lt _ e).2; omega
    exact (k2.1.block _ (by simp) a1).trans (heap_alloc_new w1 _)
   have HQ2:Hid (TM w2 base (.pointer (some ⟨M,0,none⟩)) c r L' F1 T (finX x vv y).1 G2∧Next (G++F) (G2++F1) w w2):=by
    obtain ⟨a1,a2⟩:=(HQ1.out.below (below_a1 _ _)).onTx q2 k2
    exact ⟨a1,HK1.out.trans ((Next.of_below (below_a1 _ _) _).trans a2)⟩
   obtain ⟨⟨a0,a1,a2,a3⟩,g0,g1,g2,g3⟩:=ans_cells HR2.out.1
   have c0:w2.cell? ⟨w1.heap.size,0,none⟩=some (.int .i64 3):=by rw [cell_at HA2.out]; rfl
   have c1:w2.cell? ⟨w1.heap.size,1,none⟩=some (.int .i64 ee):=by rw [cell_at HA2.out]; rfl
   have c2:w2.cell? ⟨w1.heap.size,2,none⟩=some (.int .i64 vv):=by rw [cell_at HA2.out]; rfl
   have c3:w2.cell? ⟨w1.heap.size,3,none⟩=some (.bool gg):=by rw [cell_at HA2.out]; rfl
   have hBa:=heap_lt HR2.out.1
   have hBb:=heap_lt HA2.out
   clear q2 k2 hW1
   go_wp2
   have qf:=HQ2.out.1.other (Co.keepWB (w:=w2) (B:=w.heap.size) 3 ee vv gg) (fun q hq e=>HR2.out.2 (by simp only [List.mem_singleton] at e; rw [← e]; exact hq))
   exact ret_ans rfl rfl (Co.ansW_set rfl HR2.out.1 3 ee vv gg) rfl rfl ⟨rfl,F1,G2,qf,nx_other HQ2.out.2 (Nat.le_refl _) (Co.keepWB (w:=w2) (B:=w.heap.size) 3 ee vv gg)⟩
 ·rw [if_neg k4,if_neg k3]
  have d4:(kk == 4)=false:=by simpa using k4
  have d3:(kk == 3)=false:=by simpa using k3
  clear HFN HEN
  go_enter Tryz.func29,Tryz.ntmps29
  go_wp2_with fail
  refine (HM _ (below_a1 _ _)).mono ?_
  rintro e w1 ⟨rfl,F1,G1,q1,k1⟩
  have HQ1:Hid (TM w1 base (.pointer (some ⟨M,0,none⟩)) c r L' F1 T { x with wy:=y } G1):=q1
  have HR1:Hid (w1.heap[w.heap.size]? = some (.cells #[.int .i64 0,.int .i64 0,.int .i64 0,.bool false] 55 (0,0))∧w.heap.size ∉ G1++F1):=row_next HLT.out (Nat.le_refl _) (heap_alloc_new w _) k1
  have HK1:Hid (Next (G++F) (G1++F1) w w1):=(Next.of_below (below_a1 _ _) _).trans k1
  have HB1:Hid (base≤w1.heap.size):=Nat.le_trans hb HK1.out.1.size
  have hW1:w.heap.size < w1.heap.size:=heap_lt HR1.out.1
  clear q1 k1 HM x9
  obtain ⟨⟨a0,a1,a2,a3⟩,g0,g1,g2,g3⟩:=ans_cells HR1.out.1
  have hBa:=heap_lt HR1.out.1
  go_wp2
  have qf:=HQ1.out.other (Co.keepWB (w:=w1) (B:=w.heap.size) kk ee vv gg) (fun q hq e=>HR1.out.2 (by simp only [List.mem_singleton] at e; rw [← e]; exact hq))
  exact ret_ans rfl rfl (row_on (Co.ansW_set rfl HR1.out.1 kk ee vv gg) (below_a1 _ _)) rfl rfl ⟨rfl,F1,G1,qf.below (below_a1 _ _),(nx_other HK1.out (Nat.le_refl _) (Co.keepWB (w:=w1) (B:=w.heap.size) kk ee vv gg)).trans (Next.of_below (below_a1 _ _) _)⟩
theorem goOn_wr {w:World} {base:Nat} {p:Value} {c r:Nat} {L:List Ac} {F:List Nat} {T:Nat} {x:Tx} {G:List Nat} {P:Ba.Bp} {b:Ba.Bk} (h:TM w base p c r L F T x G) (hb:base≤w.heap.size) (hL:L.length < 3298534883328) (hE:x.ev.length < 1073741824) (hx:XOk x) (hy:x.wy = .wr P b) (hd:Wd L) (t:Int) :
  Calls Tryz.prog 29 #[.pointer (some ⟨T, 0, none⟩), p, .int .i64 t] w fun e w' => e = .returned (anV (stepX c r x L t).k (stepX c r x L t).e (stepX c r x L t).v (stepX c r x L t).y) ∧ ∃ F' G', TM w' base p c r (stepX c r x L t).L F' T (stepX c r x L t).x G' ∧ Next (G ++ F) (G' ++ F') w w' := by
 have HFN : Hid ((stepM c r x L t).k = 3 → ∀ w' G', TxAt w' base T { x with wy := (stepM c r x L t).wy } G' → base ≤ w'.heap.size → Calls Tryz.prog 42 #[.pointer (some ⟨T, 0, none⟩), .int .i64 (stepM c r x L t).v] w' fun e w'' => e = .returned (.bool (finX x (stepM c r x L t).v (stepM c r x L t).wy).2) ∧ ∃ G'', TxAt w'' base T (finX x (stepM c r x L t).v (stepM c r x L t).wy).1 G'' ∧ Next G' G'' w' w'') := fun hk3 w' G' hq hb' => by
  have hwy:(stepM c r x L t).wy = .wr P (Ba.nextBk c r P b L):=by unfold stepM; rw [hy]
  rw [hwy] at hq ⊢
  exact finish_wr hq hb' hE rfl _
 have HEN : Hid (∀ w' G' why, TxAt w' base T { x with wy := (stepM c r x L t).wy } G' → base ≤ w'.heap.size → Calls Tryz.prog 41 #[.pointer (some ⟨T, 0, none⟩), .int .i64 why] w' fun e w'' => e = .returned (.tuple #[]) ∧ ∃ G'', TxAt w'' base T (x.finis why) G'' ∧ Next G' G'' w' w'') := fun w' G' why hq hb' => end_any hq hb' hE why
 have hlt:=h.lt
 have HLT:Hid (∀ q ∈ G++F,q < w.heap.size):=fun q hq=>(hlt q hq).2
 obtain ⟨hm,⟨lg,tk,ev,wv,Gm,h'⟩,ho⟩:=h
 obtain ⟨X,rfl,HM⟩:=mach_wr hm h' ho hb hL hy (by have hw:=hx.wy; unfold wyOk at hw; rw [hy] at hw; exact hw.2.2.1) t
 obtain ⟨M,rfl⟩:=hm.ptr
 obtain ⟨x0,x1,x2,x3,x4,x5,x6,x7,x8,x9,x10,x11,x12⟩:=h'.raw.cells
 have hT:=heap_lt h'.raw
 have hMe : ∀ w, (method 311 105 (.agg #[.pointer (some ⟨X, 0, none⟩), .int .i64 P.st]) "Step").run Tryz.prog w = .ok (160, .pointer (some ⟨X, 0, none⟩)) w := fun w => me_w w _ _
 clear h' x0 x1 x2 x3 x4 x5 x6 x7 x8 x10 x11 x12 hm hd hlt hL hE hx hy ho
 unfold stepX goOn anV
 generalize stepM c r x L t=a at *
 obtain ⟨y, L', kk, ee, vv, gg⟩ := a
 simp only at HM HFN HEN ⊢
 by_cases k4:kk=4
 ·subst k4
  rw [if_pos rfl]
  clear HFN
  go_enter Tryz.func29,Tryz.ntmps29
  go_wp2_with fail
  refine (HM _ (below_a1 _ _)).mono ?_
  rintro e w1 ⟨rfl,F1,G1,q1,k1⟩
  have HQ1:Hid (TM w1 base (.pointer (some ⟨M,0,none⟩)) c r L' F1 T { x with wy:=y } G1):=q1
  have HR1:Hid (w1.heap[w.heap.size]? = some (.cells #[.int .i64 0,.int .i64 0,.int .i64 0,.bool false] 55 (0,0))∧w.heap.size ∉ G1++F1):=row_next HLT.out (Nat.le_refl _) (heap_alloc_new w _) k1
  have HK1:Hid (Next (G++F) (G1++F1) w w1):=(Next.of_below (below_a1 _ _) _).trans k1
  have HB1:Hid (base≤w1.heap.size):=Nat.le_trans hb HK1.out.1.size
  have hW1:w.heap.size < w1.heap.size:=heap_lt HR1.out.1
  clear q1 k1 HM x9
  go_wp2_with fail
  refine (HEN.out _ _ ee (HQ1.out.tx.below (below_a1 _ _)) (Nat.le_trans HB1.out (by simp))).mono ?_
  rintro e w2 ⟨rfl,G2,q2,k2⟩
  have HR2:Hid (w2.heap[w.heap.size]? = some (.cells #[.int .i64 0,.int .i64 0,.int .i64 0,.bool false] 55 (0,0))∧w.heap.size ∉ G2++F1):=by
   have a1:w.heap.size ∉ G1:=fun e=>HR1.out.2 (by simp [e])
   have a2:(w1.alloc (.cells #[.int .i64 4,.int .i64 ee,.int .i64 vv,.bool gg] 55)).heap[w.heap.size]? = some (.cells #[.int .i64 0,.int .i64 0,.int .i64 0,.bool false] 55 (0,0)):=row_on HR1.out.1 (below_a1 _ _)
   refine ⟨(k2.1.block _ (heap_lt a2) a1).trans a2,fun e => ?_⟩
   rcases List.mem_append.1 e with e | e
   ·rcases k2.2 _ e with e | e
    ·exact a1 e
    ·simp at e; omega
   ·exact HR1.out.2 (by simp [e])
  have HA2:Hid (w2.heap[w1.heap.size]? = some (.cells #[.int .i64 4,.int .i64 ee,.int .i64 vv,.bool gg] 55 (0,0))):=by
   have a1:w1.heap.size ∉ G1:=fun e=>by have:=(HQ1.out.tx.lt _ e).2; omega
   exact (k2.1.block _ (by simp) a1).trans (heap_alloc_new w1 _)
  have HQ2:Hid (TM w2 base (.pointer (some ⟨M,0,none⟩)) c r L' F1 T (x.finis ee) G2∧Next (G++F) (G2++F1) w w2):=by
   obtain ⟨a1,a2⟩:=(HQ1.out.below (below_a1 _ _)).onTx q2 k2
   exact ⟨a1,HK1.out.trans ((Next.of_below (below_a1 _ _) _).trans a2)⟩
  obtain ⟨⟨a0,a1,a2,a3⟩,g0,g1,g2,g3⟩:=ans_cells HR2.out.1
  have c0:w2.cell? ⟨w1.heap.size,0,none⟩=some (.int .i64 4):=by rw [cell_at HA2.out]; rfl
  have c1:w2.cell? ⟨w1.heap.size,1,none⟩=some (.int .i64 ee):=by rw [cell_at HA2.out]; rfl
  have c2:w2.cell? ⟨w1.heap.size,2,none⟩=some (.int .i64 vv):=by rw [cell_at HA2.out]; rfl
  have c3:w2.cell? ⟨w1.heap.size,3,none⟩=some (.bool gg):=by rw [cell_at HA2.out]; rfl
  have hBa:=heap_lt HR2.out.1
  have hBb:=heap_lt HA2.out
  clear q2 k2 hW1
  go_wp2
  have qf:=HQ2.out.1.other (Co.keepWB (w:=w2) (B:=w.heap.size) 4 ee vv gg) (fun q hq e=>HR2.out.2 (by simp only [List.mem_singleton] at e; rw [← e]; exact hq))
  exact ret_ans rfl rfl (Co.ansW_set rfl HR2.out.1 4 ee vv gg) rfl rfl ⟨rfl,F1,G2,qf,nx_other HQ2.out.2 (Nat.le_refl _) (Co.keepWB (w:=w2) (B:=w.heap.size) 4 ee vv gg)⟩
 by_cases k3:kk=3
 ·subst k3
  rw [if_neg (by decide),if_pos rfl]
  clear HEN
  cases hf:(finX x vv y).2
  all_goals
   rw [hf] at HFN
  ·rw [if_neg (by decide)]
   go_enter Tryz.func29,Tryz.ntmps29
   go_wp2_with fail
   refine (HM _ (below_a1 _ _)).mono ?_
   rintro e w1 ⟨rfl,F1,G1,q1,k1⟩
   have HQ1:Hid (TM w1 base (.pointer (some ⟨M,0,none⟩)) c r L' F1 T { x with wy:=y } G1):=q1
   have HR1:Hid (w1.heap[w.heap.size]? = some (.cells #[.int .i64 0,.int .i64 0,.int .i64 0,.bool false] 55 (0,0))∧w.heap.size ∉ G1++F1):=row_next HLT.out (Nat.le_refl _) (heap_alloc_new w _) k1
   have HK1:Hid (Next (G++F) (G1++F1) w w1):=(Next.of_below (below_a1 _ _) _).trans k1
   have HB1:Hid (base≤w1.heap.size):=Nat.le_trans hb HK1.out.1.size
   have hW1:w.heap.size < w1.heap.size:=heap_lt HR1.out.1
   clear q1 k1 HM x9
   go_wp2_with fail
   refine (HFN.out (by first | rfl | trivial) _ _ (HQ1.out.tx.below (below_a1 _ _)) (Nat.le_trans HB1.out (by simp))).mono ?_
   rintro e w2 ⟨rfl,G2,q2,k2⟩
   have HR2:Hid (w2.heap[w.heap.size]? = some (.cells #[.int .i64 0,.int .i64 0,.int .i64 0,.bool false] 55 (0,0))∧w.heap.size ∉ G2++F1):=by
    have a1:w.heap.size ∉ G1:=fun e=>HR1.out.2 (by simp [e])
    have a2:(w1.alloc (.cells #[.int .i64 3,.int .i64 ee,.int .i64 vv,.bool gg] 55)).heap[w.heap.size]? = some (.cells #[.int .i64 0,.int .i64 0,.int .i64 0,.bool false] 55 (0,0)):=row_on HR1.out.1 (below_a1 _ _)
    refine ⟨(k2.1.block _ (heap_lt a2) a1).trans a2,fun e => ?_⟩
    rcases List.mem_append.1 e with e | e
    ·rcases k2.2 _ e with e | e
     ·exact a1 e
     ·simp at e; omega
    ·exact HR1.out.2 (by simp [e])
   have HA2:Hid (w2.heap[w1.heap.size]? = some (.cells #[.int .i64 3,.int .i64 ee,.int .i64 vv,.bool gg] 55 (0,0))):=by
    have a1:w1.heap.size ∉ G1:=fun e=>by have:=(HQ1.out.tx.lt _ e).2; omega
    exact (k2.1.block _ (by simp) a1).trans (heap_alloc_new w1 _)
   have HQ2:Hid (TM w2 base (.pointer (some ⟨M,0,none⟩)) c r L' F1 T (finX x vv y).1 G2∧Next (G++F) (G2++F1) w w2):=by
    obtain ⟨a1,a2⟩:=(HQ1.out.below (below_a1 _ _)).onTx q2 k2
    exact ⟨a1,HK1.out.trans ((Next.of_below (below_a1 _ _) _).trans a2)⟩
   obtain ⟨⟨a0,a1,a2,a3⟩,g0,g1,g2,g3⟩:=ans_cells HR2.out.1
   have c0:w2.cell? ⟨w1.heap.size,0,none⟩=some (.int .i64 3):=by rw [cell_at HA2.out]; rfl
   have c1:w2.cell? ⟨w1.heap.size,1,none⟩=some (.int .i64 ee):=by rw [cell_at HA2.out]; rfl
   have c2:w2.cell? ⟨w1.heap.size,2,none⟩=some (.int .i64 vv):=by rw [cell_at HA2.out]; rfl
   have c3:w2.cell? ⟨w1.heap.size,3,none⟩=some (.bool gg):=by rw [cell_at HA2.out]; rfl
   have hBa:=heap_lt HR2.out.1
   have hBb:=heap_lt HA2.out
   clear q2 k2 hW1
   go_wp2
   have qf:=HQ2.out.1.other (Co.keepWB (w:=w2) (B:=w.heap.size) 2 0 0 true) (fun q hq e=>HR2.out.2 (by simp only [List.mem_singleton] at e; rw [← e]; exact hq))
   exact ret_ans rfl rfl (Co.ansW_set rfl HR2.out.1 2 0 0 true) rfl rfl ⟨rfl,F1,G2,qf,nx_other HQ2.out.2 (Nat.le_refl _) (Co.keepWB (w:=w2) (B:=w.heap.size) 2 0 0 true)⟩
  ·rw [if_pos rfl]
   go_enter Tryz.func29,Tryz.ntmps29
   go_wp2_with fail
   refine (HM _ (below_a1 _ _)).mono ?_
   rintro e w1 ⟨rfl,F1,G1,q1,k1⟩
   have HQ1:Hid (TM w1 base (.pointer (some ⟨M,0,none⟩)) c r L' F1 T { x with wy:=y } G1):=q1
   have HR1:Hid (w1.heap[w.heap.size]? = some (.cells #[.int .i64 0,.int .i64 0,.int .i64 0,.bool false] 55 (0,0))∧w.heap.size ∉ G1++F1):=row_next HLT.out (Nat.le_refl _) (heap_alloc_new w _) k1
   have HK1:Hid (Next (G++F) (G1++F1) w w1):=(Next.of_below (below_a1 _ _) _).trans k1
   have HB1:Hid (base≤w1.heap.size):=Nat.le_trans hb HK1.out.1.size
   have hW1:w.heap.size < w1.heap.size:=heap_lt HR1.out.1
   clear q1 k1 HM x9
   go_wp2_with fail
   refine (HFN.out (by first | rfl | trivial) _ _ (HQ1.out.tx.below (below_a1 _ _)) (Nat.le_trans HB1.out (by simp))).mono ?_
   rintro e w2 ⟨rfl,G2,q2,k2⟩
   have HR2:Hid (w2.heap[w.heap.size]? = some (.cells #[.int .i64 0,.int .i64 0,.int .i64 0,.bool false] 55 (0,0))∧w.heap.size ∉ G2++F1):=by
    have a1:w.heap.size ∉ G1:=fun e=>HR1.out.2 (by simp [e])
    have a2:(w1.alloc (.cells #[.int .i64 3,.int .i64 ee,.int .i64 vv,.bool gg] 55)).heap[w.heap.size]? = some (.cells #[.int .i64 0,.int .i64 0,.int .i64 0,.bool false] 55 (0,0)):=row_on HR1.out.1 (below_a1 _ _)
    refine ⟨(k2.1.block _ (heap_lt a2) a1).trans a2,fun e => ?_⟩
    rcases List.mem_append.1 e with e | e
    ·rcases k2.2 _ e with e | e
     ·exact a1 e
     ·simp at e; omega
    ·exact HR1.out.2 (by simp [e])
   have HA2:Hid (w2.heap[w1.heap.size]? = some (.cells #[.int .i64 3,.int .i64 ee,.int .i64 vv,.bool gg] 55 (0,0))):=by
    have a1:w1.heap.size ∉ G1:=fun e=>by have:=(HQ1.out.tx.lt _ e).2; omega
    exact (k2.1.block _ (by simp) a1).trans (heap_alloc_new w1 _)
   have HQ2:Hid (TM w2 base (.pointer (some ⟨M,0,none⟩)) c r L' F1 T (finX x vv y).1 G2∧Next (G++F) (G2++F1) w w2):=by
    obtain ⟨a1,a2⟩:=(HQ1.out.below (below_a1 _ _)).onTx q2 k2
    exact ⟨a1,HK1.out.trans ((Next.of_below (below_a1 _ _) _).trans a2)⟩
   obtain ⟨⟨a0,a1,a2,a3⟩,g0,g1,g2,g3⟩:=ans_cells HR2.out.1
   have c0:w2.cell? ⟨w1.heap.size,0,none⟩=some (.int .i64 3):=by rw [cell_at HA2.out]; rfl
   have c1:w2.cell? ⟨w1.heap.size,1,none⟩=some (.int .i64 ee):=by rw [cell_at HA2.out]; rfl
   have c2:w2.cell? ⟨w1.heap.size,2,none⟩=some (.int .i64 vv):=by rw [cell_at HA2.out]; rfl
   have c3:w2.cell? ⟨w1.heap.size,3,none⟩=some (.bool gg):=by rw [cell_at HA2.out]; rfl
   have hBa:=heap_lt HR2.out.1
   have hBb:=heap_lt HA2.out
   clear q2 k2 hW1
   go_wp2
   have qf:=HQ2.out.1.other (Co.keepWB (w:=w2) (B:=w.heap.size) 3 ee vv gg) (fun q hq e=>HR2.out.2 (by simp only [List.mem_singleton] at e; rw [← e]; exact hq))
   exact ret_ans rfl rfl (Co.ansW_set rfl HR2.out.1 3 ee vv gg) rfl rfl ⟨rfl,F1,G2,qf,nx_other HQ2.out.2 (Nat.le_refl _) (Co.keepWB (w:=w2) (B:=w.heap.size) 3 ee vv gg)⟩
 ·rw [if_neg k4,if_neg k3]
  have d4:(kk == 4)=false:=by simpa using k4
  have d3:(kk == 3)=false:=by simpa using k3
  clear HFN HEN
  go_enter Tryz.func29,Tryz.ntmps29
  go_wp2_with fail
  refine (HM _ (below_a1 _ _)).mono ?_
  rintro e w1 ⟨rfl,F1,G1,q1,k1⟩
  have HQ1:Hid (TM w1 base (.pointer (some ⟨M,0,none⟩)) c r L' F1 T { x with wy:=y } G1):=q1
  have HR1:Hid (w1.heap[w.heap.size]? = some (.cells #[.int .i64 0,.int .i64 0,.int .i64 0,.bool false] 55 (0,0))∧w.heap.size ∉ G1++F1):=row_next HLT.out (Nat.le_refl _) (heap_alloc_new w _) k1
  have HK1:Hid (Next (G++F) (G1++F1) w w1):=(Next.of_below (below_a1 _ _) _).trans k1
  have HB1:Hid (base≤w1.heap.size):=Nat.le_trans hb HK1.out.1.size
  have hW1:w.heap.size < w1.heap.size:=heap_lt HR1.out.1
  clear q1 k1 HM x9
  obtain ⟨⟨a0,a1,a2,a3⟩,g0,g1,g2,g3⟩:=ans_cells HR1.out.1
  have hBa:=heap_lt HR1.out.1
  go_wp2
  have qf:=HQ1.out.other (Co.keepWB (w:=w1) (B:=w.heap.size) kk ee vv gg) (fun q hq e=>HR1.out.2 (by simp only [List.mem_singleton] at e; rw [← e]; exact hq))
  exact ret_ans rfl rfl (row_on (Co.ansW_set rfl HR1.out.1 kk ee vv gg) (below_a1 _ _)) rfl rfl ⟨rfl,F1,G1,qf.below (below_a1 _ _),(nx_other HK1.out (Nat.le_refl _) (Co.keepWB (w:=w1) (B:=w.heap.size) kk ee vv gg)).trans (Next.of_below (below_a1 _ _) _)⟩
theorem goOn_any {w:World} {base:Nat} {p:Value} {c r:Nat} {L:List Ac} {F:List Nat} {T:Nat} {x:Tx} {G:List Nat} (h:TM w base p c r L F T x G) (hb:base≤w.heap.size) (hL:L.length < 3298534883328) (hE:x.ev.length < 1073741824) (hx:XOk x) (hy:x.wy ≠ .no) (hd:Wd L) (t:Int) :
  Calls Tryz.prog 29 #[.pointer (some ⟨T, 0, none⟩), p, .int .i64 t] w fun e w' => e = .returned (anV (stepX c r x L t).k (stepX c r x L t).e (stepX c r x L t).v (stepX c r x L t).y) ∧ ∃ F' G', TM w' base p c r (stepX c r x L t).L F' T (stepX c r x L t).x G' ∧ Next (G ++ F) (G' ++ F') w w' := by
 cases e:x.wy with
 | no=>exact absurd e hy
 | bg b=>exact goOn_bg h hb hL hE hx e hd t
 | rd P b=>exact goOn_rd h hb hL hE hx e hd t
 | cm P b u=>exact goOn_cm h hb hL hE hx e hd t
 | wr P b=>exact goOn_wr h hb hL hE hx e hd t
end Go.Proofs.YtdkpgdkjohjcaaaGreat
