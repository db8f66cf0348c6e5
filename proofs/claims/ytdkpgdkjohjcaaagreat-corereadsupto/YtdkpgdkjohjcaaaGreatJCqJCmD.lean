/- The program's machine of layer 8 beside a memory, whatever the ring's size; above what was there, beside rows that are kept. -/
import Derived.Test.YtdkpgdkjohjcaaaGreatJCqACqD
import Derived.Test.YtdkpgdkjohjcaaaGreatJBegABegX
import Derived.RegionTactic
import Derived.BigRegion
set_option maxHeartbeats 1600000
set_option maxRecDepth 10000
namespace Go.Proofs.YtdkpgdkjohjcaaaGreat.Co
open Go.ChangeShapes Go.WideShapes Go.ChangeAt Go.RowKit
attribute [local go_sem ↓] Go.wp_at_zero Go.wp_at_succ
def Gd (L:List Ac):Prop:=∀ a,W64 (wordOf L a)
theorem gd_load {c r:Nat} {L:List Ac} {t:Int} {a:Ad} (h:Gd L):Gd (loadL c r L t a):=fun x=>by rw [wordOf_load]; exact h x
def nextK (r:Nat) (P:Cp) (b:Ck) (L:List Ac):Ck:=if goesK r P b then stepK P b (wordOf L (adK P b)) else b
def nextKL (c r:Nat) (P:Cp) (b:Ck) (L:List Ac) (t:Int):List Ac:=if goesK r P b then loadL c r L t (adK P b) else L
def ansKK (r:Nat) (P:Cp) (b:Ck) (L:List Ac):Int:=if goesK r P b then kindK P b (wordOf L (adK P b)) else 0
def errKK (r:Nat) (P:Cp) (b:Ck) (L:List Ac):Int:=if goesK r P b then errK P b (wordOf L (adK P b)) else 0
theorem goesK_iff {r:Nat} {P:Cp} {b:Ck}:goesK r P b=true ↔ ¬ thr b∧r=P.s:=by unfold goesK thr; simp
theorem gd_next {c r:Nat} {P:Cp} {b:Ck} {L:List Ac} {t:Int} (hg:Gd L):Gd (nextKL c r P b L t):=by
 unfold nextKL
 split
 ·exact gd_load hg
 ·exact hg
theorem nextKL_len (c r:Nat) (P:Cp) (b:Ck) (L:List Ac) (t:Int):(nextKL c r P b L t).length≤L.length+1:=by
 unfold nextKL loadL
 repeat' split
 all_goals simp
structure KS (w:World) (base:Nat) (p:Value) (c r:Nat) (L:List Ac) (F:List Nat) (X:Nat) (P:Cp) (b:Ck):Prop where
 mem:MemAt w base p c r L F
 at_:KAt w X P b
 out:X ∉ F
 lo:base≤X
theorem KS.lt {w:World} {base:Nat} {p:Value} {c r:Nat} {L:List Ac} {F:List Nat} {X:Nat} {P:Cp} {b:Ck} (h:KS w base p c r L F X P b) : ∀ q ∈ X :: F,base≤q∧q < w.heap.size:=fun q hq=>by
 rcases List.mem_cons.1 hq with rfl | hq
 ·exact ⟨h.lo,heap_lt h.at_⟩
 ·exact h.mem.lt q hq
theorem KS.keep {w w':World} {base:Nat} {p:Value} {c r:Nat} {L:List Ac} {F G:List Nat} {X:Nat} {P:Cp} {b:Ck} (h:KS w base p c r L F X P b) (k:Keep G w w') (hd : ∀ q ∈ X :: F,q ∉ G):KS w' base p c r L F X P b :=
 ⟨h.mem.keep k (fun q hq=>hd q (by simp [hq])),h.at_.keep k (hd X (by simp)),h.out,h.lo⟩
theorem KS.onMem {w w':World} {base:Nat} {p:Value} {c r:Nat} {L L':List Ac} {F F':List Nat} {X:Nat} {P:Cp} {b:Ck} (h:KS w base p c r L F X P b) (hm:MemAt w' base p c r L' F') (hn:Next F F' w w'):KS w' base p c r L' F' X P b :=
 ⟨hm,h.at_.keep hn.1 h.out,fun e=>by
    rcases hn.2 X e with h1 | h1
    · exact h.out h1
    · have:=heap_lt h.at_; omega,h.lo⟩
end Go.Proofs.YtdkpgdkjohjcaaaGreat.Co
namespace Go.Proofs.YtdkpgdkjohjcaaaGreat.Co
structure Cu where
 st:Int
 seen:Int
 stamp:Int
def cuNew:Cu:=⟨0,0,0⟩
def nwA:Ad:=⟨1,0,0⟩
def goesC (r:Nat) (P:Cp) (u:Cu):Bool:=decide (u.st≠3) && decide (r=P.s)
def lookS (P:Cp) (u:Cu):Int:=if P.ex.mu then u.seen+1 else u.seen
def lookA (P:Cp) (u:Cu):Ad:=⟨2,slotV (lookS P u) P.s,0⟩
def lookY (P:Cp) (u:Cu) (v:Int):Bool:=if P.ex.mu then freeV v (u.seen+1) P.s else overV v u.seen
def spent (P:Cp) (n:Int):Bool:=decide (n < 0) || decide (P.ex.n≤n)
def heldU (P:Cp) (u:Cu) (n:Int):Cu:=if spent P n then ⟨3,n,u.stamp⟩ else if n=0∧P.ex.mu=false then ⟨2,n,u.stamp⟩ else ⟨1,n,u.stamp⟩
def heldK (P:Cp) (n:Int):Int:=if spent P n then 4 else 2
def heldE (P:Cp) (n:Int):Int:=if spent P n then 6 else 0
def holdU (r:Nat) (P:Cp) (b:Ck) (u:Cu) (L:List Ac):Cu:=if ansKK r P b L=4 then ⟨3,u.seen,u.stamp⟩ else if ansKK r P b L=3 then heldU P u (nextK r P b L).seen else u
def holdA (r:Nat) (P:Cp) (b:Ck) (L:List Ac):Int:=if ansKK r P b L=3 then heldK P (nextK r P b L).seen else ansKK r P b L
def holdE (r:Nat) (P:Cp) (b:Ck) (L:List Ac):Int:=if ansKK r P b L=3 then heldE P (nextK r P b L).seen else errKK r P b L
def looksY (P:Cp) (u:Cu) (L:List Ac):Bool:=lookY P u (wordOf L (lookA P u))
def lookU (P:Cp) (u:Cu) (L:List Ac):Cu:=if looksY P u L then ⟨2,u.seen,u.stamp⟩ else u
def swapsY (u:Cu) (L:List Ac):Bool:=wordOf L nwA == u.seen
def swapU (u:Cu) (L:List Ac):Cu:=if swapsY u L then ⟨3,u.seen,u.seen+1⟩ else ⟨0,u.seen,u.stamp⟩
def swapB (P:Cp) (b:Ck) (u:Cu) (L:List Ac):Ck:=if swapsY u L then b else ckNew P
def nextU (r:Nat) (P:Cp) (b:Ck) (u:Cu) (L:List Ac):Cu:=if goesC r P u then (if u.st=0 then holdU r P b u L else if u.st=1 then lookU P u L else swapU u L) else u
def nextCB (r:Nat) (P:Cp) (b:Ck) (u:Cu) (L:List Ac):Ck:=if goesC r P u then (if u.st=0 then nextK r P b L else if u.st=1 then b else swapB P b u L) else b
def nextCL (c r:Nat) (P:Cp) (b:Ck) (u:Cu) (L:List Ac) (t:Int):List Ac:=if goesC r P u then (if u.st=0 then nextKL c r P b L t else if u.st=1 then loadL c r L t (lookA P u) else swapL c r L t nwA u.seen (u.seen+1)) else L
def ansZ (r:Nat) (P:Cp) (b:Ck) (u:Cu) (L:List Ac):Int:=if goesC r P u then (if u.st=0 then holdA r P b L else if u.st=1 then (if looksY P u L then 2 else 1) else (if swapsY u L then 3 else 2)) else 0
def errZ (r:Nat) (P:Cp) (b:Ck) (u:Cu) (L:List Ac):Int:=if goesC r P u then (if u.st=0 then holdE r P b L else 0) else 0
def valZ (r:Nat) (P:Cp) (u:Cu) (L:List Ac):Int:=if goesC r P u then (if u.st=0 then 0 else if u.st=1 then 0 else (if swapsY u L then u.seen+1 else 0)) else 0
theorem goesC_iff {r:Nat} {P:Cp} {u:Cu}:goesC r P u=true ↔ u.st≠3∧r=P.s:=by unfold goesC; simp
structure COk (P:Cp) (b:Ck) (u:Cu):Prop where
 k : ∃ n,KOk P b n
 last:P.last=false
 n1:1≤P.ex.n
 n2:P.ex.n≤1099511627776
 c:(u.st=0 ∧ ¬ thr b)∨((u.st=1∨u.st=2)∧0≤u.seen∧u.seen < P.ex.n)∨u.st=3
theorem cok_new {P:Cp} (h:POk P) (hl:P.last=false) (h1:1≤P.ex.n) (h2:P.ex.n≤1099511627776):COk P (ckNew P) cuNew :=
 ⟨⟨0,kok_new h⟩,hl,h1,h2,Or.inl ⟨rfl,fun e=>by unfold thr ckNew at e; simp at e⟩⟩
theorem ansKK_go {r:Nat} {P:Cp} {b:Ck} {L:List Ac} (hg:goesK r P b=true):(thr (nextK r P b L) ↔ ansKK r P b L=3∨ansKK r P b L=4)∧(ansKK r P b L=3→(nextK r P b L).st=4)∧ansKK r P b L≠0:=by
 unfold ansKK nextK
 rw [if_pos hg,if_pos hg]
 have ht:=(goesK_iff.mp hg).1
 unfold kindK
 by_cases hw:waitK b (wordOf L (adK P b))=true
 ·rw [if_pos hw]
  have hs:stepK P b (wordOf L (adK P b))=b:=by
   have h':=hw
   unfold waitK at h'
   simp only [Bool.and_eq_true, Bool.not_eq_true', decide_eq_true_eq] at h'
   unfold stepK lookK
   rw [if_neg (by omega),if_pos h'.1.1,h'.1.2,h'.2]
   simp
  rw [hs]
  exact ⟨⟨fun e=>absurd e ht,fun e=>by omega⟩,fun e=>by omega,by omega⟩
 ·rw [if_neg hw]
  unfold kindV thr
  split
  ·next e=>exact ⟨by simp [e],fun _=>e,by omega⟩
  ·next e =>
   split
   ·next e2=>exact ⟨by simp [e2],fun e=>by omega,by omega⟩
   ·next e2=>exact ⟨by simp [e,e2],fun e=>by omega,by omega⟩
theorem cok_next {r:Nat} {P:Cp} {b:Ck} {u:Cu} {L:List Ac} (h:COk P b u) (hg:goesC r P u=true→u.st=0→W64 (wordOf L (adK P b))):COk P (nextCB r P b u L) (nextU r P b u L):=by
 obtain ⟨n,hk⟩:=h.k
 unfold nextCB nextU
 by_cases e:goesC r P u=true
 ·rw [if_pos e,if_pos e]
  obtain ⟨e3,er⟩:=goesC_iff.mp e
  by_cases e0:u.st=0
  ·rw [if_pos e0,if_pos e0]
   have ht : ¬ thr b:=by
    rcases h.c with c | c | c
    ·exact c.2
    ·omega
    ·omega
   have hgo:goesK r P b=true:=goesK_iff.mpr ⟨ht,er⟩
   obtain ⟨a1,a2,a3⟩:=ansKK_go (L:=L) hgo
   have hk' : ∃ n,KOk P (nextK r P b L) n:=⟨_,by
        unfold nextK; rw [if_pos hgo]; exact kok_step hk (hg e e0) ht⟩
   refine ⟨hk', h.last, h.n1, h.n2, ?_⟩
   unfold holdU
   by_cases k4:ansKK r P b L=4
   ·rw [if_pos k4]; exact Or.inr (Or.inr rfl)
   ·rw [if_neg k4]
    by_cases k3:ansKK r P b L=3
    ·rw [if_pos k3]
     unfold heldU
     by_cases hs:spent P (nextK r P b L).seen=true
     ·rw [if_pos hs]; exact Or.inr (Or.inr rfl)
     ·rw [if_neg hs]
      unfold spent at hs
      simp at hs
      split
      ·exact Or.inr (Or.inl ⟨Or.inr rfl,hs.1,hs.2⟩)
      ·exact Or.inr (Or.inl ⟨Or.inl rfl,hs.1,hs.2⟩)
    ·rw [if_neg k3]
     exact Or.inl ⟨e0,fun e=>by rcases a1.mp e with e | e <;> omega⟩
  ·rw [if_neg e0,if_neg e0]
   have hc:(u.st=1∨u.st=2)∧0≤u.seen∧u.seen < P.ex.n:=by
    rcases h.c with c | c | c
    ·omega
    ·exact c
    ·omega
   by_cases e1:u.st=1
   ·rw [if_pos e1,if_pos e1]
    refine ⟨⟨n,hk⟩,h.last,h.n1,h.n2, ?_⟩
    unfold lookU
    split
    ·exact Or.inr (Or.inl ⟨Or.inr rfl,hc.2⟩)
    ·exact Or.inr (Or.inl hc)
   ·rw [if_neg e1,if_neg e1]
    unfold swapB swapU
    by_cases y:swapsY u L=true
    ·rw [if_pos y,if_pos y]
     exact ⟨⟨n,hk⟩,h.last,h.n1,h.n2,Or.inr (Or.inr rfl)⟩
    ·rw [if_neg y,if_neg y]
     exact ⟨⟨0,kok_new hk.p⟩,h.last,h.n1,h.n2,Or.inl ⟨rfl,fun e=>by unfold thr ckNew at e; simp at e⟩⟩
 ·rw [if_neg e,if_neg e]; exact h
theorem nextCL_len (c r:Nat) (P:Cp) (b:Ck) (u:Cu) (L:List Ac) (t:Int):(nextCL c r P b u L t).length≤L.length+1:=by
 unfold nextCL
 split
 ·split
  ·exact nextKL_len c r P b L t
  ·split
   ·unfold loadL; split <;> simp
   ·unfold swapL; split <;> simp
 ·simp
theorem gd_swap {c r:Nat} {L:List Ac} {t:Int} {a:Ad} {o z:Int} (h:Gd L) (hz:W64 z):Gd (swapL c r L t a o z):=fun x=>by
 unfold swapL
 split
 ·by_cases e:(wordOf L a == o)=true
  ·rw [wordOf_hit (Or.inr ⟨rfl,e⟩)]
   unfold upd
   split
   ·exact hz
   ·exact h x
  ·rw [wordOf_miss (by simp at e; simp [e])]
   exact h x
 ·exact h x
theorem gd_nextC {c r:Nat} {P:Cp} {b:Ck} {u:Cu} {L:List Ac} {t:Int} (h:COk P b u) (hg:Gd L):Gd (nextCL c r P b u L t):=by
 unfold nextCL
 split
 ·next e =>
  split
  ·exact gd_next hg
  ·next e0 =>
   split
   ·exact gd_load hg
   ·refine gd_swap hg ?_
    have e3:=(goesC_iff.mp e).1
    have hn:=h.n2
    rcases h.c with c | c | c
    ·omega
    ·unfold W64; omega
    ·omega
 ·exact hg
theorem ansZ_ne {r:Nat} {P:Cp} {b:Ck} {u:Cu} {L:List Ac} (h:COk P b u):(ansZ r P b u L != 0)=goesC r P u:=by
 unfold ansZ
 by_cases e:goesC r P u=true
 ·rw [if_pos e,e]
  obtain ⟨e3,er⟩:=goesC_iff.mp e
  split
  ·next e0 =>
   have ht : ¬ thr b:=by
    rcases h.c with c | c | c
    ·exact c.2
    ·omega
    ·omega
   obtain ⟨a1,a2,a3⟩:=ansKK_go (L:=L) (goesK_iff.mpr ⟨ht,er⟩)
   unfold holdA heldK
   split
   ·split <;> rfl
   ·simpa using a3
  ·split
   ·split <;> rfl
   ·split <;> rfl
 ·rw [if_neg e,show goesC r P u=false by simpa using e]; rfl
end Go.Proofs.YtdkpgdkjohjcaaaGreat.Co
namespace Go.Proofs.YtdkpgdkjohjcaaaGreat.Co
open Go.ChangeShapes Go.WideShapes Go.ChangeAt Go.RowKit
attribute [local go_sem ↓] Go.wp_at_zero Go.wp_at_succ
def cmR (s n:Int) (mu:Bool) (z:Int) (rd:List Nat) (st:Int) (x:Value) (seen stamp:Int):Array Value:=#[.int .i64 s,.int .i64 n,.bool mu,.int .i64 z,rdV rd 0,rdV rd 1,rdV rd 2,rdV rd 3,rdV rd 4,rdV rd 5,rdV rd 6,rdV rd 7,.int .i64 st,x,.int .i64 seen,.int .i64 stamp]
def ptr (X:Nat):Value:=.pointer (some ⟨X,0,none⟩)
def CRow (w:World) (Z:Nat) (s n:Int) (mu:Bool) (z:Int) (rd:List Nat) (st:Int) (x:Value) (seen stamp:Int):Prop:=w.heap[Z]? = some (.cells (cmR s n mu z rd st x seen stamp) 151 (0,0))
def CAt (w:World) (Z:Nat) (P:Cp) (u:Cu) (x:Value):Prop:=CRow w Z (P.s:Int) P.ex.n P.ex.mu P.z P.rd u.st x u.seen u.stamp
theorem CRow.keep {w w':World} {Z:Nat} {s n:Int} {mu:Bool} {z:Int} {rd:List Nat} {st:Int} {x:Value} {seen stamp:Int} {F:List Nat} (h:CRow w Z s n mu z rd st x seen stamp) (k:Keep F w w') (hx:Z ∉ F):CRow w' Z s n mu z rd st x seen stamp:=by
 unfold CRow; rw [k.block _ (heap_lt h) hx]; exact h
theorem CRow.below {w w':World} {Z:Nat} {s n:Int} {mu:Bool} {z:Int} {rd:List Nat} {st:Int} {x:Value} {seen stamp:Int} {B:Nat} (h:CRow w Z s n mu z rd st x seen stamp) (k:Below B w w') (hx:Z < B):CRow w' Z s n mu z rd st x seen stamp:=by
 unfold CRow; rw [k.block _ hx]; exact h
theorem CRow.cells {w:World} {Z:Nat} {s n:Int} {mu:Bool} {z:Int} {rd:List Nat} {st:Int} {x:Value} {seen stamp:Int} (h:CRow w Z s n mu z rd st x seen stamp):w.cell? ⟨Z,0,none⟩=some (.int .i64 s)∧w.cell? ⟨Z,1,none⟩=some (.int .i64 n)∧w.cell? ⟨Z,2,none⟩=some (.bool mu)∧w.cell? ⟨Z,3,none⟩=some (.int .i64 z) ∧
  w.cell? ⟨Z,12,none⟩=some (.int .i64 st)∧w.cell? ⟨Z,13,none⟩=some x∧w.cell? ⟨Z,14,none⟩=some (.int .i64 seen)∧w.cell? ⟨Z,15,none⟩=some (.int .i64 stamp) :=
 ⟨by rw [cell_at h]; rfl,by rw [cell_at h]; rfl,by rw [cell_at h]; rfl,by rw [cell_at h]; rfl,by rw [cell_at h]; rfl,by rw [cell_at h]; rfl,by rw [cell_at h]; rfl,by rw [cell_at h]; rfl⟩
theorem CRow.reads {w:World} {Z:Nat} {s n:Int} {mu:Bool} {z:Int} {rd:List Nat} {st:Int} {x:Value} {seen stamp:Int} (h:CRow w Z s n mu z rd st x seen stamp):w.cell? ⟨Z,4,none⟩=some (rdV rd 0)∧w.cell? ⟨Z,5,none⟩=some (rdV rd 1)∧w.cell? ⟨Z,6,none⟩=some (rdV rd 2)∧w.cell? ⟨Z,7,none⟩=some (rdV rd 3)∧w.cell? ⟨Z,8,none⟩=some (rdV rd 4)∧w.cell? ⟨Z,9,none⟩=some (rdV rd 5)∧w.cell? ⟨Z,10,none⟩=some (rdV rd 6)∧w.cell? ⟨Z,11,none⟩=some (rdV rd 7) :=
 ⟨by rw [cell_at h]; rfl,by rw [cell_at h]; rfl,by rw [cell_at h]; rfl,by rw [cell_at h]; rfl,by rw [cell_at h]; rfl,by rw [cell_at h]; rfl,by rw [cell_at h]; rfl,by rw [cell_at h]; rfl⟩
theorem CRow.fz {w:World} {Z:Nat} {s n:Int} {mu:Bool} {z:Int} {rd:List Nat} {st:Int} {x:Value} {seen stamp:Int} (h:CRow w Z s n mu z rd st x seen stamp):w.frozen? ⟨Z,12,none⟩=false∧w.frozen? ⟨Z,13,none⟩=false∧w.frozen? ⟨Z,14,none⟩=false∧w.frozen? ⟨Z,15,none⟩=false:=⟨frozen_at h 12,frozen_at h 13,frozen_at h 14,frozen_at h 15⟩
theorem cset {w:World} {Z:Nat} {s n:Int} {mu:Bool} {z:Int} {rd:List Nat} {st:Int} {x:Value} {seen stamp:Int} (h:CRow w Z s n mu z rd st x seen stamp) (v:Int) (y:Value) :
  CRow (w.setCell ⟨Z,12,none⟩ (.int .i64 v)) Z s n mu z rd v x seen stamp∧CRow (w.setCell ⟨Z,13,none⟩ y) Z s n mu z rd st y seen stamp∧CRow (w.setCell ⟨Z,14,none⟩ (.int .i64 v)) Z s n mu z rd st x v stamp∧CRow (w.setCell ⟨Z,15,none⟩ (.int .i64 v)) Z s n mu z rd st x seen v :=
 ⟨by unfold CRow; rw [heap_set h]; rfl,by unfold CRow; rw [heap_set h]; rfl,by unfold CRow; rw [heap_set h]; rfl,by unfold CRow; rw [heap_set h]; rfl⟩
theorem CAt.keep {w w':World} {Z:Nat} {P:Cp} {u:Cu} {x:Value} {F:List Nat} (h:CAt w Z P u x) (k:Keep F w w') (hx:Z ∉ F):CAt w' Z P u x:=CRow.keep h k hx
theorem CAt.below {w w':World} {Z:Nat} {P:Cp} {u:Cu} {x:Value} {B:Nat} (h:CAt w Z P u x) (k:Below B w w') (hx:Z < B):CAt w' Z P u x:=CRow.below h k hx
structure CS (w:World) (base:Nat) (p:Value) (c r:Nat) (L:List Ac) (F:List Nat) (X Z:Nat) (P:Cp) (b:Ck) (u:Cu):Prop where
 ks:KS w base p c r L F X P b
 cm:CAt w Z P u (ptr X)
 out:Z ∉ X :: F
 lo:base≤Z
theorem CS.lt {w:World} {base:Nat} {p:Value} {c r:Nat} {L:List Ac} {F:List Nat} {X Z:Nat} {P:Cp} {b:Ck} {u:Cu} (h:CS w base p c r L F X Z P b u) : ∀ q ∈ Z :: X :: F,base≤q∧q < w.heap.size:=fun q hq=>by
 rcases List.mem_cons.1 hq with rfl | hq
 ·exact ⟨h.lo,heap_lt h.cm⟩
 ·exact h.ks.lt q hq
theorem CS.keep {w w':World} {base:Nat} {p:Value} {c r:Nat} {L:List Ac} {F G:List Nat} {X Z:Nat} {P:Cp} {b:Ck} {u:Cu} (h:CS w base p c r L F X Z P b u) (k:Keep G w w') (hd : ∀ q ∈ Z :: X :: F,q ∉ G):CS w' base p c r L F X Z P b u :=
 ⟨h.ks.keep k (fun q hq=>hd q (List.mem_cons_of_mem _ hq)),h.cm.keep k (hd Z (by simp)),h.out,h.lo⟩
theorem CS.below {w w':World} {base:Nat} {p:Value} {c r:Nat} {L:List Ac} {F:List Nat} {X Z:Nat} {P:Cp} {b:Ck} {u:Cu} (h:CS w base p c r L F X Z P b u) (hb:Below w.heap.size w w'):CS w' base p c r L F X Z P b u:=h.keep (Keep.of_below hb []) (fun _ _=>by simp)
theorem CS.onKS {w w':World} {base:Nat} {p:Value} {c r:Nat} {L L':List Ac} {F F':List Nat} {X Z:Nat} {P:Cp} {b b':Ck} {u:Cu} (h:CS w base p c r L F X Z P b u) (hk:KS w' base p c r L' F' X P b') (hn:Next (X :: F) (X :: F') w w'):CS w' base p c r L' F' X Z P b' u :=
 ⟨hk,h.cm.keep hn.1 h.out,fun e=>by
    rcases hn.2 Z e with h1 | h1
    · exact h.out h1
    · have:=heap_lt h.cm; omega,h.lo⟩
theorem CS.onZ {w w':World} {base:Nat} {p:Value} {c r:Nat} {L:List Ac} {F:List Nat} {X Z:Nat} {P:Cp} {b:Ck} {u u':Cu} (h:CS w base p c r L F X Z P b u) (hc:CAt w' Z P u' (ptr X)) (hk:Keep [Z] w w'):CS w' base p c r L F X Z P b u'∧Next (Z :: X :: F) (Z :: X :: F) w w' :=
 ⟨⟨h.ks.keep hk (fun q hq e=>by simp at e; exact h.out (e ▸ hq)),hc,h.out,h.lo⟩,hk.mono (fun q hq=>by simp at hq; subst hq; simp),fun q hq=>Or.inl hq⟩
theorem nx_row {w w1 w2:World} {G G':List Nat} {o:Obj} (hlt : ∀ q ∈ G,q < w.heap.size) (hb:Below w.heap.size w w1) (hr:w1.heap[w.heap.size]? = some o) (hn:Next G G' w1 w2):w2.heap[w.heap.size]? = some o∧w.heap.size ∉ G'∧Next G G' w w2:=by
 have h1:=heap_lt hr
 have h2:=hb.size
 have hno:w.heap.size ∉ G:=fun e=>by have:=hlt _ e; omega
 refine ⟨hn.row hr hno,fun e => ?_,(Keep.of_below hb _).trans hn.1 (fun q hq=>Or.inl hq),fun q hq => ?_⟩
 ·rcases hn.2 _ e with h3 | h3
  ·exact hno h3
  ·omega
 ·rcases hn.2 q hq with h3 | h3
  ·exact Or.inl h3
  ·exact Or.inr (by omega)
theorem cs_other {w w3 w4:World} {base:Nat} {p:Value} {c r:Nat} {L:List Ac} {G F':List Nat} {X Z B:Nat} {P:Cp} {b:Ck} {u:Cu} (h:CS w3 base p c r L F' X Z P b u) (hB:B ∉ Z :: X :: F') (hlo:w.heap.size≤B) (hn:Next G (Z :: X :: F') w w3) (hk:Keep [B] w3 w4) :
  CS w4 base p c r L F' X Z P b u∧Next G (Z :: X :: F') w w4 :=
 ⟨h.keep hk (fun q hq e=>by simp at e; exact hB (e ▸ hq)),hn.1.trans hk (fun q hq=>by simp at hq; subst hq; exact Or.inr hlo),hn.2⟩
def ansW (k e v:Int) (y:Bool):Value:=.agg #[.int .i64 k,.int .i64 e,.int .i64 v,.bool y]
def laidW (w:World) (B:Nat) (k e v:Int) (y:Bool):World:=(((w.setCell ⟨B,0,none⟩ (.int .i64 k)).setCell ⟨B,1,none⟩ (.int .i64 e)).setCell ⟨B,2,none⟩ (.int .i64 v)).setCell ⟨B,3,none⟩ (.bool y)
theorem ansW_set {w:World} {B:Nat} {cs:Array Value} (hz:cs.size=4) (h:w.heap[B]? = some (.cells cs 55 (0,0))) (k e v:Int) (y:Bool) :
  (laidW w B k e v y).heap[B]? = some (.cells #[.int .i64 k,.int .i64 e,.int .i64 v,.bool y] 55 (0,0)):=by
 have h1:=heap_set (i:=0) (v:=.int .i64 k) h
 have h2:=heap_set (i:=1) (v:=.int .i64 e) h1
 have h3:=heap_set (i:=2) (v:=.int .i64 v) h2
 have h4:=heap_set (i:=3) (v:=.bool y) h3
 unfold laidW
 rw [h4]
 obtain ⟨l⟩:=cs
 match l,hz with
 | [_,_,_,_],_=>rfl
theorem keepWB {w:World} {B:Nat} (k e v:Int) (y:Bool):Keep [B] w (laidW w B k e v y) :=
 ((((Keep.refl [B] w).setCell _ _ (Or.inl (by simp))).setCell _ _ (Or.inl (by simp))).setCell _ _ (Or.inl (by simp))).setCell _ _ (Or.inl (by simp))
theorem belowW {w0 w:World} {A B:Nat} (hk:Below A w0 w) (hB:A≤B) (k e v:Int) (y:Bool):Below A w0 (laidW w B k e v y):=(((hk.setCell hB _).setCell hB _).setCell hB _).setCell hB _
theorem moved_any (w:World):Calls Tryz.prog 156 #[] w fun e w' => e = .returned (ansW 2 0 0 true)∧Below w.heap.size w w':=by
 unfold ansW
 go_enter Tryz.func156,Tryz.ntmps156
 go_wp2
 exact ret_ans rfl rfl (heap_alloc_new _ _) rfl rfl ⟨rfl,below_a1 _ _⟩
theorem mstamp_any {w:World} {Z:Nat} {P:Cp} {u:Cu} {x:Value} (h:CAt w Z P u x):Calls Tryz.prog 61 #[.pointer (some ⟨Z,0,none⟩)] w fun e w' => e = .returned (.tuple #[.int .i64 u.stamp,.bool (u.stamp != 0)])∧Below w.heap.size w w':=by
 obtain ⟨x0,x1,x2,x3,x4,x5,x6,x7⟩:=CRow.cells h
 clear h
 go_enter Tryz.func61,Tryz.ntmps61
 go_wp2
 first | (go_ret2; exact ⟨rfl,Below.refl _ _⟩) | (go_quiet (fail); go_wp2; go_ret2; exact ⟨rfl,below_drawn (Below.refl _ _) _⟩)
theorem mgoes_any {w:World} {base:Nat} {p:Value} {c r:Nat} {L:List Ac} {F:List Nat} {Z:Nat} {P:Cp} {u:Cu} {x:Value} (hm:MemAt w base p c r L F) (h:CAt w Z P u x) :
  Calls Tryz.prog 149 #[.pointer (some ⟨Z,0,none⟩),p] w fun e w' => e = .returned (.bool (goesC r P u))∧Below w.heap.size w w':=by
 have HS:Hid (Calls Tryz.prog 44 #[p] w fun e w' => e = .returned (.tuple #[.int .i64 (c:Int),.int .i64 (r:Int)])∧Below w.heap.size w w'):=sizes_any hm
 obtain ⟨M,rfl⟩:=hm.ptr
 have HX:Hid (CAt w Z P u x):=h
 have hx:Z < w.heap.size:=heap_lt h
 obtain ⟨x0,x1,x2,x3,x4,x5,x6,x7⟩:=CRow.cells h
 have hd:((r:Int) == (P.s:Int))=decide (r=P.s):=by rw [Bool.eq_iff_iff]; simp; try omega
 clear hm h
 unfold goesC
 by_cases e4:u.st=3
 ·have d4:decide (u.st≠3)=false:=decide_eq_false (by omega)
  rw [d4]
  rw [e4] at x4
  clear e4 d4
  go_enter Tryz.func149,Tryz.ntmps149
  go_wp2
  go_ret
  exact ⟨rfl,Below.refl _ _⟩
 ·have d4:decide (u.st≠3)=true:=decide_eq_true e4
  rw [d4]
  have q4:(u.st == 3)=false:=by simpa using e4
  clear d4
  go_enter Tryz.func149,Tryz.ntmps149
  go_wp2_with fail
  refine HS.out.mono ?_
  rintro e w1 ⟨rfl,hb⟩
  clear x0 x1 x2 x3 x4 x5 x6 x7
  obtain ⟨x0,x1,x2,x3,x4,x5,x6,x7⟩:=CRow.cells (HX.out.below hb hx)
  have HB:Hid (Below w.heap.size w w1):=hb
  clear hb
  go_wp2
  go_ret
  exact ⟨rfl,HB.out⟩
theorem mbegin_yes {w:World} {Z:Nat} {P:Cp} {u:Cu} {x:Value} (h:CAt w Z P u x) (hp:POk P) (hl:P.last=false) :
  Calls Tryz.prog 68 #[.pointer (some ⟨Z,0,none⟩)] w fun e w' => e = .returned (.int .i64 0) ∧ ∃ X,CAt w' Z P ⟨0,u.seen,u.stamp⟩ (ptr X)∧KAt w' X P (ckNew P)∧w.heap.size≤X∧Keep [Z] w w':=by
 have HC:Hid (∀ w,Calls Tryz.prog 66 #[.int .i64 (P.s:Int),.int .i64 P.z,.agg #[rdV P.rd 0,rdV P.rd 1,rdV P.rd 2,rdV P.rd 3,rdV P.rd 4,rdV P.rd 5,rdV P.rd 6,rdV P.rd 7],.bool false] w fun e w' => e = .returned (.tuple #[.pointer (some ⟨w.heap.size+1,0,none⟩),.int .i64 0])∧KAt w' (w.heap.size+1) P (ckNew P)∧Below w.heap.size w w'):=fun w=>by
  rw [rd_cells hp.rd.1,← hl]
  exact cnew_yes w hp
 have hx:Z < w.heap.size:=heap_lt h
 have HX:Hid (CAt w Z P u x):=h
 obtain ⟨x0,x1,x2,x3,x4,x5,x6,x7⟩:=CRow.cells h
 obtain ⟨y0,y1,y2,y3,y4,y5,y6,y7⟩:=CRow.reads h
 clear h hp hl
 unfold rdV at *
 generalize P.rd.getD 0 0=n0 at *
 generalize P.rd.getD 1 0=n1 at *
 generalize P.rd.getD 2 0=n2 at *
 generalize P.rd.getD 3 0=n3 at *
 generalize P.rd.getD 4 0=n4 at *
 generalize P.rd.getD 5 0=n5 at *
 generalize P.rd.getD 6 0=n6 at *
 generalize P.rd.getD 7 0=n7 at *
 go_enter Tryz.func68,Tryz.ntmps68
 go_wp2
 go_region_with ((go_at_call 66; refine (HC.out _).mono ?_; rintro e w1 ⟨rfl,hk1,hb1⟩))
 all_goals
  have hb:Below w.heap.size w w1:=by first | exact below_then (below_drawn (Below.refl _ _) 1) hb1 | exact hb1
  have HK1:Hid (KAt w1 (w.heap.size+1) P (ckNew P)∧CAt w1 Z P u x∧Keep [Z] w w1):=⟨hk1,HX.out.below hb hx,Keep.of_below hb _⟩
  clear x0 x1 x2 x3 x4 x5 x6 x7 y0 y1 y2 y3 y4 y5 y6 y7
  obtain ⟨x0,x1,x2,x3,x4,x5,x6,x7⟩:=CRow.cells (HX.out.below hb hx)
  obtain ⟨f0,f1,f2,f3⟩:=CRow.fz (HX.out.below hb hx)
  have hx1:Z < w1.heap.size:=Nat.lt_of_lt_of_le hx hb.size
  clear hk1 hb1 hb
  go_wp2
  have hc:=(cset (cset HK1.out.2.1 0 (ptr (w.heap.size+1))).2.1 0 (ptr 0)).1
  have hkk:Keep [Z] w1 ((w1.setCell ⟨Z,13,none⟩ (ptr (w.heap.size+1))).setCell ⟨Z,12,none⟩ (.int .i64 0)):=kkeep (kkeep (Keep.refl _ _) _ _) _ _
  go_ret
  exact ⟨rfl,w.heap.size+1,hc,HK1.out.1.keep hkk (by simp; omega),by omega,HK1.out.2.2.trans hkk (fun q hq=>Or.inl hq)⟩
def confC (raw s wr n:Int) (mu:Bool) (tr:Int) (v:Value):Value:=.agg #[.int .i64 raw,.int .i64 s,.int .i64 wr,.int .i64 n,.bool mu,.int .i64 tr,v]
theorem kbelow {w0 w w':World} {Z:Nat} (hb:Below w0.heap.size w0 w) (hz:w0.heap.size≤Z) (k:Keep [Z] w w'):Below w0.heap.size w0 w' :=
 hb.trans (k.below hb.size (fun q hq=>by simp at hq; omega))
theorem heap_alloc3_new (w:World) (a b o:Obj):(((w.alloc a).alloc b).alloc o).heap[w.heap.size+1+1]? = some o:=by
 have:=heap_alloc_new ((w.alloc a).alloc b) o
 simpa using this
theorem mnew_yes (w:World) {P:Cp} (hp:POk P) (hl:P.last=false) (h1:1≤P.ex.n) (h2:P.ex.n≤1099511627776) (raw wr tr:Int) (v:Value) :
  Calls Tryz.prog 52 #[confC raw (P.s:Int) wr P.ex.n P.ex.mu tr v,.int .i64 P.z,.agg #[rdV P.rd 0,rdV P.rd 1,rdV P.rd 2,rdV P.rd 3,rdV P.rd 4,rdV P.rd 5,rdV P.rd 6,rdV P.rd 7]] w fun e w' => ∃ Z X,e = .returned (.tuple #[.pointer (some ⟨Z,0,none⟩),.int .i64 0])∧w.heap.size≤Z∧w.heap.size≤X∧Z≠X∧CAt w' Z P cuNew (ptr X)∧KAt w' X P (ckNew P)∧Below w.heap.size w w':=by
 have HB:Hid (∀ w Z,CAt w Z P cuNew (.pointer none)→Calls Tryz.prog 68 #[.pointer (some ⟨Z,0,none⟩)] w fun e w' => e = .returned (.int .i64 0) ∧ ∃ X,CAt w' Z P cuNew (ptr X)∧KAt w' X P (ckNew P)∧w.heap.size≤X∧Keep [Z] w w'):=fun w Z h=>mbegin_yes h hp hl
 have HKA:Hid (∀ w Z,w.heap[Z]? = some (.cells #[.int .i64 (P.s:Int),.int .i64 P.ex.n,.bool P.ex.mu,.int .i64 P.z,rdV P.rd 0,rdV P.rd 1,rdV P.rd 2,rdV P.rd 3,rdV P.rd 4,rdV P.rd 5,rdV P.rd 6,rdV P.rd 7,.int .i64 0,.pointer none,.int .i64 0,.int .i64 0] 151 (0,0))→CAt w Z P cuNew (.pointer none)):=fun w Z h=>h
 have d1:decide (P.ex.n < 1)=false:=decide_eq_false (by omega)
 have d2:decide (1099511627776 < P.ex.n)=false:=decide_eq_false (by omega)
 unfold confC
 unfold rdV at *
 generalize P.rd.getD 0 0=n0 at *
 generalize P.rd.getD 1 0=n1 at *
 generalize P.rd.getD 2 0=n2 at *
 generalize P.rd.getD 3 0=n3 at *
 generalize P.rd.getD 4 0=n4 at *
 generalize P.rd.getD 5 0=n5 at *
 generalize P.rd.getD 6 0=n6 at *
 generalize P.rd.getD 7 0=n7 at *
 clear hp hl h1 h2
 go_enter Tryz.func52,Tryz.ntmps52
 go_wp2_with fail
 refine (HB.out _ _ (HKA.out _ _ (heap_alloc3_new _ _ _ _))).mono ?_
 rintro e w1 ⟨rfl,X,hc,hk,hX,hkp⟩
 have HE:Hid (w.heap.size≤X∧w.heap.size+1+1≠X∧CAt w1 (w.heap.size+1+1) P cuNew (ptr X)∧KAt w1 X P (ckNew P)∧Below w.heap.size w w1):=⟨by simp at hX; omega,by simp at hX; omega,hc,hk,kbelow (below_alloc (below_alloc (below_a1 _ _) _) _) (by omega) hkp⟩
 clear hc hk hX hkp
 go_wp2
 go_ret2
 exact ⟨_,X,rfl,by omega,HE.out⟩
theorem row_set {w:World} {Z B:Nat} {o:Obj} (hr:w.heap[B]? = some o) (hne:B≠Z) (i:Nat) (v:Value):(w.setCell ⟨Z,i,none⟩ v).heap[B]? = some o:=by
 rw [(kkeep (Keep.refl [Z] w) i v).block B (heap_lt hr) (by simpa using hne)]; exact hr
theorem mfin {w w3:World} {Z:Nat} {P:Cp} {u:Cu} {x:Value} (hc:CAt w3 Z P u x) (hx:Z < w.heap.size) (hk:Keep [Z] w w3) (k e v:Int) (y:Bool):CAt (laidW w3 w.heap.size k e v y) Z P u x∧Keep [Z] w (laidW w3 w.heap.size k e v y) :=
 ⟨hc.keep (keepWB k e v y) (by simp; omega),hk.trans (keepWB k e v y) (fun q hq=>by simp at hq; subst hq; exact Or.inr (Nat.le_refl _))⟩
def ans0:Obj:=.cells #[.int .i64 0,.int .i64 0,.int .i64 0,.bool false] 55
theorem mheld_any {w:World} {Z:Nat} {P:Cp} {u:Cu} {x:Value} (h:CAt w Z P u x) :
  Calls Tryz.prog 153 #[.pointer (some ⟨Z,0,none⟩)] w fun e w' => e = .returned (ansW (heldK P u.seen) (heldE P u.seen) 0 true)∧CAt w' Z P (heldU P u u.seen) x∧Keep [Z] w w':=by
 have HM:Hid (∀ w,Calls Tryz.prog 156 #[] w fun e w' => e = .returned (ansW 2 0 0 true)∧Below w.heap.size w w'):=moved_any
 have HX:Hid (CAt w Z P u x):=h
 obtain ⟨x0,x1,x2,x3,x4,x5,x6,x7⟩:=CRow.cells h
 obtain ⟨f0,f1,f2,f3⟩:=CRow.fz h
 have hx:Z < w.heap.size:=heap_lt h
 clear h
 unfold heldK heldE heldU spent
 obtain ⟨st,seen,stamp⟩:=u
 simp only at *
 generalize hmu:P.ex.mu=mu at *
 generalize hn:P.ex.n=n at *
 clear hmu hn
 unfold ansW at *
 by_cases c0:seen < 0
 ·have d0:decide (seen < 0)=true:=decide_eq_true c0
  rw [d0]
  simp only [Bool.true_or,if_true]
  go_enter Tryz.func153,Tryz.ntmps153
  go_wp2
  go_quiet (fail)
  go_wp2
  have hr0:((w.alloc ans0).drewN nq).heap[w.heap.size]? = some (.cells #[.int .i64 0,.int .i64 0,.int .i64 0,.bool false] 55 (0,0)):=heap_alloc_new _ _
  have hc0:CAt ((w.alloc ans0).drewN nq) Z P ⟨st,seen,stamp⟩ x:=HX.out.below (below_drawn (below_a1 w ans0) nq) hx
  have hc3:CAt (((w.alloc ans0).drewN nq).setCell ⟨Z,12,none⟩ (.int .i64 3)) Z P ⟨3,seen,stamp⟩ x:=(cset hc0 3 x).1
  exact ret_ans rfl rfl (ansW_set rfl (row_set hr0 (by omega) _ _) 4 6 0 true) rfl rfl ⟨rfl,mfin hc3 hx (kkeep (Keep.of_below (below_drawn (below_a1 w ans0) nq) _) _ _) 4 6 0 true⟩
 ·have d0:decide (seen < 0)=false:=decide_eq_false c0
  rw [d0]
  simp only [Bool.false_or]
  by_cases c1:n≤seen
  ·have d1:decide (n≤seen)=true:=decide_eq_true c1
   rw [d1]
   simp only [if_true]
   go_enter Tryz.func153,Tryz.ntmps153
   go_wp2
   go_quiet (fail)
   go_wp2
   have hr0:((w.alloc ans0).drewN nq).heap[w.heap.size]? = some (.cells #[.int .i64 0,.int .i64 0,.int .i64 0,.bool false] 55 (0,0)):=heap_alloc_new _ _
   have hc0:CAt ((w.alloc ans0).drewN nq) Z P ⟨st,seen,stamp⟩ x:=HX.out.below (below_drawn (below_a1 w ans0) nq) hx
   have hc3:CAt (((w.alloc ans0).drewN nq).setCell ⟨Z,12,none⟩ (.int .i64 3)) Z P ⟨3,seen,stamp⟩ x:=(cset hc0 3 x).1
   exact ret_ans rfl rfl (ansW_set rfl (row_set hr0 (by omega) _ _) 4 6 0 true) rfl rfl ⟨rfl,mfin hc3 hx (kkeep (Keep.of_below (below_drawn (below_a1 w ans0) nq) _) _ _) 4 6 0 true⟩
  ·have d1:decide (n≤seen)=false:=decide_eq_false c1
   rw [d1]
   simp only [Bool.false_eq_true,if_false]
   by_cases c2:seen=0
   ·subst c2
    cases mu
    ·simp only [and_self,if_true]
     go_enter Tryz.func153,Tryz.ntmps153
     go_wp2
     go_quiet (fail)
     go_wp2_with fail
     refine (HM.out _).mono ?_
     rintro e w1 ⟨rfl,hb1⟩
     have hr0:((w.alloc ans0).drewN nq).heap[w.heap.size]? = some (.cells #[.int .i64 0,.int .i64 0,.int .i64 0,.bool false] 55 (0,0)):=heap_alloc_new _ _
     have hc0:CAt ((w.alloc ans0).drewN nq) Z P ⟨st,0,stamp⟩ x:=HX.out.below (below_drawn (below_a1 w ans0) nq) hx
     have hc3:=show CAt ((((w.alloc ans0).drewN nq).setCell ⟨Z,12,none⟩ (.int .i64 1)).setCell ⟨Z,12,none⟩ (.int .i64 2)) Z P ⟨2,0,stamp⟩ x from (cset (show CAt (((w.alloc ans0).drewN nq).setCell ⟨Z,12,none⟩ (.int .i64 1)) Z P ⟨1,0,stamp⟩ x from (cset hc0 1 x).1) 2 x).1
     have hr3:=row_set (row_set hr0 (show w.heap.size≠Z by omega) 12 (.int .i64 1)) (show w.heap.size≠Z by omega) 12 (.int .i64 2)
     have hk3:Keep [Z] w _:=kkeep (kkeep (Keep.of_below (below_drawn (below_a1 w ans0) nq) _) 12 (.int .i64 1)) 12 (.int .i64 2)
     have HE:Hid (w1.heap[w.heap.size]? = some (.cells #[.int .i64 0,.int .i64 0,.int .i64 0,.bool false] 55 (0,0))∧CAt w1 Z P ⟨2,0,stamp⟩ x∧Keep [Z] w w1):=⟨row_on hr3 hb1,hc3.below hb1 (heap_lt hc3),hk3.trans (Keep.of_below hb1 []) (fun q hq=>by simp at hq)⟩
     obtain ⟨⟨a0,a1,a2,a3⟩,g0,g1,g2,g3⟩:=ans_cells HE.out.1
     have hB1:=heap_lt HE.out.1
     clear hr0 hc0 hc3 hr3 hk3 hb1
     go_wp2
     exact ret_ans rfl rfl (ansW_set rfl HE.out.1 2 0 0 true) rfl rfl ⟨rfl,mfin HE.out.2.1 hx HE.out.2.2 2 0 0 true⟩
    ·rw [if_neg (by simp)]
     go_enter Tryz.func153,Tryz.ntmps153
     go_wp2
     go_quiet (fail)
     go_wp2_with fail
     refine (HM.out _).mono ?_
     rintro e w1 ⟨rfl,hb1⟩
     have hr0:((w.alloc ans0).drewN nq).heap[w.heap.size]? = some (.cells #[.int .i64 0,.int .i64 0,.int .i64 0,.bool false] 55 (0,0)):=heap_alloc_new _ _
     have hc0:CAt ((w.alloc ans0).drewN nq) Z P ⟨st,0,stamp⟩ x:=HX.out.below (below_drawn (below_a1 w ans0) nq) hx
     have hc3:=show CAt (((w.alloc ans0).drewN nq).setCell ⟨Z,12,none⟩ (.int .i64 1)) Z P ⟨1,0,stamp⟩ x from (cset hc0 1 x).1
     have hr3:=row_set hr0 (show w.heap.size≠Z by omega) 12 (.int .i64 1)
     have hk3:Keep [Z] w _:=kkeep (Keep.of_below (below_drawn (below_a1 w ans0) nq) _) 12 (.int .i64 1)
     have HE:Hid (w1.heap[w.heap.size]? = some (.cells #[.int .i64 0,.int .i64 0,.int .i64 0,.bool false] 55 (0,0))∧CAt w1 Z P ⟨1,0,stamp⟩ x∧Keep [Z] w w1):=⟨row_on hr3 hb1,hc3.below hb1 (heap_lt hc3),hk3.trans (Keep.of_below hb1 []) (fun q hq=>by simp at hq)⟩
     obtain ⟨⟨a0,a1,a2,a3⟩,g0,g1,g2,g3⟩:=ans_cells HE.out.1
     have hB1:=heap_lt HE.out.1
     clear hr0 hc0 hc3 hr3 hk3 hb1
     go_wp2
     exact ret_ans rfl rfl (ansW_set rfl HE.out.1 2 0 0 true) rfl rfl ⟨rfl,mfin HE.out.2.1 hx HE.out.2.2 2 0 0 true⟩
   ·have d2:(seen == 0)=false:=by simpa using c2
    rw [if_neg (fun hc=>c2 hc.1)]
    go_enter Tryz.func153,Tryz.ntmps153
    go_wp2
    go_quiet (fail)
    go_wp2_with fail
    refine (HM.out _).mono ?_
    rintro e w1 ⟨rfl,hb1⟩
    have hr0:((w.alloc ans0).drewN nq).heap[w.heap.size]? = some (.cells #[.int .i64 0,.int .i64 0,.int .i64 0,.bool false] 55 (0,0)):=heap_alloc_new _ _
    have hc0:CAt ((w.alloc ans0).drewN nq) Z P ⟨st,seen,stamp⟩ x:=HX.out.below (below_drawn (below_a1 w ans0) nq) hx
    have hc3:=show CAt (((w.alloc ans0).drewN nq).setCell ⟨Z,12,none⟩ (.int .i64 1)) Z P ⟨1,seen,stamp⟩ x from (cset hc0 1 x).1
    have hr3:=row_set hr0 (show w.heap.size≠Z by omega) 12 (.int .i64 1)
    have hk3:Keep [Z] w _:=kkeep (Keep.of_below (below_drawn (below_a1 w ans0) nq) _) 12 (.int .i64 1)
    have HE:Hid (w1.heap[w.heap.size]? = some (.cells #[.int .i64 0,.int .i64 0,.int .i64 0,.bool false] 55 (0,0))∧CAt w1 Z P ⟨1,seen,stamp⟩ x∧Keep [Z] w w1):=⟨row_on hr3 hb1,hc3.below hb1 (heap_lt hc3),hk3.trans (Keep.of_below hb1 []) (fun q hq=>by simp at hq)⟩
    obtain ⟨⟨a0,a1,a2,a3⟩,g0,g1,g2,g3⟩:=ans_cells HE.out.1
    have hB1:=heap_lt HE.out.1
    clear hr0 hc0 hc3 hr3 hk3 hb1
    go_wp2
    exact ret_ans rfl rfl (ansW_set rfl HE.out.1 2 0 0 true) rfl rfl ⟨rfl,mfin HE.out.2.1 hx HE.out.2.2 2 0 0 true⟩
def hdA (st:Int) (s:Nat):Ad:=⟨2,slotV st s,0⟩
theorem hdA_is {c:Nat} {P:Cp} (hp:POk P) (st:Int):isAd c P.s (hdA st P.s)=true:=by
 obtain ⟨h1,h2⟩:=slotV_bd st P.s (sizeOk_iff.mpr ⟨by have:=hp.s1; omega,by have:=hp.s16; omega⟩)
 unfold hdA
 simp [isAd,h1,h2]
theorem mhead_any {w:World} {base:Nat} {p:Value} {c:Nat} {L:List Ac} {F:List Nat} {X Z:Nat} {P:Cp} {b:Ck} {u:Cu} (h:CS w base p c P.s L F X Z P b u) (hp:POk P) (hb:base≤w.heap.size) (hL:L.length < 3298534883328) (t st:Int) :
  Calls Tryz.prog 158 #[.pointer (some ⟨Z, 0, none⟩), p, .int .i64 t, .int .i64 st] w fun e w' => e = .returned (.int .i64 (wordOf L (hdA st P.s))) ∧ ∃ F', MemAt w' base p c P.s (loadL c P.s L t (hdA st P.s)) F' ∧ Next F F' w w' := by
 have HL : Hid (∀ w', Below w.heap.size w w' → Calls Tryz.prog 110 #[p, .int .i64 t, .agg #[.int .i64 2, .int .i64 (slotV st P.s), .int .i64 0]] w' fun e w'' => e = .returned (.tuple #[.int .i64 (wordOf L (hdA st P.s)), .int .i64 0]) ∧ ∃ F', MemAt w'' base p c P.s (loadL c P.s L t (hdA st P.s)) F' ∧ Next F F' w w'') := fun w' hb' => by
  have:=load_any (h.ks.mem.below hb') (Nat.le_trans hb hb'.size) hL t (hdA st P.s)
  rw [if_pos (hdA_is hp st),if_pos (hdA_is hp st)] at this
  refine this.mono ?_
  rintro e w'' ⟨rfl, F', h1, h2⟩
  exact ⟨rfl, F', h1, (Next.of_below hb' _).trans h2⟩
 have HSL:Hid (∀ w,Calls Tryz.prog 91 #[.int .i64 st,.int .i64 (P.s:Int)] w fun e w' => e = .returned (.int .i64 (slotV st P.s))∧w'=w):=slot_any st P.s
 obtain ⟨x0,x1,x2,x3,x4,x5,x6,x7⟩:=CRow.cells h.cm
 obtain ⟨M,rfl⟩:=h.ks.mem.ptr
 clear h hp
 generalize wordOf L (hdA st P.s)=v at *
 generalize loadL c P.s L t (hdA st P.s)=L' at *
 generalize slotV st P.s=sl at *
 go_enter Tryz.func158,Tryz.ntmps158
 go_wp2_with fail
 refine (HSL.out _).mono ?_
 rintro e w1 ⟨rfl,rfl⟩
 go_wp2_with fail
 refine (HL.out _ (Below.refl _ _)).mono ?_
 rintro e w2 ⟨rfl, F', hm2, hn2⟩
 have HE:Hid (MemAt w2 base (.pointer (some ⟨M,0,none⟩)) c P.s L' F'∧Next F F' _ w2):=⟨hm2,hn2⟩
 clear hm2 hn2
 go_wp2
 go_ret
 exact ⟨rfl, F', HE.out⟩
theorem CS.onMem {w w':World} {base:Nat} {p:Value} {c r:Nat} {L L':List Ac} {F F':List Nat} {X Z:Nat} {P:Cp} {b:Ck} {u:Cu} (h:CS w base p c r L F X Z P b u) (hm:MemAt w' base p c r L' F') (hn:Next F F' w w'):CS w' base p c r L' F' X Z P b u :=
 h.onKS (h.ks.onMem hm hn) (nextX hn)
theorem mnone_any {w:World} {base:Nat} {p:Value} {c:Nat} {L:List Ac} {F:List Nat} {X Z:Nat} {P:Cp} {b:Ck} {u:Cu} (h:CS w base p c P.s L F X Z P b u) (hp:POk P) (hb:base≤w.heap.size) (hL:L.length < 3298534883328) (t:Int) :
  Calls Tryz.prog 154 #[.pointer (some ⟨Z, 0, none⟩), p, .int .i64 t] w fun e w' => e = .returned (.bool (overV (wordOf L (hdA u.seen P.s)) u.seen)) ∧ ∃ F', CS w' base p c P.s (loadL c P.s L t (hdA u.seen P.s)) F' X Z P b u ∧ Next F F' w w' := by
 have HH : Hid (∀ w', Below w.heap.size w w' → Calls Tryz.prog 158 #[.pointer (some ⟨Z, 0, none⟩), p, .int .i64 t, .int .i64 u.seen] w' fun e w'' => e = .returned (.int .i64 (wordOf L (hdA u.seen P.s))) ∧ w''.cell? ⟨Z, 14, none⟩ = some (.int .i64 u.seen) ∧ ∃ F', CS w'' base p c P.s (loadL c P.s L t (hdA u.seen P.s)) F' X Z P b u ∧ Next F F' w w'') := fun w' hb' => by
  refine (mhead_any (h.below hb') hp (Nat.le_trans hb hb'.size) hL t u.seen).mono ?_
  rintro e w'' ⟨rfl, F', h1, h2⟩
  have h3:=(h.below hb').onMem h1 h2
  exact ⟨rfl, (CRow.cells h3.cm).2.2.2.2.2.2.1, F', h3, (Next.of_below hb' _).trans h2⟩
 have HO:Hid (∀ w,Calls Tryz.prog 102 #[.int .i64 (wordOf L (hdA u.seen P.s)),.int .i64 u.seen] w fun e w' => e = .returned (.bool (overV (wordOf L (hdA u.seen P.s)) u.seen))∧w'=w):=over_any _ _
 obtain ⟨x0,x1,x2,x3,x4,x5,x6,x7⟩:=CRow.cells h.cm
 obtain ⟨M,rfl⟩:=h.ks.mem.ptr
 clear h hp
 generalize overV (wordOf L (hdA u.seen P.s)) u.seen=ov at *
 generalize wordOf L (hdA u.seen P.s)=v at *
 generalize loadL c P.s L t (hdA u.seen P.s)=L' at *
 go_enter Tryz.func154,Tryz.ntmps154
 go_wp2
 go_region_with ((first | (go_at_call 158; refine (HH.out _ (below_drawn (Below.refl _ _) 1)).mono ?_; rintro e w2 ⟨rfl, c2, F', hm2, hn2⟩) | (go_at_call 102; refine (HO.out _).mono ?_; rintro e w' ⟨rfl, rfl⟩)))
 all_goals
  go_wp2
  go_ret
  exact ⟨rfl, F', hm2, hn2⟩
theorem mfree_any {w:World} {base:Nat} {p:Value} {c:Nat} {L:List Ac} {F:List Nat} {X Z:Nat} {P:Cp} {b:Ck} {u:Cu} (h:CS w base p c P.s L F X Z P b u) (hp:POk P) (hb:base≤w.heap.size) (hL:L.length < 3298534883328) (h0:0≤u.seen) (h1:u.seen < 1099511627776) (t:Int) :
  Calls Tryz.prog 155 #[.pointer (some ⟨Z, 0, none⟩), p, .int .i64 t] w fun e w' => e = .returned (.bool (freeV (wordOf L (hdA (u.seen + 1) P.s)) (u.seen + 1) P.s)) ∧ ∃ F', CS w' base p c P.s (loadL c P.s L t (hdA (u.seen + 1) P.s)) F' X Z P b u ∧ Next F F' w w' := by
 have HH : Hid (∀ w', Below w.heap.size w w' → Calls Tryz.prog 158 #[.pointer (some ⟨Z, 0, none⟩), p, .int .i64 t, .int .i64 (u.seen + 1)] w' fun e w'' => e = .returned (.int .i64 (wordOf L (hdA (u.seen + 1) P.s))) ∧ w''.cell? ⟨Z, 0, none⟩ = some (.int .i64 (P.s : Int)) ∧ ∃ F', CS w'' base p c P.s (loadL c P.s L t (hdA (u.seen + 1) P.s)) F' X Z P b u ∧ Next F F' w w'') := fun w' hb' => by
  refine (mhead_any (h.below hb') hp (Nat.le_trans hb hb'.size) hL t (u.seen+1)).mono ?_
  rintro e w'' ⟨rfl, F', h1, h2⟩
  have h3:=(h.below hb').onMem h1 h2
  exact ⟨rfl, (CRow.cells h3.cm).1, F', h3, (Next.of_below hb' _).trans h2⟩
 have HO:Hid (∀ w,Calls Tryz.prog 159 #[.int .i64 (wordOf L (hdA (u.seen+1) P.s)),.int .i64 (u.seen+1),.int .i64 (P.s:Int)] w fun e w' => e = .returned (.bool (freeV (wordOf L (hdA (u.seen+1) P.s)) (u.seen+1) P.s))∧w'=w):=free_any _ _ _ (by omega) (by omega)
 have hw:wrap64 (u.seen+1)=u.seen+1:=by unfold wrap64; omega
 obtain ⟨x0,x1,x2,x3,x4,x5,x6,x7⟩:=CRow.cells h.cm
 obtain ⟨M,rfl⟩:=h.ks.mem.ptr
 clear h hp
 generalize freeV (wordOf L (hdA (u.seen+1) P.s)) (u.seen+1) P.s=ov at *
 generalize wordOf L (hdA (u.seen+1) P.s)=v at *
 generalize loadL c P.s L t (hdA (u.seen+1) P.s)=L' at *
 go_enter Tryz.func155,Tryz.ntmps155
 go_wp2
 go_region_with ((first | (go_at_call 158; refine (HH.out _ (by first | exact below_drawn (Below.refl _ _) 1 | exact Below.refl _ _)).mono ?_; rintro e w2 ⟨rfl, c2, F', hm2, hn2⟩) | (go_at_call 159; refine (HO.out _).mono ?_; rintro e w' ⟨rfl, rfl⟩)))
 all_goals
  go_wp2
  go_ret
  exact ⟨rfl, F', hm2, hn2⟩
theorem mlook_one {w:World} {base:Nat} {p:Value} {c:Nat} {L:List Ac} {F:List Nat} {X Z:Nat} {P:Cp} {b:Ck} {u:Cu} (h:CS w base p c P.s L F X Z P b u) (hp:POk P) (hb:base≤w.heap.size) (hL:L.length < 3298534883328) (hm:P.ex.mu=false) (t:Int) :
  Calls Tryz.prog 151 #[.pointer (some ⟨Z, 0, none⟩), p, .int .i64 t] w fun e w' => e = .returned (ansW (if looksY P u L then 2 else 1) 0 0 true) ∧ ∃ F', CS w' base p c P.s (loadL c P.s L t (lookA P u)) F' X Z P b (lookU P u L) ∧ Next (Z :: X :: F) (Z :: X :: F') w w' := by
 have HR : Hid (∀ w', Below w.heap.size w w' → Calls Tryz.prog 154 #[.pointer (some ⟨Z, 0, none⟩), p, .int .i64 t] w' fun e w'' => e = .returned (.bool (looksY P u L)) ∧ ∃ F', CS w'' base p c P.s (loadL c P.s L t (lookA P u)) F' X Z P b u ∧ Next (Z :: X :: F) (Z :: X :: F') w' w'') := fun w' hb' => by
  unfold looksY lookY
  rw [show lookA P u=hdA u.seen P.s by unfold lookA lookS hdA; rw [if_neg (by simp [hm])],if_neg (by simp [hm])]
  refine (mnone_any (h.below hb') hp (Nat.le_trans hb hb'.size) hL t).mono ?_
  rintro e w'' ⟨rfl, F', h1, h2⟩
  exact ⟨rfl, F', h1, nextX (nextX h2)⟩
 have HM:Hid (∀ w,Calls Tryz.prog 156 #[] w fun e w' => e = .returned (.agg #[.int .i64 2,.int .i64 0,.int .i64 0,.bool true])∧Below w.heap.size w w'):=moved_any
 have hmf : ∀ (fn:Fn) (first cap:Array Value) (w:World),(Instr.makeFunc fn first cap).run Tryz.prog w = .ok (.func fn first cap) w:=fun _ _ _ _=>rfl
 obtain ⟨x0,x1,x2,x3,x4,x5,x6,x7⟩:=CRow.cells h.cm
 rw [hm] at x2
 have HLT:Hid (∀ q ∈ Z :: X :: F,q < w.heap.size):=fun q hq=>(h.lt q hq).2
 have hx:Z < w.heap.size:=heap_lt h.cm
 obtain ⟨M,rfl⟩:=h.ks.mem.ptr
 unfold lookU ansW
 generalize looksY P u L=yy at *
 generalize loadL c P.s L t (lookA P u)=L' at *
 clear h hp hm
 cases yy
 ·rw [if_neg (by simp),if_neg (by simp)]
  go_enter Tryz.func151,Tryz.ntmps151
  go_wp2_with fail
  refine (HR.out _ (below_a1 _ _)).mono ?_
  rintro e w1 ⟨rfl, F', h1, n1⟩
  obtain ⟨r1,o1,nn1⟩:=nx_row HLT.out (below_a1 _ _) (heap_alloc_new _ _) n1
  have HE:Hid (w1.heap[w.heap.size]? = some (.cells #[.int .i64 0,.int .i64 0,.int .i64 0,.bool false] 55 (0,0))∧CS w1 base (.pointer (some ⟨M,0,none⟩)) c P.s L' F' X Z P b u∧w.heap.size ∉ Z :: X :: F'∧Next (Z :: X :: F) (Z :: X :: F') w w1):=⟨r1,h1,o1,nn1⟩
  obtain ⟨⟨a0,a1,a2,a3⟩,g0,g1,g2,g3⟩:=ans_cells r1
  have hB1:=heap_lt r1
  clear x0 x1 x2 x3 x4 x5 x6 x7 h1 n1 r1 o1 nn1
  go_wp2
  exact ret_ans rfl rfl (ansW_set rfl HE.out.1 1 0 0 true) rfl rfl ⟨rfl, F', cs_other HE.out.2.1 HE.out.2.2.1 (Nat.le_refl _) HE.out.2.2.2 (keepWB 1 0 0 true)⟩
 ·rw [if_pos rfl,if_pos rfl]
  go_enter Tryz.func151,Tryz.ntmps151
  go_wp2_with fail
  refine (HR.out _ (below_a1 _ _)).mono ?_
  rintro e w1 ⟨rfl, F', h1, n1⟩
  obtain ⟨r1,o1,nn1⟩:=nx_row HLT.out (below_a1 _ _) (heap_alloc_new _ _) n1
  have HE:Hid (w1.heap[w.heap.size]? = some (.cells #[.int .i64 0,.int .i64 0,.int .i64 0,.bool false] 55 (0,0))∧CS w1 base (.pointer (some ⟨M,0,none⟩)) c P.s L' F' X Z P b u∧w.heap.size ∉ Z :: X :: F'∧Next (Z :: X :: F) (Z :: X :: F') w w1):=⟨r1,h1,o1,nn1⟩
  clear x0 x1 x2 x3 x4 x5 x6 x7
  obtain ⟨x0,x1,x2,x3,x4,x5,x6,x7⟩:=CRow.cells h1.cm
  obtain ⟨f0,f1,f2,f3⟩:=CRow.fz h1.cm
  have hx1:Z < w1.heap.size:=heap_lt h1.cm
  have hB1:=heap_lt r1
  clear h1 n1 r1 o1 nn1
  go_wp2_with fail
  refine (HM.out _).mono ?_
  rintro e w2 ⟨rfl,hb2⟩
  have hne:w.heap.size≠Z:=fun e=>HE.out.2.2.1 (by simp [e])
  have hc2:=HE.out.2.1.onZ (show CAt (w1.setCell ⟨Z,12,none⟩ (.int .i64 2)) Z P ⟨2,u.seen,u.stamp⟩ (ptr X) from (cset HE.out.2.1.cm 2 (ptr X)).1) (kkeep (Keep.refl _ _) _ _)
  have HE2:Hid (w2.heap[w.heap.size]? = some (.cells #[.int .i64 0,.int .i64 0,.int .i64 0,.bool false] 55 (0,0))∧CS w2 base (.pointer (some ⟨M,0,none⟩)) c P.s L' F' X Z P b ⟨2,u.seen,u.stamp⟩∧w.heap.size ∉ Z :: X :: F'∧Next (Z :: X :: F) (Z :: X :: F') w w2):=⟨row_on (row_set HE.out.1 hne 12 (.int .i64 2)) hb2,hc2.1.below hb2,HE.out.2.2.1,(HE.out.2.2.2.trans hc2.2).trans (Next.of_below hb2 _)⟩
  obtain ⟨⟨a0,a1,a2,a3⟩,g0,g1,g2,g3⟩:=ans_cells HE2.out.1
  have hB2:=heap_lt HE2.out.1
  clear x0 x1 x2 x3 x4 x5 x6 x7 f0 f1 f2 f3 hb2 hc2 hB1 hx1
  go_wp2
  exact ret_ans rfl rfl (ansW_set rfl HE2.out.1 2 0 0 true) rfl rfl ⟨rfl, F', cs_other HE2.out.2.1 HE2.out.2.2.1 (Nat.le_refl _) HE2.out.2.2.2 (keepWB 2 0 0 true)⟩
theorem mlook_multi {w:World} {base:Nat} {p:Value} {c:Nat} {L:List Ac} {F:List Nat} {X Z:Nat} {P:Cp} {b:Ck} {u:Cu} (h:CS w base p c P.s L F X Z P b u) (hp:POk P) (hb:base≤w.heap.size) (hL:L.length < 3298534883328) (h0:0≤u.seen) (h2:u.seen < 1099511627776) (hm:P.ex.mu=true) (t:Int) :
  Calls Tryz.prog 151 #[.pointer (some ⟨Z, 0, none⟩), p, .int .i64 t] w fun e w' => e = .returned (ansW (if looksY P u L then 2 else 1) 0 0 true) ∧ ∃ F', CS w' base p c P.s (loadL c P.s L t (lookA P u)) F' X Z P b (lookU P u L) ∧ Next (Z :: X :: F) (Z :: X :: F') w w' := by
 have HR : Hid (∀ w', Below w.heap.size w w' → Calls Tryz.prog 155 #[.pointer (some ⟨Z, 0, none⟩), p, .int .i64 t] w' fun e w'' => e = .returned (.bool (looksY P u L)) ∧ ∃ F', CS w'' base p c P.s (loadL c P.s L t (lookA P u)) F' X Z P b u ∧ Next (Z :: X :: F) (Z :: X :: F') w' w'') := fun w' hb' => by
  unfold looksY lookY
  rw [show lookA P u=hdA (u.seen+1) P.s by unfold lookA lookS hdA; rw [if_pos hm],if_pos hm]
  refine (mfree_any (h.below hb') hp (Nat.le_trans hb hb'.size) hL h0 h2 t).mono ?_
  rintro e w'' ⟨rfl, F', h1, h2⟩
  exact ⟨rfl, F', h1, nextX (nextX h2)⟩
 have HM:Hid (∀ w,Calls Tryz.prog 156 #[] w fun e w' => e = .returned (.agg #[.int .i64 2,.int .i64 0,.int .i64 0,.bool true])∧Below w.heap.size w w'):=moved_any
 have hmf : ∀ (fn:Fn) (first cap:Array Value) (w:World),(Instr.makeFunc fn first cap).run Tryz.prog w = .ok (.func fn first cap) w:=fun _ _ _ _=>rfl
 obtain ⟨x0,x1,x2,x3,x4,x5,x6,x7⟩:=CRow.cells h.cm
 rw [hm] at x2
 have HLT:Hid (∀ q ∈ Z :: X :: F,q < w.heap.size):=fun q hq=>(h.lt q hq).2
 have hx:Z < w.heap.size:=heap_lt h.cm
 obtain ⟨M,rfl⟩:=h.ks.mem.ptr
 unfold lookU ansW
 generalize looksY P u L=yy at *
 generalize loadL c P.s L t (lookA P u)=L' at *
 clear h hp hm h0 h2
 cases yy
 ·rw [if_neg (by simp),if_neg (by simp)]
  go_enter Tryz.func151,Tryz.ntmps151
  go_wp2_with fail
  refine (HR.out _ (below_a1 _ _)).mono ?_
  rintro e w1 ⟨rfl, F', h1, n1⟩
  obtain ⟨r1,o1,nn1⟩:=nx_row HLT.out (below_a1 _ _) (heap_alloc_new _ _) n1
  have HE:Hid (w1.heap[w.heap.size]? = some (.cells #[.int .i64 0,.int .i64 0,.int .i64 0,.bool false] 55 (0,0))∧CS w1 base (.pointer (some ⟨M,0,none⟩)) c P.s L' F' X Z P b u∧w.heap.size ∉ Z :: X :: F'∧Next (Z :: X :: F) (Z :: X :: F') w w1):=⟨r1,h1,o1,nn1⟩
  obtain ⟨⟨a0,a1,a2,a3⟩,g0,g1,g2,g3⟩:=ans_cells r1
  have hB1:=heap_lt r1
  clear x0 x1 x2 x3 x4 x5 x6 x7 h1 n1 r1 o1 nn1
  go_wp2
  exact ret_ans rfl rfl (ansW_set rfl HE.out.1 1 0 0 true) rfl rfl ⟨rfl, F', cs_other HE.out.2.1 HE.out.2.2.1 (Nat.le_refl _) HE.out.2.2.2 (keepWB 1 0 0 true)⟩
 ·rw [if_pos rfl,if_pos rfl]
  go_enter Tryz.func151,Tryz.ntmps151
  go_wp2_with fail
  refine (HR.out _ (below_a1 _ _)).mono ?_
  rintro e w1 ⟨rfl, F', h1, n1⟩
  obtain ⟨r1,o1,nn1⟩:=nx_row HLT.out (below_a1 _ _) (heap_alloc_new _ _) n1
  have HE:Hid (w1.heap[w.heap.size]? = some (.cells #[.int .i64 0,.int .i64 0,.int .i64 0,.bool false] 55 (0,0))∧CS w1 base (.pointer (some ⟨M,0,none⟩)) c P.s L' F' X Z P b u∧w.heap.size ∉ Z :: X :: F'∧Next (Z :: X :: F) (Z :: X :: F') w w1):=⟨r1,h1,o1,nn1⟩
  clear x0 x1 x2 x3 x4 x5 x6 x7
  obtain ⟨x0,x1,x2,x3,x4,x5,x6,x7⟩:=CRow.cells h1.cm
  obtain ⟨f0,f1,f2,f3⟩:=CRow.fz h1.cm
  have hx1:Z < w1.heap.size:=heap_lt h1.cm
  have hB1:=heap_lt r1
  clear h1 n1 r1 o1 nn1
  go_wp2_with fail
  refine (HM.out _).mono ?_
  rintro e w2 ⟨rfl,hb2⟩
  have hne:w.heap.size≠Z:=fun e=>HE.out.2.2.1 (by simp [e])
  have hc2:=HE.out.2.1.onZ (show CAt (w1.setCell ⟨Z,12,none⟩ (.int .i64 2)) Z P ⟨2,u.seen,u.stamp⟩ (ptr X) from (cset HE.out.2.1.cm 2 (ptr X)).1) (kkeep (Keep.refl _ _) _ _)
  have HE2:Hid (w2.heap[w.heap.size]? = some (.cells #[.int .i64 0,.int .i64 0,.int .i64 0,.bool false] 55 (0,0))∧CS w2 base (.pointer (some ⟨M,0,none⟩)) c P.s L' F' X Z P b ⟨2,u.seen,u.stamp⟩∧w.heap.size ∉ Z :: X :: F'∧Next (Z :: X :: F) (Z :: X :: F') w w2):=⟨row_on (row_set HE.out.1 hne 12 (.int .i64 2)) hb2,hc2.1.below hb2,HE.out.2.2.1,(HE.out.2.2.2.trans hc2.2).trans (Next.of_below hb2 _)⟩
  obtain ⟨⟨a0,a1,a2,a3⟩,g0,g1,g2,g3⟩:=ans_cells HE2.out.1
  have hB2:=heap_lt HE2.out.1
  clear x0 x1 x2 x3 x4 x5 x6 x7 f0 f1 f2 f3 hb2 hc2 hB1 hx1
  go_wp2
  exact ret_ans rfl rfl (ansW_set rfl HE2.out.1 2 0 0 true) rfl rfl ⟨rfl, F', cs_other HE2.out.2.1 HE2.out.2.2.1 (Nat.le_refl _) HE2.out.2.2.2 (keepWB 2 0 0 true)⟩
theorem mlook_any {w:World} {base:Nat} {p:Value} {c:Nat} {L:List Ac} {F:List Nat} {X Z:Nat} {P:Cp} {b:Ck} {u:Cu} (h:CS w base p c P.s L F X Z P b u) (hp:POk P) (hb:base≤w.heap.size) (hL:L.length < 3298534883328) (h0:0≤u.seen) (h2:u.seen < 1099511627776) (t:Int) :
  Calls Tryz.prog 151 #[.pointer (some ⟨Z, 0, none⟩), p, .int .i64 t] w fun e w' => e = .returned (ansW (if looksY P u L then 2 else 1) 0 0 true) ∧ ∃ F', CS w' base p c P.s (loadL c P.s L t (lookA P u)) F' X Z P b (lookU P u L) ∧ Next (Z :: X :: F) (Z :: X :: F') w w' := by
 cases hm:P.ex.mu
 ·exact mlook_one h hp hb hL hm t
 ·exact mlook_multi h hp hb hL h0 h2 hm t
theorem kstep_w {w:World} {base:Nat} {p:Value} {c r:Nat} {L:List Ac} {F:List Nat} {X:Nat} {P:Cp} {b:Ck} {n:Nat} (h:KS w base p c r L F X P b) (hb:base≤w.heap.size) (hL:L.length < 3298534883328) (hk:KOk P b n) (hg:goesK r P b=true) (hv:W64 (wordOf L (adK P b))) (t:Int) :
  Calls Tryz.prog 136 #[.pointer (some ⟨X, 0, none⟩), p, .int .i64 t] w fun e w' => e = .returned (ansW (ansKK r P b L) (errKK r P b L) 0 true) ∧ ∃ F', KS w' base p c r (nextKL c r P b L t) F' X P (nextK r P b L) ∧ Next (X :: F) (X :: F') w w' := by
 unfold ansKK errKK nextKL nextK
 rw [if_pos hg,if_pos hg,if_pos hg,if_pos hg]
 obtain ⟨h2,rfl⟩:=goesK_iff.mp hg
 refine (cstep_some ⟨h.mem,h.at_,h.out,h.lo⟩ hb hL hk h2 hv t).mono ?_
 rintro e w' ⟨rfl, F', h3, h4⟩
 exact ⟨rfl, F', ⟨h3.mem, h3.at_, h3.out, h3.lo⟩, h4⟩
theorem mhold_any {w:World} {base:Nat} {p:Value} {c r:Nat} {L:List Ac} {F:List Nat} {X Z:Nat} {P:Cp} {b:Ck} {u:Cu} {n:Nat} (h:CS w base p c r L F X Z P b u) (hb:base≤w.heap.size) (hL:L.length < 3298534883328) (hk:KOk P b n) (hg:goesK r P b=true) (hv:W64 (wordOf L (adK P b))) (t:Int) :
  Calls Tryz.prog 150 #[.pointer (some ⟨Z, 0, none⟩), p, .int .i64 t] w fun e w' => e = .returned (ansW (holdA r P b L) (holdE r P b L) 0 true) ∧ ∃ F', CS w' base p c r (nextKL c r P b L t) F' X Z P (nextK r P b L) (holdU r P b u L) ∧ Next (Z :: X :: F) (Z :: X :: F') w w' := by
 have HK : Hid (∀ w', Below w.heap.size w w' → Calls Tryz.prog 136 #[.pointer (some ⟨X, 0, none⟩), p, .int .i64 t] w' fun e w'' => e = .returned (.agg #[.int .i64 (ansKK r P b L), .int .i64 (errKK r P b L), .int .i64 0, .bool true]) ∧ ∃ F', CS w'' base p c r (nextKL c r P b L t) F' X Z P (nextK r P b L) u ∧ Next (Z :: X :: F) (Z :: X :: F') w' w'') := fun w' hb' => by
  refine (kstep_w (h.below hb').ks (Nat.le_trans hb hb'.size) hL hk hg hv t).mono ?_
  rintro e w'' ⟨rfl, F', h1, h2⟩
  exact ⟨rfl, F', (h.below hb').onKS h1 h2, nextX h2⟩
 have HA:Hid (ansKK r P b L=3→(nextK r P b L).st=4):=(ansKK_go (L:=L) hg).2.1
 have HS : Hid (ansKK r P b L = 3 → ∀ w F' L', CS w base p c r L' F' X Z P (nextK r P b L) u → Calls Tryz.prog 70 #[.pointer (some ⟨X, 0, none⟩)] w fun e w' => e = .returned (.tuple #[.int .i64 (nextK r P b L).comp, .int .i64 (nextK r P b L).seen, .bool true]) ∧ Below w.heap.size w w') := fun h3 w F' L' hc => by
  have:=cstart_any hc.ks.at_
  rw [HA.out h3] at this
  exact this
 have HD:Hid (∀ w v,CAt w Z P ⟨u.st,v,u.stamp⟩ (ptr X)→Calls Tryz.prog 153 #[.pointer (some ⟨Z,0,none⟩)] w fun e w' => e = .returned (.agg #[.int .i64 (heldK P v),.int .i64 (heldE P v),.int .i64 0,.bool true])∧CAt w' Z P (heldU P u v) (ptr X)∧Keep [Z] w w'):=fun w v hc=>mheld_any hc
 obtain ⟨x0,x1,x2,x3,x4,x5,x6,x7⟩:=CRow.cells h.cm
 unfold ptr at x5
 have HLT:Hid (∀ q ∈ Z :: X :: F,q < w.heap.size):=fun q hq=>(h.lt q hq).2
 have hx:Z < w.heap.size:=heap_lt h.cm
 have hX:X < w.heap.size:=heap_lt h.ks.at_
 obtain ⟨M,rfl⟩:=h.ks.mem.ptr
 unfold holdA holdE holdU ansW
 clear HA h hk hg hv
 generalize ansKK r P b L=kk at *
 generalize errKK r P b L=ee at *
 generalize nextKL c r P b L t=L' at *
 generalize nextK r P b L=b' at *
 by_cases k3:kk=3
 ·subst k3
  have HS2:=HS.out rfl
  clear HS
  rw [if_pos rfl,if_pos rfl,if_neg (by omega),if_pos rfl]
  go_enter Tryz.func150,Tryz.ntmps150
  go_wp2_with fail
  refine (HK.out _ (below_a1 _ _)).mono ?_
  rintro e w1 ⟨rfl, F', h1, n1⟩
  obtain ⟨r1,o1,nn1⟩:=nx_row HLT.out (below_a1 _ _) (heap_alloc_new _ _) n1
  have HE:Hid (w1.heap[w.heap.size]? = some (.cells #[.int .i64 0,.int .i64 0,.int .i64 0,.bool false] 55 (0,0))∧CS w1 base (.pointer (some ⟨M,0,none⟩)) c r L' F' X Z P b' u∧w.heap.size ∉ Z :: X :: F'∧Next (Z :: X :: F) (Z :: X :: F') w w1):=⟨r1,h1,o1,nn1⟩
  clear x0 x1 x2 x3 x4 x5 x6 x7
  obtain ⟨x0,x1,x2,x3,x4,x5,x6,x7⟩:=CRow.cells h1.cm
  unfold ptr at x5
  obtain ⟨f0,f1,f2,f3⟩:=CRow.fz h1.cm
  have hx1:Z < w1.heap.size:=heap_lt h1.cm
  have hX1:X < w1.heap.size:=heap_lt h1.ks.at_
  have hB1:=heap_lt r1
  clear h1 n1 r1 o1 nn1
  go_wp2_with fail
  refine (HS2 _ F' L' (HE.out.2.1.below (below_a1 _ _))).mono ?_
  rintro e w2 ⟨rfl,hb2'⟩
  have hb2:Below w1.heap.size w1 w2:=below_then (below_a1 _ _) hb2'
  have HE2:Hid (w2.heap[w.heap.size]? = some (.cells #[.int .i64 0,.int .i64 0,.int .i64 0,.bool false] 55 (0,0))∧CS w2 base (.pointer (some ⟨M,0,none⟩)) c r L' F' X Z P b' u∧w.heap.size ∉ Z :: X :: F'∧Next (Z :: X :: F) (Z :: X :: F') w w2):=⟨row_on HE.out.1 hb2,HE.out.2.1.below hb2,HE.out.2.2.1,HE.out.2.2.2.trans (Next.of_below hb2 _)⟩
  clear x0 x1 x2 x3 x4 x5 x6 x7 f0 f1 f2 f3 hx1 hX1 hB1 hb2 hb2' HE HK
  obtain ⟨x0,x1,x2,x3,x4,x5,x6,x7⟩:=CRow.cells HE2.out.2.1.cm
  obtain ⟨f0,f1,f2,f3⟩:=CRow.fz HE2.out.2.1.cm
  have hx1:Z < w2.heap.size:=heap_lt HE2.out.2.1.cm
  go_wp2_with fail
  refine (HD.out _ b'.seen (show CAt (w2.setCell ⟨Z,14,none⟩ (.int .i64 b'.seen)) Z P ⟨u.st,b'.seen,u.stamp⟩ (ptr X) from (cset HE2.out.2.1.cm b'.seen (ptr X)).2.2.1)).mono ?_
  rintro e w3 ⟨rfl,hc3,hk3⟩
  have hk23:Keep [Z] w2 w3:=(kkeep (Keep.refl [Z] w2) 14 (.int .i64 b'.seen)).trans hk3 (fun q hq=>Or.inl hq)
  have hne:w.heap.size≠Z:=fun e=>HE2.out.2.2.1 (by simp [e])
  have hz3:=HE2.out.2.1.onZ hc3 hk23
  have HE3:Hid (w3.heap[w.heap.size]? = some (.cells #[.int .i64 0,.int .i64 0,.int .i64 0,.bool false] 55 (0,0))∧CS w3 base (.pointer (some ⟨M,0,none⟩)) c r L' F' X Z P b' (heldU P u b'.seen)∧w.heap.size ∉ Z :: X :: F'∧Next (Z :: X :: F) (Z :: X :: F') w w3):=⟨by rw [hk23.block _ (heap_lt HE2.out.1) (by simpa using hne)]; exact HE2.out.1,hz3.1,HE2.out.2.2.1,HE2.out.2.2.2.trans hz3.2⟩
  clear x0 x1 x2 x3 x4 x5 x6 x7 f0 f1 f2 f3 hx1 hc3 hk3 hk23 hz3 HE2
  obtain ⟨⟨a0,a1,a2,a3⟩,g0,g1,g2,g3⟩:=ans_cells HE3.out.1
  have hB3:=heap_lt HE3.out.1
  go_wp2
  exact ret_ans rfl rfl (ansW_set rfl HE3.out.1 (heldK P b'.seen) (heldE P b'.seen) 0 true) rfl rfl ⟨rfl, F', cs_other HE3.out.2.1 HE3.out.2.2.1 (Nat.le_refl _) HE3.out.2.2.2 (keepWB _ _ 0 true)⟩
 ·rw [if_neg k3,if_neg k3]
  by_cases k4:kk=4
  ·subst k4
   rw [if_pos rfl]
   go_enter Tryz.func150,Tryz.ntmps150
   go_wp2_with fail
   refine (HK.out _ (below_a1 _ _)).mono ?_
   rintro e w1 ⟨rfl, F', h1, n1⟩
   obtain ⟨r1,o1,nn1⟩:=nx_row HLT.out (below_a1 _ _) (heap_alloc_new _ _) n1
   have HE:Hid (w1.heap[w.heap.size]? = some (.cells #[.int .i64 0,.int .i64 0,.int .i64 0,.bool false] 55 (0,0))∧CS w1 base (.pointer (some ⟨M,0,none⟩)) c r L' F' X Z P b' u∧w.heap.size ∉ Z :: X :: F'∧Next (Z :: X :: F) (Z :: X :: F') w w1):=⟨r1,h1,o1,nn1⟩
   clear x0 x1 x2 x3 x4 x5 x6 x7
   obtain ⟨x0,x1,x2,x3,x4,x5,x6,x7⟩:=CRow.cells h1.cm
   obtain ⟨f0,f1,f2,f3⟩:=CRow.fz h1.cm
   have hx1:Z < w1.heap.size:=heap_lt h1.cm
   obtain ⟨⟨a0,a1,a2,a3⟩,g0,g1,g2,g3⟩:=ans_cells r1
   have hB1:=heap_lt r1
   clear h1 n1 r1 o1 nn1
   go_wp2
   have hne:w.heap.size≠Z:=fun e=>HE.out.2.2.1 (by simp [e])
   have hz:=HE.out.2.1.onZ (show CAt (w1.setCell ⟨Z,12,none⟩ (.int .i64 3)) Z P ⟨3,u.seen,u.stamp⟩ (ptr X) from (cset HE.out.2.1.cm 3 (ptr X)).1) (kkeep (Keep.refl _ _) _ _)
   have q:=cs_other hz.1 HE.out.2.2.1 (Nat.le_refl _) (HE.out.2.2.2.trans hz.2) (keepWB 4 ee 0 true)
   exact ret_ans rfl rfl (row_on (ansW_set rfl (row_set HE.out.1 hne 12 (.int .i64 3)) 4 ee 0 true) (below_a1 _ _)) rfl rfl ⟨rfl, F', q.1.below (below_a1 _ _), q.2.trans (Next.of_below (below_a1 _ _) _)⟩
  ·rw [if_neg k4,if_neg k3]
   have d3:(kk == 3)=false:=by simpa using k3
   have d4:(kk == 4)=false:=by simpa using k4
   go_enter Tryz.func150,Tryz.ntmps150
   go_wp2_with fail
   refine (HK.out _ (below_a1 _ _)).mono ?_
   rintro e w1 ⟨rfl, F', h1, n1⟩
   obtain ⟨r1,o1,nn1⟩:=nx_row HLT.out (below_a1 _ _) (heap_alloc_new _ _) n1
   have HE:Hid (w1.heap[w.heap.size]? = some (.cells #[.int .i64 0,.int .i64 0,.int .i64 0,.bool false] 55 (0,0))∧CS w1 base (.pointer (some ⟨M,0,none⟩)) c r L' F' X Z P b' u∧w.heap.size ∉ Z :: X :: F'∧Next (Z :: X :: F) (Z :: X :: F') w w1):=⟨r1,h1,o1,nn1⟩
   obtain ⟨⟨a0,a1,a2,a3⟩,g0,g1,g2,g3⟩:=ans_cells r1
   have hB1:=heap_lt r1
   clear h1 n1 r1 o1 nn1 x0 x1 x2 x3 x4 x5 x6 x7
   go_wp2
   have q:=cs_other HE.out.2.1 HE.out.2.2.1 (Nat.le_refl _) HE.out.2.2.2 (keepWB kk ee 0 true)
   exact ret_ans rfl rfl (row_on (ansW_set rfl HE.out.1 kk ee 0 true) (below_a1 _ _)) rfl rfl ⟨rfl, F', q.1.below (below_a1 _ _), q.2.trans (Next.of_below (below_a1 _ _) _)⟩
theorem CS.anew {w w':World} {base:Nat} {p:Value} {c r:Nat} {L:List Ac} {F:List Nat} {X X' Z:Nat} {P:Cp} {b b':Ck} {u u':Cu} (h:CS w base p c r L F X Z P b u) (hb:base≤w.heap.size) (hc:CAt w' Z P u' (ptr X')) (hk:KAt w' X' P b') (hX:w.heap.size≤X') (kp:Keep [Z] w w'):CS w' base p c r L F X' Z P b' u'∧Next (Z :: X :: F) (Z :: X' :: F) w w':=by
 have hZ:=heap_lt h.cm
 have hZF:Z ∉ F:=fun e=>h.out (List.mem_cons_of_mem _ e)
 refine ⟨⟨⟨h.ks.mem.keep kp (fun q hq e=>by simp at e; exact hZF (e ▸ hq)),hk,fun e=>by have:=(h.ks.mem.lt _ e).2; omega,by omega⟩,hc,fun e => ?_,h.lo⟩,kp.mono (fun q hq=>by simp at hq; subst hq; simp),fun q hq => ?_⟩
 ·rcases List.mem_cons.1 e with e | e
  ·omega
  ·exact hZF e
 ·rcases List.mem_cons.1 hq with rfl | hq
  ·exact Or.inl (by simp)
  ·rcases List.mem_cons.1 hq with rfl | hq
   ·exact Or.inr hX
   ·exact Or.inl (by simp [hq])
theorem mswap_any {w:World} {base:Nat} {p:Value} {c r:Nat} {L:List Ac} {F:List Nat} {X Z:Nat} {P:Cp} {b:Ck} {u:Cu} (h:CS w base p c r L F X Z P b u) (hb:base≤w.heap.size) (hL:L.length < 3298534883328) (hp:POk P) (hl:P.last=false) (h0:0≤u.seen) (h1:u.seen < 1099511627776) (t:Int) :
  Calls Tryz.prog 152 #[.pointer (some ⟨Z, 0, none⟩), p, .int .i64 t] w fun e w' => e = .returned (ansW (if swapsY u L then 3 else 2) 0 (if swapsY u L then u.seen + 1 else 0) true) ∧ ∃ F' X', CS w' base p c r (swapL c r L t nwA u.seen (u.seen + 1)) F' X' Z P (swapB P b u L) (swapU u L) ∧ Next (Z :: X :: F) (Z :: X' :: F') w w' := by
 have HW : Hid (∀ w', Below w.heap.size w w' → Calls Tryz.prog 157 #[p, .int .i64 t, .agg #[.int .i64 1, .int .i64 0, .int .i64 0], .int .i64 u.seen, .int .i64 (u.seen + 1)] w' fun e w'' => e = .returned (.tuple #[.bool (swapsY u L), .int .i64 0]) ∧ ∃ F', CS w'' base p c r (swapL c r L t nwA u.seen (u.seen + 1)) F' X Z P b u ∧ Next (Z :: X :: F) (Z :: X :: F') w' w'') := fun w' hb' => by
  have:=swap_any (h.below hb').ks.mem (Nat.le_trans hb hb'.size) hL t nwA u.seen (u.seen+1)
  rw [show isAd c r nwA=true from rfl,Bool.true_and,if_pos rfl] at this
  refine this.mono ?_
  rintro e w'' ⟨rfl, F', h1, h2⟩
  exact ⟨rfl, F', (h.below hb').onMem h1 h2, nextX (nextX h2)⟩
 have HM:Hid (∀ w,Calls Tryz.prog 156 #[] w fun e w' => e = .returned (.agg #[.int .i64 2,.int .i64 0,.int .i64 0,.bool true])∧Below w.heap.size w w'):=moved_any
 have HB : Hid (∀ w, CAt w Z P u (ptr X) → Calls Tryz.prog 68 #[.pointer (some ⟨Z, 0, none⟩)] w fun e w' => e = .returned (.int .i64 0) ∧ ∃ X', CAt w' Z P ⟨0, u.seen, u.stamp⟩ (ptr X') ∧ KAt w' X' P (ckNew P) ∧ w.heap.size ≤ X' ∧ Keep [Z] w w') := fun w hc => mbegin_yes hc hp hl
 have hw:wrap64 (u.seen+1)=u.seen+1:=by unfold wrap64; omega
 obtain ⟨x0,x1,x2,x3,x4,x5,x6,x7⟩:=CRow.cells h.cm
 have HLT:Hid (∀ q ∈ Z :: X :: F,q < w.heap.size):=fun q hq=>(h.lt q hq).2
 have hx:Z < w.heap.size:=heap_lt h.cm
 obtain ⟨M,rfl⟩:=h.ks.mem.ptr
 unfold swapB swapU ansW
 clear h hp hl h0 h1
 generalize swapsY u L=yy at *
 generalize swapL c r L t nwA u.seen (u.seen+1)=L' at *
 cases yy
 ·rw [if_neg (by simp),if_neg (by simp),if_neg (by simp),if_neg (by simp)]
  go_enter Tryz.func152,Tryz.ntmps152
  go_wp2_with fail
  refine (HW.out _ (below_a1 _ _)).mono ?_
  rintro e w1 ⟨rfl, F', h1, n1⟩
  obtain ⟨r1,o1,nn1⟩:=nx_row HLT.out (below_a1 _ _) (heap_alloc_new _ _) n1
  have HE:Hid (w1.heap[w.heap.size]? = some (.cells #[.int .i64 0,.int .i64 0,.int .i64 0,.bool false] 55 (0,0))∧CS w1 base (.pointer (some ⟨M,0,none⟩)) c r L' F' X Z P b u∧w.heap.size ∉ Z :: X :: F'∧Next (Z :: X :: F) (Z :: X :: F') w w1):=⟨r1,h1,o1,nn1⟩
  clear x0 x1 x2 x3 x4 x5 x6 x7 h1 n1 r1 o1 nn1
  go_wp2_with fail
  refine (HB.out _ HE.out.2.1.cm).mono ?_
  rintro e w2 ⟨rfl, X', hc2, hk2, hX2, kp2⟩
  have hne:w.heap.size≠Z:=fun e=>HE.out.2.2.1 (by simp [e])
  have hs1:=HE.out.2.2.2.1.size
  have hr1:=heap_lt HE.out.1
  have hz2:=HE.out.2.1.anew (Nat.le_trans hb hs1) hc2 hk2 hX2 kp2
  have HE2:Hid (w2.heap[w.heap.size]? = some (.cells #[.int .i64 0,.int .i64 0,.int .i64 0,.bool false] 55 (0,0))∧CS w2 base (.pointer (some ⟨M,0,none⟩)) c r L' F' X' Z P (ckNew P) ⟨0,u.seen,u.stamp⟩∧w.heap.size ∉ Z :: X' :: F'∧Next (Z :: X :: F) (Z :: X' :: F') w w2):=⟨by rw [kp2.block _ hr1 (by simpa using hne)]; exact HE.out.1,hz2.1,fun e=>by
        rcases List.mem_cons.1 e with e | e
        · exact hne e
        · rcases List.mem_cons.1 e with e | e
          · omega
          · exact HE.out.2.2.1 (by simp [e]),HE.out.2.2.2.trans hz2.2⟩
  clear hc2 hk2 hX2 kp2 hz2 hs1 hr1 HE
  go_wp2_with fail
  refine (HM.out _).mono ?_
  rintro e w3 ⟨rfl,hb3⟩
  have HE3:Hid (w3.heap[w.heap.size]? = some (.cells #[.int .i64 0,.int .i64 0,.int .i64 0,.bool false] 55 (0,0))∧CS w3 base (.pointer (some ⟨M,0,none⟩)) c r L' F' X' Z P (ckNew P) ⟨0,u.seen,u.stamp⟩∧w.heap.size ∉ Z :: X' :: F'∧Next (Z :: X :: F) (Z :: X' :: F') w w3):=⟨row_on HE2.out.1 hb3,HE2.out.2.1.below hb3,HE2.out.2.2.1,HE2.out.2.2.2.trans (Next.of_below hb3 _)⟩
  obtain ⟨⟨a0,a1,a2,a3⟩,g0,g1,g2,g3⟩:=ans_cells HE3.out.1
  have hB3:=heap_lt HE3.out.1
  clear hb3 HE2
  go_wp2
  exact ret_ans rfl rfl (ansW_set rfl HE3.out.1 2 0 0 true) rfl rfl ⟨rfl, F', X', cs_other HE3.out.2.1 HE3.out.2.2.1 (Nat.le_refl _) HE3.out.2.2.2 (keepWB 2 0 0 true)⟩
 ·rw [if_pos rfl,if_pos rfl,if_pos rfl,if_pos rfl]
  go_enter Tryz.func152,Tryz.ntmps152
  go_wp2_with fail
  refine (HW.out _ (below_a1 _ _)).mono ?_
  rintro e w1 ⟨rfl, F', h1, n1⟩
  obtain ⟨r1,o1,nn1⟩:=nx_row HLT.out (below_a1 _ _) (heap_alloc_new _ _) n1
  have HE:Hid (w1.heap[w.heap.size]? = some (.cells #[.int .i64 0,.int .i64 0,.int .i64 0,.bool false] 55 (0,0))∧CS w1 base (.pointer (some ⟨M,0,none⟩)) c r L' F' X Z P b u∧w.heap.size ∉ Z :: X :: F'∧Next (Z :: X :: F) (Z :: X :: F') w w1):=⟨r1,h1,o1,nn1⟩
  clear x0 x1 x2 x3 x4 x5 x6 x7
  obtain ⟨x0,x1,x2,x3,x4,x5,x6,x7⟩:=CRow.cells h1.cm
  obtain ⟨f0,f1,f2,f3⟩:=CRow.fz h1.cm
  have hx1:Z < w1.heap.size:=heap_lt h1.cm
  obtain ⟨⟨a0,a1,a2,a3⟩,g0,g1,g2,g3⟩:=ans_cells r1
  have hB1:=heap_lt r1
  clear h1 n1 r1 o1 nn1
  go_wp2
  have hne:w.heap.size≠Z:=fun e=>HE.out.2.2.1 (by simp [e])
  have hz:=HE.out.2.1.onZ (show CAt ((w1.setCell ⟨Z,12,none⟩ (.int .i64 3)).setCell ⟨Z,15,none⟩ (.int .i64 (u.seen+1))) Z P ⟨3,u.seen,u.seen+1⟩ (ptr X) from (cset (cset HE.out.2.1.cm 3 (ptr X)).1 (u.seen+1) (ptr X)).2.2.2) (kkeep (kkeep (Keep.refl _ _) _ _) _ _)
  have q:=cs_other hz.1 HE.out.2.2.1 (Nat.le_refl _) (HE.out.2.2.2.trans hz.2) (keepWB 3 0 (u.seen+1) true)
  exact ret_ans rfl rfl (ansW_set rfl (row_set (row_set HE.out.1 hne 12 (.int .i64 3)) hne 15 (.int .i64 (u.seen + 1))) 3 0 (u.seen + 1) true) rfl rfl ⟨rfl, F', X, q⟩
theorem mstep_none {w:World} {base:Nat} {p:Value} {c r:Nat} {L:List Ac} {F:List Nat} {Z:Nat} {P:Cp} {u:Cu} {x:Value} (hm:MemAt w base p c r L F) (h:CAt w Z P u x) (hn:goesC r P u=false) (t:Int) :
  Calls Tryz.prog 148 #[.pointer (some ⟨Z,0,none⟩),p,.int .i64 t] w fun e w' => e = .returned (ansW 0 0 0 false)∧Below w.heap.size w w':=by
 have HG:Hid (∀ o,Calls Tryz.prog 149 #[.pointer (some ⟨Z,0,none⟩),p] (w.alloc o) fun e w' => e = .returned (.bool false)∧Below (w.alloc o).heap.size (w.alloc o) w'):=fun o=>by
  rw [← hn]; exact mgoes_any (hm.below (below_a1 _ _)) (h.below (below_a1 _ _) (heap_lt h))
 obtain ⟨M,rfl⟩:=hm.ptr
 clear hm h hn
 unfold ansW
 go_enter Tryz.func148,Tryz.ntmps148
 go_wp2_with fail
 refine (HG.out _).mono ?_
 rintro e w1 ⟨rfl,hb⟩
 have HR:Hid (w1.heap[w.heap.size]? = some (.cells #[.int .i64 0,.int .i64 0,.int .i64 0,.bool false] 55 (0,0))):=row_on (heap_alloc_new _ _) hb
 obtain ⟨⟨a0,a1,a2,a3⟩,g0,g1,g2,g3⟩:=ans_cells HR.out
 have hB:=heap_lt HR.out
 have HB:Hid (Below w.heap.size w w1):=below_then (below_a1 _ _) hb
 clear hb
 go_wp2
 exact ret_ans rfl rfl (ansW_set rfl HR.out 0 0 0 false) rfl rfl ⟨rfl,belowW HB.out (Nat.le_refl _) 0 0 0 false⟩
theorem mstep_by {w:World} {base:Nat} {p:Value} {c r:Nat} {L L':List Ac} {F:List Nat} {X Z:Nat} {P:Cp} {b b':Ck} {u u':Cu} (h:CS w base p c r L F X Z P b u) (hg:goesC r P u=true) (t kk ee vv:Int)
  (hA : u.st = 0 ∧ (∀ w', Below w.heap.size w w' → Calls Tryz.prog 150 #[.pointer (some ⟨Z, 0, none⟩), p, .int .i64 t] w' fun e w'' => e = .returned (ansW kk ee vv true) ∧ ∃ F' X', CS w'' base p c r L' F' X' Z P b' u' ∧ Next (Z :: X :: F) (Z :: X' :: F') w' w'') ∨
      u.st = 1 ∧ (∀ w', Below w.heap.size w w' → Calls Tryz.prog 151 #[.pointer (some ⟨Z, 0, none⟩), p, .int .i64 t] w' fun e w'' => e = .returned (ansW kk ee vv true) ∧ ∃ F' X', CS w'' base p c r L' F' X' Z P b' u' ∧ Next (Z :: X :: F) (Z :: X' :: F') w' w'') ∨
      u.st = 2 ∧ (∀ w', Below w.heap.size w w' → Calls Tryz.prog 152 #[.pointer (some ⟨Z, 0, none⟩), p, .int .i64 t] w' fun e w'' => e = .returned (ansW kk ee vv true) ∧ ∃ F' X', CS w'' base p c r L' F' X' Z P b' u' ∧ Next (Z :: X :: F) (Z :: X' :: F') w' w'')) :
  Calls Tryz.prog 148 #[.pointer (some ⟨Z, 0, none⟩), p, .int .i64 t] w fun e w' => e = .returned (ansW kk ee vv true) ∧ ∃ F' X', CS w' base p c r L' F' X' Z P b' u' ∧ Next (Z :: X :: F) (Z :: X' :: F') w w' := by
 have HG:Hid (∀ o,Calls Tryz.prog 149 #[.pointer (some ⟨Z,0,none⟩),p] (w.alloc o) fun e w' => e = .returned (.bool true)∧Below (w.alloc o).heap.size (w.alloc o) w'):=fun o=>by
  rw [← hg]; exact mgoes_any (h.ks.mem.below (below_a1 _ _)) (h.cm.below (below_a1 _ _) (heap_lt h.cm))
 have HT : Hid (∀ w', Below w.heap.size w w' → w'.cell? ⟨Z, 12, none⟩ = some (.int .i64 u.st)) := fun w' hb' => (CRow.cells (h.below hb').cm).2.2.2.2.1
 have HLT:Hid (∀ q ∈ Z :: X :: F,q < w.heap.size):=fun q hq=>(h.lt q hq).2
 have hx:Z < w.heap.size:=heap_lt h.cm
 obtain ⟨M,rfl⟩:=h.ks.mem.ptr
 unfold ansW at *
 rcases hA with ⟨es,HC⟩ | ⟨es,HC⟩ | ⟨es,HC⟩
 all_goals
  have HC2:=HC
  rw [es] at HT
  clear h hg es HC
  go_enter Tryz.func148,Tryz.ntmps148
  go_wp2_with fail
  refine (HG.out _).mono ?_
  rintro e w1 ⟨rfl,hb1⟩
  have HR:Hid (w1.heap[w.heap.size]? = some (.cells #[.int .i64 0,.int .i64 0,.int .i64 0,.bool false] 55 (0,0))):=row_on (heap_alloc_new _ _) hb1
  have HB:Hid (Below w.heap.size w w1):=below_then (below_a1 _ _) hb1
  have t2:=HT.out _ HB.out
  have hx1:Z < w1.heap.size:=Nat.lt_of_lt_of_le hx HB.out.size
  clear hb1
  go_wp2_with fail
  refine (HC2 _ HB.out).mono ?_
  rintro e w2 ⟨rfl, F', X', k2, n2⟩
  obtain ⟨r2,o2,nn2⟩:=nx_row HLT.out HB.out HR.out n2
  have HK2:Hid (w2.heap[w.heap.size]? = some (.cells #[.int .i64 0,.int .i64 0,.int .i64 0,.bool false] 55 (0,0))∧CS w2 base (.pointer (some ⟨M,0,none⟩)) c r L' F' X' Z P b' u'∧w.heap.size ∉ Z :: X' :: F'∧Next (Z :: X :: F) (Z :: X' :: F') w w2):=⟨r2,k2,o2,nn2⟩
  obtain ⟨⟨a0,a1,a2,a3⟩,g0,g1,g2,g3⟩:=ans_cells HK2.out.1
  have hB:=heap_lt HK2.out.1
  clear k2 n2 r2 o2 nn2 t2
  go_wp2
  exact ret_ans rfl rfl (ansW_set rfl HK2.out.1 kk ee vv true) rfl rfl ⟨rfl, F', X', cs_other HK2.out.2.1 HK2.out.2.2.1 (Nat.le_refl _) HK2.out.2.2.2 (keepWB kk ee vv true)⟩
theorem mstep {w:World} {base:Nat} {p:Value} {c r:Nat} {L:List Ac} {F:List Nat} {X Z:Nat} {P:Cp} {b:Ck} {u:Cu} (h:CS w base p c r L F X Z P b u) (hb:base≤w.heap.size) (hL:L.length < 3298534883328) (hk:COk P b u) (hv:goesC r P u=true→u.st=0→W64 (wordOf L (adK P b))) (t:Int) :
  Calls Tryz.prog 148 #[.pointer (some ⟨Z, 0, none⟩), p, .int .i64 t] w fun e w' => e = .returned (ansW (ansZ r P b u L) (errZ r P b u L) (valZ r P u L) (goesC r P u)) ∧ ∃ F' X', CS w' base p c r (nextCL c r P b u L t) F' X' Z P (nextCB r P b u L) (nextU r P b u L) ∧ Next (Z :: X :: F) (Z :: X' :: F') w w' := by
 unfold ansZ errZ valZ nextCL nextCB nextU
 by_cases hg:goesC r P u=true
 ·simp only [if_pos hg]
  rw [hg]
  obtain ⟨e3,er⟩:=goesC_iff.mp hg
  subst er
  obtain ⟨n,kk⟩:=hk.k
  have hn2:=hk.n2
  refine mstep_by h hg t _ _ _ ?_
  by_cases e0:u.st=0
  ·simp only [if_pos e0]
   have ht : ¬ thr b:=by
    rcases hk.c with c | c | c
    ·exact c.2
    ·omega
    ·omega
   refine Or.inl ⟨e0,fun w' hb' => ?_⟩
   refine (mhold_any (h.below hb') (Nat.le_trans hb hb'.size) hL kk (goesK_iff.mpr ⟨ht,rfl⟩) (hv hg e0) t).mono ?_
   rintro e w'' ⟨rfl, F', h1, h2⟩
   exact ⟨rfl, F', X, h1, h2⟩
  ·simp only [if_neg e0]
   have hc:(u.st=1∨u.st=2)∧0≤u.seen∧u.seen < P.ex.n:=by
    rcases hk.c with c | c | c
    ·omega
    ·exact c
    ·omega
   by_cases e1:u.st=1
   ·simp only [if_pos e1]
    refine Or.inr (Or.inl ⟨e1,fun w' hb' => ?_⟩)
    refine (mlook_any (h.below hb') kk.p (Nat.le_trans hb hb'.size) hL hc.2.1 (by omega) t).mono ?_
    rintro e w'' ⟨rfl, F', h1, h2⟩
    exact ⟨rfl, F', X, h1, h2⟩
   ·simp only [if_neg e1]
    refine Or.inr (Or.inr ⟨by omega,fun w' hb' => ?_⟩)
    exact mswap_any (h.below hb') (Nat.le_trans hb hb'.size) hL kk.p hk.last hc.2.1 (by omega) t
 ·simp only [if_neg hg]
  refine (mstep_none h.ks.mem h.cm (by simpa using hg) t).mono ?_
  rintro e w' ⟨rfl,hb'⟩
  rw [show goesC r P u=false by simpa using hg]
  exact ⟨rfl, F, X, h.below hb', Next.of_below hb' _⟩
end Go.Proofs.YtdkpgdkjohjcaaaGreat.Co
