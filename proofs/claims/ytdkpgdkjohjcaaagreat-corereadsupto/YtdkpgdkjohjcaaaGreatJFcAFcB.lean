/- The program's machine of layer 8: New, Start, goesOver, addr, overrunBy, fail, toNextWord, toNextStamp. -/
import Derived.Test.YtdkpgdkjohjcaaaGreatJSigMFcM
import Derived.Test.YtdkpgdkjohjcaaaGreatJHashSigB
import Derived.Test.YtdkpgdkjohjcaaaGreatJRngAMemB
import Derived.Test.YtdkpgdkjohjcaaaGreatJMemCAns
import Derived.OwnWalk
set_option maxRecDepth 10000
namespace Go.Proofs.YtdkpgdkjohjcaaaGreat.Fe
open Go.ChangeShapes Go.WideShapes Go.ChangeAt Go.RowKit
attribute [local go_sem ↓] Go.wp_at_zero Go.wp_at_succ
def rdV (rd:List Nat) (j:Nat):Value:=.int .u64 ((rd.getD j 0:Nat):Int)
def ck0 (P:Cp) (b:Ck):Array Value:=#[.int .i64 (P.s:Int),.int .i64 P.z,rdV P.rd 0,rdV P.rd 1,rdV P.rd 2,rdV P.rd 3,rdV P.rd 4,rdV P.rd 5,rdV P.rd 6,rdV P.rd 7,.bool P.last,.int .i64 b.st,.int .i64 b.seen,.int .i64 b.stamp,.int .i64 b.word,.int .i64 b.comp]
def ckC (P:Cp) (b:Ck):Array Value:=#[.int .i64 (P.s:Int),.int .i64 P.z,rdV P.rd 0,rdV P.rd 1,rdV P.rd 2,rdV P.rd 3,rdV P.rd 4,rdV P.rd 5,rdV P.rd 6,rdV P.rd 7,.bool P.last,.int .i64 b.st,.int .i64 b.seen,.int .i64 b.stamp,.int .i64 b.word,.int .i64 b.comp,.int .i64 (P.s:Int),.int .i64 P.cell,rdV P.rd 0,rdV P.rd 1,rdV P.rd 2,rdV P.rd 3,rdV P.rd 4,rdV P.rd 5,rdV P.rd 6,rdV P.rd 7,.bool P.read,.int .i64 P.val]
def KAt0 (w:World) (X:Nat) (P:Cp) (b:Ck):Prop:=w.heap[X]? = some (.cells (ck0 P b) 147 (0,0))
def KAt (w:World) (X:Nat) (P:Cp) (b:Ck):Prop:=w.heap[X]? = some (.cells (ckC P b) 149 (0,0))
theorem KAt.keep {w w':World} {X:Nat} {P:Cp} {b:Ck} {F:List Nat} (h:KAt w X P b) (k:Keep F w w') (hx:X ∉ F):KAt w' X P b:=by
 unfold KAt; rw [k.block _ (heap_lt h) hx]; exact h
theorem KAt.below {w w':World} {X:Nat} {P:Cp} {b:Ck} {B:Nat} (h:KAt w X P b) (k:Below B w w') (hx:X < B):KAt w' X P b:=by
 unfold KAt; rw [k.block _ hx]; exact h
theorem KAt.cells {w:World} {X:Nat} {P:Cp} {b:Ck} (h:KAt w X P b):w.cell? ⟨X,0,none⟩=some (.int .i64 (P.s:Int))∧w.cell? ⟨X,1,none⟩=some (.int .i64 P.z)∧w.cell? ⟨X,10,none⟩=some (.bool P.last)∧w.cell? ⟨X,11,none⟩=some (.int .i64 b.st)∧w.cell? ⟨X,12,none⟩=some (.int .i64 b.seen)∧w.cell? ⟨X,13,none⟩=some (.int .i64 b.stamp)∧w.cell? ⟨X,14,none⟩=some (.int .i64 b.word)∧w.cell? ⟨X,15,none⟩=some (.int .i64 b.comp) :=
 ⟨by rw [cell_at h]; rfl,by rw [cell_at h]; rfl,by rw [cell_at h]; rfl,by rw [cell_at h]; rfl,by rw [cell_at h]; rfl,by rw [cell_at h]; rfl,by rw [cell_at h]; rfl,by rw [cell_at h]; rfl⟩
theorem KAt.fz {w:World} {X:Nat} {P:Cp} {b:Ck} (h:KAt w X P b):w.frozen? ⟨X,11,none⟩=false∧w.frozen? ⟨X,12,none⟩=false∧w.frozen? ⟨X,13,none⟩=false∧w.frozen? ⟨X,14,none⟩=false∧w.frozen? ⟨X,15,none⟩=false :=
 ⟨frozen_at h 11,frozen_at h 12,frozen_at h 13,frozen_at h 14,frozen_at h 15⟩
theorem KAt.read {w:World} {X:Nat} {P:Cp} {b:Ck} (h:KAt w X P b) (j:Nat) (hj:j < 8):w.cell? ⟨X,2+j,none⟩=some (rdV P.rd j):=by
 rw [cell_at h]
 rcases j with _ | _ | _ | _ | _ | _ | _ | _ | j
 all_goals first
  | rfl
  | omega
theorem rd_cells {rd:List Nat} (h:rd.length=8) : #[rdV rd 0,rdV rd 1,rdV rd 2,rdV rd 3,rdV rd 4,rdV rd 5,rdV rd 6,rdV rd 7] = Sg.sc rd:=by
 obtain ⟨a0,a1,a2,a3,a4,a5,a6,a7,rfl⟩ : ∃ a0 a1 a2 a3 a4 a5 a6 a7,rd = [a0,a1,a2,a3,a4,a5,a6,a7]:=by
  rcases rd with _ | ⟨a0,_ | ⟨a1,_ | ⟨a2,_ | ⟨a3,_ | ⟨a4,_ | ⟨a5,_ | ⟨a6,_ | ⟨a7,_ | ⟨a8,r⟩⟩⟩⟩⟩⟩⟩⟩⟩ <;> simp at h
  exact ⟨a0,a1,a2,a3,a4,a5,a6,a7,rfl⟩
 rfl
theorem kset {w:World} {X:Nat} {P:Cp} {b:Ck} (h:KAt w X P b) (v:Int) :
  KAt (w.setCell ⟨X,11,none⟩ (.int .i64 v)) X P ⟨v,b.seen,b.stamp,b.word,b.comp,b.err⟩∧KAt (w.setCell ⟨X,12,none⟩ (.int .i64 v)) X P ⟨b.st,v,b.stamp,b.word,b.comp,b.err⟩∧KAt (w.setCell ⟨X,13,none⟩ (.int .i64 v)) X P ⟨b.st,b.seen,v,b.word,b.comp,b.err⟩ ∧
  KAt (w.setCell ⟨X,14,none⟩ (.int .i64 v)) X P ⟨b.st,b.seen,b.stamp,v,b.comp,b.err⟩∧KAt (w.setCell ⟨X,15,none⟩ (.int .i64 v)) X P ⟨b.st,b.seen,b.stamp,b.word,v,b.err⟩ :=
 ⟨by unfold KAt; rw [heap_set h]; rfl,by unfold KAt; rw [heap_set h]; rfl,by unfold KAt; rw [heap_set h]; rfl,by unfold KAt; rw [heap_set h]; rfl,by unfold KAt; rw [heap_set h]; rfl⟩
theorem KAt.err {w:World} {X:Nat} {P:Cp} {b:Ck} (h:KAt w X P b) (e:Int):KAt w X P ⟨b.st,b.seen,b.stamp,b.word,b.comp,e⟩:=h
theorem kkeep {w0 w:World} {X:Nat} (k:Keep [X] w0 w) (i:Nat) (v:Value):Keep [X] w0 (w.setCell ⟨X,i,none⟩ v):=k.setCell _ _ (Or.inl (by simp))
theorem nexts_any {w:World} {X:Nat} {P:Cp} {b:Ck} (h:KAt w X P b) (hb:b.seen≤9223372036854775807) (h0:0≤b.stamp) :
  Calls Tryz.prog 133 #[.pointer (some ⟨X,0,none⟩)] w fun e w' => e = .returned (.bool (decide (b.stamp < b.seen)))∧KAt w' X P (if b.stamp < b.seen then ⟨1,b.seen,b.stamp+1,b.word,b.comp,b.err⟩ else b)∧Keep [X] w w':=by
 obtain ⟨x0,x1,x2,x3,x4,x5,x6,x7⟩:=h.cells
 obtain ⟨f3,f4,f5,f6,f7⟩:=h.fz
 have hx:X < w.heap.size:=heap_lt h
 have HX:Hid (KAt w X P b):=h
 clear h
 obtain ⟨st,seen,stamp,word,comp,err⟩:=b
 simp only at *
 by_cases e:stamp < seen
 ·have d:decide (stamp < seen)=true:=by simpa using e
  have d':decide (seen≤stamp)=false:=by simp; omega
  have hw:wrap64 (stamp+1)=stamp+1:=by unfold wrap64; omega
  rw [if_pos e,d]
  go_enter Tryz.func133,Tryz.ntmps133
  go_wp2
  go_quiet (fail)
  go_wp2
  go_ret
  exact ⟨rfl,(kset (kset HX.out (stamp+1)).2.2.1 1).1,kkeep (kkeep ((Keep.refl _ _).drewN _) _ _) _ _⟩
 ·have d:decide (stamp < seen)=false:=by simpa using e
  have d':decide (seen≤stamp)=true:=by simp; omega
  rw [if_neg e,d]
  go_enter Tryz.func133,Tryz.ntmps133
  go_wp2
  go_quiet (fail)
  go_wp2
  go_ret
  exact ⟨rfl,HX.out,(Keep.refl _ _).drewN _⟩
theorem nextw_any {w:World} {X:Nat} {P:Cp} {b:Ck} (h:KAt w X P b) (h1 : -1≤b.word) (h2:b.word≤7) :
  Calls Tryz.prog 147 #[.pointer (some ⟨X,0,none⟩)] w fun e w' => e = .returned (.bool (decide (nxW P.rd (b.word+1).toNat < 8)))∧KAt w' X P (if nxW P.rd (b.word+1).toNat < 8 then ⟨2,b.seen,b.stamp,(nxW P.rd (b.word+1).toNat:Int),b.comp,b.err⟩ else ⟨b.st,b.seen,b.stamp,8,b.comp,b.err⟩)∧Keep [X] w w':=by
 obtain ⟨x0,x1,x2,x3,x4,x5,x6,x7⟩:=h.cells
 obtain ⟨f3,f4,f5,f6,f7⟩:=h.fz
 have hx:X < w.heap.size:=heap_lt h
 have HX:Hid (KAt w X P b):=h
 clear h
 obtain ⟨st,seen,stamp,word,comp,err⟩:=b
 simp only at *
 obtain ⟨k,hk⟩ : ∃ k:Nat,word+1=(k:Int):=⟨(word+1).toNat,by omega⟩
 have hk8:k≤8:=by omega
 have hkk:(word+1).toNat=k:=by omega
 have hw:wrap64 (word+1)=(k:Int):=by unfold wrap64; omega
 rw [hkk]
 clear hkk
 generalize hR:decide (nxW P.rd k < 8)=R
 generalize hB:(if nxW P.rd k < 8 then (⟨2,seen,stamp,(nxW P.rd k:Int),comp,err⟩:Ck) else ⟨st,seen,stamp,8,comp,err⟩)=bb
 have HR:Hid (decide (nxW P.rd k < 8)=R):=hR
 have HB:Hid ((if nxW P.rd k < 8 then (⟨2,seen,stamp,(nxW P.rd k:Int),comp,err⟩:Ck) else ⟨st,seen,stamp,8,comp,err⟩)=bb):=hB
 clear hR hB
 go_enter Tryz.func147,Tryz.ntmps147
 go_wp2
 go_loopw [2] (fun _ wr => ∃ q:Nat,q≤8∧nxW P.rd q=nxW P.rd k∧KAt wr X P ⟨st,seen,stamp,(q:Int),comp,err⟩∧Keep [X] w wr) (fun _ wr=>8 - (intOf ((wr.cell? ⟨X,14,none⟩).getD (.bool false))).toNat)
 case atStart=>exact ⟨k,hk8,rfl,(kset HX.out _).2.2.2.1,kkeep (Keep.refl _ _) _ _⟩
 case round =>
  obtain ⟨q,hq,hn,ha,hkp⟩:=hrel
  clear x0 x1 x2 x3 x4 x5 x6 x7 f3 f4 f5 f6 f7
  obtain ⟨x0,x1,x2,x3,x4,x5,x6,x7⟩:=ha.cells
  obtain ⟨f3,f4,f5,f6,f7⟩:=ha.fz
  simp only at x6
  have HA:Hid (KAt wr X P ⟨st,seen,stamp,(q:Int),comp,err⟩):=ha
  have HK:Hid (Keep [X] w wr):=hkp
  have hxr:X < wr.heap.size:=heap_lt ha
  clear hkp
  by_cases hlt:q < 8
  ·have d1:decide ((q:Int) < 8)=true:=by simp; omega
   have hrd:=ha.read q hlt
   clear ha
   unfold rdV at hrd
   have hr8:(q:Int) < 8:=by omega
   by_cases hr:P.rd.getD q 0=0
   ·rw [hr] at hrd
    have hn2:nxW P.rd (q+1)=nxW P.rd k:=by rw [← hn,nxW_no hlt hr]
    clear hr
    go_wp2
    go_quiet (fail)
    go_wp2
    go_roundw
    case rel=>exact ⟨q+1,by omega,hn2,by rw [show ((q+1:Nat):Int)=(q:Int)+1 by omega]; exact (kset (w:=wr.drewN _) HA.out _).2.2.2.1,kkeep (HK.out.drewN _) _ _⟩
    case measure =>
     have hm:=(kset (w:=wr.drewN nq) HA.out ((q:Int)+1)).2.2.2.1.cells.2.2.2.2.2.2.1
     rw [x6,hm]; simp [intOf]; omega
   ·have HE:Hid (nxW P.rd k=q):=by rw [← hn,nxW_yes hlt hr]; exact rfl
    clear hn
    generalize P.rd.getD q 0=z at *
    have d2:decide ((z:Int)=0)=false:=decide_eq_false (by omega)
    go_wp2
    go_quiet (fail)
    go_wp2
    go_ret
    rw [← HR.out,← HB.out,HE.out,if_pos hlt]
    exact ⟨by simp [hlt],(kset (w:=wr.drewN _) HA.out 2).1,kkeep (HK.out.drewN _) _ _⟩
  ·obtain rfl:q=8:=by omega
   have d1:decide (((8:Nat):Int) < 8)=false:=by simp
   have HE:Hid (nxW P.rd k=8):=by rw [← hn,nxW_end]; exact rfl
   clear ha hn
   go_wp2
   go_ret
   rw [← HR.out,← HB.out,HE.out,if_neg (by omega)]
   exact ⟨rfl,HA.out,HK.out⟩
theorem cnew_yes (w:World) {P:Cp} (h:POk P):Calls Tryz.prog 66 #[.int .i64 (P.s:Int),.int .i64 P.z,Sg.sv P.rd,.bool P.last] w fun e w' => e = .returned (.tuple #[.pointer (some ⟨w.heap.size+1,0,none⟩),.int .i64 0])∧KAt0 w' (w.heap.size+1) P (ckNew P)∧Below w.heap.size w w':=by
 have d1:decide ((P.s:Int) < 1)=false:=decide_eq_false (by have:=h.s1; omega)
 have d2:decide ((16:Int) < (P.s:Int))=false:=decide_eq_false (by have:=h.s16; omega)
 have d3:decide (P.z < 0)=false:=decide_eq_false (by have:=h.z0; omega)
 have hc:=rd_cells h.rd.1
 unfold Sg.sv
 rw [← hc]
 clear h hc
 go_enter Tryz.func66,Tryz.ntmps66
 go_wp2
 go_ret2
 exact ⟨rfl,heap_alloc2_new _ _ _,below_alloc (below_a1 _ _) _⟩
theorem cstart_any {w:World} {X:Nat} {P:Cp} {b:Ck} (h:KAt w X P b):Calls Tryz.prog 70 #[.pointer (some ⟨X,0,none⟩)] w fun e w' => e = .returned (.tuple #[.int .i64 (if b.st=4 then b.comp else 0),.int .i64 (if b.st=4 then b.seen else 0),.bool (decide (b.st=4))])∧Below w.heap.size w w':=by
 obtain ⟨x0,x1,x2,x3,x4,x5,x6,x7⟩:=h.cells
 obtain ⟨st,seen,stamp,word,comp,err⟩:=b
 simp only at x3 x4 x5 x6 x7 ⊢
 by_cases e:st=4
 ·subst e
  clear h
  go_enter Tryz.func70,Tryz.ntmps70
  go_wp2
  first | (go_ret3; exact ⟨rfl,Below.refl _ _⟩) | (go_quiet (fail); go_wp2; go_ret3; exact ⟨rfl,below_drawn (Below.refl _ _) _⟩)
 ·have d:decide (st=4)=false:=decide_eq_false e
  rw [if_neg e,if_neg e,d]
  clear h
  go_enter Tryz.func70,Tryz.ntmps70
  go_wp2
  first | (go_ret3; exact ⟨rfl,Below.refl _ _⟩) | (go_quiet (fail); go_wp2; go_ret3; exact ⟨rfl,below_drawn (Below.refl _ _) _⟩)
def goesK (r:Nat) (P:Cp) (b:Ck):Bool:=!decide (b.st=4) && !decide (b.st=5) && decide (r=P.s)
theorem cgoes_any {w:World} {base:Nat} {p:Value} {c r:Nat} {L:List Ac} {F:List Nat} {X:Nat} {P:Cp} {b:Ck} (hm:MemAt w base p c r L F) (h:KAt w X P b) :
  Calls Tryz.prog 137 #[.pointer (some ⟨X,0,none⟩),p] w fun e w' => e = .returned (.bool (goesK r P b))∧Below w.heap.size w w':=by
 have HS:Hid (Calls Tryz.prog 44 #[p] w fun e w' => e = .returned (.tuple #[.int .i64 (c:Int),.int .i64 (r:Int)])∧Below w.heap.size w w'):=sizes_any hm
 obtain ⟨M,rfl⟩:=hm.ptr
 have HX:Hid (KAt w X P b):=h
 have hx:X < w.heap.size:=heap_lt h
 obtain ⟨x0,x1,x2,x3,x4,x5,x6,x7⟩:=h.cells
 have hd:((r:Int) == (P.s:Int))=decide (r=P.s):=by rw [Bool.eq_iff_iff]; simp; try omega
 clear hm h
 unfold goesK
 by_cases e4:b.st=4
 ·have d4:decide (b.st=4)=true:=decide_eq_true e4
  rw [d4]
  rw [e4] at x3
  clear e4 d4
  go_enter Tryz.func137,Tryz.ntmps137
  go_wp2
  go_ret
  exact ⟨rfl,Below.refl _ _⟩
 ·have d4:decide (b.st=4)=false:=decide_eq_false e4
  by_cases e5:b.st=5
  ·have d5:decide (b.st=5)=true:=decide_eq_true e5
   rw [d4,d5]
   rw [e5] at x3
   clear e4 e5 d4 d5
   go_enter Tryz.func137,Tryz.ntmps137
   go_wp2
   go_ret
   exact ⟨rfl,Below.refl _ _⟩
  ·have d5:decide (b.st=5)=false:=decide_eq_false e5
   rw [d4,d5]
   have q4:(b.st == 4)=false:=by simpa using e4
   have q5:(b.st == 5)=false:=by simpa using e5
   clear d4 d5
   go_enter Tryz.func137,Tryz.ntmps137
   go_wp2_with fail
   refine HS.out.mono ?_
   rintro e w1 ⟨rfl,hb⟩
   clear x0 x1 x2 x3 x4 x5 x6 x7
   obtain ⟨x0,x1,x2,x3,x4,x5,x6,x7⟩:=(HX.out.below hb hx).cells
   have HB:Hid (Below w.heap.size w w1):=hb
   clear hb
   go_wp2
   go_ret
   exact ⟨rfl,HB.out⟩
theorem overrun_any {w:World} {X:Nat} {P:Cp} {b:Ck} (h:KAt w X P b) (hp:POk P) {v:Int} (hv:W64 v) :
  Calls Tryz.prog 144 #[.pointer (some ⟨X,0,none⟩),.int .i64 v] w fun e w' => e = .returned (.bool (farV P v))∧Below w.heap.size w w':=by
 obtain ⟨x0,x1,x2,x3,x4,x5,x6,x7⟩:=h.cells
 obtain ⟨v1,v2⟩:=hv
 have hz:=hp.z0
 have hz1:=hp.z1
 have hs:=hp.s16
 unfold farV
 by_cases e:P.z < v
 ·have hw:wrap64 (v - P.z)=v - P.z:=by unfold wrap64; omega
  have d:decide (P.z < v)=true:=decide_eq_true e
  rw [d]
  clear h hp
  go_enter Tryz.func144,Tryz.ntmps144
  go_wp2
  first | (go_ret; exact ⟨rfl,Below.refl _ _⟩) | (go_quiet (fail); go_wp2; first | (go_ret; exact ⟨rfl,below_drawn (Below.refl _ _) _⟩) | (go_quiet (fail); go_wp2; go_ret; exact ⟨rfl,below_drawn (below_drawn (Below.refl _ _) _) _⟩))
 ·have d:decide (P.z < v)=false:=decide_eq_false e
  rw [d]
  clear h hp
  go_enter Tryz.func144,Tryz.ntmps144
  go_wp2
  first | (go_ret; exact ⟨rfl,Below.refl _ _⟩) | (go_quiet (fail); go_wp2; go_ret; exact ⟨rfl,below_drawn (Below.refl _ _) _⟩)
def ansE (k e:Int) (y:Bool):Value:=.agg #[.int .i64 k,.int .i64 e,.int .i64 0,.bool y]
def laidE (w:World) (B:Nat) (k e:Int) (y:Bool):World:=(((w.setCell ⟨B,0,none⟩ (.int .i64 k)).setCell ⟨B,1,none⟩ (.int .i64 e)).setCell ⟨B,2,none⟩ (.int .i64 0)).setCell ⟨B,3,none⟩ (.bool y)
theorem ansE_set {w:World} {B:Nat} {cs:Array Value} (hz:cs.size=4) (h:w.heap[B]? = some (.cells cs 55 (0,0))) (k e:Int) (y:Bool) :
  (laidE w B k e y).heap[B]? = some (.cells #[.int .i64 k,.int .i64 e,.int .i64 0,.bool y] 55 (0,0)):=by
 have h1:=heap_set (i:=0) (v:=.int .i64 k) h
 have h2:=heap_set (i:=1) (v:=.int .i64 e) h1
 have h3:=heap_set (i:=2) (v:=.int .i64 0) h2
 have h4:=heap_set (i:=3) (v:=.bool y) h3
 unfold laidE
 rw [h4]
 obtain ⟨l⟩:=cs
 obtain ⟨a,b,c,d,rfl⟩ : ∃ a b c d,l = [a,b,c,d]:=by
  rcases l with _ | ⟨a,_ | ⟨b,_ | ⟨c,_ | ⟨d,_ | ⟨_,_⟩⟩⟩⟩⟩ <;> simp at hz
  exact ⟨a,b,c,d,rfl⟩
 rfl
theorem keepE {w0 w:World} {F:List Nat} {B:Nat} (hk:Keep F w0 w) (hB:w0.heap.size≤B) (k e:Int) (y:Bool):Keep F w0 (laidE w B k e y) :=
 (((hk.setCell _ _ (Or.inr hB)).setCell _ _ (Or.inr hB)).setCell _ _ (Or.inr hB)).setCell _ _ (Or.inr hB)
theorem keepEB {w:World} {B:Nat} (k e:Int) (y:Bool):Keep [B] w (laidE w B k e y) :=
 ((((Keep.refl [B] w).setCell _ _ (Or.inl (by simp))).setCell _ _ (Or.inl (by simp))).setCell _ _ (Or.inl (by simp))).setCell _ _ (Or.inl (by simp))
theorem KAt.alloc {w:World} {X:Nat} {P:Cp} {b:Ck} (h:KAt w X P b) (o:Obj):KAt (w.alloc o) X P b:=h.below (below_a1 _ _) (heap_lt h)
theorem size_set (w:World) (a:Addr) (v:Value):(w.setCell a v).heap.size=w.heap.size:=by simp
theorem heap_alloc_set_new (w:World) (a:Addr) (v:Value) {o:Obj}:((w.setCell a v).alloc o).heap[w.heap.size]? = some o:=by
 have:=heap_alloc_new (w.setCell a v) o
 rwa [size_set] at this
theorem cfail_any {w:World} {X:Nat} {P:Cp} {b:Ck} (h:KAt w X P b) (e:Int) :
  Calls Tryz.prog 145 #[.pointer (some ⟨X,0,none⟩),.int .i64 e] w fun en w' => en = .returned (ansE 4 e true)∧KAt w' X P (failV b e)∧Keep [X] w w':=by
 obtain ⟨x0,x1,x2,x3,x4,x5,x6,x7⟩:=h.cells
 obtain ⟨f3,f4,f5,f6,f7⟩:=h.fz
 have hx:X < w.heap.size:=heap_lt h
 have HX:Hid (KAt w X P b):=h
 clear h
 obtain ⟨st,seen,stamp,word,comp,err⟩:=b
 go_enter Tryz.func145,Tryz.ntmps145
 go_wp2
 exact ret_ans rfl rfl (heap_alloc_set_new _ _ _) rfl rfl ⟨rfl,((kset HX.out 5).1.alloc _).err e,(kkeep (Keep.refl _ _) _ _).alloc _⟩
structure Ret2 (w w1:World) (X:Nat) (P:Cp) (b:Ck):Prop where
 r0:w1.heap[w.heap.size]? = some (.cells #[.int .i64 0,.int .i64 0,.int .i64 0,.bool false] 55 (0,0))
 r1:w1.heap[w.heap.size+1]? = some (.cells #[.int .i64 2,.int .i64 0,.int .i64 0,.bool true] 55 (0,0))
 a:KAt w1 X P b
 k:Keep [X] w w1
 x:X < w.heap.size
theorem ret2_call {w w0 w1:World} {X:Nat} {P:Cp} {b b':Ck} (r:Ret2 w w0 X P b) (ha:KAt w1 X P b') (hk:Keep [X] w0 w1):Ret2 w w1 X P b':=by
 have hx:=r.x
 refine ⟨?_, ?_,ha,r.k.trans hk (fun q hq=>Or.inl hq),hx⟩
 ·rw [hk.block _ (heap_lt r.r0) (by simp; omega)]; exact r.r0
 ·rw [hk.block _ (heap_lt r.r1) (by simp; omega)]; exact r.r1
theorem ret2_start {w:World} {X:Nat} {P:Cp} {b:Ck} (h:KAt w X P b):Ret2 w ((w.alloc (.cells #[.int .i64 0,.int .i64 0,.int .i64 0,.bool false] 55)).alloc (.cells #[.int .i64 2,.int .i64 0,.int .i64 0,.bool true] 55)) X P b :=
 ⟨heap_alloc2_old _ _ _,heap_alloc2_new _ _ _,(h.alloc _).alloc _,((Keep.refl _ _).alloc _).alloc _,heap_lt h⟩
theorem ret2_set {w:World} {X:Nat} {P:Cp} {b:Ck} (h:KAt w X P b):Ret2 w (((w.setCell ⟨X,14,none⟩ (.int .i64 (-1))).alloc (.cells #[.int .i64 0,.int .i64 0,.int .i64 0,.bool false] 55)).alloc (.cells #[.int .i64 2,.int .i64 0,.int .i64 0,.bool true] 55)) X P ⟨b.st,b.seen,b.stamp,-1,b.comp,b.err⟩:=by
 have hz:(w.setCell ⟨X,14,none⟩ (.int .i64 (-1))).heap.size=w.heap.size:=size_set _ _ _
 have hr:=ret2_start (kset h (-1)).2.2.2.1
 exact ⟨hz ▸ hr.r0,hz ▸ hr.r1,hr.a,((kkeep (Keep.refl _ _) _ _).alloc _).alloc _,heap_lt h⟩
theorem Ret2.set {w w1:World} {X:Nat} {P:Cp} {b:Ck} (r:Ret2 w w1 X P b) (v:Int):Ret2 w (w1.setCell ⟨X,11,none⟩ (.int .i64 v)) X P ⟨v,b.seen,b.stamp,b.word,b.comp,b.err⟩ :=
 ret2_call r (kset r.a v).1 (kkeep (Keep.refl _ _) _ _)
theorem Ret2.done {w w1:World} {X:Nat} {P:Cp} {b:Ck} (r:Ret2 w w1 X P b) (k e:Int) (y:Bool):KAt (laidE w1 w.heap.size k e y) X P b∧Keep [X] w (laidE w1 w.heap.size k e y) :=
 ⟨r.a.keep (keepEB k e y) (by have:=r.x; simp; omega),keepE r.k (Nat.le_refl _) k e y⟩
theorem row_2_0 (w:World) (a:Addr) (v:Value) (o1 o2:Obj):(((w.setCell a v).alloc o1).alloc o2).heap[w.heap.size]? = some o1:=by
 have:=heap_alloc2_old (w.setCell a v) o1 o2
 rwa [size_set] at this
--CASES
theorem goon_1h {w:World} {X:Nat} {P:Cp} {b:Ck} (h:KAt w X P b) (hst:b.st=1) (hn:nxW P.rd 0 < 8) :
  Calls Tryz.prog 146 #[.pointer (some ⟨X,0,none⟩)] w fun en w' => en = .returned (ansE 2 0 true)∧KAt w' X P ⟨2,b.seen,b.stamp,(nxW P.rd 0:Int),b.comp,b.err⟩∧Keep [X] w w':=by
 obtain ⟨x0,x1,x2,x3,x4,x5,x6,x7⟩:=h.cells
 obtain ⟨f3,f4,f5,f6,f7⟩:=h.fz
 have hx:X < w.heap.size:=heap_lt h
 have HX:Hid (KAt w X P b):=h
 clear h
 obtain ⟨st,seen,stamp,word,comp,err⟩:=b
 simp only at *
 subst hst
 have HW:Hid (∀ w,KAt w X P ⟨1,seen,stamp,(-1),comp,err⟩→Calls Tryz.prog 147 #[.pointer (some ⟨X,0,none⟩)] w fun e w' => e = .returned (.bool true)∧KAt w' X P ⟨2,seen,stamp,(nxW P.rd 0:Int),comp,err⟩∧Keep [X] w w'):=fun w h=>by
  have:=nextw_any h (by simp only; omega) (by simp only; omega)
  simp only at this
  rw [show ((-1:Int)+1).toNat=0 from rfl] at this
  rw [if_pos hn,decide_eq_true hn] at this
  exact this
 clear hn
 generalize nxW P.rd 0=nx at *
 have hne:w.heap.size≠X:=by omega
 have hne2:w.heap.size+1≠X:=by omega
 go_enter Tryz.func146,Tryz.ntmps146
 go_wp2_with fail
 refine (HW.out _ (ret2_set HX.out).a).mono ?_
 rintro e w1 ⟨rfl,ha1,hk1⟩
 have R1:Hid (Ret2 w w1 X P ⟨2,seen,stamp,(nx:Int),comp,err⟩):=ret2_call (ret2_set HX.out) ha1 hk1
 clear ha1 hk1 x0 x1 x2 x3 x4 x5 x6 x7 f3 f4 f5 f6 f7
 obtain ⟨x0,x1,x2,x3,x4,x5,x6,x7⟩:=R1.out.a.cells
 obtain ⟨f3,f4,f5,f6,f7⟩:=R1.out.a.fz
 obtain ⟨⟨a0,a1,a2,a3⟩,g0,g1,g2,g3⟩:=ans_cells R1.out.r0
 obtain ⟨⟨m0,m1,m2,m3⟩,i0,i1,i2,i3⟩:=ans_cells R1.out.r1
 have hz:=heap_lt R1.out.r0
 have hz2:=heap_lt R1.out.r1
 simp only at x3 x4 x5 x6 x7
 go_wp2
 exact ret_ans rfl rfl (ansE_set rfl R1.out.r0 2 0 true) rfl rfl ⟨rfl,R1.out.done 2 0 true⟩
theorem goon_1m {w:World} {X:Nat} {P:Cp} {b:Ck} (h:KAt w X P b) (hst:b.st=1) (hn : ¬ nxW P.rd 0 < 8) (hse:b.seen≤9223372036854775807) (h0:0≤b.stamp) (hs:b.stamp < b.seen) :
  Calls Tryz.prog 146 #[.pointer (some ⟨X,0,none⟩)] w fun en w' => en = .returned (ansE 2 0 true)∧KAt w' X P ⟨1,b.seen,b.stamp+1,8,b.comp,b.err⟩∧Keep [X] w w':=by
 obtain ⟨x0,x1,x2,x3,x4,x5,x6,x7⟩:=h.cells
 obtain ⟨f3,f4,f5,f6,f7⟩:=h.fz
 have hx:X < w.heap.size:=heap_lt h
 have HX:Hid (KAt w X P b):=h
 clear h
 obtain ⟨st,seen,stamp,word,comp,err⟩:=b
 simp only at *
 subst hst
 have HW:Hid (∀ w,KAt w X P ⟨1,seen,stamp,(-1),comp,err⟩→Calls Tryz.prog 147 #[.pointer (some ⟨X,0,none⟩)] w fun e w' => e = .returned (.bool false)∧KAt w' X P ⟨1,seen,stamp,8,comp,err⟩∧Keep [X] w w'):=fun w h=>by
  have:=nextw_any h (by simp only; omega) (by simp only; omega)
  simp only at this
  rw [show ((-1:Int)+1).toNat=0 from rfl] at this
  rw [if_neg hn,decide_eq_false hn] at this
  exact this
 have HS:Hid (∀ w,KAt w X P ⟨1,seen,stamp,8,comp,err⟩→Calls Tryz.prog 133 #[.pointer (some ⟨X,0,none⟩)] w fun e w' => e = .returned (.bool true)∧KAt w' X P ⟨1,seen,stamp+1,8,comp,err⟩∧Keep [X] w w'):=fun w h=>by
  have:=nexts_any h hse h0
  simp only at this
  rw [if_pos hs,decide_eq_true hs] at this
  exact this
 clear hn
 clear hs
 have hne:w.heap.size≠X:=by omega
 have hne2:w.heap.size+1≠X:=by omega
 go_enter Tryz.func146,Tryz.ntmps146
 go_wp2_with fail
 refine (HW.out _ (ret2_set HX.out).a).mono ?_
 rintro e w1 ⟨rfl,ha1,hk1⟩
 have R1:Hid (Ret2 w w1 X P ⟨1,seen,stamp,8,comp,err⟩):=ret2_call (ret2_set HX.out) ha1 hk1
 clear ha1 hk1 x0 x1 x2 x3 x4 x5 x6 x7 f3 f4 f5 f6 f7
 obtain ⟨x0,x1,x2,x3,x4,x5,x6,x7⟩:=R1.out.a.cells
 obtain ⟨f3,f4,f5,f6,f7⟩:=R1.out.a.fz
 obtain ⟨⟨a0,a1,a2,a3⟩,g0,g1,g2,g3⟩:=ans_cells R1.out.r0
 obtain ⟨⟨m0,m1,m2,m3⟩,i0,i1,i2,i3⟩:=ans_cells R1.out.r1
 have hz:=heap_lt R1.out.r0
 have hz2:=heap_lt R1.out.r1
 simp only at x3 x4 x5 x6 x7
 go_wp2_with fail
 refine (HS.out _ (R1.out).a).mono ?_
 rintro e w2 ⟨rfl,ha2,hk2⟩
 have R2:Hid (Ret2 w w2 X P ⟨1,seen,stamp+1,8,comp,err⟩):=ret2_call (R1.out) ha2 hk2
 clear ha2 hk2 x0 x1 x2 x3 x4 x5 x6 x7 f3 f4 f5 f6 f7 R1 a0 a1 a2 a3 g0 g1 g2 g3 m0 m1 m2 m3 i0 i1 i2 i3 hz hz2
 obtain ⟨x0,x1,x2,x3,x4,x5,x6,x7⟩:=R2.out.a.cells
 obtain ⟨f3,f4,f5,f6,f7⟩:=R2.out.a.fz
 obtain ⟨⟨a0,a1,a2,a3⟩,g0,g1,g2,g3⟩:=ans_cells R2.out.r0
 obtain ⟨⟨m0,m1,m2,m3⟩,i0,i1,i2,i3⟩:=ans_cells R2.out.r1
 have hz:=heap_lt R2.out.r0
 have hz2:=heap_lt R2.out.r1
 simp only at x3 x4 x5 x6 x7
 go_wp2
 exact ret_ans rfl rfl (ansE_set rfl R2.out.r0 2 0 true) rfl rfl ⟨rfl,R2.out.done 2 0 true⟩
theorem goon_1l {w:World} {X:Nat} {P:Cp} {b:Ck} (h:KAt w X P b) (hst:b.st=1) (hn : ¬ nxW P.rd 0 < 8) (hse:b.seen≤9223372036854775807) (h0:0≤b.stamp) (hs : ¬ b.stamp < b.seen) (hl:P.last=true) :
  Calls Tryz.prog 146 #[.pointer (some ⟨X,0,none⟩)] w fun en w' => en = .returned (ansE 2 0 true)∧KAt w' X P ⟨3,b.seen,b.stamp,8,b.comp,b.err⟩∧Keep [X] w w':=by
 obtain ⟨x0,x1,x2,x3,x4,x5,x6,x7⟩:=h.cells
 obtain ⟨f3,f4,f5,f6,f7⟩:=h.fz
 have hx:X < w.heap.size:=heap_lt h
 have HX:Hid (KAt w X P b):=h
 clear h
 obtain ⟨st,seen,stamp,word,comp,err⟩:=b
 simp only at *
 subst hst
 rw [hl] at x2
 have HW:Hid (∀ w,KAt w X P ⟨1,seen,stamp,(-1),comp,err⟩→Calls Tryz.prog 147 #[.pointer (some ⟨X,0,none⟩)] w fun e w' => e = .returned (.bool false)∧KAt w' X P ⟨1,seen,stamp,8,comp,err⟩∧Keep [X] w w'):=fun w h=>by
  have:=nextw_any h (by simp only; omega) (by simp only; omega)
  simp only at this
  rw [show ((-1:Int)+1).toNat=0 from rfl] at this
  rw [if_neg hn,decide_eq_false hn] at this
  exact this
 have HS:Hid (∀ w,KAt w X P ⟨1,seen,stamp,8,comp,err⟩→Calls Tryz.prog 133 #[.pointer (some ⟨X,0,none⟩)] w fun e w' => e = .returned (.bool false)∧KAt w' X P ⟨1,seen,stamp,8,comp,err⟩∧Keep [X] w w'):=fun w h=>by
  have:=nexts_any h hse h0
  simp only at this
  rw [if_neg hs,decide_eq_false hs] at this
  exact this
 clear hn
 clear hs
 have hne:w.heap.size≠X:=by omega
 have hne2:w.heap.size+1≠X:=by omega
 go_enter Tryz.func146,Tryz.ntmps146
 go_wp2_with fail
 refine (HW.out _ (ret2_set HX.out).a).mono ?_
 rintro e w1 ⟨rfl,ha1,hk1⟩
 have R1:Hid (Ret2 w w1 X P ⟨1,seen,stamp,8,comp,err⟩):=ret2_call (ret2_set HX.out) ha1 hk1
 clear ha1 hk1 x0 x1 x2 x3 x4 x5 x6 x7 f3 f4 f5 f6 f7
 obtain ⟨x0,x1,x2,x3,x4,x5,x6,x7⟩:=R1.out.a.cells
 obtain ⟨f3,f4,f5,f6,f7⟩:=R1.out.a.fz
 obtain ⟨⟨a0,a1,a2,a3⟩,g0,g1,g2,g3⟩:=ans_cells R1.out.r0
 obtain ⟨⟨m0,m1,m2,m3⟩,i0,i1,i2,i3⟩:=ans_cells R1.out.r1
 have hz:=heap_lt R1.out.r0
 have hz2:=heap_lt R1.out.r1
 simp only at x3 x4 x5 x6 x7
 rw [hl] at x2
 go_wp2_with fail
 refine (HS.out _ (R1.out).a).mono ?_
 rintro e w2 ⟨rfl,ha2,hk2⟩
 have R2:Hid (Ret2 w w2 X P ⟨1,seen,stamp,8,comp,err⟩):=ret2_call (R1.out) ha2 hk2
 clear ha2 hk2 x0 x1 x2 x3 x4 x5 x6 x7 f3 f4 f5 f6 f7 R1 a0 a1 a2 a3 g0 g1 g2 g3 m0 m1 m2 m3 i0 i1 i2 i3 hz hz2
 obtain ⟨x0,x1,x2,x3,x4,x5,x6,x7⟩:=R2.out.a.cells
 obtain ⟨f3,f4,f5,f6,f7⟩:=R2.out.a.fz
 obtain ⟨⟨a0,a1,a2,a3⟩,g0,g1,g2,g3⟩:=ans_cells R2.out.r0
 obtain ⟨⟨m0,m1,m2,m3⟩,i0,i1,i2,i3⟩:=ans_cells R2.out.r1
 have hz:=heap_lt R2.out.r0
 have hz2:=heap_lt R2.out.r1
 simp only at x3 x4 x5 x6 x7
 rw [hl] at x2
 go_wp2
 exact ret_ans rfl rfl (ansE_set rfl (R2.out.set 3).r0 2 0 true) rfl rfl ⟨rfl,(R2.out.set 3).done 2 0 true⟩
theorem goon_1e {w:World} {X:Nat} {P:Cp} {b:Ck} (h:KAt w X P b) (hst:b.st=1) (hn : ¬ nxW P.rd 0 < 8) (hse:b.seen≤9223372036854775807) (h0:0≤b.stamp) (hs : ¬ b.stamp < b.seen) (hl:P.last=false) :
  Calls Tryz.prog 146 #[.pointer (some ⟨X,0,none⟩)] w fun en w' => en = .returned (ansE 3 0 true)∧KAt w' X P ⟨4,b.seen,b.stamp,8,b.comp,b.err⟩∧Keep [X] w w':=by
 obtain ⟨x0,x1,x2,x3,x4,x5,x6,x7⟩:=h.cells
 obtain ⟨f3,f4,f5,f6,f7⟩:=h.fz
 have hx:X < w.heap.size:=heap_lt h
 have HX:Hid (KAt w X P b):=h
 clear h
 obtain ⟨st,seen,stamp,word,comp,err⟩:=b
 simp only at *
 subst hst
 rw [hl] at x2
 have HW:Hid (∀ w,KAt w X P ⟨1,seen,stamp,(-1),comp,err⟩→Calls Tryz.prog 147 #[.pointer (some ⟨X,0,none⟩)] w fun e w' => e = .returned (.bool false)∧KAt w' X P ⟨1,seen,stamp,8,comp,err⟩∧Keep [X] w w'):=fun w h=>by
  have:=nextw_any h (by simp only; omega) (by simp only; omega)
  simp only at this
  rw [show ((-1:Int)+1).toNat=0 from rfl] at this
  rw [if_neg hn,decide_eq_false hn] at this
  exact this
 have HS:Hid (∀ w,KAt w X P ⟨1,seen,stamp,8,comp,err⟩→Calls Tryz.prog 133 #[.pointer (some ⟨X,0,none⟩)] w fun e w' => e = .returned (.bool false)∧KAt w' X P ⟨1,seen,stamp,8,comp,err⟩∧Keep [X] w w'):=fun w h=>by
  have:=nexts_any h hse h0
  simp only at this
  rw [if_neg hs,decide_eq_false hs] at this
  exact this
 clear hn
 clear hs
 have hne:w.heap.size≠X:=by omega
 have hne2:w.heap.size+1≠X:=by omega
 go_enter Tryz.func146,Tryz.ntmps146
 go_wp2_with fail
 refine (HW.out _ (ret2_set HX.out).a).mono ?_
 rintro e w1 ⟨rfl,ha1,hk1⟩
 have R1:Hid (Ret2 w w1 X P ⟨1,seen,stamp,8,comp,err⟩):=ret2_call (ret2_set HX.out) ha1 hk1
 clear ha1 hk1 x0 x1 x2 x3 x4 x5 x6 x7 f3 f4 f5 f6 f7
 obtain ⟨x0,x1,x2,x3,x4,x5,x6,x7⟩:=R1.out.a.cells
 obtain ⟨f3,f4,f5,f6,f7⟩:=R1.out.a.fz
 obtain ⟨⟨a0,a1,a2,a3⟩,g0,g1,g2,g3⟩:=ans_cells R1.out.r0
 obtain ⟨⟨m0,m1,m2,m3⟩,i0,i1,i2,i3⟩:=ans_cells R1.out.r1
 have hz:=heap_lt R1.out.r0
 have hz2:=heap_lt R1.out.r1
 simp only at x3 x4 x5 x6 x7
 rw [hl] at x2
 go_wp2_with fail
 refine (HS.out _ (R1.out).a).mono ?_
 rintro e w2 ⟨rfl,ha2,hk2⟩
 have R2:Hid (Ret2 w w2 X P ⟨1,seen,stamp,8,comp,err⟩):=ret2_call (R1.out) ha2 hk2
 clear ha2 hk2 x0 x1 x2 x3 x4 x5 x6 x7 f3 f4 f5 f6 f7 R1 a0 a1 a2 a3 g0 g1 g2 g3 m0 m1 m2 m3 i0 i1 i2 i3 hz hz2
 obtain ⟨x0,x1,x2,x3,x4,x5,x6,x7⟩:=R2.out.a.cells
 obtain ⟨f3,f4,f5,f6,f7⟩:=R2.out.a.fz
 obtain ⟨⟨a0,a1,a2,a3⟩,g0,g1,g2,g3⟩:=ans_cells R2.out.r0
 obtain ⟨⟨m0,m1,m2,m3⟩,i0,i1,i2,i3⟩:=ans_cells R2.out.r1
 have hz:=heap_lt R2.out.r0
 have hz2:=heap_lt R2.out.r1
 simp only at x3 x4 x5 x6 x7
 rw [hl] at x2
 go_wp2
 exact ret_ans rfl rfl (ansE_set rfl (R2.out.set 4).r0 3 0 true) rfl rfl ⟨rfl,(R2.out.set 4).done 3 0 true⟩
theorem goon_2h {w:World} {X:Nat} {P:Cp} {b:Ck} (h:KAt w X P b) (hst:b.st=2) (hw1 : -1≤b.word) (hw2:b.word≤7) (hn:nxW P.rd (b.word+1).toNat < 8) :
  Calls Tryz.prog 146 #[.pointer (some ⟨X,0,none⟩)] w fun en w' => en = .returned (ansE 2 0 true)∧KAt w' X P ⟨2,b.seen,b.stamp,(nxW P.rd (b.word+1).toNat:Int),b.comp,b.err⟩∧Keep [X] w w':=by
 obtain ⟨x0,x1,x2,x3,x4,x5,x6,x7⟩:=h.cells
 obtain ⟨f3,f4,f5,f6,f7⟩:=h.fz
 have hx:X < w.heap.size:=heap_lt h
 have HX:Hid (KAt w X P b):=h
 clear h
 obtain ⟨st,seen,stamp,word,comp,err⟩:=b
 simp only at *
 subst hst
 have HW:Hid (∀ w,KAt w X P ⟨2,seen,stamp,word,comp,err⟩→Calls Tryz.prog 147 #[.pointer (some ⟨X,0,none⟩)] w fun e w' => e = .returned (.bool true)∧KAt w' X P ⟨2,seen,stamp,(nxW P.rd (word+1).toNat:Int),comp,err⟩∧Keep [X] w w'):=fun w h=>by
  have:=nextw_any h (by simp only; omega) (by simp only; omega)
  simp only at this
  rw [if_pos hn,decide_eq_true hn] at this
  exact this
 clear hn
 generalize nxW P.rd (word+1).toNat=nx at *
 have hne:w.heap.size≠X:=by omega
 have hne2:w.heap.size+1≠X:=by omega
 go_enter Tryz.func146,Tryz.ntmps146
 go_wp2_with fail
 refine (HW.out _ (ret2_start HX.out).a).mono ?_
 rintro e w1 ⟨rfl,ha1,hk1⟩
 have R1:Hid (Ret2 w w1 X P ⟨2,seen,stamp,(nx:Int),comp,err⟩):=ret2_call (ret2_start HX.out) ha1 hk1
 clear ha1 hk1 x0 x1 x2 x3 x4 x5 x6 x7 f3 f4 f5 f6 f7
 obtain ⟨x0,x1,x2,x3,x4,x5,x6,x7⟩:=R1.out.a.cells
 obtain ⟨f3,f4,f5,f6,f7⟩:=R1.out.a.fz
 obtain ⟨⟨a0,a1,a2,a3⟩,g0,g1,g2,g3⟩:=ans_cells R1.out.r0
 obtain ⟨⟨m0,m1,m2,m3⟩,i0,i1,i2,i3⟩:=ans_cells R1.out.r1
 have hz:=heap_lt R1.out.r0
 have hz2:=heap_lt R1.out.r1
 simp only at x3 x4 x5 x6 x7
 go_wp2
 exact ret_ans rfl rfl (ansE_set rfl R1.out.r0 2 0 true) rfl rfl ⟨rfl,R1.out.done 2 0 true⟩
theorem goon_2m {w:World} {X:Nat} {P:Cp} {b:Ck} (h:KAt w X P b) (hst:b.st=2) (hw1 : -1≤b.word) (hw2:b.word≤7) (hn : ¬ nxW P.rd (b.word+1).toNat < 8) (hse:b.seen≤9223372036854775807) (h0:0≤b.stamp) (hs:b.stamp < b.seen) :
  Calls Tryz.prog 146 #[.pointer (some ⟨X,0,none⟩)] w fun en w' => en = .returned (ansE 2 0 true)∧KAt w' X P ⟨1,b.seen,b.stamp+1,8,b.comp,b.err⟩∧Keep [X] w w':=by
 obtain ⟨x0,x1,x2,x3,x4,x5,x6,x7⟩:=h.cells
 obtain ⟨f3,f4,f5,f6,f7⟩:=h.fz
 have hx:X < w.heap.size:=heap_lt h
 have HX:Hid (KAt w X P b):=h
 clear h
 obtain ⟨st,seen,stamp,word,comp,err⟩:=b
 simp only at *
 subst hst
 have HW:Hid (∀ w,KAt w X P ⟨2,seen,stamp,word,comp,err⟩→Calls Tryz.prog 147 #[.pointer (some ⟨X,0,none⟩)] w fun e w' => e = .returned (.bool false)∧KAt w' X P ⟨2,seen,stamp,8,comp,err⟩∧Keep [X] w w'):=fun w h=>by
  have:=nextw_any h (by simp only; omega) (by simp only; omega)
  simp only at this
  rw [if_neg hn,decide_eq_false hn] at this
  exact this
 have HS:Hid (∀ w,KAt w X P ⟨2,seen,stamp,8,comp,err⟩→Calls Tryz.prog 133 #[.pointer (some ⟨X,0,none⟩)] w fun e w' => e = .returned (.bool true)∧KAt w' X P ⟨1,seen,stamp+1,8,comp,err⟩∧Keep [X] w w'):=fun w h=>by
  have:=nexts_any h hse h0
  simp only at this
  rw [if_pos hs,decide_eq_true hs] at this
  exact this
 clear hn
 clear hs
 have hne:w.heap.size≠X:=by omega
 have hne2:w.heap.size+1≠X:=by omega
 go_enter Tryz.func146,Tryz.ntmps146
 go_wp2_with fail
 refine (HW.out _ (ret2_start HX.out).a).mono ?_
 rintro e w1 ⟨rfl,ha1,hk1⟩
 have R1:Hid (Ret2 w w1 X P ⟨2,seen,stamp,8,comp,err⟩):=ret2_call (ret2_start HX.out) ha1 hk1
 clear ha1 hk1 x0 x1 x2 x3 x4 x5 x6 x7 f3 f4 f5 f6 f7
 obtain ⟨x0,x1,x2,x3,x4,x5,x6,x7⟩:=R1.out.a.cells
 obtain ⟨f3,f4,f5,f6,f7⟩:=R1.out.a.fz
 obtain ⟨⟨a0,a1,a2,a3⟩,g0,g1,g2,g3⟩:=ans_cells R1.out.r0
 obtain ⟨⟨m0,m1,m2,m3⟩,i0,i1,i2,i3⟩:=ans_cells R1.out.r1
 have hz:=heap_lt R1.out.r0
 have hz2:=heap_lt R1.out.r1
 simp only at x3 x4 x5 x6 x7
 go_wp2_with fail
 refine (HS.out _ (R1.out).a).mono ?_
 rintro e w2 ⟨rfl,ha2,hk2⟩
 have R2:Hid (Ret2 w w2 X P ⟨1,seen,stamp+1,8,comp,err⟩):=ret2_call (R1.out) ha2 hk2
 clear ha2 hk2 x0 x1 x2 x3 x4 x5 x6 x7 f3 f4 f5 f6 f7 R1 a0 a1 a2 a3 g0 g1 g2 g3 m0 m1 m2 m3 i0 i1 i2 i3 hz hz2
 obtain ⟨x0,x1,x2,x3,x4,x5,x6,x7⟩:=R2.out.a.cells
 obtain ⟨f3,f4,f5,f6,f7⟩:=R2.out.a.fz
 obtain ⟨⟨a0,a1,a2,a3⟩,g0,g1,g2,g3⟩:=ans_cells R2.out.r0
 obtain ⟨⟨m0,m1,m2,m3⟩,i0,i1,i2,i3⟩:=ans_cells R2.out.r1
 have hz:=heap_lt R2.out.r0
 have hz2:=heap_lt R2.out.r1
 simp only at x3 x4 x5 x6 x7
 go_wp2
 exact ret_ans rfl rfl (ansE_set rfl R2.out.r0 2 0 true) rfl rfl ⟨rfl,R2.out.done 2 0 true⟩
theorem goon_2l {w:World} {X:Nat} {P:Cp} {b:Ck} (h:KAt w X P b) (hst:b.st=2) (hw1 : -1≤b.word) (hw2:b.word≤7) (hn : ¬ nxW P.rd (b.word+1).toNat < 8) (hse:b.seen≤9223372036854775807) (h0:0≤b.stamp) (hs : ¬ b.stamp < b.seen) (hl:P.last=true) :
  Calls Tryz.prog 146 #[.pointer (some ⟨X,0,none⟩)] w fun en w' => en = .returned (ansE 2 0 true)∧KAt w' X P ⟨3,b.seen,b.stamp,8,b.comp,b.err⟩∧Keep [X] w w':=by
 obtain ⟨x0,x1,x2,x3,x4,x5,x6,x7⟩:=h.cells
 obtain ⟨f3,f4,f5,f6,f7⟩:=h.fz
 have hx:X < w.heap.size:=heap_lt h
 have HX:Hid (KAt w X P b):=h
 clear h
 obtain ⟨st,seen,stamp,word,comp,err⟩:=b
 simp only at *
 subst hst
 rw [hl] at x2
 have HW:Hid (∀ w,KAt w X P ⟨2,seen,stamp,word,comp,err⟩→Calls Tryz.prog 147 #[.pointer (some ⟨X,0,none⟩)] w fun e w' => e = .returned (.bool false)∧KAt w' X P ⟨2,seen,stamp,8,comp,err⟩∧Keep [X] w w'):=fun w h=>by
  have:=nextw_any h (by simp only; omega) (by simp only; omega)
  simp only at this
  rw [if_neg hn,decide_eq_false hn] at this
  exact this
 have HS:Hid (∀ w,KAt w X P ⟨2,seen,stamp,8,comp,err⟩→Calls Tryz.prog 133 #[.pointer (some ⟨X,0,none⟩)] w fun e w' => e = .returned (.bool false)∧KAt w' X P ⟨2,seen,stamp,8,comp,err⟩∧Keep [X] w w'):=fun w h=>by
  have:=nexts_any h hse h0
  simp only at this
  rw [if_neg hs,decide_eq_false hs] at this
  exact this
 clear hn
 clear hs
 have hne:w.heap.size≠X:=by omega
 have hne2:w.heap.size+1≠X:=by omega
 go_enter Tryz.func146,Tryz.ntmps146
 go_wp2_with fail
 refine (HW.out _ (ret2_start HX.out).a).mono ?_
 rintro e w1 ⟨rfl,ha1,hk1⟩
 have R1:Hid (Ret2 w w1 X P ⟨2,seen,stamp,8,comp,err⟩):=ret2_call (ret2_start HX.out) ha1 hk1
 clear ha1 hk1 x0 x1 x2 x3 x4 x5 x6 x7 f3 f4 f5 f6 f7
 obtain ⟨x0,x1,x2,x3,x4,x5,x6,x7⟩:=R1.out.a.cells
 obtain ⟨f3,f4,f5,f6,f7⟩:=R1.out.a.fz
 obtain ⟨⟨a0,a1,a2,a3⟩,g0,g1,g2,g3⟩:=ans_cells R1.out.r0
 obtain ⟨⟨m0,m1,m2,m3⟩,i0,i1,i2,i3⟩:=ans_cells R1.out.r1
 have hz:=heap_lt R1.out.r0
 have hz2:=heap_lt R1.out.r1
 simp only at x3 x4 x5 x6 x7
 rw [hl] at x2
 go_wp2_with fail
 refine (HS.out _ (R1.out).a).mono ?_
 rintro e w2 ⟨rfl,ha2,hk2⟩
 have R2:Hid (Ret2 w w2 X P ⟨2,seen,stamp,8,comp,err⟩):=ret2_call (R1.out) ha2 hk2
 clear ha2 hk2 x0 x1 x2 x3 x4 x5 x6 x7 f3 f4 f5 f6 f7 R1 a0 a1 a2 a3 g0 g1 g2 g3 m0 m1 m2 m3 i0 i1 i2 i3 hz hz2
 obtain ⟨x0,x1,x2,x3,x4,x5,x6,x7⟩:=R2.out.a.cells
 obtain ⟨f3,f4,f5,f6,f7⟩:=R2.out.a.fz
 obtain ⟨⟨a0,a1,a2,a3⟩,g0,g1,g2,g3⟩:=ans_cells R2.out.r0
 obtain ⟨⟨m0,m1,m2,m3⟩,i0,i1,i2,i3⟩:=ans_cells R2.out.r1
 have hz:=heap_lt R2.out.r0
 have hz2:=heap_lt R2.out.r1
 simp only at x3 x4 x5 x6 x7
 rw [hl] at x2
 go_wp2
 exact ret_ans rfl rfl (ansE_set rfl (R2.out.set 3).r0 2 0 true) rfl rfl ⟨rfl,(R2.out.set 3).done 2 0 true⟩
theorem goon_2e {w:World} {X:Nat} {P:Cp} {b:Ck} (h:KAt w X P b) (hst:b.st=2) (hw1 : -1≤b.word) (hw2:b.word≤7) (hn : ¬ nxW P.rd (b.word+1).toNat < 8) (hse:b.seen≤9223372036854775807) (h0:0≤b.stamp) (hs : ¬ b.stamp < b.seen) (hl:P.last=false) :
  Calls Tryz.prog 146 #[.pointer (some ⟨X,0,none⟩)] w fun en w' => en = .returned (ansE 3 0 true)∧KAt w' X P ⟨4,b.seen,b.stamp,8,b.comp,b.err⟩∧Keep [X] w w':=by
 obtain ⟨x0,x1,x2,x3,x4,x5,x6,x7⟩:=h.cells
 obtain ⟨f3,f4,f5,f6,f7⟩:=h.fz
 have hx:X < w.heap.size:=heap_lt h
 have HX:Hid (KAt w X P b):=h
 clear h
 obtain ⟨st,seen,stamp,word,comp,err⟩:=b
 simp only at *
 subst hst
 rw [hl] at x2
 have HW:Hid (∀ w,KAt w X P ⟨2,seen,stamp,word,comp,err⟩→Calls Tryz.prog 147 #[.pointer (some ⟨X,0,none⟩)] w fun e w' => e = .returned (.bool false)∧KAt w' X P ⟨2,seen,stamp,8,comp,err⟩∧Keep [X] w w'):=fun w h=>by
  have:=nextw_any h (by simp only; omega) (by simp only; omega)
  simp only at this
  rw [if_neg hn,decide_eq_false hn] at this
  exact this
 have HS:Hid (∀ w,KAt w X P ⟨2,seen,stamp,8,comp,err⟩→Calls Tryz.prog 133 #[.pointer (some ⟨X,0,none⟩)] w fun e w' => e = .returned (.bool false)∧KAt w' X P ⟨2,seen,stamp,8,comp,err⟩∧Keep [X] w w'):=fun w h=>by
  have:=nexts_any h hse h0
  simp only at this
  rw [if_neg hs,decide_eq_false hs] at this
  exact this
 clear hn
 clear hs
 have hne:w.heap.size≠X:=by omega
 have hne2:w.heap.size+1≠X:=by omega
 go_enter Tryz.func146,Tryz.ntmps146
 go_wp2_with fail
 refine (HW.out _ (ret2_start HX.out).a).mono ?_
 rintro e w1 ⟨rfl,ha1,hk1⟩
 have R1:Hid (Ret2 w w1 X P ⟨2,seen,stamp,8,comp,err⟩):=ret2_call (ret2_start HX.out) ha1 hk1
 clear ha1 hk1 x0 x1 x2 x3 x4 x5 x6 x7 f3 f4 f5 f6 f7
 obtain ⟨x0,x1,x2,x3,x4,x5,x6,x7⟩:=R1.out.a.cells
 obtain ⟨f3,f4,f5,f6,f7⟩:=R1.out.a.fz
 obtain ⟨⟨a0,a1,a2,a3⟩,g0,g1,g2,g3⟩:=ans_cells R1.out.r0
 obtain ⟨⟨m0,m1,m2,m3⟩,i0,i1,i2,i3⟩:=ans_cells R1.out.r1
 have hz:=heap_lt R1.out.r0
 have hz2:=heap_lt R1.out.r1
 simp only at x3 x4 x5 x6 x7
 rw [hl] at x2
 go_wp2_with fail
 refine (HS.out _ (R1.out).a).mono ?_
 rintro e w2 ⟨rfl,ha2,hk2⟩
 have R2:Hid (Ret2 w w2 X P ⟨2,seen,stamp,8,comp,err⟩):=ret2_call (R1.out) ha2 hk2
 clear ha2 hk2 x0 x1 x2 x3 x4 x5 x6 x7 f3 f4 f5 f6 f7 R1 a0 a1 a2 a3 g0 g1 g2 g3 m0 m1 m2 m3 i0 i1 i2 i3 hz hz2
 obtain ⟨x0,x1,x2,x3,x4,x5,x6,x7⟩:=R2.out.a.cells
 obtain ⟨f3,f4,f5,f6,f7⟩:=R2.out.a.fz
 obtain ⟨⟨a0,a1,a2,a3⟩,g0,g1,g2,g3⟩:=ans_cells R2.out.r0
 obtain ⟨⟨m0,m1,m2,m3⟩,i0,i1,i2,i3⟩:=ans_cells R2.out.r1
 have hz:=heap_lt R2.out.r0
 have hz2:=heap_lt R2.out.r1
 simp only at x3 x4 x5 x6 x7
 rw [hl] at x2
 go_wp2
 exact ret_ans rfl rfl (ansE_set rfl (R2.out.set 4).r0 3 0 true) rfl rfl ⟨rfl,(R2.out.set 4).done 3 0 true⟩
theorem goon_0m {w:World} {X:Nat} {P:Cp} {b:Ck} (h:KAt w X P b) (hst:b.st=0) (hse:b.seen≤9223372036854775807) (h0:0≤b.stamp) (hs:b.stamp < b.seen) :
  Calls Tryz.prog 146 #[.pointer (some ⟨X,0,none⟩)] w fun en w' => en = .returned (ansE 2 0 true)∧KAt w' X P ⟨1,b.seen,b.stamp+1,b.word,b.comp,b.err⟩∧Keep [X] w w':=by
 obtain ⟨x0,x1,x2,x3,x4,x5,x6,x7⟩:=h.cells
 obtain ⟨f3,f4,f5,f6,f7⟩:=h.fz
 have hx:X < w.heap.size:=heap_lt h
 have HX:Hid (KAt w X P b):=h
 clear h
 obtain ⟨st,seen,stamp,word,comp,err⟩:=b
 simp only at *
 subst hst
 have HS:Hid (∀ w,KAt w X P ⟨0,seen,stamp,word,comp,err⟩→Calls Tryz.prog 133 #[.pointer (some ⟨X,0,none⟩)] w fun e w' => e = .returned (.bool true)∧KAt w' X P ⟨1,seen,stamp+1,word,comp,err⟩∧Keep [X] w w'):=fun w h=>by
  have:=nexts_any h hse h0
  simp only at this
  rw [if_pos hs,decide_eq_true hs] at this
  exact this
 clear hs
 have hne:w.heap.size≠X:=by omega
 have hne2:w.heap.size+1≠X:=by omega
 go_enter Tryz.func146,Tryz.ntmps146
 go_wp2_with fail
 refine (HS.out _ (ret2_start HX.out).a).mono ?_
 rintro e w1 ⟨rfl,ha1,hk1⟩
 have R1:Hid (Ret2 w w1 X P ⟨1,seen,stamp+1,word,comp,err⟩):=ret2_call (ret2_start HX.out) ha1 hk1
 clear ha1 hk1 x0 x1 x2 x3 x4 x5 x6 x7 f3 f4 f5 f6 f7
 obtain ⟨x0,x1,x2,x3,x4,x5,x6,x7⟩:=R1.out.a.cells
 obtain ⟨f3,f4,f5,f6,f7⟩:=R1.out.a.fz
 obtain ⟨⟨a0,a1,a2,a3⟩,g0,g1,g2,g3⟩:=ans_cells R1.out.r0
 obtain ⟨⟨m0,m1,m2,m3⟩,i0,i1,i2,i3⟩:=ans_cells R1.out.r1
 have hz:=heap_lt R1.out.r0
 have hz2:=heap_lt R1.out.r1
 simp only at x3 x4 x5 x6 x7
 go_wp2
 exact ret_ans rfl rfl (ansE_set rfl R1.out.r0 2 0 true) rfl rfl ⟨rfl,R1.out.done 2 0 true⟩
theorem goon_0l {w:World} {X:Nat} {P:Cp} {b:Ck} (h:KAt w X P b) (hst:b.st=0) (hse:b.seen≤9223372036854775807) (h0:0≤b.stamp) (hs : ¬ b.stamp < b.seen) (hl:P.last=true) :
  Calls Tryz.prog 146 #[.pointer (some ⟨X,0,none⟩)] w fun en w' => en = .returned (ansE 2 0 true)∧KAt w' X P ⟨3,b.seen,b.stamp,b.word,b.comp,b.err⟩∧Keep [X] w w':=by
 obtain ⟨x0,x1,x2,x3,x4,x5,x6,x7⟩:=h.cells
 obtain ⟨f3,f4,f5,f6,f7⟩:=h.fz
 have hx:X < w.heap.size:=heap_lt h
 have HX:Hid (KAt w X P b):=h
 clear h
 obtain ⟨st,seen,stamp,word,comp,err⟩:=b
 simp only at *
 subst hst
 rw [hl] at x2
 have HS:Hid (∀ w,KAt w X P ⟨0,seen,stamp,word,comp,err⟩→Calls Tryz.prog 133 #[.pointer (some ⟨X,0,none⟩)] w fun e w' => e = .returned (.bool false)∧KAt w' X P ⟨0,seen,stamp,word,comp,err⟩∧Keep [X] w w'):=fun w h=>by
  have:=nexts_any h hse h0
  simp only at this
  rw [if_neg hs,decide_eq_false hs] at this
  exact this
 clear hs
 have hne:w.heap.size≠X:=by omega
 have hne2:w.heap.size+1≠X:=by omega
 go_enter Tryz.func146,Tryz.ntmps146
 go_wp2_with fail
 refine (HS.out _ (ret2_start HX.out).a).mono ?_
 rintro e w1 ⟨rfl,ha1,hk1⟩
 have R1:Hid (Ret2 w w1 X P ⟨0,seen,stamp,word,comp,err⟩):=ret2_call (ret2_start HX.out) ha1 hk1
 clear ha1 hk1 x0 x1 x2 x3 x4 x5 x6 x7 f3 f4 f5 f6 f7
 obtain ⟨x0,x1,x2,x3,x4,x5,x6,x7⟩:=R1.out.a.cells
 obtain ⟨f3,f4,f5,f6,f7⟩:=R1.out.a.fz
 obtain ⟨⟨a0,a1,a2,a3⟩,g0,g1,g2,g3⟩:=ans_cells R1.out.r0
 obtain ⟨⟨m0,m1,m2,m3⟩,i0,i1,i2,i3⟩:=ans_cells R1.out.r1
 have hz:=heap_lt R1.out.r0
 have hz2:=heap_lt R1.out.r1
 simp only at x3 x4 x5 x6 x7
 rw [hl] at x2
 go_wp2
 exact ret_ans rfl rfl (ansE_set rfl (R1.out.set 3).r0 2 0 true) rfl rfl ⟨rfl,(R1.out.set 3).done 2 0 true⟩
theorem goon_0e {w:World} {X:Nat} {P:Cp} {b:Ck} (h:KAt w X P b) (hst:b.st=0) (hse:b.seen≤9223372036854775807) (h0:0≤b.stamp) (hs : ¬ b.stamp < b.seen) (hl:P.last=false) :
  Calls Tryz.prog 146 #[.pointer (some ⟨X,0,none⟩)] w fun en w' => en = .returned (ansE 3 0 true)∧KAt w' X P ⟨4,b.seen,b.stamp,b.word,b.comp,b.err⟩∧Keep [X] w w':=by
 obtain ⟨x0,x1,x2,x3,x4,x5,x6,x7⟩:=h.cells
 obtain ⟨f3,f4,f5,f6,f7⟩:=h.fz
 have hx:X < w.heap.size:=heap_lt h
 have HX:Hid (KAt w X P b):=h
 clear h
 obtain ⟨st,seen,stamp,word,comp,err⟩:=b
 simp only at *
 subst hst
 rw [hl] at x2
 have HS:Hid (∀ w,KAt w X P ⟨0,seen,stamp,word,comp,err⟩→Calls Tryz.prog 133 #[.pointer (some ⟨X,0,none⟩)] w fun e w' => e = .returned (.bool false)∧KAt w' X P ⟨0,seen,stamp,word,comp,err⟩∧Keep [X] w w'):=fun w h=>by
  have:=nexts_any h hse h0
  simp only at this
  rw [if_neg hs,decide_eq_false hs] at this
  exact this
 clear hs
 have hne:w.heap.size≠X:=by omega
 have hne2:w.heap.size+1≠X:=by omega
 go_enter Tryz.func146,Tryz.ntmps146
 go_wp2_with fail
 refine (HS.out _ (ret2_start HX.out).a).mono ?_
 rintro e w1 ⟨rfl,ha1,hk1⟩
 have R1:Hid (Ret2 w w1 X P ⟨0,seen,stamp,word,comp,err⟩):=ret2_call (ret2_start HX.out) ha1 hk1
 clear ha1 hk1 x0 x1 x2 x3 x4 x5 x6 x7 f3 f4 f5 f6 f7
 obtain ⟨x0,x1,x2,x3,x4,x5,x6,x7⟩:=R1.out.a.cells
 obtain ⟨f3,f4,f5,f6,f7⟩:=R1.out.a.fz
 obtain ⟨⟨a0,a1,a2,a3⟩,g0,g1,g2,g3⟩:=ans_cells R1.out.r0
 obtain ⟨⟨m0,m1,m2,m3⟩,i0,i1,i2,i3⟩:=ans_cells R1.out.r1
 have hz:=heap_lt R1.out.r0
 have hz2:=heap_lt R1.out.r1
 simp only at x3 x4 x5 x6 x7
 rw [hl] at x2
 go_wp2
 exact ret_ans rfl rfl (ansE_set rfl (R1.out.set 4).r0 3 0 true) rfl rfl ⟨rfl,(R1.out.set 4).done 3 0 true⟩
theorem goon_3e {w:World} {X:Nat} {P:Cp} {b:Ck} (h:KAt w X P b) (hst:b.st=3)  :
  Calls Tryz.prog 146 #[.pointer (some ⟨X,0,none⟩)] w fun en w' => en = .returned (ansE 3 0 true)∧KAt w' X P ⟨4,b.seen,b.stamp,b.word,b.comp,b.err⟩∧Keep [X] w w':=by
 obtain ⟨x0,x1,x2,x3,x4,x5,x6,x7⟩:=h.cells
 obtain ⟨f3,f4,f5,f6,f7⟩:=h.fz
 have hx:X < w.heap.size:=heap_lt h
 have HX:Hid (KAt w X P b):=h
 clear h
 obtain ⟨st,seen,stamp,word,comp,err⟩:=b
 simp only at *
 subst hst
 have hne:w.heap.size≠X:=by omega
 have hne2:w.heap.size+1≠X:=by omega
 go_enter Tryz.func146,Tryz.ntmps146
 go_wp2
 exact ret_ans rfl rfl (row_2_0 _ _ _ _ _) rfl rfl ⟨rfl,((kset HX.out 4).1.alloc _).alloc _,((kkeep (Keep.refl _ _) _ _).alloc _).alloc _⟩
--END CASES
theorem goon_any {w:World} {X:Nat} {P:Cp} {b:Ck} (h:KAt w X P b) (hst:b.st=0∨b.st=1∨b.st=2∨b.st=3) (hw:b.st=2 → -1≤b.word∧b.word≤7) (hse:b.seen≤9223372036854775807) (h0:0≤b.stamp) :
  Calls Tryz.prog 146 #[.pointer (some ⟨X,0,none⟩)] w fun en w' => en = .returned (ansE (kindV (onV P b)) 0 true)∧KAt w' X P (onV P b)∧Keep [X] w w':=by
 unfold onV
 rcases hst with e | e | e | e
 ·rw [if_neg (by omega),if_neg (by omega),if_pos e]
  unfold stampOn
  by_cases hs:b.stamp < b.seen
  ·rw [if_pos hs]; exact goon_0m (b:=b) h e hse h0 hs
  ·rw [if_neg hs]
   by_cases hl:P.last=true
   ·rw [if_pos hl]; exact goon_0l (b:=b) h e hse h0 hs hl
   ·rw [if_neg hl]; exact goon_0e (b:=b) h e hse h0 hs (by simpa using hl)
 ·rw [if_pos e]
  unfold wordOn stampOn
  rw [show ((-1:Int)+1).toNat=0 from rfl]
  by_cases hn:nxW P.rd 0 < 8
  ·rw [if_pos hn]; exact goon_1h (b:=b) h e hn
  ·rw [if_neg hn]
   simp only
   by_cases hs:b.stamp < b.seen
   ·rw [if_pos hs]; exact goon_1m (b:=b) h e hn hse h0 hs
   ·rw [if_neg hs]
    by_cases hl:P.last=true
    ·rw [if_pos hl]; exact goon_1l (b:=b) h e hn hse h0 hs hl
    ·rw [if_neg hl]; exact goon_1e (b:=b) h e hn hse h0 hs (by simpa using hl)
 ·rw [if_neg (by omega),if_pos e]
  obtain ⟨hw1,hw2⟩:=hw e
  unfold wordOn stampOn
  by_cases hn:nxW P.rd (b.word+1).toNat < 8
  ·rw [if_pos hn]; exact goon_2h (b:=b) h e hw1 hw2 hn
  ·rw [if_neg hn]
   simp only
   by_cases hs:b.stamp < b.seen
   ·rw [if_pos hs]; exact goon_2m (b:=b) h e hw1 hw2 hn hse h0 hs
   ·rw [if_neg hs]
    by_cases hl:P.last=true
    ·rw [if_pos hl]; exact goon_2l (b:=b) h e hw1 hw2 hn hse h0 hs hl
    ·rw [if_neg hl]; exact goon_2e (b:=b) h e hw1 hw2 hn hse h0 hs (by simpa using hl)
 ·rw [if_neg (by omega),if_neg (by omega),if_neg (by omega)]
  exact goon_3e (b:=b) h e
end Go.Proofs.YtdkpgdkjohjcaaaGreat.Fe
