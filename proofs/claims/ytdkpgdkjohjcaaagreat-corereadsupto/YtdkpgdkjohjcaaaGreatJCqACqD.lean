/- The program's machine of layer 8: New, Start, goesOver, addr, overrunBy, fail, toNextWord, toNextStamp. -/
import Derived.Test.YtdkpgdkjohjcaaaGreatCqM
import Derived.Test.YtdkpgdkjohjcaaaGreatJHashSigB
import Derived.Test.YtdkpgdkjohjcaaaGreatJRngAMemB
import Derived.Test.YtdkpgdkjohjcaaaGreatJMemCAns
import Derived.OwnWalk
import Derived.Test.YtdkpgdkjohjcaaaGreatJSigPSigU
set_option maxHeartbeats 1600000
set_option maxRecDepth 10000
namespace Go.Proofs.YtdkpgdkjohjcaaaGreat.Co
open Go.ChangeShapes Go.WideShapes Go.ChangeAt Go.RowKit
attribute [local go_sem ↓] Go.wp_at_zero Go.wp_at_succ
def rdV (rd:List Nat) (j:Nat):Value:=.int .u64 ((rd.getD j 0:Nat):Int)
def ckC (P:Cp) (b:Ck):Array Value:=#[.int .i64 (P.s:Int),.int .i64 P.z,rdV P.rd 0,rdV P.rd 1,rdV P.rd 2,rdV P.rd 3,rdV P.rd 4,rdV P.rd 5,rdV P.rd 6,rdV P.rd 7,.bool P.last,.int .i64 b.st,.int .i64 b.seen,.int .i64 b.stamp,.int .i64 b.word,.int .i64 b.comp]
def KAt (w:World) (X:Nat) (P:Cp) (b:Ck):Prop:=w.heap[X]? = some (.cells (ckC P b) 147 (0,0))
theorem KAt.keep {w w':World} {X:Nat} {P:Cp} {b:Ck} {F:List Nat} (h:KAt w X P b) (k:Keep F w w') (hx:X ∉ F):KAt w' X P b:=by
 unfold KAt; rw [k.block _ (heap_lt h) hx]; exact h
theorem KAt.below {w w':World} {X:Nat} {P:Cp} {b:Ck} {B:Nat} (h:KAt w X P b) (k:Below B w w') (hx:X < B):KAt w' X P b:=by
 unfold KAt; rw [k.block _ hx]; exact h
theorem KAt.cells {w:World} {X:Nat} {P:Cp} {b:Ck} (h:KAt w X P b):w.cell? ⟨X,0,none⟩=some (.int .i64 (P.s:Int))∧w.cell? ⟨X,1,none⟩=some (.int .i64 P.z)∧w.cell? ⟨X,10,none⟩=some (.bool P.last)∧w.cell? ⟨X,11,none⟩=some (.int .i64 b.st)∧w.cell? ⟨X,12,none⟩=some (.int .i64 b.seen)∧w.cell? ⟨X,13,none⟩=some (.int .i64 b.stamp)∧w.cell? ⟨X,14,none⟩=some (.int .i64 b.word)∧w.cell? ⟨X,15,none⟩=some (.int .i64 b.comp) :=
 ⟨by rw [cell_at h]; rfl,by rw [cell_at h]; rfl,by rw [cell_at h]; rfl,by rw [cell_at h]; rfl,by rw [cell_at h]; rfl,by rw [cell_at h]; rfl,by rw [cell_at h]; rfl,by rw [cell_at h]; rfl⟩
theorem KAt.fz {w:World} {X:Nat} {P:Cp} {b:Ck} (h:KAt w X P b):w.frozen? ⟨X,11,none⟩=false∧w.frozen? ⟨X,12,none⟩=false∧w.frozen? ⟨X,13,none⟩=false∧w.frozen? ⟨X,14,none⟩=false∧w.frozen? ⟨X,15,none⟩=false :=
 ⟨frozen_at h 11,frozen_at h 12,frozen_at h 13,frozen_at h 14,frozen_at h 15⟩
theorem KAt.read {w:World} {X:Nat} {P:Cp} {b:Ck} (h:KAt w X P b) (j:Nat) (hj:j < 8):w.cell? ⟨X,2+j,none⟩=some (rdV P.rd j):=by
 rw [cell_at h]
 rcases j with _ | _ | _ | _ | _ | _ | _ | _ | j
 all_goals first
  | rfl
  | omega
theorem rd_cells {rd:List Nat} (h:rd.length=8) : #[rdV rd 0,rdV rd 1,rdV rd 2,rdV rd 3,rdV rd 4,rdV rd 5,rdV rd 6,rdV rd 7] = Sg.sc rd:=by
 obtain ⟨a0,a1,a2,a3,a4,a5,a6,a7,rfl⟩ : ∃ a0 a1 a2 a3 a4 a5 a6 a7,rd = [a0,a1,a2,a3,a4,a5,a6,a7]:=by
  rcases rd with _ | ⟨a0,_ | ⟨a1,_ | ⟨a2,_ | ⟨a3,_ | ⟨a4,_ | ⟨a5,_ | ⟨a6,_ | ⟨a7,_ | ⟨a8,r⟩⟩⟩⟩⟩⟩⟩⟩⟩ <;> simp at h
  exact ⟨a0,a1,a2,a3,a4,a5,a6,a7,rfl⟩
 rfl
theorem kset {w:World} {X:Nat} {P:Cp} {b:Ck} (h:KAt w X P b) (v:Int) :
  KAt (w.setCell ⟨X,11,none⟩ (.int .i64 v)) X P ⟨v,b.seen,b.stamp,b.word,b.comp,b.err⟩∧KAt (w.setCell ⟨X,12,none⟩ (.int .i64 v)) X P ⟨b.st,v,b.stamp,b.word,b.comp,b.err⟩∧KAt (w.setCell ⟨X,13,none⟩ (.int .i64 v)) X P ⟨b.st,b.seen,v,b.word,b.comp,b.err⟩ ∧
  KAt (w.setCell ⟨X,14,none⟩ (.int .i64 v)) X P ⟨b.st,b.seen,b.stamp,v,b.comp,b.err⟩∧KAt (w.setCell ⟨X,15,none⟩ (.int .i64 v)) X P ⟨b.st,b.seen,b.stamp,b.word,v,b.err⟩ :=
 ⟨by unfold KAt; rw [heap_set h]; rfl,by unfold KAt; rw [heap_set h]; rfl,by unfold KAt; rw [heap_set h]; rfl,by unfold KAt; rw [heap_set h]; rfl,by unfold KAt; rw [heap_set h]; rfl⟩
theorem KAt.err {w:World} {X:Nat} {P:Cp} {b:Ck} (h:KAt w X P b) (e:Int):KAt w X P ⟨b.st,b.seen,b.stamp,b.word,b.comp,e⟩:=h
theorem kkeep {w0 w:World} {X:Nat} (k:Keep [X] w0 w) (i:Nat) (v:Value):Keep [X] w0 (w.setCell ⟨X,i,none⟩ v):=k.setCell _ _ (Or.inl (by simp))
theorem nexts_any {w:World} {X:Nat} {P:Cp} {b:Ck} (h:KAt w X P b) (hb:b.seen≤9223372036854775807) (h0:0≤b.stamp) :
  Calls Tryz.prog 133 #[.pointer (some ⟨X,0,none⟩)] w fun e w' => e = .returned (.bool (decide (b.stamp < b.seen)))∧KAt w' X P (if b.stamp < b.seen then ⟨1,b.seen,b.stamp+1,b.word,b.comp,b.err⟩ else b)∧Keep [X] w w':=by
 obtain ⟨x0,x1,x2,x3,x4,x5,x6,x7⟩:=h.cells
 obtain ⟨f3,f4,f5,f6,f7⟩:=h.fz
 have hx:X < w.heap.size:=heap_lt h
 have HX:Hid (KAt w X P b):=h
 clear h
 obtain ⟨st,seen,stamp,word,comp,err⟩:=b
 simp only at *
 by_cases e:stamp < seen
 ·have d:decide (stamp < seen)=true:=by simpa using e
  have d':decide (seen≤stamp)=false:=by simp; omega
  have hw:wrap64 (stamp+1)=stamp+1:=by unfold wrap64; omega
  rw [if_pos e,d]
  go_enter Tryz.func133,Tryz.ntmps133
  go_wp2
  go_quiet (fail)
  go_wp2
  go_ret
  exact ⟨rfl,(kset (kset HX.out (stamp+1)).2.2.1 1).1,kkeep (kkeep ((Keep.refl _ _).drewN _) _ _) _ _⟩
 ·have d:decide (stamp < seen)=false:=by simpa using e
  have d':decide (seen≤stamp)=true:=by simp; omega
  rw [if_neg e,d]
  go_enter Tryz.func133,Tryz.ntmps133
  go_wp2
  go_quiet (fail)
  go_wp2
  go_ret
  exact ⟨rfl,HX.out,(Keep.refl _ _).drewN _⟩
theorem nextw_any {w:World} {X:Nat} {P:Cp} {b:Ck} (h:KAt w X P b) (h1 : -1≤b.word) (h2:b.word≤7) :
  Calls Tryz.prog 147 #[.pointer (some ⟨X,0,none⟩)] w fun e w' => e = .returned (.bool (decide (nxW P.rd (b.word+1).toNat < 8)))∧KAt w' X P (if nxW P.rd (b.word+1).toNat < 8 then ⟨2,b.seen,b.stamp,(nxW P.rd (b.word+1).toNat:Int),b.comp,b.err⟩ else ⟨b.st,b.seen,b.stamp,8,b.comp,b.err⟩)∧Keep [X] w w':=by
 obtain ⟨x0,x1,x2,x3,x4,x5,x6,x7⟩:=h.cells
 obtain ⟨f3,f4,f5,f6,f7⟩:=h.fz
 have hx:X < w.heap.size:=heap_lt h
 have HX:Hid (KAt w X P b):=h
 clear h
 obtain ⟨st,seen,stamp,word,comp,err⟩:=b
 simp only at *
 obtain ⟨k,hk⟩ : ∃ k:Nat,word+1=(k:Int):=⟨(word+1).toNat,by omega⟩
 have hk8:k≤8:=by omega
 have hkk:(word+1).toNat=k:=by omega
 have hw:wrap64 (word+1)=(k:Int):=by unfold wrap64; omega
 rw [hkk]
 clear hkk
 generalize hR:decide (nxW P.rd k < 8)=R
 generalize hB:(if nxW P.rd k < 8 then (⟨2,seen,stamp,(nxW P.rd k:Int),comp,err⟩:Ck) else ⟨st,seen,stamp,8,comp,err⟩)=bb
 have HR:Hid (decide (nxW P.rd k < 8)=R):=hR
 have HB:Hid ((if nxW P.rd k < 8 then (⟨2,seen,stamp,(nxW P.rd k:Int),comp,err⟩:Ck) else ⟨st,seen,stamp,8,comp,err⟩)=bb):=hB
 clear hR hB
 go_enter Tryz.func147,Tryz.ntmps147
 go_wp2
 go_loopw [2] (fun _ wr => ∃ q:Nat,q≤8∧nxW P.rd q=nxW P.rd k∧KAt wr X P ⟨st,seen,stamp,(q:Int),comp,err⟩∧Keep [X] w wr) (fun _ wr=>8 - (intOf ((wr.cell? ⟨X,14,none⟩).getD (.bool false))).toNat)
 case atStart=>exact ⟨k,hk8,rfl,(kset HX.out _).2.2.2.1,kkeep (Keep.refl _ _) _ _⟩
 case round =>
  obtain ⟨q,hq,hn,ha,hkp⟩:=hrel
  clear x0 x1 x2 x3 x4 x5 x6 x7 f3 f4 f5 f6 f7
  obtain ⟨x0,x1,x2,x3,x4,x5,x6,x7⟩:=ha.cells
  obtain ⟨f3,f4,f5,f6,f7⟩:=ha.fz
  simp only at x6
  have HA:Hid (KAt wr X P ⟨st,seen,stamp,(q:Int),comp,err⟩):=ha
  have HK:Hid (Keep [X] w wr):=hkp
  have hxr:X < wr.heap.size:=heap_lt ha
  clear hkp
  by_cases hlt:q < 8
  ·have d1:decide ((q:Int) < 8)=true:=by simp; omega
   have hrd:=ha.read q hlt
   clear ha
   unfold rdV at hrd
   have hr8:(q:Int) < 8:=by omega
   by_cases hr:P.rd.getD q 0=0
   ·rw [hr] at hrd
    have hn2:nxW P.rd (q+1)=nxW P.rd k:=by rw [← hn,nxW_no hlt hr]
    clear hr
    go_wp2
    go_quiet (fail)
    go_wp2
    go_roundw
    case rel=>exact ⟨q+1,by omega,hn2,by rw [show ((q+1:Nat):Int)=(q:Int)+1 by omega]; exact (kset (w:=wr.drewN _) HA.out _).2.2.2.1,kkeep (HK.out.drewN _) _ _⟩
    case measure =>
     have hm:=(kset (w:=wr.drewN nq) HA.out ((q:Int)+1)).2.2.2.1.cells.2.2.2.2.2.2.1
     rw [x6,hm]; simp [intOf]; omega
   ·have HE:Hid (nxW P.rd k=q):=by rw [← hn,nxW_yes hlt hr]; exact rfl
    clear hn
    generalize P.rd.getD q 0=z at *
    have d2:decide ((z:Int)=0)=false:=decide_eq_false (by omega)
    go_wp2
    go_quiet (fail)
    go_wp2
    go_ret
    rw [← HR.out,← HB.out,HE.out,if_pos hlt]
    exact ⟨by simp [hlt],(kset (w:=wr.drewN _) HA.out 2).1,kkeep (HK.out.drewN _) _ _⟩
  ·obtain rfl:q=8:=by omega
   have d1:decide (((8:Nat):Int) < 8)=false:=by simp
   have HE:Hid (nxW P.rd k=8):=by rw [← hn,nxW_end]; exact rfl
   clear ha hn
   go_wp2
   go_ret
   rw [← HR.out,← HB.out,HE.out,if_neg (by omega)]
   exact ⟨rfl,HA.out,HK.out⟩
theorem cnew_yes (w:World) {P:Cp} (h:POk P):Calls Tryz.prog 66 #[.int .i64 (P.s:Int),.int .i64 P.z,Sg.sv P.rd,.bool P.last] w fun e w' => e = .returned (.tuple #[.pointer (some ⟨w.heap.size+1,0,none⟩),.int .i64 0])∧KAt w' (w.heap.size+1) P (ckNew P)∧Below w.heap.size w w':=by
 have d1:decide ((P.s:Int) < 1)=false:=decide_eq_false (by have:=h.s1; omega)
 have d2:decide ((16:Int) < (P.s:Int))=false:=decide_eq_false (by have:=h.s16; omega)
 have d3:decide (P.z < 0)=false:=decide_eq_false (by have:=h.z0; omega)
 have hc:=rd_cells h.rd.1
 unfold Sg.sv
 rw [← hc]
 clear h hc
 go_enter Tryz.func66,Tryz.ntmps66
 go_wp2
 go_ret2
 exact ⟨rfl,heap_alloc2_new _ _ _,below_alloc (below_a1 _ _) _⟩
theorem cstart_any {w:World} {X:Nat} {P:Cp} {b:Ck} (h:KAt w X P b):Calls Tryz.prog 70 #[.pointer (some ⟨X,0,none⟩)] w fun e w' => e = .returned (.tuple #[.int .i64 (if b.st=4 then b.comp else 0),.int .i64 (if b.st=4 then b.seen else 0),.bool (decide (b.st=4))])∧Below w.heap.size w w':=by
 obtain ⟨x0,x1,x2,x3,x4,x5,x6,x7⟩:=h.cells
 obtain ⟨st,seen,stamp,word,comp,err⟩:=b
 simp only at x3 x4 x5 x6 x7 ⊢
 by_cases e:st=4
 ·subst e
  clear h
  go_enter Tryz.func70,Tryz.ntmps70
  go_wp2
  first | (go_ret3; exact ⟨rfl,Below.refl _ _⟩) | (go_quiet (fail); go_wp2; go_ret3; exact ⟨rfl,below_drawn (Below.refl _ _) _⟩)
 ·have d:decide (st=4)=false:=decide_eq_false e
  rw [if_neg e,if_neg e,d]
  clear h
  go_enter Tryz.func70,Tryz.ntmps70
  go_wp2
  first | (go_ret3; exact ⟨rfl,Below.refl _ _⟩) | (go_quiet (fail); go_wp2; go_ret3; exact ⟨rfl,below_drawn (Below.refl _ _) _⟩)
def goesK (r:Nat) (P:Cp) (b:Ck):Bool:=!decide (b.st=4) && !decide (b.st=5) && decide (r=P.s)
theorem cgoes_any {w:World} {base:Nat} {p:Value} {c r:Nat} {L:List Ac} {F:List Nat} {X:Nat} {P:Cp} {b:Ck} (hm:MemAt w base p c r L F) (h:KAt w X P b) :
  Calls Tryz.prog 137 #[.pointer (some ⟨X,0,none⟩),p] w fun e w' => e = .returned (.bool (goesK r P b))∧Below w.heap.size w w':=by
 have HS:Hid (Calls Tryz.prog 44 #[p] w fun e w' => e = .returned (.tuple #[.int .i64 (c:Int),.int .i64 (r:Int)])∧Below w.heap.size w w'):=sizes_any hm
 obtain ⟨M,rfl⟩:=hm.ptr
 have HX:Hid (KAt w X P b):=h
 have hx:X < w.heap.size:=heap_lt h
 obtain ⟨x0,x1,x2,x3,x4,x5,x6,x7⟩:=h.cells
 have hd:((r:Int) == (P.s:Int))=decide (r=P.s):=by rw [Bool.eq_iff_iff]; simp; try omega
 clear hm h
 unfold goesK
 by_cases e4:b.st=4
 ·have d4:decide (b.st=4)=true:=decide_eq_true e4
  rw [d4]
  rw [e4] at x3
  clear e4 d4
  go_enter Tryz.func137,Tryz.ntmps137
  go_wp2
  go_ret
  exact ⟨rfl,Below.refl _ _⟩
 ·have d4:decide (b.st=4)=false:=decide_eq_false e4
  by_cases e5:b.st=5
  ·have d5:decide (b.st=5)=true:=decide_eq_true e5
   rw [d4,d5]
   rw [e5] at x3
   clear e4 e5 d4 d5
   go_enter Tryz.func137,Tryz.ntmps137
   go_wp2
   go_ret
   exact ⟨rfl,Below.refl _ _⟩
  ·have d5:decide (b.st=5)=false:=decide_eq_false e5
   rw [d4,d5]
   have q4:(b.st == 4)=false:=by simpa using e4
   have q5:(b.st == 5)=false:=by simpa using e5
   clear d4 d5
   go_enter Tryz.func137,Tryz.ntmps137
   go_wp2_with fail
   refine HS.out.mono ?_
   rintro e w1 ⟨rfl,hb⟩
   clear x0 x1 x2 x3 x4 x5 x6 x7
   obtain ⟨x0,x1,x2,x3,x4,x5,x6,x7⟩:=(HX.out.below hb hx).cells
   have HB:Hid (Below w.heap.size w w1):=hb
   clear hb
   go_wp2
   go_ret
   exact ⟨rfl,HB.out⟩
theorem overrun_any {w:World} {X:Nat} {P:Cp} {b:Ck} (h:KAt w X P b) (hp:POk P) {v:Int} (hv:W64 v) :
  Calls Tryz.prog 144 #[.pointer (some ⟨X,0,none⟩),.int .i64 v] w fun e w' => e = .returned (.bool (farV P v))∧Below w.heap.size w w':=by
 obtain ⟨x0,x1,x2,x3,x4,x5,x6,x7⟩:=h.cells
 obtain ⟨v1,v2⟩:=hv
 have hz:=hp.z0
 have hz1:=hp.z1
 have hs:=hp.s16
 unfold farV
 by_cases e:P.z < v
 ·have hw:wrap64 (v - P.z)=v - P.z:=by unfold wrap64; omega
  have d:decide (P.z < v)=true:=decide_eq_true e
  rw [d]
  clear h hp
  go_enter Tryz.func144,Tryz.ntmps144
  go_wp2
  first | (go_ret; exact ⟨rfl,Below.refl _ _⟩) | (go_quiet (fail); go_wp2; first | (go_ret; exact ⟨rfl,below_drawn (Below.refl _ _) _⟩) | (go_quiet (fail); go_wp2; go_ret; exact ⟨rfl,below_drawn (below_drawn (Below.refl _ _) _) _⟩))
 ·have d:decide (P.z < v)=false:=decide_eq_false e
  rw [d]
  clear h hp
  go_enter Tryz.func144,Tryz.ntmps144
  go_wp2
  first | (go_ret; exact ⟨rfl,Below.refl _ _⟩) | (go_quiet (fail); go_wp2; go_ret; exact ⟨rfl,below_drawn (Below.refl _ _) _⟩)
def ansE (k e:Int) (y:Bool):Value:=.agg #[.int .i64 k,.int .i64 e,.int .i64 0,.bool y]
def laidE (w:World) (B:Nat) (k e:Int) (y:Bool):World:=(((w.setCell ⟨B,0,none⟩ (.int .i64 k)).setCell ⟨B,1,none⟩ (.int .i64 e)).setCell ⟨B,2,none⟩ (.int .i64 0)).setCell ⟨B,3,none⟩ (.bool y)
theorem ansE_set {w:World} {B:Nat} {cs:Array Value} (hz:cs.size=4) (h:w.heap[B]? = some (.cells cs 55 (0,0))) (k e:Int) (y:Bool) :
  (laidE w B k e y).heap[B]? = some (.cells #[.int .i64 k,.int .i64 e,.int .i64 0,.bool y] 55 (0,0)):=by
 have h1:=heap_set (i:=0) (v:=.int .i64 k) h
 have h2:=heap_set (i:=1) (v:=.int .i64 e) h1
 have h3:=heap_set (i:=2) (v:=.int .i64 0) h2
 have h4:=heap_set (i:=3) (v:=.bool y) h3
 unfold laidE
 rw [h4]
 obtain ⟨l⟩:=cs
 obtain ⟨a,b,c,d,rfl⟩ : ∃ a b c d,l = [a,b,c,d]:=by
  rcases l with _ | ⟨a,_ | ⟨b,_ | ⟨c,_ | ⟨d,_ | ⟨_,_⟩⟩⟩⟩⟩ <;> simp at hz
  exact ⟨a,b,c,d,rfl⟩
 rfl
theorem keepE {w0 w:World} {F:List Nat} {B:Nat} (hk:Keep F w0 w) (hB:w0.heap.size≤B) (k e:Int) (y:Bool):Keep F w0 (laidE w B k e y) :=
 (((hk.setCell _ _ (Or.inr hB)).setCell _ _ (Or.inr hB)).setCell _ _ (Or.inr hB)).setCell _ _ (Or.inr hB)
theorem keepEB {w:World} {B:Nat} (k e:Int) (y:Bool):Keep [B] w (laidE w B k e y) :=
 ((((Keep.refl [B] w).setCell _ _ (Or.inl (by simp))).setCell _ _ (Or.inl (by simp))).setCell _ _ (Or.inl (by simp))).setCell _ _ (Or.inl (by simp))
theorem KAt.alloc {w:World} {X:Nat} {P:Cp} {b:Ck} (h:KAt w X P b) (o:Obj):KAt (w.alloc o) X P b:=h.below (below_a1 _ _) (heap_lt h)
theorem size_set (w:World) (a:Addr) (v:Value):(w.setCell a v).heap.size=w.heap.size:=by simp
theorem heap_alloc_set_new (w:World) (a:Addr) (v:Value) {o:Obj}:((w.setCell a v).alloc o).heap[w.heap.size]? = some o:=by
 have:=heap_alloc_new (w.setCell a v) o
 rwa [size_set] at this
theorem cfail_any {w:World} {X:Nat} {P:Cp} {b:Ck} (h:KAt w X P b) (e:Int) :
  Calls Tryz.prog 145 #[.pointer (some ⟨X,0,none⟩),.int .i64 e] w fun en w' => en = .returned (ansE 4 e true)∧KAt w' X P (failV b e)∧Keep [X] w w':=by
 obtain ⟨x0,x1,x2,x3,x4,x5,x6,x7⟩:=h.cells
 obtain ⟨f3,f4,f5,f6,f7⟩:=h.fz
 have hx:X < w.heap.size:=heap_lt h
 have HX:Hid (KAt w X P b):=h
 clear h
 obtain ⟨st,seen,stamp,word,comp,err⟩:=b
 go_enter Tryz.func145,Tryz.ntmps145
 go_wp2
 exact ret_ans rfl rfl (heap_alloc_set_new _ _ _) rfl rfl ⟨rfl,((kset HX.out 5).1.alloc _).err e,(kkeep (Keep.refl _ _) _ _).alloc _⟩
structure Ret2 (w w1:World) (X:Nat) (P:Cp) (b:Ck):Prop where
 r0:w1.heap[w.heap.size]? = some (.cells #[.int .i64 0,.int .i64 0,.int .i64 0,.bool false] 55 (0,0))
 r1:w1.heap[w.heap.size+1]? = some (.cells #[.int .i64 2,.int .i64 0,.int .i64 0,.bool true] 55 (0,0))
 a:KAt w1 X P b
 k:Keep [X] w w1
 x:X < w.heap.size
theorem ret2_call {w w0 w1:World} {X:Nat} {P:Cp} {b b':Ck} (r:Ret2 w w0 X P b) (ha:KAt w1 X P b') (hk:Keep [X] w0 w1):Ret2 w w1 X P b':=by
 have hx:=r.x
 refine ⟨?_, ?_,ha,r.k.trans hk (fun q hq=>Or.inl hq),hx⟩
 ·rw [hk.block _ (heap_lt r.r0) (by simp; omega)]; exact r.r0
 ·rw [hk.block _ (heap_lt r.r1) (by simp; omega)]; exact r.r1
theorem ret2_start {w:World} {X:Nat} {P:Cp} {b:Ck} (h:KAt w X P b):Ret2 w ((w.alloc (.cells #[.int .i64 0,.int .i64 0,.int .i64 0,.bool false] 55)).alloc (.cells #[.int .i64 2,.int .i64 0,.int .i64 0,.bool true] 55)) X P b :=
 ⟨heap_alloc2_old _ _ _,heap_alloc2_new _ _ _,(h.alloc _).alloc _,((Keep.refl _ _).alloc _).alloc _,heap_lt h⟩
theorem ret2_set {w:World} {X:Nat} {P:Cp} {b:Ck} (h:KAt w X P b):Ret2 w (((w.setCell ⟨X,14,none⟩ (.int .i64 (-1))).alloc (.cells #[.int .i64 0,.int .i64 0,.int .i64 0,.bool false] 55)).alloc (.cells #[.int .i64 2,.int .i64 0,.int .i64 0,.bool true] 55)) X P ⟨b.st,b.seen,b.stamp,-1,b.comp,b.err⟩:=by
 have hz:(w.setCell ⟨X,14,none⟩ (.int .i64 (-1))).heap.size=w.heap.size:=size_set _ _ _
 have hr:=ret2_start (kset h (-1)).2.2.2.1
 exact ⟨hz ▸ hr.r0,hz ▸ hr.r1,hr.a,((kkeep (Keep.refl _ _) _ _).alloc _).alloc _,heap_lt h⟩
theorem Ret2.set {w w1:World} {X:Nat} {P:Cp} {b:Ck} (r:Ret2 w w1 X P b) (v:Int):Ret2 w (w1.setCell ⟨X,11,none⟩ (.int .i64 v)) X P ⟨v,b.seen,b.stamp,b.word,b.comp,b.err⟩ :=
 ret2_call r (kset r.a v).1 (kkeep (Keep.refl _ _) _ _)
theorem Ret2.done {w w1:World} {X:Nat} {P:Cp} {b:Ck} (r:Ret2 w w1 X P b) (k e:Int) (y:Bool):KAt (laidE w1 w.heap.size k e y) X P b∧Keep [X] w (laidE w1 w.heap.size k e y) :=
 ⟨r.a.keep (keepEB k e y) (by have:=r.x; simp; omega),keepE r.k (Nat.le_refl _) k e y⟩
theorem row_2_0 (w:World) (a:Addr) (v:Value) (o1 o2:Obj):(((w.setCell a v).alloc o1).alloc o2).heap[w.heap.size]? = some o1:=by
 have:=heap_alloc2_old (w.setCell a v) o1 o2
 rwa [size_set] at this
--CASES
theorem goon_1h {w:World} {X:Nat} {P:Cp} {b:Ck} (h:KAt w X P b) (hst:b.st=1) (hn:nxW P.rd 0 < 8) :
  Calls Tryz.prog 146 #[.pointer (some ⟨X,0,none⟩)] w fun en w' => en = .returned (ansE 2 0 true)∧KAt w' X P ⟨2,b.seen,b.stamp,(nxW P.rd 0:Int),b.comp,b.err⟩∧Keep [X] w w':=by
 obtain ⟨x0,x1,x2,x3,x4,x5,x6,x7⟩:=h.cells
 obtain ⟨f3,f4,f5,f6,f7⟩:=h.fz
 have hx:X < w.heap.size:=heap_lt h
 have HX:Hid (KAt w X P b):=h
 clear h
 obtain ⟨st,seen,stamp,word,comp,err⟩:=b
 simp only at *
 subst hst
 have HW:Hid (∀ w,KAt w X P ⟨1,seen,stamp,(-1),comp,err⟩→Calls Tryz.prog 147 #[.pointer (some ⟨X,0,none⟩)] w fun e w' => e = .returned (.bool true)∧KAt w' X P ⟨2,seen,stamp,(nxW P.rd 0:Int),comp,err⟩∧Keep [X] w w'):=fun w h=>by
  have:=nextw_any h (by simp only; omega) (by simp only; omega)
  simp only at this
  rw [show ((-1:Int)+1).toNat=0 from rfl] at this
  rw [if_pos hn,decide_eq_true hn] at this
  exact this
 clear hn
 generalize nxW P.rd 0=nx at *
 have hne:w.heap.size≠X:=by omega
 have hne2:w.heap.size+1≠X:=by omega
 go_enter Tryz.func146,Tryz.ntmps146
 go_wp2_with fail
 refine (HW.out _ (ret2_set HX.out).a).mono ?_
 rintro e w1 ⟨rfl,ha1,hk1⟩
 have R1:Hid (Ret2 w w1 X P ⟨2,seen,stamp,(nx:Int),comp,err⟩):=ret2_call (ret2_set HX.out) ha1 hk1
 clear ha1 hk1 x0 x1 x2 x3 x4 x5 x6 x7 f3 f4 f5 f6 f7
 obtain ⟨x0,x1,x2,x3,x4,x5,x6,x7⟩:=R1.out.a.cells
 obtain ⟨f3,f4,f5,f6,f7⟩:=R1.out.a.fz
 obtain ⟨⟨a0,a1,a2,a3⟩,g0,g1,g2,g3⟩:=ans_cells R1.out.r0
 obtain ⟨⟨m0,m1,m2,m3⟩,i0,i1,i2,i3⟩:=ans_cells R1.out.r1
 have hz:=heap_lt R1.out.r0
 have hz2:=heap_lt R1.out.r1
 simp only at x3 x4 x5 x6 x7
 go_wp2
 exact ret_ans rfl rfl (ansE_set rfl R1.out.r0 2 0 true) rfl rfl ⟨rfl,R1.out.done 2 0 true⟩
theorem goon_1m {w:World} {X:Nat} {P:Cp} {b:Ck} (h:KAt w X P b) (hst:b.st=1) (hn : ¬ nxW P.rd 0 < 8) (hse:b.seen≤9223372036854775807) (h0:0≤b.stamp) (hs:b.stamp < b.seen) :
  Calls Tryz.prog 146 #[.pointer (some ⟨X,0,none⟩)] w fun en w' => en = .returned (ansE 2 0 true)∧KAt w' X P ⟨1,b.seen,b.stamp+1,8,b.comp,b.err⟩∧Keep [X] w w':=by
 obtain ⟨x0,x1,x2,x3,x4,x5,x6,x7⟩:=h.cells
 obtain ⟨f3,f4,f5,f6,f7⟩:=h.fz
 have hx:X < w.heap.size:=heap_lt h
 have HX:Hid (KAt w X P b):=h
 clear h
 obtain ⟨st,seen,stamp,word,comp,err⟩:=b
 simp only at *
 subst hst
 have HW:Hid (∀ w,KAt w X P ⟨1,seen,stamp,(-1),comp,err⟩→Calls Tryz.prog 147 #[.pointer (some ⟨X,0,none⟩)] w fun e w' => e = .returned (.bool false)∧KAt w' X P ⟨1,seen,stamp,8,comp,err⟩∧Keep [X] w w'):=fun w h=>by
  have:=nextw_any h (by simp only; omega) (by simp only; omega)
  simp only at this
  rw [show ((-1:Int)+1).toNat=0 from rfl] at this
  rw [if_neg hn,decide_eq_false hn] at this
  exact this
 have HS:Hid (∀ w,KAt w X P ⟨1,seen,stamp,8,comp,err⟩→Calls Tryz.prog 133 #[.pointer (some ⟨X,0,none⟩)] w fun e w' => e = .returned (.bool true)∧KAt w' X P ⟨1,seen,stamp+1,8,comp,err⟩∧Keep [X] w w'):=fun w h=>by
  have:=nexts_any h hse h0
  simp only at this
  rw [if_pos hs,decide_eq_true hs] at this
  exact this
 clear hn
 clear hs
 have hne:w.heap.size≠X:=by omega
 have hne2:w.heap.size+1≠X:=by omega
 go_enter Tryz.func146,Tryz.ntmps146
 go_wp2_with fail
 refine (HW.out _ (ret2_set HX.out).a).mono ?_
 rintro e w1 ⟨rfl,ha1,hk1⟩
 have R1:Hid (Ret2 w w1 X P ⟨1,seen,stamp,8,comp,err⟩):=ret2_call (ret2_set HX.out) ha1 hk1
 clear ha1 hk1 x0 x1 x2 x3 x4 x5 x6 x7 f3 f4 f5 f6 f7
 obtain ⟨x0,x1,x2,x3,x4,x5,x6,x7⟩:=R1.out.a.cells
 obtain ⟨f3,f4,f5,f6,f7⟩:=R1.out.a.fz
 obtain ⟨⟨a0,a1,a2,a3⟩,g0,g1,g2,g3⟩:=ans_cells R1.out.r0
 obtain ⟨⟨m0,m1,m2,m3⟩,i0,i1,i2,i3⟩:=ans_cells R1.out.r1
 have hz:=heap_lt R1.out.r0
 have hz2:=heap_lt R1.out.r1
 simp only at x3 x4 x5 x6 x7
 go_wp2_with fail
 refine (HS.out _ (R1.out).a).mono ?_
 rintro e w2 ⟨rfl,ha2,hk2⟩
 have R2:Hid (Ret2 w w2 X P ⟨1,seen,stamp+1,8,comp,err⟩):=ret2_call (R1.out) ha2 hk2
 clear ha2 hk2 x0 x1 x2 x3 x4 x5 x6 x7 f3 f4 f5 f6 f7 R1 a0 a1 a2 a3 g0 g1 g2 g3 m0 m1 m2 m3 i0 i1 i2 i3 hz hz2
 obtain ⟨x0,x1,x2,x3,x4,x5,x6,x7⟩:=R2.out.a.cells
 obtain ⟨f3,f4,f5,f6,f7⟩:=R2.out.a.fz
 obtain ⟨⟨a0,a1,a2,a3⟩,g0,g1,g2,g3⟩:=ans_cells R2.out.r0
 obtain ⟨⟨m0,m1,m2,m3⟩,i0,i1,i2,i3⟩:=ans_cells R2.out.r1
 have hz:=heap_lt R2.out.r0
 have hz2:=heap_lt R2.out.r1
 simp only at x3 x4 x5 x6 x7
 go_wp2
 exact ret_ans rfl rfl (ansE_set rfl R2.out.r0 2 0 true) rfl rfl ⟨rfl,R2.out.done 2 0 true⟩
theorem goon_1l {w:World} {X:Nat} {P:Cp} {b:Ck} (h:KAt w X P b) (hst:b.st=1) (hn : ¬ nxW P.rd 0 < 8) (hse:b.seen≤9223372036854775807) (h0:0≤b.stamp) (hs : ¬ b.stamp < b.seen) (hl:P.last=true) :
  Calls Tryz.prog 146 #[.pointer (some ⟨X,0,none⟩)] w fun en w' => en = .returned (ansE 2 0 true)∧KAt w' X P ⟨3,b.seen,b.stamp,8,b.comp,b.err⟩∧Keep [X] w w':=by
 obtain ⟨x0,x1,x2,x3,x4,x5,x6,x7⟩:=h.cells
 obtain ⟨f3,f4,f5,f6,f7⟩:=h.fz
 have hx:X < w.heap.size:=heap_lt h
 have HX:Hid (KAt w X P b):=h
 clear h
 obtain ⟨st,seen,stamp,word,comp,err⟩:=b
 simp only at *
 subst hst
 rw [hl] at x2
 have HW:Hid (∀ w,KAt w X P ⟨1,seen,stamp,(-1),comp,err⟩→Calls Tryz.prog 147 #[.pointer (some ⟨X,0,none⟩)] w fun e w' => e = .returned (.bool false)∧KAt w' X P ⟨1,seen,stamp,8,comp,err⟩∧Keep [X] w w'):=fun w h=>by
  have:=nextw_any h (by simp only; omega) (by simp only; omega)
  simp only at this
  rw [show ((-1:Int)+1).toNat=0 from rfl] at this
  rw [if_neg hn,decide_eq_false hn] at this
  exact this
 have HS:Hid (∀ w,KAt w X P ⟨1,seen,stamp,8,comp,err⟩→Calls Tryz.prog 133 #[.pointer (some ⟨X,0,none⟩)] w fun e w' => e = .returned (.bool false)∧KAt w' X P ⟨1,seen,stamp,8,comp,err⟩∧Keep [X] w w'):=fun w h=>by
  have:=nexts_any h hse h0
  simp only at this
  rw [if_neg hs,decide_eq_false hs] at this
  exact this
 clear hn
 clear hs
 have hne:w.heap.size≠X:=by omega
 have hne2:w.heap.size+1≠X:=by omega
 go_enter Tryz.func146,Tryz.ntmps146
 go_wp2_with fail
 refine (HW.out _ (ret2_set HX.out).a).mono ?_
 rintro e w1 ⟨rfl,ha1,hk1⟩
 have R1:Hid (Ret2 w w1 X P ⟨1,seen,stamp,8,comp,err⟩):=ret2_call (ret2_set HX.out) ha1 hk1
 clear ha1 hk1 x0 x1 x2 x3 x4 x5 x6 x7 f3 f4 f5 f6 f7
 obtain ⟨x0,x1,x2,x3,x4,x5,x6,x7⟩:=R1.out.a.cells
 obtain ⟨f3,f4,f5,f6,f7⟩:=R1.out.a.fz
 obtain ⟨⟨a0,a1,a2,a3⟩,g0,g1,g2,g3⟩:=ans_cells R1.out.r0
 obtain ⟨⟨m0,m1,m2,m3⟩,i0,i1,i2,i3⟩:=ans_cells R1.out.r1
 have hz:=heap_lt R1.out.r0
 have hz2:=heap_lt R1.out.r1
 simp only at x3 x4 x5 x6 x7
 rw [hl] at x2
 go_wp2_with fail
 refine (HS.out _ (R1.out).a).mono ?_
 rintro e w2 ⟨rfl,ha2,hk2⟩
 have R2:Hid (Ret2 w w2 X P ⟨1,seen,stamp,8,comp,err⟩):=ret2_call (R1.out) ha2 hk2
 clear ha2 hk2 x0 x1 x2 x3 x4 x5 x6 x7 f3 f4 f5 f6 f7 R1 a0 a1 a2 a3 g0 g1 g2 g3 m0 m1 m2 m3 i0 i1 i2 i3 hz hz2
 obtain ⟨x0,x1,x2,x3,x4,x5,x6,x7⟩:=R2.out.a.cells
 obtain ⟨f3,f4,f5,f6,f7⟩:=R2.out.a.fz
 obtain ⟨⟨a0,a1,a2,a3⟩,g0,g1,g2,g3⟩:=ans_cells R2.out.r0
 obtain ⟨⟨m0,m1,m2,m3⟩,i0,i1,i2,i3⟩:=ans_cells R2.out.r1
 have hz:=heap_lt R2.out.r0
 have hz2:=heap_lt R2.out.r1
 simp only at x3 x4 x5 x6 x7
 rw [hl] at x2
 go_wp2
 exact ret_ans rfl rfl (ansE_set rfl (R2.out.set 3).r0 2 0 true) rfl rfl ⟨rfl,(R2.out.set 3).done 2 0 true⟩
theorem goon_1e {w:World} {X:Nat} {P:Cp} {b:Ck} (h:KAt w X P b) (hst:b.st=1) (hn : ¬ nxW P.rd 0 < 8) (hse:b.seen≤9223372036854775807) (h0:0≤b.stamp) (hs : ¬ b.stamp < b.seen) (hl:P.last=false) :
  Calls Tryz.prog 146 #[.pointer (some ⟨X,0,none⟩)] w fun en w' => en = .returned (ansE 3 0 true)∧KAt w' X P ⟨4,b.seen,b.stamp,8,b.comp,b.err⟩∧Keep [X] w w':=by
 obtain ⟨x0,x1,x2,x3,x4,x5,x6,x7⟩:=h.cells
 obtain ⟨f3,f4,f5,f6,f7⟩:=h.fz
 have hx:X < w.heap.size:=heap_lt h
 have HX:Hid (KAt w X P b):=h
 clear h
 obtain ⟨st,seen,stamp,word,comp,err⟩:=b
 simp only at *
 subst hst
 rw [hl] at x2
 have HW:Hid (∀ w,KAt w X P ⟨1,seen,stamp,(-1),comp,err⟩→Calls Tryz.prog 147 #[.pointer (some ⟨X,0,none⟩)] w fun e w' => e = .returned (.bool false)∧KAt w' X P ⟨1,seen,stamp,8,comp,err⟩∧Keep [X] w w'):=fun w h=>by
  have:=nextw_any h (by simp only; omega) (by simp only; omega)
  simp only at this
  rw [show ((-1:Int)+1).toNat=0 from rfl] at this
  rw [if_neg hn,decide_eq_false hn] at this
  exact this
 have HS:Hid (∀ w,KAt w X P ⟨1,seen,stamp,8,comp,err⟩→Calls Tryz.prog 133 #[.pointer (some ⟨X,0,none⟩)] w fun e w' => e = .returned (.bool false)∧KAt w' X P ⟨1,seen,stamp,8,comp,err⟩∧Keep [X] w w'):=fun w h=>by
  have:=nexts_any h hse h0
  simp only at this
  rw [if_neg hs,decide_eq_false hs] at this
  exact this
 clear hn
 clear hs
 have hne:w.heap.size≠X:=by omega
 have hne2:w.heap.size+1≠X:=by omega
 go_enter Tryz.func146,Tryz.ntmps146
 go_wp2_with fail
 refine (HW.out _ (ret2_set HX.out).a).mono ?_
 rintro e w1 ⟨rfl,ha1,hk1⟩
 have R1:Hid (Ret2 w w1 X P ⟨1,seen,stamp,8,comp,err⟩):=ret2_call (ret2_set HX.out) ha1 hk1
 clear ha1 hk1 x0 x1 x2 x3 x4 x5 x6 x7 f3 f4 f5 f6 f7
 obtain ⟨x0,x1,x2,x3,x4,x5,x6,x7⟩:=R1.out.a.cells
 obtain ⟨f3,f4,f5,f6,f7⟩:=R1.out.a.fz
 obtain ⟨⟨a0,a1,a2,a3⟩,g0,g1,g2,g3⟩:=ans_cells R1.out.r0
 obtain ⟨⟨m0,m1,m2,m3⟩,i0,i1,i2,i3⟩:=ans_cells R1.out.r1
 have hz:=heap_lt R1.out.r0
 have hz2:=heap_lt R1.out.r1
 simp only at x3 x4 x5 x6 x7
 rw [hl] at x2
 go_wp2_with fail
 refine (HS.out _ (R1.out).a).mono ?_
 rintro e w2 ⟨rfl,ha2,hk2⟩
 have R2:Hid (Ret2 w w2 X P ⟨1,seen,stamp,8,comp,err⟩):=ret2_call (R1.out) ha2 hk2
 clear ha2 hk2 x0 x1 x2 x3 x4 x5 x6 x7 f3 f4 f5 f6 f7 R1 a0 a1 a2 a3 g0 g1 g2 g3 m0 m1 m2 m3 i0 i1 i2 i3 hz hz2
 obtain ⟨x0,x1,x2,x3,x4,x5,x6,x7⟩:=R2.out.a.cells
 obtain ⟨f3,f4,f5,f6,f7⟩:=R2.out.a.fz
 obtain ⟨⟨a0,a1,a2,a3⟩,g0,g1,g2,g3⟩:=ans_cells R2.out.r0
 obtain ⟨⟨m0,m1,m2,m3⟩,i0,i1,i2,i3⟩:=ans_cells R2.out.r1
 have hz:=heap_lt R2.out.r0
 have hz2:=heap_lt R2.out.r1
 simp only at x3 x4 x5 x6 x7
 rw [hl] at x2
 go_wp2
 exact ret_ans rfl rfl (ansE_set rfl (R2.out.set 4).r0 3 0 true) rfl rfl ⟨rfl,(R2.out.set 4).done 3 0 true⟩
theorem goon_2h {w:World} {X:Nat} {P:Cp} {b:Ck} (h:KAt w X P b) (hst:b.st=2) (hw1 : -1≤b.word) (hw2:b.word≤7) (hn:nxW P.rd (b.word+1).toNat < 8) :
  Calls Tryz.prog 146 #[.pointer (some ⟨X,0,none⟩)] w fun en w' => en = .returned (ansE 2 0 true)∧KAt w' X P ⟨2,b.seen,b.stamp,(nxW P.rd (b.word+1).toNat:Int),b.comp,b.err⟩∧Keep [X] w w':=by
 obtain ⟨x0,x1,x2,x3,x4,x5,x6,x7⟩:=h.cells
 obtain ⟨f3,f4,f5,f6,f7⟩:=h.fz
 have hx:X < w.heap.size:=heap_lt h
 have HX:Hid (KAt w X P b):=h
 clear h
 obtain ⟨st,seen,stamp,word,comp,err⟩:=b
 simp only at *
 subst hst
 have HW:Hid (∀ w,KAt w X P ⟨2,seen,stamp,word,comp,err⟩→Calls Tryz.prog 147 #[.pointer (some ⟨X,0,none⟩)] w fun e w' => e = .returned (.bool true)∧KAt w' X P ⟨2,seen,stamp,(nxW P.rd (word+1).toNat:Int),comp,err⟩∧Keep [X] w w'):=fun w h=>by
  have:=nextw_any h (by simp only; omega) (by simp only; omega)
  simp only at this
  rw [if_pos hn,decide_eq_true hn] at this
  exact this
 clear hn
 generalize nxW P.rd (word+1).toNat=nx at *
 have hne:w.heap.size≠X:=by omega
 have hne2:w.heap.size+1≠X:=by omega
 go_enter Tryz.func146,Tryz.ntmps146
 go_wp2_with fail
 refine (HW.out _ (ret2_start HX.out).a).mono ?_
 rintro e w1 ⟨rfl,ha1,hk1⟩
 have R1:Hid (Ret2 w w1 X P ⟨2,seen,stamp,(nx:Int),comp,err⟩):=ret2_call (ret2_start HX.out) ha1 hk1
 clear ha1 hk1 x0 x1 x2 x3 x4 x5 x6 x7 f3 f4 f5 f6 f7
 obtain ⟨x0,x1,x2,x3,x4,x5,x6,x7⟩:=R1.out.a.cells
 obtain ⟨f3,f4,f5,f6,f7⟩:=R1.out.a.fz
 obtain ⟨⟨a0,a1,a2,a3⟩,g0,g1,g2,g3⟩:=ans_cells R1.out.r0
 obtain ⟨⟨m0,m1,m2,m3⟩,i0,i1,i2,i3⟩:=ans_cells R1.out.r1
 have hz:=heap_lt R1.out.r0
 have hz2:=heap_lt R1.out.r1
 simp only at x3 x4 x5 x6 x7
 go_wp2
 exact ret_ans rfl rfl (ansE_set rfl R1.out.r0 2 0 true) rfl rfl ⟨rfl,R1.out.done 2 0 true⟩
theorem goon_2m {w:World} {X:Nat} {P:Cp} {b:Ck} (h:KAt w X P b) (hst:b.st=2) (hw1 : -1≤b.word) (hw2:b.word≤7) (hn : ¬ nxW P.rd (b.word+1).toNat < 8) (hse:b.seen≤9223372036854775807) (h0:0≤b.stamp) (hs:b.stamp < b.seen) :
  Calls Tryz.prog 146 #[.pointer (some ⟨X,0,none⟩)] w fun en w' => en = .returned (ansE 2 0 true)∧KAt w' X P ⟨1,b.seen,b.stamp+1,8,b.comp,b.err⟩∧Keep [X] w w':=by
 obtain ⟨x0,x1,x2,x3,x4,x5,x6,x7⟩:=h.cells
 obtain ⟨f3,f4,f5,f6,f7⟩:=h.fz
 have hx:X < w.heap.size:=heap_lt h
 have HX:Hid (KAt w X P b):=h
 clear h
 obtain ⟨st,seen,stamp,word,comp,err⟩:=b
 simp only at *
 subst hst
 have HW:Hid (∀ w,KAt w X P ⟨2,seen,stamp,word,comp,err⟩→Calls Tryz.prog 147 #[.pointer (some ⟨X,0,none⟩)] w fun e w' => e = .returned (.bool false)∧KAt w' X P ⟨2,seen,stamp,8,comp,err⟩∧Keep [X] w w'):=fun w h=>by
  have:=nextw_any h (by simp only; omega) (by simp only; omega)
  simp only at this
  rw [if_neg hn,decide_eq_false hn] at this
  exact this
 have HS:Hid (∀ w,KAt w X P ⟨2,seen,stamp,8,comp,err⟩→Calls Tryz.prog 133 #[.pointer (some ⟨X,0,none⟩)] w fun e w' => e = .returned (.bool true)∧KAt w' X P ⟨1,seen,stamp+1,8,comp,err⟩∧Keep [X] w w'):=fun w h=>by
  have:=nexts_any h hse h0
  simp only at this
  rw [if_pos hs,decide_eq_true hs] at this
  exact this
 clear hn
 clear hs
 have hne:w.heap.size≠X:=by omega
 have hne2:w.heap.size+1≠X:=by omega
 go_enter Tryz.func146,Tryz.ntmps146
 go_wp2_with fail
 refine (HW.out _ (ret2_start HX.out).a).mono ?_
 rintro e w1 ⟨rfl,ha1,hk1⟩
 have R1:Hid (Ret2 w w1 X P ⟨2,seen,stamp,8,comp,err⟩):=ret2_call (ret2_start HX.out) ha1 hk1
 clear ha1 hk1 x0 x1 x2 x3 x4 x5 x6 x7 f3 f4 f5 f6 f7
 obtain ⟨x0,x1,x2,x3,x4,x5,x6,x7⟩:=R1.out.a.cells
 obtain ⟨f3,f4,f5,f6,f7⟩:=R1.out.a.fz
 obtain ⟨⟨a0,a1,a2,a3⟩,g0,g1,g2,g3⟩:=ans_cells R1.out.r0
 obtain ⟨⟨m0,m1,m2,m3⟩,i0,i1,i2,i3⟩:=ans_cells R1.out.r1
 have hz:=heap_lt R1.out.r0
 have hz2:=heap_lt R1.out.r1
 simp only at x3 x4 x5 x6 x7
 go_wp2_with fail
 refine (HS.out _ (R1.out).a).mono ?_
 rintro e w2 ⟨rfl,ha2,hk2⟩
 have R2:Hid (Ret2 w w2 X P ⟨1,seen,stamp+1,8,comp,err⟩):=ret2_call (R1.out) ha2 hk2
 clear ha2 hk2 x0 x1 x2 x3 x4 x5 x6 x7 f3 f4 f5 f6 f7 R1 a0 a1 a2 a3 g0 g1 g2 g3 m0 m1 m2 m3 i0 i1 i2 i3 hz hz2
 obtain ⟨x0,x1,x2,x3,x4,x5,x6,x7⟩:=R2.out.a.cells
 obtain ⟨f3,f4,f5,f6,f7⟩:=R2.out.a.fz
 obtain ⟨⟨a0,a1,a2,a3⟩,g0,g1,g2,g3⟩:=ans_cells R2.out.r0
 obtain ⟨⟨m0,m1,m2,m3⟩,i0,i1,i2,i3⟩:=ans_cells R2.out.r1
 have hz:=heap_lt R2.out.r0
 have hz2:=heap_lt R2.out.r1
 simp only at x3 x4 x5 x6 x7
 go_wp2
 exact ret_ans rfl rfl (ansE_set rfl R2.out.r0 2 0 true) rfl rfl ⟨rfl,R2.out.done 2 0 true⟩
theorem goon_2l {w:World} {X:Nat} {P:Cp} {b:Ck} (h:KAt w X P b) (hst:b.st=2) (hw1 : -1≤b.word) (hw2:b.word≤7) (hn : ¬ nxW P.rd (b.word+1).toNat < 8) (hse:b.seen≤9223372036854775807) (h0:0≤b.stamp) (hs : ¬ b.stamp < b.seen) (hl:P.last=true) :
  Calls Tryz.prog 146 #[.pointer (some ⟨X,0,none⟩)] w fun en w' => en = .returned (ansE 2 0 true)∧KAt w' X P ⟨3,b.seen,b.stamp,8,b.comp,b.err⟩∧Keep [X] w w':=by
 obtain ⟨x0,x1,x2,x3,x4,x5,x6,x7⟩:=h.cells
 obtain ⟨f3,f4,f5,f6,f7⟩:=h.fz
 have hx:X < w.heap.size:=heap_lt h
 have HX:Hid (KAt w X P b):=h
 clear h
 obtain ⟨st,seen,stamp,word,comp,err⟩:=b
 simp only at *
 subst hst
 rw [hl] at x2
 have HW:Hid (∀ w,KAt w X P ⟨2,seen,stamp,word,comp,err⟩→Calls Tryz.prog 147 #[.pointer (some ⟨X,0,none⟩)] w fun e w' => e = .returned (.bool false)∧KAt w' X P ⟨2,seen,stamp,8,comp,err⟩∧Keep [X] w w'):=fun w h=>by
  have:=nextw_any h (by simp only; omega) (by simp only; omega)
  simp only at this
  rw [if_neg hn,decide_eq_false hn] at this
  exact this
 have HS:Hid (∀ w,KAt w X P ⟨2,seen,stamp,8,comp,err⟩→Calls Tryz.prog 133 #[.pointer (some ⟨X,0,none⟩)] w fun e w' => e = .returned (.bool false)∧KAt w' X P ⟨2,seen,stamp,8,comp,err⟩∧Keep [X] w w'):=fun w h=>by
  have:=nexts_any h hse h0
  simp only at this
  rw [if_neg hs,decide_eq_false hs] at this
  exact this
 clear hn
 clear hs
 have hne:w.heap.size≠X:=by omega
 have hne2:w.heap.size+1≠X:=by omega
 go_enter Tryz.func146,Tryz.ntmps146
 go_wp2_with fail
 refine (HW.out _ (ret2_start HX.out).a).mono ?_
 rintro e w1 ⟨rfl,ha1,hk1⟩
 have R1:Hid (Ret2 w w1 X P ⟨2,seen,stamp,8,comp,err⟩):=ret2_call (ret2_start HX.out) ha1 hk1
 clear ha1 hk1 x0 x1 x2 x3 x4 x5 x6 x7 f3 f4 f5 f6 f7
 obtain ⟨x0,x1,x2,x3,x4,x5,x6,x7⟩:=R1.out.a.cells
 obtain ⟨f3,f4,f5,f6,f7⟩:=R1.out.a.fz
 obtain ⟨⟨a0,a1,a2,a3⟩,g0,g1,g2,g3⟩:=ans_cells R1.out.r0
 obtain ⟨⟨m0,m1,m2,m3⟩,i0,i1,i2,i3⟩:=ans_cells R1.out.r1
 have hz:=heap_lt R1.out.r0
 have hz2:=heap_lt R1.out.r1
 simp only at x3 x4 x5 x6 x7
 rw [hl] at x2
 go_wp2_with fail
 refine (HS.out _ (R1.out).a).mono ?_
 rintro e w2 ⟨rfl,ha2,hk2⟩
 have R2:Hid (Ret2 w w2 X P ⟨2,seen,stamp,8,comp,err⟩):=ret2_call (R1.out) ha2 hk2
 clear ha2 hk2 x0 x1 x2 x3 x4 x5 x6 x7 f3 f4 f5 f6 f7 R1 a0 a1 a2 a3 g0 g1 g2 g3 m0 m1 m2 m3 i0 i1 i2 i3 hz hz2
 obtain ⟨x0,x1,x2,x3,x4,x5,x6,x7⟩:=R2.out.a.cells
 obtain ⟨f3,f4,f5,f6,f7⟩:=R2.out.a.fz
 obtain ⟨⟨a0,a1,a2,a3⟩,g0,g1,g2,g3⟩:=ans_cells R2.out.r0
 obtain ⟨⟨m0,m1,m2,m3⟩,i0,i1,i2,i3⟩:=ans_cells R2.out.r1
 have hz:=heap_lt R2.out.r0
 have hz2:=heap_lt R2.out.r1
 simp only at x3 x4 x5 x6 x7
 rw [hl] at x2
 go_wp2
 exact ret_ans rfl rfl (ansE_set rfl (R2.out.set 3).r0 2 0 true) rfl rfl ⟨rfl,(R2.out.set 3).done 2 0 true⟩
theorem goon_2e {w:World} {X:Nat} {P:Cp} {b:Ck} (h:KAt w X P b) (hst:b.st=2) (hw1 : -1≤b.word) (hw2:b.word≤7) (hn : ¬ nxW P.rd (b.word+1).toNat < 8) (hse:b.seen≤9223372036854775807) (h0:0≤b.stamp) (hs : ¬ b.stamp < b.seen) (hl:P.last=false) :
  Calls Tryz.prog 146 #[.pointer (some ⟨X,0,none⟩)] w fun en w' => en = .returned (ansE 3 0 true)∧KAt w' X P ⟨4,b.seen,b.stamp,8,b.comp,b.err⟩∧Keep [X] w w':=by
 obtain ⟨x0,x1,x2,x3,x4,x5,x6,x7⟩:=h.cells
 obtain ⟨f3,f4,f5,f6,f7⟩:=h.fz
 have hx:X < w.heap.size:=heap_lt h
 have HX:Hid (KAt w X P b):=h
 clear h
 obtain ⟨st,seen,stamp,word,comp,err⟩:=b
 simp only at *
 subst hst
 rw [hl] at x2
 have HW:Hid (∀ w,KAt w X P ⟨2,seen,stamp,word,comp,err⟩→Calls Tryz.prog 147 #[.pointer (some ⟨X,0,none⟩)] w fun e w' => e = .returned (.bool false)∧KAt w' X P ⟨2,seen,stamp,8,comp,err⟩∧Keep [X] w w'):=fun w h=>by
  have:=nextw_any h (by simp only; omega) (by simp only; omega)
  simp only at this
  rw [if_neg hn,decide_eq_false hn] at this
  exact this
 have HS:Hid (∀ w,KAt w X P ⟨2,seen,stamp,8,comp,err⟩→Calls Tryz.prog 133 #[.pointer (some ⟨X,0,none⟩)] w fun e w' => e = .returned (.bool false)∧KAt w' X P ⟨2,seen,stamp,8,comp,err⟩∧Keep [X] w w'):=fun w h=>by
  have:=nexts_any h hse h0
  simp only at this
  rw [if_neg hs,decide_eq_false hs] at this
  exact this
 clear hn
 clear hs
 have hne:w.heap.size≠X:=by omega
 have hne2:w.heap.size+1≠X:=by omega
 go_enter Tryz.func146,Tryz.ntmps146
 go_wp2_with fail
 refine (HW.out _ (ret2_start HX.out).a).mono ?_
 rintro e w1 ⟨rfl,ha1,hk1⟩
 have R1:Hid (Ret2 w w1 X P ⟨2,seen,stamp,8,comp,err⟩):=ret2_call (ret2_start HX.out) ha1 hk1
 clear ha1 hk1 x0 x1 x2 x3 x4 x5 x6 x7 f3 f4 f5 f6 f7
 obtain ⟨x0,x1,x2,x3,x4,x5,x6,x7⟩:=R1.out.a.cells
 obtain ⟨f3,f4,f5,f6,f7⟩:=R1.out.a.fz
 obtain ⟨⟨a0,a1,a2,a3⟩,g0,g1,g2,g3⟩:=ans_cells R1.out.r0
 obtain ⟨⟨m0,m1,m2,m3⟩,i0,i1,i2,i3⟩:=ans_cells R1.out.r1
 have hz:=heap_lt R1.out.r0
 have hz2:=heap_lt R1.out.r1
 simp only at x3 x4 x5 x6 x7
 rw [hl] at x2
 go_wp2_with fail
 refine (HS.out _ (R1.out).a).mono ?_
 rintro e w2 ⟨rfl,ha2,hk2⟩
 have R2:Hid (Ret2 w w2 X P ⟨2,seen,stamp,8,comp,err⟩):=ret2_call (R1.out) ha2 hk2
 clear ha2 hk2 x0 x1 x2 x3 x4 x5 x6 x7 f3 f4 f5 f6 f7 R1 a0 a1 a2 a3 g0 g1 g2 g3 m0 m1 m2 m3 i0 i1 i2 i3 hz hz2
 obtain ⟨x0,x1,x2,x3,x4,x5,x6,x7⟩:=R2.out.a.cells
 obtain ⟨f3,f4,f5,f6,f7⟩:=R2.out.a.fz
 obtain ⟨⟨a0,a1,a2,a3⟩,g0,g1,g2,g3⟩:=ans_cells R2.out.r0
 obtain ⟨⟨m0,m1,m2,m3⟩,i0,i1,i2,i3⟩:=ans_cells R2.out.r1
 have hz:=heap_lt R2.out.r0
 have hz2:=heap_lt R2.out.r1
 simp only at x3 x4 x5 x6 x7
 rw [hl] at x2
 go_wp2
 exact ret_ans rfl rfl (ansE_set rfl (R2.out.set 4).r0 3 0 true) rfl rfl ⟨rfl,(R2.out.set 4).done 3 0 true⟩
theorem goon_0m {w:World} {X:Nat} {P:Cp} {b:Ck} (h:KAt w X P b) (hst:b.st=0) (hse:b.seen≤9223372036854775807) (h0:0≤b.stamp) (hs:b.stamp < b.seen) :
  Calls Tryz.prog 146 #[.pointer (some ⟨X,0,none⟩)] w fun en w' => en = .returned (ansE 2 0 true)∧KAt w' X P ⟨1,b.seen,b.stamp+1,b.word,b.comp,b.err⟩∧Keep [X] w w':=by
 obtain ⟨x0,x1,x2,x3,x4,x5,x6,x7⟩:=h.cells
 obtain ⟨f3,f4,f5,f6,f7⟩:=h.fz
 have hx:X < w.heap.size:=heap_lt h
 have HX:Hid (KAt w X P b):=h
 clear h
 obtain ⟨st,seen,stamp,word,comp,err⟩:=b
 simp only at *
 subst hst
 have HS:Hid (∀ w,KAt w X P ⟨0,seen,stamp,word,comp,err⟩→Calls Tryz.prog 133 #[.pointer (some ⟨X,0,none⟩)] w fun e w' => e = .returned (.bool true)∧KAt w' X P ⟨1,seen,stamp+1,word,comp,err⟩∧Keep [X] w w'):=fun w h=>by
  have:=nexts_any h hse h0
  simp only at this
  rw [if_pos hs,decide_eq_true hs] at this
  exact this
 clear hs
 have hne:w.heap.size≠X:=by omega
 have hne2:w.heap.size+1≠X:=by omega
 go_enter Tryz.func146,Tryz.ntmps146
 go_wp2_with fail
 refine (HS.out _ (ret2_start HX.out).a).mono ?_
 rintro e w1 ⟨rfl,ha1,hk1⟩
 have R1:Hid (Ret2 w w1 X P ⟨1,seen,stamp+1,word,comp,err⟩):=ret2_call (ret2_start HX.out) ha1 hk1
 clear ha1 hk1 x0 x1 x2 x3 x4 x5 x6 x7 f3 f4 f5 f6 f7
 obtain ⟨x0,x1,x2,x3,x4,x5,x6,x7⟩:=R1.out.a.cells
 obtain ⟨f3,f4,f5,f6,f7⟩:=R1.out.a.fz
 obtain ⟨⟨a0,a1,a2,a3⟩,g0,g1,g2,g3⟩:=ans_cells R1.out.r0
 obtain ⟨⟨m0,m1,m2,m3⟩,i0,i1,i2,i3⟩:=ans_cells R1.out.r1
 have hz:=heap_lt R1.out.r0
 have hz2:=heap_lt R1.out.r1
 simp only at x3 x4 x5 x6 x7
 go_wp2
 exact ret_ans rfl rfl (ansE_set rfl R1.out.r0 2 0 true) rfl rfl ⟨rfl,R1.out.done 2 0 true⟩
theorem goon_0l {w:World} {X:Nat} {P:Cp} {b:Ck} (h:KAt w X P b) (hst:b.st=0) (hse:b.seen≤9223372036854775807) (h0:0≤b.stamp) (hs : ¬ b.stamp < b.seen) (hl:P.last=true) :
  Calls Tryz.prog 146 #[.pointer (some ⟨X,0,none⟩)] w fun en w' => en = .returned (ansE 2 0 true)∧KAt w' X P ⟨3,b.seen,b.stamp,b.word,b.comp,b.err⟩∧Keep [X] w w':=by
 obtain ⟨x0,x1,x2,x3,x4,x5,x6,x7⟩:=h.cells
 obtain ⟨f3,f4,f5,f6,f7⟩:=h.fz
 have hx:X < w.heap.size:=heap_lt h
 have HX:Hid (KAt w X P b):=h
 clear h
 obtain ⟨st,seen,stamp,word,comp,err⟩:=b
 simp only at *
 subst hst
 rw [hl] at x2
 have HS:Hid (∀ w,KAt w X P ⟨0,seen,stamp,word,comp,err⟩→Calls Tryz.prog 133 #[.pointer (some ⟨X,0,none⟩)] w fun e w' => e = .returned (.bool false)∧KAt w' X P ⟨0,seen,stamp,word,comp,err⟩∧Keep [X] w w'):=fun w h=>by
  have:=nexts_any h hse h0
  simp only at this
  rw [if_neg hs,decide_eq_false hs] at this
  exact this
 clear hs
 have hne:w.heap.size≠X:=by omega
 have hne2:w.heap.size+1≠X:=by omega
 go_enter Tryz.func146,Tryz.ntmps146
 go_wp2_with fail
 refine (HS.out _ (ret2_start HX.out).a).mono ?_
 rintro e w1 ⟨rfl,ha1,hk1⟩
 have R1:Hid (Ret2 w w1 X P ⟨0,seen,stamp,word,comp,err⟩):=ret2_call (ret2_start HX.out) ha1 hk1
 clear ha1 hk1 x0 x1 x2 x3 x4 x5 x6 x7 f3 f4 f5 f6 f7
 obtain ⟨x0,x1,x2,x3,x4,x5,x6,x7⟩:=R1.out.a.cells
 obtain ⟨f3,f4,f5,f6,f7⟩:=R1.out.a.fz
 obtain ⟨⟨a0,a1,a2,a3⟩,g0,g1,g2,g3⟩:=ans_cells R1.out.r0
 obtain ⟨⟨m0,m1,m2,m3⟩,i0,i1,i2,i3⟩:=ans_cells R1.out.r1
 have hz:=heap_lt R1.out.r0
 have hz2:=heap_lt R1.out.r1
 simp only at x3 x4 x5 x6 x7
 rw [hl] at x2
 go_wp2
 exact ret_ans rfl rfl (ansE_set rfl (R1.out.set 3).r0 2 0 true) rfl rfl ⟨rfl,(R1.out.set 3).done 2 0 true⟩
theorem goon_0e {w:World} {X:Nat} {P:Cp} {b:Ck} (h:KAt w X P b) (hst:b.st=0) (hse:b.seen≤9223372036854775807) (h0:0≤b.stamp) (hs : ¬ b.stamp < b.seen) (hl:P.last=false) :
  Calls Tryz.prog 146 #[.pointer (some ⟨X,0,none⟩)] w fun en w' => en = .returned (ansE 3 0 true)∧KAt w' X P ⟨4,b.seen,b.stamp,b.word,b.comp,b.err⟩∧Keep [X] w w':=by
 obtain ⟨x0,x1,x2,x3,x4,x5,x6,x7⟩:=h.cells
 obtain ⟨f3,f4,f5,f6,f7⟩:=h.fz
 have hx:X < w.heap.size:=heap_lt h
 have HX:Hid (KAt w X P b):=h
 clear h
 obtain ⟨st,seen,stamp,word,comp,err⟩:=b
 simp only at *
 subst hst
 rw [hl] at x2
 have HS:Hid (∀ w,KAt w X P ⟨0,seen,stamp,word,comp,err⟩→Calls Tryz.prog 133 #[.pointer (some ⟨X,0,none⟩)] w fun e w' => e = .returned (.bool false)∧KAt w' X P ⟨0,seen,stamp,word,comp,err⟩∧Keep [X] w w'):=fun w h=>by
  have:=nexts_any h hse h0
  simp only at this
  rw [if_neg hs,decide_eq_false hs] at this
  exact this
 clear hs
 have hne:w.heap.size≠X:=by omega
 have hne2:w.heap.size+1≠X:=by omega
 go_enter Tryz.func146,Tryz.ntmps146
 go_wp2_with fail
 refine (HS.out _ (ret2_start HX.out).a).mono ?_
 rintro e w1 ⟨rfl,ha1,hk1⟩
 have R1:Hid (Ret2 w w1 X P ⟨0,seen,stamp,word,comp,err⟩):=ret2_call (ret2_start HX.out) ha1 hk1
 clear ha1 hk1 x0 x1 x2 x3 x4 x5 x6 x7 f3 f4 f5 f6 f7
 obtain ⟨x0,x1,x2,x3,x4,x5,x6,x7⟩:=R1.out.a.cells
 obtain ⟨f3,f4,f5,f6,f7⟩:=R1.out.a.fz
 obtain ⟨⟨a0,a1,a2,a3⟩,g0,g1,g2,g3⟩:=ans_cells R1.out.r0
 obtain ⟨⟨m0,m1,m2,m3⟩,i0,i1,i2,i3⟩:=ans_cells R1.out.r1
 have hz:=heap_lt R1.out.r0
 have hz2:=heap_lt R1.out.r1
 simp only at x3 x4 x5 x6 x7
 rw [hl] at x2
 go_wp2
 exact ret_ans rfl rfl (ansE_set rfl (R1.out.set 4).r0 3 0 true) rfl rfl ⟨rfl,(R1.out.set 4).done 3 0 true⟩
theorem goon_3e {w:World} {X:Nat} {P:Cp} {b:Ck} (h:KAt w X P b) (hst:b.st=3)  :
  Calls Tryz.prog 146 #[.pointer (some ⟨X,0,none⟩)] w fun en w' => en = .returned (ansE 3 0 true)∧KAt w' X P ⟨4,b.seen,b.stamp,b.word,b.comp,b.err⟩∧Keep [X] w w':=by
 obtain ⟨x0,x1,x2,x3,x4,x5,x6,x7⟩:=h.cells
 obtain ⟨f3,f4,f5,f6,f7⟩:=h.fz
 have hx:X < w.heap.size:=heap_lt h
 have HX:Hid (KAt w X P b):=h
 clear h
 obtain ⟨st,seen,stamp,word,comp,err⟩:=b
 simp only at *
 subst hst
 have hne:w.heap.size≠X:=by omega
 have hne2:w.heap.size+1≠X:=by omega
 go_enter Tryz.func146,Tryz.ntmps146
 go_wp2
 exact ret_ans rfl rfl (row_2_0 _ _ _ _ _) rfl rfl ⟨rfl,((kset HX.out 4).1.alloc _).alloc _,((kkeep (Keep.refl _ _) _ _).alloc _).alloc _⟩
--END CASES
theorem goon_any {w:World} {X:Nat} {P:Cp} {b:Ck} (h:KAt w X P b) (hst:b.st=0∨b.st=1∨b.st=2∨b.st=3) (hw:b.st=2 → -1≤b.word∧b.word≤7) (hse:b.seen≤9223372036854775807) (h0:0≤b.stamp) :
  Calls Tryz.prog 146 #[.pointer (some ⟨X,0,none⟩)] w fun en w' => en = .returned (ansE (kindV (onV P b)) 0 true)∧KAt w' X P (onV P b)∧Keep [X] w w':=by
 unfold onV
 rcases hst with e | e | e | e
 ·rw [if_neg (by omega),if_neg (by omega),if_pos e]
  unfold stampOn
  by_cases hs:b.stamp < b.seen
  ·rw [if_pos hs]; exact goon_0m (b:=b) h e hse h0 hs
  ·rw [if_neg hs]
   by_cases hl:P.last=true
   ·rw [if_pos hl]; exact goon_0l (b:=b) h e hse h0 hs hl
   ·rw [if_neg hl]; exact goon_0e (b:=b) h e hse h0 hs (by simpa using hl)
 ·rw [if_pos e]
  unfold wordOn stampOn
  rw [show ((-1:Int)+1).toNat=0 from rfl]
  by_cases hn:nxW P.rd 0 < 8
  ·rw [if_pos hn]; exact goon_1h (b:=b) h e hn
  ·rw [if_neg hn]
   simp only
   by_cases hs:b.stamp < b.seen
   ·rw [if_pos hs]; exact goon_1m (b:=b) h e hn hse h0 hs
   ·rw [if_neg hs]
    by_cases hl:P.last=true
    ·rw [if_pos hl]; exact goon_1l (b:=b) h e hn hse h0 hs hl
    ·rw [if_neg hl]; exact goon_1e (b:=b) h e hn hse h0 hs (by simpa using hl)
 ·rw [if_neg (by omega),if_pos e]
  obtain ⟨hw1,hw2⟩:=hw e
  unfold wordOn stampOn
  by_cases hn:nxW P.rd (b.word+1).toNat < 8
  ·rw [if_pos hn]; exact goon_2h (b:=b) h e hw1 hw2 hn
  ·rw [if_neg hn]
   simp only
   by_cases hs:b.stamp < b.seen
   ·rw [if_pos hs]; exact goon_2m (b:=b) h e hw1 hw2 hn hse h0 hs
   ·rw [if_neg hs]
    by_cases hl:P.last=true
    ·rw [if_pos hl]; exact goon_2l (b:=b) h e hw1 hw2 hn hse h0 hs hl
    ·rw [if_neg hl]; exact goon_2e (b:=b) h e hw1 hw2 hn hse h0 hs (by simpa using hl)
 ·rw [if_neg (by omega),if_neg (by omega),if_neg (by omega)]
  exact goon_3e (b:=b) h e
theorem stampOn_err (P:Cp) (b:Ck):(stampOn P b).err=b.err:=by
 unfold stampOn
 split
 ·rfl
 ·split <;> rfl
theorem wordOn_err (P:Cp) (b:Ck):(wordOn P b).err=b.err:=by
 unfold wordOn
 split
 ·rfl
 ·rw [stampOn_err]
theorem onV_err (P:Cp) (b:Ck):(onV P b).err=b.err:=by
 unfold onV
 repeat' split
 ·rw [wordOn_err]
 ·rw [wordOn_err]
 ·rw [stampOn_err]
 ·rfl
structure Ret1 (w w1:World) (X:Nat) (P:Cp) (b:Ck):Prop where
 r0:w1.heap[w.heap.size]? = some (.cells #[.int .i64 0,.int .i64 0,.int .i64 0,.bool false] 55 (0,0))
 a:KAt w1 X P b
 k:Keep [X] w w1
 x:X < w.heap.size
theorem Ret1.call {w w0 w1:World} {X:Nat} {P:Cp} {b b':Ck} (r:Ret1 w w0 X P b) (ha:KAt w1 X P b') (hk:Keep [X] w0 w1):Ret1 w w1 X P b':=by
 have hx:=r.x
 refine ⟨?_,ha,r.k.trans hk (fun q hq=>Or.inl hq),hx⟩
 rw [hk.block _ (heap_lt r.r0) (by simp; omega)]; exact r.r0
theorem Ret1.on {w w0 w1:World} {X:Nat} {P:Cp} {b:Ck} (r:Ret1 w w0 X P b) (hb:Below w0.heap.size w0 w1):Ret1 w w1 X P b :=
 r.call (r.a.below hb (heap_lt r.a)) (Keep.of_below hb [X])
theorem Ret1.drew {w w1:World} {X:Nat} {P:Cp} {b:Ck} (r:Ret1 w w1 X P b) (n:Nat):Ret1 w (w1.drewN n) X P b:=⟨r.r0,r.a,r.k.drewN n,r.x⟩
theorem ret1_start {w:World} {X:Nat} {P:Cp} {b:Ck} (h:KAt w X P b):Ret1 w (w.alloc (.cells #[.int .i64 0,.int .i64 0,.int .i64 0,.bool false] 55)) X P b :=
 ⟨heap_alloc_new _ _,h.alloc _,(Keep.refl _ _).alloc _,heap_lt h⟩
theorem Ret1.done {w w1:World} {X:Nat} {P:Cp} {b:Ck} (r:Ret1 w w1 X P b) (k e:Int) (y:Bool):KAt (laidE w1 w.heap.size k e y) X P b∧Keep [X] w (laidE w1 w.heap.size k e y) :=
 ⟨r.a.keep (keepEB k e y) (by have:=r.x; simp; omega),keepE r.k (Nat.le_refl _) k e y⟩
theorem KAt.reads {w:World} {X:Nat} {P:Cp} {b:Ck} (h:KAt w X P b):w.cell? ⟨X,2,none⟩=some (rdV P.rd 0)∧w.cell? ⟨X,3,none⟩=some (rdV P.rd 1)∧w.cell? ⟨X,4,none⟩=some (rdV P.rd 2)∧w.cell? ⟨X,5,none⟩=some (rdV P.rd 3)∧w.cell? ⟨X,6,none⟩=some (rdV P.rd 4)∧w.cell? ⟨X,7,none⟩=some (rdV P.rd 5)∧w.cell? ⟨X,8,none⟩=some (rdV P.rd 6)∧w.cell? ⟨X,9,none⟩=some (rdV P.rd 7) :=
 ⟨h.read 0 (by omega),h.read 1 (by omega),h.read 2 (by omega),h.read 3 (by omega),h.read 4 (by omega),h.read 5 (by omega),h.read 6 (by omega),h.read 7 (by omega)⟩
theorem ret_addr {fn:Func} {p:Tmp} {R:Ending→World→Prop} {a:Act} {w:World} {g:Nat} {cs:Array Value} (h:fn.results = #[.cell p 34]) (hp:a.tmps.getD p undef = .pointer (some ⟨g,0,none⟩))
  (hg:w.heap[g]? = some (.cells cs 34 (0,0))) (hz:cs.size=3) (hd:a.defers = []) (hR:R (.returned (.agg cs)) w):bodyPost Tryz.prog fn R .ret a w :=
 bodyPost_ret (results_cell_row h _ _ g 34 cs (0,0) _ hp hg Tryz.underlying34 rfl (by rw [hz]; kernel_rfl)) hd hR
def laid3 (w:World) (B:Nat) (c0 c1 c2:Value):World:=((w.setCell ⟨B,0,none⟩ c0).setCell ⟨B,1,none⟩ c1).setCell ⟨B,2,none⟩ c2
theorem addr_set {w:World} {B:Nat} {v0 v1 v2:Value} (h:w.heap[B]? = some (.cells #[v0,v1,v2] 34 (0,0))) (c0 c1 c2:Value):(laid3 w B c0 c1 c2).heap[B]? = some (.cells #[c0,c1,c2] 34 (0,0)):=by
 have h1:=heap_set (i:=0) (v:=c0) h
 have h2:=heap_set (i:=1) (v:=c1) h1
 have h3:=heap_set (i:=2) (v:=c2) h2
 unfold laid3
 rw [h3]
 rfl
theorem below3 {w0 w:World} {A B:Nat} (hk:Below A w0 w) (hB:A≤B) (c0 c1 c2:Value):Below A w0 (laid3 w B c0 c1 c2):=((hk.setCell hB _).setCell hB _).setCell hB _
theorem caddr_any {w:World} {X:Nat} {P:Cp} {b:Ck} (h:KAt w X P b) :
  Calls Tryz.prog 138 #[.pointer (some ⟨X,0,none⟩)] w fun en w' => en = .returned (.agg (adC (adK P b)))∧Below w.heap.size w w':=by
 obtain ⟨x0,x1,x2,x3,x4,x5,x6,x7⟩:=h.cells
 have hx:X < w.heap.size:=heap_lt h
 have HSL:Hid (∀ w,Calls Tryz.prog 91 #[.int .i64 b.stamp,.int .i64 (P.s:Int)] w fun e w' => e = .returned (.int .i64 (slotV b.stamp P.s))∧w'=w):=slot_any b.stamp P.s
 clear h
 unfold adK
 by_cases e1:b.st=1
 ·rw [if_pos e1]
  rw [e1] at x3
  generalize slotV b.stamp P.s=k at *
  clear e1
  unfold adC
  go_enter Tryz.func138,Tryz.ntmps138
  go_wp2_with fail
  go_quiet ((go_at_call 91; refine (HSL.out _).mono ?_; rintro e x0 ⟨rfl,rfl⟩; exact ⟨rfl,_,rfl⟩))
  go_wp2
  exact ret_addr rfl rfl (addr_set (w:=World.drewN _ nq) (heap_alloc_new w _) _ _ _) rfl rfl ⟨rfl,below3 (below_drawn (below_a1 _ _) _) (Nat.le_refl _) _ _ _⟩
 ·rw [if_neg e1]
  have q1:(b.st == 1)=false:=by simpa using e1
  by_cases e2:b.st=2
  ·rw [if_pos e2]
   rw [e2] at x3
   generalize slotV b.stamp P.s=k at *
   clear e1 e2 q1
   unfold adC
   go_enter Tryz.func138,Tryz.ntmps138
   go_wp2_with fail
   go_quiet ((go_at_call 91; refine (HSL.out _).mono ?_; rintro e x0 ⟨rfl,rfl⟩; exact ⟨rfl,_,rfl⟩))
   go_wp2
   exact ret_addr rfl rfl (addr_set (w:=World.drewN _ nq) (heap_alloc_new w _) _ _ _) rfl rfl ⟨rfl,below3 (below_drawn (below_a1 _ _) _) (Nat.le_refl _) _ _ _⟩
  ·rw [if_neg e2]
   have q2:(b.st == 2)=false:=by simpa using e2
   generalize slotV b.stamp P.s=k at *
   unfold adC
   go_enter Tryz.func138,Tryz.ntmps138
   go_wp2_with fail
   go_quiet ((go_at_call 91; refine (HSL.out _).mono ?_; rintro e x0 ⟨rfl,rfl⟩; exact ⟨rfl,_,rfl⟩))
   go_wp2
   exact ret_addr rfl rfl (addr_set (w:=World.drewN _ nq) (heap_alloc_new w _) _ _ _) rfl rfl ⟨rfl,below3 (below_drawn (below_a1 _ _) _) (Nat.le_refl _) _ _ _⟩
theorem cagain_any {w:World} {X:Nat} {P:Cp} {b:Ck} (h:KAt w X P b) (hp:POk P) {v:Int} (hv:W64 v) (h3:b.st=3) (he:b.err=0) :
  Calls Tryz.prog 142 #[.pointer (some ⟨X,0,none⟩),.int .i64 v] w fun en w' => en = .returned (ansE (kindV (againK P b v)) (againK P b v).err true)∧KAt w' X P (againK P b v)∧Keep [X] w w':=by
 have HO:Hid (∀ w,KAt w X P b→Calls Tryz.prog 144 #[.pointer (some ⟨X,0,none⟩),.int .i64 v] w fun e w' => e = .returned (.bool (farV P v))∧Below w.heap.size w w'):=fun w h=>overrun_any h hp hv
 have hx:X < w.heap.size:=heap_lt h
 have HX:Hid (KAt w X P b):=h
 unfold againK
 by_cases e:farV P v=true
 ·rw [if_pos e]
  rw [e] at HO
  have HF:Hid (∀ w,KAt w X P b→Calls Tryz.prog 145 #[.pointer (some ⟨X,0,none⟩),.int .i64 4] w fun en w' => en = .returned (.agg #[.int .i64 4,.int .i64 4,.int .i64 0,.bool true])∧KAt w' X P (failV b 4)∧Keep [X] w w'):=fun w h=>cfail_any h 4
  have HK:Hid (kindV (failV b 4)=4∧(failV b 4).err=4):=⟨rfl,rfl⟩
  clear h e
  rw [HK.out.1,HK.out.2]
  generalize failV b 4=bb at *
  unfold ansE
  go_enter Tryz.func142,Tryz.ntmps142
  go_wp2_with fail
  refine (HO.out _ (ret1_start HX.out).a).mono ?_
  rintro e w1 ⟨rfl,hb1⟩
  have R1:Hid (Ret1 w w1 X P b):=(ret1_start HX.out).on hb1
  clear hb1
  go_wp2_with fail
  refine (HF.out _ R1.out.a).mono ?_
  rintro e w2 ⟨rfl,ha2,hk2⟩
  have R2:Hid (Ret1 w w2 X P bb):=R1.out.call ha2 hk2
  clear ha2 hk2
  obtain ⟨⟨a0,a1,a2,a3⟩,g0,g1,g2,g3⟩:=ans_cells R2.out.r0
  have hz:=heap_lt R2.out.r0
  go_wp2
  exact ret_ans rfl rfl (ansE_set rfl R2.out.r0 4 4 true) rfl rfl ⟨rfl,R2.out.done 4 4 true⟩
 ·have e':farV P v=false:=by simpa using e
  rw [if_neg e]
  rw [e'] at HO
  have hon:onV P b=⟨4,b.seen,b.stamp,b.word,b.comp,b.err⟩:=by unfold onV; rw [if_neg (by omega),if_neg (by omega),if_neg (by omega)]
  have HF:Hid (∀ w,KAt w X P b→Calls Tryz.prog 146 #[.pointer (some ⟨X,0,none⟩)] w fun en w' => en = .returned (.agg #[.int .i64 3,.int .i64 0,.int .i64 0,.bool true])∧KAt w' X P (onV P b)∧Keep [X] w w'):=fun w h=>by
   rw [hon]; exact goon_3e h h3
  have HK:Hid (kindV (onV P b)=3∧(onV P b).err=0):=by rw [hon]; exact ⟨rfl,he⟩
  clear h e e' hon
  rw [HK.out.1,HK.out.2]
  generalize onV P b=bb at *
  unfold ansE
  go_enter Tryz.func142,Tryz.ntmps142
  go_wp2_with fail
  refine (HO.out _ (ret1_start HX.out).a).mono ?_
  rintro e w1 ⟨rfl,hb1⟩
  have R1:Hid (Ret1 w w1 X P b):=(ret1_start HX.out).on hb1
  clear hb1
  go_wp2_with fail
  refine (HF.out _ R1.out.a).mono ?_
  rintro e w2 ⟨rfl,ha2,hk2⟩
  have R2:Hid (Ret1 w w2 X P bb):=R1.out.call ha2 hk2
  clear ha2 hk2
  obtain ⟨⟨a0,a1,a2,a3⟩,g0,g1,g2,g3⟩:=ans_cells R2.out.r0
  have hz:=heap_lt R2.out.r0
  go_wp2
  exact ret_ans rfl rfl (ansE_set rfl R2.out.r0 3 0 true) rfl rfl ⟨rfl,R2.out.done 3 0 true⟩
theorem wrapU_bd (v:Int):(IntKind.u64.wrap v).toNat < 18446744073709551616∧((IntKind.u64.wrap v).toNat:Int)=IntKind.u64.wrap v:=by
 have h:0≤IntKind.u64.wrap v∧IntKind.u64.wrap v < 18446744073709551616:=by
  rw [IntKind.wrap_u64]; omega
 omega
--WALKS
theorem csee_e {w:World} {X:Nat} {P:Cp} {b:Ck} (h:KAt w X P b) (hp:POk P) {v:Int} (_hv:W64 v) (h0:b.st=0) (_hst:0≤b.stamp) (hr:P.rd=Sg.nought) :
  Calls Tryz.prog 139 #[.pointer (some ⟨X,0,none⟩),.int .i64 v] w fun en w' => en = .returned (ansE 3 0 true)∧KAt w' X P ⟨4,v,b.stamp,b.word,b.comp,b.err⟩∧Keep [X] w w':=by
  have hx:X < w.heap.size:=heap_lt h
  obtain ⟨x0,x1,x2,x3,x4,x5,x6,x7⟩:=h.cells
  obtain ⟨f3,f4,f5,f6,f7⟩:=h.fz
  obtain ⟨r0,r1,r2,r3,r4,r5,r6,r7⟩:=h.reads
  have HM:Hid (∀ w,Calls Tryz.prog 143 #[.agg #[rdV P.rd 0,rdV P.rd 1,rdV P.rd 2,rdV P.rd 3,rdV P.rd 4,rdV P.rd 5,rdV P.rd 6,rdV P.rd 7]] w fun e w' => e = .returned (.bool true)∧Below w.heap.size w w'):=fun w=>by
   have:=Sg.empty_any P.rd hp.rd w
   rw [show (P.rd == Sg.nought)=true by simpa using hr] at this
   rw [rd_cells hp.rd.1]; exact this
  have HS0:Hid (Ret1 w ((w.setCell ⟨X,12,none⟩ (.int .i64 v)).alloc (.cells #[.int .i64 0,.int .i64 0,.int .i64 0,.bool false] 55)) X P ⟨b.st,v,b.stamp,b.word,b.comp,b.err⟩) :=
   ⟨heap_alloc_set_new _ _ _,(kset h v).2.1.alloc _,(kkeep (Keep.refl _ _) _ _).alloc _,hx⟩
  have hne:w.heap.size≠X:=by omega
  obtain ⟨st,seen,stamp,word,comp,err⟩:=b
  simp only at *
  subst h0
  clear h hr
  unfold ansE
  go_enter Tryz.func139,Tryz.ntmps139
  go_wp2_with fail
  refine (HM.out _).mono ?_
  rintro e w1 ⟨rfl,hb1⟩
  have R1:Hid (Ret1 w w1 X P ⟨0,v,stamp,word,comp,err⟩):=HS0.out.on hb1
  clear hb1 x0 x1 x2 x3 x4 x5 x6 x7 f3 f4 f5 f6 f7 r0 r1 r2 r3 r4 r5 r6 r7
  obtain ⟨⟨a0,a1,a2,a3⟩,g0,g1,g2,g3⟩:=ans_cells R1.out.r0
  obtain ⟨x0,x1,x2,x3,x4,x5,x6,x7⟩:=R1.out.a.cells
  obtain ⟨f3,f4,f5,f6,f7⟩:=R1.out.a.fz
  have hz:=heap_lt R1.out.r0
  go_wp2
  have R2:Ret1 w (w1.setCell ⟨X,11,none⟩ (.int .i64 4)) X P ⟨4,v,stamp,word,comp,err⟩:=R1.out.call (kset R1.out.a 4).1 (kkeep (Keep.refl _ _) _ _)
  exact ret_ans rfl rfl (ansE_set rfl R2.r0 3 0 true) rfl rfl ⟨rfl,R2.done 3 0 true⟩
theorem csee_l {w:World} {X:Nat} {P:Cp} {b:Ck} (h:KAt w X P b) (hp:POk P) {v:Int} (_hv:W64 v) (h0:b.st=0) (_hst:0≤b.stamp) (hr:P.rd≠Sg.nought) (hl:v≤P.z) :
  Calls Tryz.prog 139 #[.pointer (some ⟨X,0,none⟩),.int .i64 v] w fun en w' => en = .returned (ansE 3 0 true)∧KAt w' X P ⟨4,v,b.stamp,b.word,b.comp,b.err⟩∧Keep [X] w w':=by
  have hx:X < w.heap.size:=heap_lt h
  obtain ⟨x0,x1,x2,x3,x4,x5,x6,x7⟩:=h.cells
  obtain ⟨f3,f4,f5,f6,f7⟩:=h.fz
  obtain ⟨r0,r1,r2,r3,r4,r5,r6,r7⟩:=h.reads
  have HM:Hid (∀ w,Calls Tryz.prog 143 #[.agg #[rdV P.rd 0,rdV P.rd 1,rdV P.rd 2,rdV P.rd 3,rdV P.rd 4,rdV P.rd 5,rdV P.rd 6,rdV P.rd 7]] w fun e w' => e = .returned (.bool false)∧Below w.heap.size w w'):=fun w=>by
   have:=Sg.empty_any P.rd hp.rd w
   rw [show (P.rd == Sg.nought)=false by simpa using hr] at this
   rw [rd_cells hp.rd.1]; exact this
  have HS0:Hid (Ret1 w ((w.setCell ⟨X,12,none⟩ (.int .i64 v)).alloc (.cells #[.int .i64 0,.int .i64 0,.int .i64 0,.bool false] 55)) X P ⟨b.st,v,b.stamp,b.word,b.comp,b.err⟩) :=
   ⟨heap_alloc_set_new _ _ _,(kset h v).2.1.alloc _,(kkeep (Keep.refl _ _) _ _).alloc _,hx⟩
  have hne:w.heap.size≠X:=by omega
  obtain ⟨st,seen,stamp,word,comp,err⟩:=b
  simp only at *
  subst h0
  have d1:decide (v≤P.z)=true:=decide_eq_true hl
  clear hl
  clear h hr
  unfold ansE
  go_enter Tryz.func139,Tryz.ntmps139
  go_wp2_with fail
  refine (HM.out _).mono ?_
  rintro e w1 ⟨rfl,hb1⟩
  have R1:Hid (Ret1 w w1 X P ⟨0,v,stamp,word,comp,err⟩):=HS0.out.on hb1
  clear hb1 x0 x1 x2 x3 x4 x5 x6 x7 f3 f4 f5 f6 f7 r0 r1 r2 r3 r4 r5 r6 r7
  obtain ⟨⟨a0,a1,a2,a3⟩,g0,g1,g2,g3⟩:=ans_cells R1.out.r0
  obtain ⟨x0,x1,x2,x3,x4,x5,x6,x7⟩:=R1.out.a.cells
  obtain ⟨f3,f4,f5,f6,f7⟩:=R1.out.a.fz
  have hz:=heap_lt R1.out.r0
  go_wp2
  have R2:Ret1 w (w1.setCell ⟨X,11,none⟩ (.int .i64 4)) X P ⟨4,v,stamp,word,comp,err⟩:=R1.out.call (kset R1.out.a 4).1 (kkeep (Keep.refl _ _) _ _)
  exact ret_ans rfl rfl (ansE_set rfl R2.r0 3 0 true) rfl rfl ⟨rfl,R2.done 3 0 true⟩
theorem csee_f {w:World} {X:Nat} {P:Cp} {b:Ck} (h:KAt w X P b) (hp:POk P) {v:Int} (hv:W64 v) (h0:b.st=0) (_hst:0≤b.stamp) (hr:P.rd≠Sg.nought) (hl : ¬ v≤P.z) (hf:farV P v=true) :
  Calls Tryz.prog 139 #[.pointer (some ⟨X,0,none⟩),.int .i64 v] w fun en w' => en = .returned (ansE 4 4 true)∧KAt w' X P (failV ⟨b.st,v,b.stamp,b.word,b.comp,b.err⟩ 4)∧Keep [X] w w':=by
  have hx:X < w.heap.size:=heap_lt h
  obtain ⟨x0,x1,x2,x3,x4,x5,x6,x7⟩:=h.cells
  obtain ⟨f3,f4,f5,f6,f7⟩:=h.fz
  obtain ⟨r0,r1,r2,r3,r4,r5,r6,r7⟩:=h.reads
  have HM:Hid (∀ w,Calls Tryz.prog 143 #[.agg #[rdV P.rd 0,rdV P.rd 1,rdV P.rd 2,rdV P.rd 3,rdV P.rd 4,rdV P.rd 5,rdV P.rd 6,rdV P.rd 7]] w fun e w' => e = .returned (.bool false)∧Below w.heap.size w w'):=fun w=>by
   have:=Sg.empty_any P.rd hp.rd w
   rw [show (P.rd == Sg.nought)=false by simpa using hr] at this
   rw [rd_cells hp.rd.1]; exact this
  have HS0:Hid (Ret1 w ((w.setCell ⟨X,12,none⟩ (.int .i64 v)).alloc (.cells #[.int .i64 0,.int .i64 0,.int .i64 0,.bool false] 55)) X P ⟨b.st,v,b.stamp,b.word,b.comp,b.err⟩) :=
   ⟨heap_alloc_set_new _ _ _,(kset h v).2.1.alloc _,(kkeep (Keep.refl _ _) _ _).alloc _,hx⟩
  have hne:w.heap.size≠X:=by omega
  obtain ⟨st,seen,stamp,word,comp,err⟩:=b
  simp only at *
  subst h0
  generalize hc0:(⟨0,v,stamp,word,comp,err⟩:Ck)=c0 at *
  have HO:Hid (∀ w,KAt w X P c0→Calls Tryz.prog 144 #[.pointer (some ⟨X,0,none⟩),.int .i64 v] w fun e w' => e = .returned (.bool true)∧Below w.heap.size w w'):=fun w h=>by
   have:=overrun_any h hp hv
   rw [hf] at this; exact this
  have d1:decide (v≤P.z)=false:=decide_eq_false hl
  have HF:Hid (∀ w,KAt w X P c0→Calls Tryz.prog 145 #[.pointer (some ⟨X,0,none⟩),.int .i64 4] w fun en w' => en = .returned (.agg #[.int .i64 4,.int .i64 4,.int .i64 0,.bool true])∧KAt w' X P (failV c0 4)∧Keep [X] w w'):=fun w h=>cfail_any h 4
  generalize failV c0 4=bb at *
  clear h hf hl hr hc0
  unfold ansE
  go_enter Tryz.func139,Tryz.ntmps139
  go_wp2_with fail
  refine (HM.out _).mono ?_
  rintro e w1 ⟨rfl,hb1⟩
  have R1:Hid (Ret1 w w1 X P c0):=HS0.out.on hb1
  clear hb1 x0 x1 x2 x3 x4 x5 x6 x7 f3 f4 f5 f6 f7 r0 r1 r2 r3 r4 r5 r6 r7
  obtain ⟨⟨a0,a1,a2,a3⟩,g0,g1,g2,g3⟩:=ans_cells R1.out.r0
  obtain ⟨x0,x1,x2,x3,x4,x5,x6,x7⟩:=R1.out.a.cells
  obtain ⟨f3,f4,f5,f6,f7⟩:=R1.out.a.fz
  have hz:=heap_lt R1.out.r0
  go_wp2_with fail
  refine (HO.out _ R1.out.a).mono ?_
  rintro e w2 ⟨rfl,hb⟩
  have R2:Hid (Ret1 w w2 X P c0):=R1.out.on hb
  clear hb x0 x1 x2 x3 x4 x5 x6 x7 f3 f4 f5 f6 f7 a0 a1 a2 a3 g0 g1 g2 g3 hz
  obtain ⟨⟨a0,a1,a2,a3⟩,g0,g1,g2,g3⟩:=ans_cells R2.out.r0
  obtain ⟨x0,x1,x2,x3,x4,x5,x6,x7⟩:=R2.out.a.cells
  obtain ⟨f3,f4,f5,f6,f7⟩:=R2.out.a.fz
  have hz:=heap_lt R2.out.r0
  go_wp2_with fail
  refine (HF.out _ R2.out.a).mono ?_
  rintro e w3 ⟨rfl,ha,hk⟩
  have R3:Hid (Ret1 w w3 X P bb):=R2.out.call ha hk
  clear ha hk x0 x1 x2 x3 x4 x5 x6 x7 f3 f4 f5 f6 f7 a0 a1 a2 a3 g0 g1 g2 g3 hz
  obtain ⟨⟨a0,a1,a2,a3⟩,g0,g1,g2,g3⟩:=ans_cells R3.out.r0
  obtain ⟨x0,x1,x2,x3,x4,x5,x6,x7⟩:=R3.out.a.cells
  obtain ⟨f3,f4,f5,f6,f7⟩:=R3.out.a.fz
  have hz:=heap_lt R3.out.r0
  go_wp2
  exact ret_ans rfl rfl (ansE_set rfl R3.out.r0 4 4 true) rfl rfl ⟨rfl,R3.out.done 4 4 true⟩
theorem csee_g {w:World} {X:Nat} {P:Cp} {b:Ck} (h:KAt w X P b) (hp:POk P) {v:Int} (hv:W64 v) (h0:b.st=0) (hst:0≤b.stamp) (hr:P.rd≠Sg.nought) (hl : ¬ v≤P.z) (hf:farV P v=false) :
  Calls Tryz.prog 139 #[.pointer (some ⟨X,0,none⟩),.int .i64 v] w fun en w' => en = .returned (ansE (kindV (onV P ⟨b.st,v,b.stamp,b.word,b.comp,b.err⟩)) 0 true)∧KAt w' X P (onV P ⟨b.st,v,b.stamp,b.word,b.comp,b.err⟩)∧Keep [X] w w':=by
  have hx:X < w.heap.size:=heap_lt h
  obtain ⟨x0,x1,x2,x3,x4,x5,x6,x7⟩:=h.cells
  obtain ⟨f3,f4,f5,f6,f7⟩:=h.fz
  obtain ⟨r0,r1,r2,r3,r4,r5,r6,r7⟩:=h.reads
  have HM:Hid (∀ w,Calls Tryz.prog 143 #[.agg #[rdV P.rd 0,rdV P.rd 1,rdV P.rd 2,rdV P.rd 3,rdV P.rd 4,rdV P.rd 5,rdV P.rd 6,rdV P.rd 7]] w fun e w' => e = .returned (.bool false)∧Below w.heap.size w w'):=fun w=>by
   have:=Sg.empty_any P.rd hp.rd w
   rw [show (P.rd == Sg.nought)=false by simpa using hr] at this
   rw [rd_cells hp.rd.1]; exact this
  have HS0:Hid (Ret1 w ((w.setCell ⟨X,12,none⟩ (.int .i64 v)).alloc (.cells #[.int .i64 0,.int .i64 0,.int .i64 0,.bool false] 55)) X P ⟨b.st,v,b.stamp,b.word,b.comp,b.err⟩) :=
   ⟨heap_alloc_set_new _ _ _,(kset h v).2.1.alloc _,(kkeep (Keep.refl _ _) _ _).alloc _,hx⟩
  have hne:w.heap.size≠X:=by omega
  obtain ⟨st,seen,stamp,word,comp,err⟩:=b
  simp only at *
  subst h0
  generalize hc0:(⟨0,v,stamp,word,comp,err⟩:Ck)=c0 at *
  have HO:Hid (∀ w,KAt w X P c0→Calls Tryz.prog 144 #[.pointer (some ⟨X,0,none⟩),.int .i64 v] w fun e w' => e = .returned (.bool false)∧Below w.heap.size w w'):=fun w h=>by
   have:=overrun_any h hp hv
   rw [hf] at this; exact this
  have d1:decide (v≤P.z)=false:=decide_eq_false hl
  have HG:Hid (∀ w,KAt w X P c0→Calls Tryz.prog 146 #[.pointer (some ⟨X,0,none⟩)] w fun en w' => en = .returned (.agg #[.int .i64 (kindV (onV P c0)),.int .i64 0,.int .i64 0,.bool true])∧KAt w' X P (onV P c0)∧Keep [X] w w'):=fun w h=>goon_any h (Or.inl (by rw [← hc0])) (fun e=>by rw [← hc0] at e; simp at e) (by rw [← hc0]; exact hv.2) (by rw [← hc0]; exact hst)
  generalize onV P c0=bb at *
  generalize kindV bb=kk at *
  clear h hf hl hr hc0
  unfold ansE
  go_enter Tryz.func139,Tryz.ntmps139
  go_wp2_with fail
  refine (HM.out _).mono ?_
  rintro e w1 ⟨rfl,hb1⟩
  have R1:Hid (Ret1 w w1 X P c0):=HS0.out.on hb1
  clear hb1 x0 x1 x2 x3 x4 x5 x6 x7 f3 f4 f5 f6 f7 r0 r1 r2 r3 r4 r5 r6 r7
  obtain ⟨⟨a0,a1,a2,a3⟩,g0,g1,g2,g3⟩:=ans_cells R1.out.r0
  obtain ⟨x0,x1,x2,x3,x4,x5,x6,x7⟩:=R1.out.a.cells
  obtain ⟨f3,f4,f5,f6,f7⟩:=R1.out.a.fz
  have hz:=heap_lt R1.out.r0
  go_wp2_with fail
  refine (HO.out _ R1.out.a).mono ?_
  rintro e w2 ⟨rfl,hb⟩
  have R2:Hid (Ret1 w w2 X P c0):=R1.out.on hb
  clear hb x0 x1 x2 x3 x4 x5 x6 x7 f3 f4 f5 f6 f7 a0 a1 a2 a3 g0 g1 g2 g3 hz
  obtain ⟨⟨a0,a1,a2,a3⟩,g0,g1,g2,g3⟩:=ans_cells R2.out.r0
  obtain ⟨x0,x1,x2,x3,x4,x5,x6,x7⟩:=R2.out.a.cells
  obtain ⟨f3,f4,f5,f6,f7⟩:=R2.out.a.fz
  have hz:=heap_lt R2.out.r0
  go_wp2_with fail
  refine (HG.out _ R2.out.a).mono ?_
  rintro e w3 ⟨rfl,ha,hk⟩
  have R3:Hid (Ret1 w w3 X P bb):=R2.out.call ha hk
  clear ha hk x0 x1 x2 x3 x4 x5 x6 x7 f3 f4 f5 f6 f7 a0 a1 a2 a3 g0 g1 g2 g3 hz
  obtain ⟨⟨a0,a1,a2,a3⟩,g0,g1,g2,g3⟩:=ans_cells R3.out.r0
  obtain ⟨x0,x1,x2,x3,x4,x5,x6,x7⟩:=R3.out.a.cells
  obtain ⟨f3,f4,f5,f6,f7⟩:=R3.out.a.fz
  have hz:=heap_lt R3.out.r0
  go_wp2
  exact ret_ans rfl rfl (ansE_set rfl R3.out.r0 kk 0 true) rfl rfl ⟨rfl,R3.out.done kk 0 true⟩
theorem clook_f {w:World} {X:Nat} {P:Cp} {b:Ck} (h:KAt w X P b) {v:Int} (h1:b.st=1) (hst:1≤b.stamp) (hsm:b.stamp≤9223372036854775807) (hL:laidV v b.stamp=false) (hO:overV v b.stamp=true) :
  Calls Tryz.prog 140 #[.pointer (some ⟨X,0,none⟩),.int .i64 v] w fun en w' => en = .returned (ansE 4 4 true)∧KAt w' X P (failV b 4)∧Keep [X] w w':=by
  have hx:X < w.heap.size:=heap_lt h
  obtain ⟨x0,x1,x2,x3,x4,x5,x6,x7⟩:=h.cells
  obtain ⟨f3,f4,f5,f6,f7⟩:=h.fz
  have hne:w.heap.size≠X:=by omega
  have HX:Hid (KAt w X P b):=h
  obtain ⟨st,seen,stamp,word,comp,err⟩:=b
  simp only at *
  subst h1
  have HLA:Hid (∀ w,Calls Tryz.prog 106 #[.int .i64 v,.int .i64 stamp] w fun e w' => e = .returned (.bool false)∧w'=w):=by rw [← hL]; exact laid_any v stamp
  have HOV:Hid (∀ w,Calls Tryz.prog 102 #[.int .i64 v,.int .i64 stamp] w fun e w' => e = .returned (.bool true)∧w'=w):=by rw [← hO]; exact over_any v stamp
  have hw:wrap64 (stamp - 1)=stamp - 1:=by unfold wrap64; omega
  have HF:Hid (∀ w,KAt w X P ⟨1,seen,stamp,word,comp,err⟩→Calls Tryz.prog 145 #[.pointer (some ⟨X,0,none⟩),.int .i64 4] w fun en w' => en = .returned (.agg #[.int .i64 4,.int .i64 4,.int .i64 0,.bool true])∧KAt w' X P (failV ⟨1,seen,stamp,word,comp,err⟩ 4)∧Keep [X] w w'):=fun w h=>cfail_any h 4
  generalize failV ⟨1,seen,stamp,word,comp,err⟩ 4=bb at *
  clear h hL hO
  unfold ansE
  go_enter Tryz.func140,Tryz.ntmps140
  go_wp2_with fail
  go_quiet ((first | (go_at_call 106; refine (HLA.out _).mono ?_; rintro e x0 ⟨rfl,rfl⟩; exact ⟨rfl,_,rfl⟩) | (go_at_call 102; refine (HOV.out _).mono ?_; rintro e x0 ⟨rfl,rfl⟩; exact ⟨rfl,_,rfl⟩)))
  have R0:Hid (Ret1 w (World.drewN (w.alloc (.cells #[.int .i64 0,.int .i64 0,.int .i64 0,.bool false] 55)) nq) X P ⟨1,seen,stamp,word,comp,err⟩):=(ret1_start HX.out).drew nq
  generalize World.drewN (w.alloc (.cells #[.int .i64 0,.int .i64 0,.int .i64 0,.bool false] 55)) nq=y0 at *
  clear x0 x1 x2 x3 x4 x5 x6 x7 f3 f4 f5 f6 f7
  obtain ⟨⟨a0,a1,a2,a3⟩,g0,g1,g2,g3⟩:=ans_cells R0.out.r0
  obtain ⟨x0,x1,x2,x3,x4,x5,x6,x7⟩:=R0.out.a.cells
  obtain ⟨f3,f4,f5,f6,f7⟩:=R0.out.a.fz
  have hz:=heap_lt R0.out.r0
  simp only at x3 x4 x5 x6 x7
  go_wp2_with fail
  refine (HF.out _ R0.out.a).mono ?_
  rintro e w1 ⟨rfl,ha,hk⟩
  have R1:Hid (Ret1 w w1 X P bb):=R0.out.call ha hk
  clear ha hk x0 x1 x2 x3 x4 x5 x6 x7 f3 f4 f5 f6 f7 a0 a1 a2 a3 g0 g1 g2 g3 hz
  obtain ⟨⟨a0,a1,a2,a3⟩,g0,g1,g2,g3⟩:=ans_cells R1.out.r0
  obtain ⟨x0,x1,x2,x3,x4,x5,x6,x7⟩:=R1.out.a.cells
  obtain ⟨f3,f4,f5,f6,f7⟩:=R1.out.a.fz
  have hz:=heap_lt R1.out.r0
  go_wp2
  exact ret_ans rfl rfl (ansE_set rfl R1.out.r0 4 4 true) rfl rfl ⟨rfl,R1.out.done 4 4 true⟩
theorem clook_w {w:World} {X:Nat} {P:Cp} {b:Ck} (h:KAt w X P b) {v:Int} (h1:b.st=1) (hst:1≤b.stamp) (hsm:b.stamp≤9223372036854775807) (hL:laidV v b.stamp=false) (hO:overV v b.stamp=false) :
  Calls Tryz.prog 140 #[.pointer (some ⟨X,0,none⟩),.int .i64 v] w fun en w' => en = .returned (ansE 1 0 true)∧KAt w' X P b∧Keep [X] w w':=by
  have hx:X < w.heap.size:=heap_lt h
  obtain ⟨x0,x1,x2,x3,x4,x5,x6,x7⟩:=h.cells
  obtain ⟨f3,f4,f5,f6,f7⟩:=h.fz
  have hne:w.heap.size≠X:=by omega
  have HX:Hid (KAt w X P b):=h
  obtain ⟨st,seen,stamp,word,comp,err⟩:=b
  simp only at *
  subst h1
  have HLA:Hid (∀ w,Calls Tryz.prog 106 #[.int .i64 v,.int .i64 stamp] w fun e w' => e = .returned (.bool false)∧w'=w):=by rw [← hL]; exact laid_any v stamp
  have HOV:Hid (∀ w,Calls Tryz.prog 102 #[.int .i64 v,.int .i64 stamp] w fun e w' => e = .returned (.bool false)∧w'=w):=by rw [← hO]; exact over_any v stamp
  have hw:wrap64 (stamp - 1)=stamp - 1:=by unfold wrap64; omega
  clear h hL hO
  unfold ansE
  go_enter Tryz.func140,Tryz.ntmps140
  go_wp2_with fail
  go_quiet ((first | (go_at_call 106; refine (HLA.out _).mono ?_; rintro e x0 ⟨rfl,rfl⟩; exact ⟨rfl,_,rfl⟩) | (go_at_call 102; refine (HOV.out _).mono ?_; rintro e x0 ⟨rfl,rfl⟩; exact ⟨rfl,_,rfl⟩)))
  have R0:Hid (Ret1 w (World.drewN (w.alloc (.cells #[.int .i64 0,.int .i64 0,.int .i64 0,.bool false] 55)) nq) X P ⟨1,seen,stamp,word,comp,err⟩):=(ret1_start HX.out).drew nq
  generalize World.drewN (w.alloc (.cells #[.int .i64 0,.int .i64 0,.int .i64 0,.bool false] 55)) nq=y0 at *
  clear x0 x1 x2 x3 x4 x5 x6 x7 f3 f4 f5 f6 f7
  obtain ⟨⟨a0,a1,a2,a3⟩,g0,g1,g2,g3⟩:=ans_cells R0.out.r0
  obtain ⟨x0,x1,x2,x3,x4,x5,x6,x7⟩:=R0.out.a.cells
  obtain ⟨f3,f4,f5,f6,f7⟩:=R0.out.a.fz
  have hz:=heap_lt R0.out.r0
  simp only at x3 x4 x5 x6 x7
  go_wp2
  exact ret_ans rfl rfl (ansE_set rfl R0.out.r0 1 0 true) rfl rfl ⟨rfl,R0.out.done 1 0 true⟩
theorem clook_c {w:World} {X:Nat} {P:Cp} {b:Ck} (h:KAt w X P b) {v:Int} (h1:b.st=1) (hst:1≤b.stamp) (hsm:b.stamp≤9223372036854775807) (hL:laidV v b.stamp=true) (hO:overV v b.stamp=true) (hq:b.comp=b.stamp - 1) (hse:b.seen≤9223372036854775807) :
  Calls Tryz.prog 140 #[.pointer (some ⟨X,0,none⟩),.int .i64 v] w fun en w' => en = .returned (ansE (kindV (onV P ⟨b.st,b.seen,b.stamp,b.word,b.stamp,b.err⟩)) 0 true)∧KAt w' X P (onV P ⟨b.st,b.seen,b.stamp,b.word,b.stamp,b.err⟩)∧Keep [X] w w':=by
  have hx:X < w.heap.size:=heap_lt h
  obtain ⟨x0,x1,x2,x3,x4,x5,x6,x7⟩:=h.cells
  obtain ⟨f3,f4,f5,f6,f7⟩:=h.fz
  have hne:w.heap.size≠X:=by omega
  have HX:Hid (KAt w X P b):=h
  obtain ⟨st,seen,stamp,word,comp,err⟩:=b
  simp only at *
  subst h1
  have HLA:Hid (∀ w,Calls Tryz.prog 106 #[.int .i64 v,.int .i64 stamp] w fun e w' => e = .returned (.bool true)∧w'=w):=by rw [← hL]; exact laid_any v stamp
  have HOV:Hid (∀ w,Calls Tryz.prog 102 #[.int .i64 v,.int .i64 stamp] w fun e w' => e = .returned (.bool true)∧w'=w):=by rw [← hO]; exact over_any v stamp
  have hw:wrap64 (stamp - 1)=stamp - 1:=by unfold wrap64; omega
  have hqq:(comp == stamp - 1)=true:=by simpa using hq
  clear hq
  have HG:Hid (∀ w,KAt w X P ⟨1,seen,stamp,word,stamp,err⟩→Calls Tryz.prog 146 #[.pointer (some ⟨X,0,none⟩)] w fun en w' => en = .returned (.agg #[.int .i64 (kindV (onV P ⟨1,seen,stamp,word,stamp,err⟩)),.int .i64 0,.int .i64 0,.bool true])∧KAt w' X P (onV P ⟨1,seen,stamp,word,stamp,err⟩)∧Keep [X] w w'):=fun w h=>goon_any h (Or.inr (Or.inl rfl)) (fun e=>by simp at e) hse (by simp only; omega)
  generalize onV P ⟨1,seen,stamp,word,stamp,err⟩=bb at *
  generalize kindV bb=kk at *
  clear h hL hO
  unfold ansE
  go_enter Tryz.func140,Tryz.ntmps140
  go_wp2_with fail
  go_quiet ((first | (go_at_call 106; refine (HLA.out _).mono ?_; rintro e x0 ⟨rfl,rfl⟩; exact ⟨rfl,_,rfl⟩) | (go_at_call 102; refine (HOV.out _).mono ?_; rintro e x0 ⟨rfl,rfl⟩; exact ⟨rfl,_,rfl⟩)))
  have R0:Hid (Ret1 w (World.drewN (w.alloc (.cells #[.int .i64 0,.int .i64 0,.int .i64 0,.bool false] 55)) nq) X P ⟨1,seen,stamp,word,comp,err⟩):=(ret1_start HX.out).drew nq
  generalize World.drewN (w.alloc (.cells #[.int .i64 0,.int .i64 0,.int .i64 0,.bool false] 55)) nq=y0 at *
  clear x0 x1 x2 x3 x4 x5 x6 x7 f3 f4 f5 f6 f7
  obtain ⟨⟨a0,a1,a2,a3⟩,g0,g1,g2,g3⟩:=ans_cells R0.out.r0
  obtain ⟨x0,x1,x2,x3,x4,x5,x6,x7⟩:=R0.out.a.cells
  obtain ⟨f3,f4,f5,f6,f7⟩:=R0.out.a.fz
  have hz:=heap_lt R0.out.r0
  simp only at x3 x4 x5 x6 x7
  go_wp2_with fail
  go_quiet (fail)
  have R1:Hid (Ret1 w (y0.drewN nq) X P ⟨1,seen,stamp,word,comp,err⟩):=R0.out.drew nq
  generalize y0.drewN nq=y1 at *
  clear x0 x1 x2 x3 x4 x5 x6 x7 f3 f4 f5 f6 f7 a0 a1 a2 a3 g0 g1 g2 g3 hz
  obtain ⟨⟨a0,a1,a2,a3⟩,g0,g1,g2,g3⟩:=ans_cells R1.out.r0
  obtain ⟨x0,x1,x2,x3,x4,x5,x6,x7⟩:=R1.out.a.cells
  obtain ⟨f3,f4,f5,f6,f7⟩:=R1.out.a.fz
  have hz:=heap_lt R1.out.r0
  simp only at x3 x4 x5 x6 x7
  go_wp2_with fail
  have R2:Hid (Ret1 w (y1.setCell ⟨X,15,none⟩ (.int .i64 stamp)) X P ⟨1,seen,stamp,word,stamp,err⟩):=R1.out.call (kset R1.out.a stamp).2.2.2.2 (kkeep (Keep.refl _ _) _ _)
  go_wp2_with fail
  refine (HG.out _ R2.out.a).mono ?_
  rintro e w3 ⟨rfl,ha,hk⟩
  have R3:Hid (Ret1 w w3 X P bb):=R2.out.call ha hk
  clear ha hk x0 x1 x2 x3 x4 x5 x6 x7 f3 f4 f5 f6 f7 a0 a1 a2 a3 g0 g1 g2 g3 hz
  obtain ⟨⟨a0,a1,a2,a3⟩,g0,g1,g2,g3⟩:=ans_cells R3.out.r0
  obtain ⟨x0,x1,x2,x3,x4,x5,x6,x7⟩:=R3.out.a.cells
  obtain ⟨f3,f4,f5,f6,f7⟩:=R3.out.a.fz
  have hz:=heap_lt R3.out.r0
  go_wp2
  exact ret_ans rfl rfl (ansE_set rfl R3.out.r0 kk 0 true) rfl rfl ⟨rfl,R3.out.done kk 0 true⟩
theorem clook_d {w:World} {X:Nat} {P:Cp} {b:Ck} (h:KAt w X P b) {v:Int} (h1:b.st=1) (hst:1≤b.stamp) (hsm:b.stamp≤9223372036854775807) (hL:laidV v b.stamp=true) (hO:overV v b.stamp=true) (hq : ¬ b.comp=b.stamp - 1) (hse:b.seen≤9223372036854775807) :
  Calls Tryz.prog 140 #[.pointer (some ⟨X,0,none⟩),.int .i64 v] w fun en w' => en = .returned (ansE (kindV (onV P ⟨b.st,b.seen,b.stamp,b.word,b.comp,b.err⟩)) 0 true)∧KAt w' X P (onV P ⟨b.st,b.seen,b.stamp,b.word,b.comp,b.err⟩)∧Keep [X] w w':=by
  have hx:X < w.heap.size:=heap_lt h
  obtain ⟨x0,x1,x2,x3,x4,x5,x6,x7⟩:=h.cells
  obtain ⟨f3,f4,f5,f6,f7⟩:=h.fz
  have hne:w.heap.size≠X:=by omega
  have HX:Hid (KAt w X P b):=h
  obtain ⟨st,seen,stamp,word,comp,err⟩:=b
  simp only at *
  subst h1
  have HLA:Hid (∀ w,Calls Tryz.prog 106 #[.int .i64 v,.int .i64 stamp] w fun e w' => e = .returned (.bool true)∧w'=w):=by rw [← hL]; exact laid_any v stamp
  have HOV:Hid (∀ w,Calls Tryz.prog 102 #[.int .i64 v,.int .i64 stamp] w fun e w' => e = .returned (.bool true)∧w'=w):=by rw [← hO]; exact over_any v stamp
  have hw:wrap64 (stamp - 1)=stamp - 1:=by unfold wrap64; omega
  have hqq:(comp == stamp - 1)=false:=by simpa using hq
  clear hq
  have HG:Hid (∀ w,KAt w X P ⟨1,seen,stamp,word,comp,err⟩→Calls Tryz.prog 146 #[.pointer (some ⟨X,0,none⟩)] w fun en w' => en = .returned (.agg #[.int .i64 (kindV (onV P ⟨1,seen,stamp,word,comp,err⟩)),.int .i64 0,.int .i64 0,.bool true])∧KAt w' X P (onV P ⟨1,seen,stamp,word,comp,err⟩)∧Keep [X] w w'):=fun w h=>goon_any h (Or.inr (Or.inl rfl)) (fun e=>by simp at e) hse (by simp only; omega)
  generalize onV P ⟨1,seen,stamp,word,comp,err⟩=bb at *
  generalize kindV bb=kk at *
  clear h hL hO
  unfold ansE
  go_enter Tryz.func140,Tryz.ntmps140
  go_wp2_with fail
  go_quiet ((first | (go_at_call 106; refine (HLA.out _).mono ?_; rintro e x0 ⟨rfl,rfl⟩; exact ⟨rfl,_,rfl⟩) | (go_at_call 102; refine (HOV.out _).mono ?_; rintro e x0 ⟨rfl,rfl⟩; exact ⟨rfl,_,rfl⟩)))
  have R0:Hid (Ret1 w (World.drewN (w.alloc (.cells #[.int .i64 0,.int .i64 0,.int .i64 0,.bool false] 55)) nq) X P ⟨1,seen,stamp,word,comp,err⟩):=(ret1_start HX.out).drew nq
  generalize World.drewN (w.alloc (.cells #[.int .i64 0,.int .i64 0,.int .i64 0,.bool false] 55)) nq=y0 at *
  clear x0 x1 x2 x3 x4 x5 x6 x7 f3 f4 f5 f6 f7
  obtain ⟨⟨a0,a1,a2,a3⟩,g0,g1,g2,g3⟩:=ans_cells R0.out.r0
  obtain ⟨x0,x1,x2,x3,x4,x5,x6,x7⟩:=R0.out.a.cells
  obtain ⟨f3,f4,f5,f6,f7⟩:=R0.out.a.fz
  have hz:=heap_lt R0.out.r0
  simp only at x3 x4 x5 x6 x7
  go_wp2_with fail
  go_quiet (fail)
  have R1:Hid (Ret1 w (y0.drewN nq) X P ⟨1,seen,stamp,word,comp,err⟩):=R0.out.drew nq
  generalize y0.drewN nq=y1 at *
  clear x0 x1 x2 x3 x4 x5 x6 x7 f3 f4 f5 f6 f7 a0 a1 a2 a3 g0 g1 g2 g3 hz
  obtain ⟨⟨a0,a1,a2,a3⟩,g0,g1,g2,g3⟩:=ans_cells R1.out.r0
  obtain ⟨x0,x1,x2,x3,x4,x5,x6,x7⟩:=R1.out.a.cells
  obtain ⟨f3,f4,f5,f6,f7⟩:=R1.out.a.fz
  have hz:=heap_lt R1.out.r0
  simp only at x3 x4 x5 x6 x7
  go_wp2_with fail
  refine (HG.out _ R1.out.a).mono ?_
  rintro e w2 ⟨rfl,ha,hk⟩
  have R2:Hid (Ret1 w w2 X P bb):=R1.out.call ha hk
  clear ha hk x0 x1 x2 x3 x4 x5 x6 x7 f3 f4 f5 f6 f7 a0 a1 a2 a3 g0 g1 g2 g3 hz
  obtain ⟨⟨a0,a1,a2,a3⟩,g0,g1,g2,g3⟩:=ans_cells R2.out.r0
  obtain ⟨x0,x1,x2,x3,x4,x5,x6,x7⟩:=R2.out.a.cells
  obtain ⟨f3,f4,f5,f6,f7⟩:=R2.out.a.fz
  have hz:=heap_lt R2.out.r0
  go_wp2
  exact ret_ans rfl rfl (ansE_set rfl R2.out.r0 kk 0 true) rfl rfl ⟨rfl,R2.out.done kk 0 true⟩
theorem clook_n {w:World} {X:Nat} {P:Cp} {b:Ck} (h:KAt w X P b) {v:Int} (h1:b.st=1) (hst:1≤b.stamp) (hsm:b.stamp≤9223372036854775807) (hL:laidV v b.stamp=true) (hO:overV v b.stamp=false) (hse:b.seen≤9223372036854775807) :
  Calls Tryz.prog 140 #[.pointer (some ⟨X,0,none⟩),.int .i64 v] w fun en w' => en = .returned (ansE (kindV (onV P ⟨b.st,b.seen,b.stamp,b.word,b.comp,b.err⟩)) 0 true)∧KAt w' X P (onV P ⟨b.st,b.seen,b.stamp,b.word,b.comp,b.err⟩)∧Keep [X] w w':=by
  have hx:X < w.heap.size:=heap_lt h
  obtain ⟨x0,x1,x2,x3,x4,x5,x6,x7⟩:=h.cells
  obtain ⟨f3,f4,f5,f6,f7⟩:=h.fz
  have hne:w.heap.size≠X:=by omega
  have HX:Hid (KAt w X P b):=h
  obtain ⟨st,seen,stamp,word,comp,err⟩:=b
  simp only at *
  subst h1
  have HLA:Hid (∀ w,Calls Tryz.prog 106 #[.int .i64 v,.int .i64 stamp] w fun e w' => e = .returned (.bool true)∧w'=w):=by rw [← hL]; exact laid_any v stamp
  have HOV:Hid (∀ w,Calls Tryz.prog 102 #[.int .i64 v,.int .i64 stamp] w fun e w' => e = .returned (.bool false)∧w'=w):=by rw [← hO]; exact over_any v stamp
  have hw:wrap64 (stamp - 1)=stamp - 1:=by unfold wrap64; omega
  have HG:Hid (∀ w,KAt w X P ⟨1,seen,stamp,word,comp,err⟩→Calls Tryz.prog 146 #[.pointer (some ⟨X,0,none⟩)] w fun en w' => en = .returned (.agg #[.int .i64 (kindV (onV P ⟨1,seen,stamp,word,comp,err⟩)),.int .i64 0,.int .i64 0,.bool true])∧KAt w' X P (onV P ⟨1,seen,stamp,word,comp,err⟩)∧Keep [X] w w'):=fun w h=>goon_any h (Or.inr (Or.inl rfl)) (fun e=>by simp at e) hse (by simp only; omega)
  generalize onV P ⟨1,seen,stamp,word,comp,err⟩=bb at *
  generalize kindV bb=kk at *
  clear h hL hO
  unfold ansE
  go_enter Tryz.func140,Tryz.ntmps140
  go_wp2_with fail
  go_quiet ((first | (go_at_call 106; refine (HLA.out _).mono ?_; rintro e x0 ⟨rfl,rfl⟩; exact ⟨rfl,_,rfl⟩) | (go_at_call 102; refine (HOV.out _).mono ?_; rintro e x0 ⟨rfl,rfl⟩; exact ⟨rfl,_,rfl⟩)))
  have R0:Hid (Ret1 w (World.drewN (w.alloc (.cells #[.int .i64 0,.int .i64 0,.int .i64 0,.bool false] 55)) nq) X P ⟨1,seen,stamp,word,comp,err⟩):=(ret1_start HX.out).drew nq
  generalize World.drewN (w.alloc (.cells #[.int .i64 0,.int .i64 0,.int .i64 0,.bool false] 55)) nq=y0 at *
  clear x0 x1 x2 x3 x4 x5 x6 x7 f3 f4 f5 f6 f7
  obtain ⟨⟨a0,a1,a2,a3⟩,g0,g1,g2,g3⟩:=ans_cells R0.out.r0
  obtain ⟨x0,x1,x2,x3,x4,x5,x6,x7⟩:=R0.out.a.cells
  obtain ⟨f3,f4,f5,f6,f7⟩:=R0.out.a.fz
  have hz:=heap_lt R0.out.r0
  simp only at x3 x4 x5 x6 x7
  go_wp2_with fail
  go_quiet (fail)
  have R1:Hid (Ret1 w (y0.drewN nq) X P ⟨1,seen,stamp,word,comp,err⟩):=R0.out.drew nq
  generalize y0.drewN nq=y1 at *
  clear x0 x1 x2 x3 x4 x5 x6 x7 f3 f4 f5 f6 f7 a0 a1 a2 a3 g0 g1 g2 g3 hz
  obtain ⟨⟨a0,a1,a2,a3⟩,g0,g1,g2,g3⟩:=ans_cells R1.out.r0
  obtain ⟨x0,x1,x2,x3,x4,x5,x6,x7⟩:=R1.out.a.cells
  obtain ⟨f3,f4,f5,f6,f7⟩:=R1.out.a.fz
  have hz:=heap_lt R1.out.r0
  simp only at x3 x4 x5 x6 x7
  go_wp2_with fail
  refine (HG.out _ R1.out.a).mono ?_
  rintro e w2 ⟨rfl,ha,hk⟩
  have R2:Hid (Ret1 w w2 X P bb):=R1.out.call ha hk
  clear ha hk x0 x1 x2 x3 x4 x5 x6 x7 f3 f4 f5 f6 f7 a0 a1 a2 a3 g0 g1 g2 g3 hz
  obtain ⟨⟨a0,a1,a2,a3⟩,g0,g1,g2,g3⟩:=ans_cells R2.out.r0
  obtain ⟨x0,x1,x2,x3,x4,x5,x6,x7⟩:=R2.out.a.cells
  obtain ⟨f3,f4,f5,f6,f7⟩:=R2.out.a.fz
  have hz:=heap_lt R2.out.r0
  go_wp2
  exact ret_ans rfl rfl (ansE_set rfl R2.out.r0 kk 0 true) rfl rfl ⟨rfl,R2.out.done kk 0 true⟩
theorem chold_h {w:World} {X:Nat} {P:Cp} {b:Ck} (h:KAt w X P b) (hp:POk P) {v:Int} (h2:b.st=2) (hw1:0≤b.word) (hw2:b.word≤7) (hH:hitV P.rd b.word.toNat v=true) :
  Calls Tryz.prog 141 #[.pointer (some ⟨X,0,none⟩),.int .u64 (IntKind.u64.wrap v)] w fun en w' => en = .returned (ansE 4 3 true)∧KAt w' X P (failV b 3)∧Keep [X] w w':=by
  have hx:X < w.heap.size:=heap_lt h
  obtain ⟨x0,x1,x2,x3,x4,x5,x6,x7⟩:=h.cells
  obtain ⟨f3,f4,f5,f6,f7⟩:=h.fz
  have hne:w.heap.size≠X:=by omega
  have HX:Hid (KAt w X P b):=h
  obtain ⟨st,seen,stamp,word,comp,err⟩:=b
  simp only at *
  subst h2
  obtain ⟨j,rfl⟩ : ∃ j:Nat,word=(j:Int):=⟨word.toNat,by omega⟩
  have hj:j < 8:=by omega
  have hj8:(j:Int) < 8:=by omega
  have hrd:=h.read j hj
  unfold rdV at hrd
  rw [show ((j:Int)).toNat=j from rfl] at hH
  have hbt:(IntKind.u64.wrap v).toNat < 18446744073709551616∧((IntKind.u64.wrap v).toNat:Int)=IntKind.u64.wrap v:=wrapU_bd v
  have hrl:=hp.rd.2 j
  unfold hitV at hH
  rw [← hbt.2]
  generalize (IntKind.u64.wrap v).toNat=z at *
  have hbits:bits .and .u64 (z:Int) ((P.rd.getD j 0:Nat):Int)=((z &&& P.rd.getD j 0:Nat):Int):=bits_and_u64_nat _ _ hbt.1 hrl
  generalize P.rd.getD j 0=y at *
  have hnz:(((z &&& y:Nat):Int) != 0)=true:=by
   rw [← hH,Bool.eq_iff_iff]; simp only [bne_iff_ne,ne_eq]; omega
  have HF:Hid (∀ w,KAt w X P ⟨2,seen,stamp,(j:Int),comp,err⟩→Calls Tryz.prog 145 #[.pointer (some ⟨X,0,none⟩),.int .i64 3] w fun en w' => en = .returned (.agg #[.int .i64 4,.int .i64 3,.int .i64 0,.bool true])∧KAt w' X P (failV ⟨2,seen,stamp,(j:Int),comp,err⟩ 3)∧Keep [X] w w'):=fun w h=>cfail_any h 3
  generalize failV ⟨2,seen,stamp,(j:Int),comp,err⟩ 3=bb at *
  generalize (z &&& y:Nat)=q at *
  clear h hH hbt hp hw1 hw2 hrl
  unfold ansE
  go_enter Tryz.func141,Tryz.ntmps141
  go_wp2_with fail
  go_quiet (fail)
  have R0:Hid (Ret1 w (World.drewN (w.alloc (.cells #[.int .i64 0,.int .i64 0,.int .i64 0,.bool false] 55)) nq) X P ⟨2,seen,stamp,(j:Int),comp,err⟩):=(ret1_start HX.out).drew nq
  generalize World.drewN (w.alloc (.cells #[.int .i64 0,.int .i64 0,.int .i64 0,.bool false] 55)) nq=y0 at *
  clear x0 x1 x2 x3 x4 x5 x6 x7 f3 f4 f5 f6 f7
  obtain ⟨⟨a0,a1,a2,a3⟩,g0,g1,g2,g3⟩:=ans_cells R0.out.r0
  obtain ⟨x0,x1,x2,x3,x4,x5,x6,x7⟩:=R0.out.a.cells
  obtain ⟨f3,f4,f5,f6,f7⟩:=R0.out.a.fz
  have hz:=heap_lt R0.out.r0
  simp only at x3 x4 x5 x6 x7
  go_wp2_with fail
  refine (HF.out _ R0.out.a).mono ?_
  rintro e w1 ⟨rfl,ha,hk⟩
  have R1:Hid (Ret1 w w1 X P bb):=R0.out.call ha hk
  clear ha hk x0 x1 x2 x3 x4 x5 x6 x7 f3 f4 f5 f6 f7 a0 a1 a2 a3 g0 g1 g2 g3 hz
  obtain ⟨⟨a0,a1,a2,a3⟩,g0,g1,g2,g3⟩:=ans_cells R1.out.r0
  obtain ⟨x0,x1,x2,x3,x4,x5,x6,x7⟩:=R1.out.a.cells
  obtain ⟨f3,f4,f5,f6,f7⟩:=R1.out.a.fz
  have hz:=heap_lt R1.out.r0
  go_wp2
  exact ret_ans rfl rfl (ansE_set rfl R1.out.r0 4 3 true) rfl rfl ⟨rfl,R1.out.done 4 3 true⟩
theorem chold_n {w:World} {X:Nat} {P:Cp} {b:Ck} (h:KAt w X P b) (hp:POk P) {v:Int} (h2:b.st=2) (hw1:0≤b.word) (hw2:b.word≤7) (hH:hitV P.rd b.word.toNat v=false) (hse:b.seen≤9223372036854775807) (hst:0≤b.stamp) :
  Calls Tryz.prog 141 #[.pointer (some ⟨X,0,none⟩),.int .u64 (IntKind.u64.wrap v)] w fun en w' => en = .returned (ansE (kindV (onV P b)) 0 true)∧KAt w' X P (onV P b)∧Keep [X] w w':=by
  have hx:X < w.heap.size:=heap_lt h
  obtain ⟨x0,x1,x2,x3,x4,x5,x6,x7⟩:=h.cells
  obtain ⟨f3,f4,f5,f6,f7⟩:=h.fz
  have hne:w.heap.size≠X:=by omega
  have HX:Hid (KAt w X P b):=h
  obtain ⟨st,seen,stamp,word,comp,err⟩:=b
  simp only at *
  subst h2
  obtain ⟨j,rfl⟩ : ∃ j:Nat,word=(j:Int):=⟨word.toNat,by omega⟩
  have hj:j < 8:=by omega
  have hj8:(j:Int) < 8:=by omega
  have hrd:=h.read j hj
  unfold rdV at hrd
  rw [show ((j:Int)).toNat=j from rfl] at hH
  have hbt:(IntKind.u64.wrap v).toNat < 18446744073709551616∧((IntKind.u64.wrap v).toNat:Int)=IntKind.u64.wrap v:=wrapU_bd v
  have hrl:=hp.rd.2 j
  unfold hitV at hH
  rw [← hbt.2]
  generalize (IntKind.u64.wrap v).toNat=z at *
  have hbits:bits .and .u64 (z:Int) ((P.rd.getD j 0:Nat):Int)=((z &&& P.rd.getD j 0:Nat):Int):=bits_and_u64_nat _ _ hbt.1 hrl
  generalize P.rd.getD j 0=y at *
  have hnz:(((z &&& y:Nat):Int) != 0)=false:=by
   rw [← hH,Bool.eq_iff_iff]; simp only [bne_iff_ne,ne_eq]; omega
  have HG:Hid (∀ w,KAt w X P ⟨2,seen,stamp,(j:Int),comp,err⟩→Calls Tryz.prog 146 #[.pointer (some ⟨X,0,none⟩)] w fun en w' => en = .returned (.agg #[.int .i64 (kindV (onV P ⟨2,seen,stamp,(j:Int),comp,err⟩)),.int .i64 0,.int .i64 0,.bool true])∧KAt w' X P (onV P ⟨2,seen,stamp,(j:Int),comp,err⟩)∧Keep [X] w w'):=fun w h=>goon_any h (Or.inr (Or.inr (Or.inl rfl))) (fun _=>⟨by simp only; omega,by simp only; omega⟩) hse hst
  generalize onV P ⟨2,seen,stamp,(j:Int),comp,err⟩=bb at *
  generalize kindV bb=kk at *
  generalize (z &&& y:Nat)=q at *
  clear h hH hbt hp hw1 hw2 hrl
  unfold ansE
  go_enter Tryz.func141,Tryz.ntmps141
  go_wp2_with fail
  go_quiet (fail)
  have R0:Hid (Ret1 w (World.drewN (w.alloc (.cells #[.int .i64 0,.int .i64 0,.int .i64 0,.bool false] 55)) nq) X P ⟨2,seen,stamp,(j:Int),comp,err⟩):=(ret1_start HX.out).drew nq
  generalize World.drewN (w.alloc (.cells #[.int .i64 0,.int .i64 0,.int .i64 0,.bool false] 55)) nq=y0 at *
  clear x0 x1 x2 x3 x4 x5 x6 x7 f3 f4 f5 f6 f7
  obtain ⟨⟨a0,a1,a2,a3⟩,g0,g1,g2,g3⟩:=ans_cells R0.out.r0
  obtain ⟨x0,x1,x2,x3,x4,x5,x6,x7⟩:=R0.out.a.cells
  obtain ⟨f3,f4,f5,f6,f7⟩:=R0.out.a.fz
  have hz:=heap_lt R0.out.r0
  simp only at x3 x4 x5 x6 x7
  go_wp2_with fail
  refine (HG.out _ R0.out.a).mono ?_
  rintro e w1 ⟨rfl,ha,hk⟩
  have R1:Hid (Ret1 w w1 X P bb):=R0.out.call ha hk
  clear ha hk x0 x1 x2 x3 x4 x5 x6 x7 f3 f4 f5 f6 f7 a0 a1 a2 a3 g0 g1 g2 g3 hz
  obtain ⟨⟨a0,a1,a2,a3⟩,g0,g1,g2,g3⟩:=ans_cells R1.out.r0
  obtain ⟨x0,x1,x2,x3,x4,x5,x6,x7⟩:=R1.out.a.cells
  obtain ⟨f3,f4,f5,f6,f7⟩:=R1.out.a.fz
  have hz:=heap_lt R1.out.r0
  go_wp2
  exact ret_ans rfl rfl (ansE_set rfl R1.out.r0 kk 0 true) rfl rfl ⟨rfl,R1.out.done kk 0 true⟩
--END WALKS
theorem kok_mid {P:Cp} {b:Ck} {n:Nat} (h:KOk P b n) (hs:b.st=1∨b.st=2∨b.st=3):KMid P b∧(b.st=2→0≤b.word∧b.word≤7):=by
 rcases h.c with ⟨rfl,_⟩ | ⟨c,k,_⟩ | ⟨c,k,w1,w2,_⟩ | ⟨c,k,_⟩ | ⟨c,_⟩ | ⟨c,_⟩
 ·rcases hs with e | e | e <;> simp [ckNew] at e
 ·exact ⟨k,fun e=>by omega⟩
 ·exact ⟨k,fun _=>⟨w1,w2⟩⟩
 ·exact ⟨k,fun e=>by omega⟩
 ·omega
 ·omega
theorem kok_zero {P:Cp} {b:Ck} {n:Nat} (h:KOk P b n) (hs:b.st=0):b=ckNew P:=by
 rcases h.c with ⟨e,_⟩ | ⟨c,_⟩ | ⟨c,_⟩ | ⟨c,_⟩ | ⟨c,_⟩ | ⟨c,_⟩
 ·exact e
 all_goals omega
theorem kindK_of {P:Cp} {b:Ck} {v:Int} (h:waitK b v=false):kindK P b v=kindV (stepK P b v)∧errK P b v=(stepK P b v).err:=by
 unfold kindK errK; rw [h]; exact ⟨rfl,rfl⟩
theorem csee_all {w:World} {X:Nat} {P:Cp} {b:Ck} {n:Nat} (h:KAt w X P b) (hk:KOk P b n) (h0:b.st=0) {v:Int} (hv:W64 v) :
  Calls Tryz.prog 139 #[.pointer (some ⟨X,0,none⟩),.int .i64 v] w fun en w' => en = .returned (ansE (kindK P b v) (errK P b v) true)∧KAt w' X P (stepK P b v)∧Keep [X] w w':=by
 have hp:=hk.p
 have hw:waitK b v=false:=by unfold waitK; simp [h0]
 have hb:=kok_zero hk h0
 have he:b.err=0:=by rw [hb]; rfl
 have hst:0≤b.stamp:=by rw [hb]; exact hp.z0
 have hS:stepK P b v=seeK P b v:=by unfold stepK; rw [if_pos h0]
 rw [(kindK_of hw).1,(kindK_of hw).2,hS]
 by_cases hr:P.rd=Sg.nought
 ·have hS2:seeK P b v=⟨4,v,b.stamp,b.word,b.comp,b.err⟩:=by unfold seeK; rw [if_pos (Or.inl hr)]
  rw [hS2]
  refine (csee_e h hp hv h0 hst hr).mono ?_
  rintro e w' ⟨rfl,g1,g2⟩
  exact ⟨by show Ending.returned (ansE 3 0 true) = .returned (ansE 3 b.err true); rw [he],g1,g2⟩
 ·by_cases hl:v≤P.z
  ·have hS2:seeK P b v=⟨4,v,b.stamp,b.word,b.comp,b.err⟩:=by unfold seeK; rw [if_pos (Or.inr hl)]
   rw [hS2]
   refine (csee_l h hp hv h0 hst hr hl).mono ?_
   rintro e w' ⟨rfl,g1,g2⟩
   exact ⟨by show Ending.returned (ansE 3 0 true) = .returned (ansE 3 b.err true); rw [he],g1,g2⟩
  ·have hno : ¬ (P.rd=Sg.nought∨v≤P.z):=fun e=>e.elim hr hl
   by_cases hf:farV P v=true
   ·have hS2:seeK P b v=failV ⟨b.st,v,b.stamp,b.word,b.comp,b.err⟩ 4:=by unfold seeK; rw [if_neg hno,if_pos hf]
    rw [hS2]
    exact csee_f h hp hv h0 hst hr hl hf
   ·have hS2:seeK P b v=onV P ⟨b.st,v,b.stamp,b.word,b.comp,b.err⟩:=by unfold seeK; rw [if_neg hno,if_neg hf]
    rw [hS2]
    refine (csee_g h hp hv h0 hst hr hl (by simpa using hf)).mono ?_
    rintro e w' ⟨rfl,g1,g2⟩
    exact ⟨by rw [onV_err]; show _=Ending.returned (ansE _ b.err true); rw [he],g1,g2⟩
theorem clook_all {w:World} {X:Nat} {P:Cp} {b:Ck} {n:Nat} (h:KAt w X P b) (hk:KOk P b n) (h1:b.st=1) {v:Int} :
  Calls Tryz.prog 140 #[.pointer (some ⟨X,0,none⟩),.int .i64 v] w fun en w' => en = .returned (ansE (kindK P b v) (errK P b v) true)∧KAt w' X P (stepK P b v)∧Keep [X] w w':=by
 have hp:=hk.p
 obtain ⟨km,_⟩:=kok_mid hk (Or.inl h1)
 have he:=km.e
 have hz:=hp.z0
 have hlo:=km.lo
 have hhi:=km.hi
 have hse:=km.w
 have hst:1≤b.stamp:=by omega
 have hsm:b.stamp≤9223372036854775807:=by omega
 have hS:stepK P b v=lookK P b v:=by unfold stepK; rw [if_neg (by omega),if_pos h1]
 by_cases hL:laidV v b.stamp=true
 ·have hw:waitK b v=false:=by unfold waitK; rw [hL]; simp
  have hS2:lookK P b v=onV P ⟨b.st,b.seen,b.stamp,b.word,compV b v,b.err⟩:=by unfold lookK; rw [if_pos hL]
  rw [(kindK_of hw).1,(kindK_of hw).2,hS,hS2]
  by_cases hO:overV v b.stamp=true
  ·by_cases hq:b.comp=b.stamp - 1
   ·have hc:compV b v=b.stamp:=by unfold compV; rw [if_pos ⟨hO,hq⟩]
    rw [hc]
    refine (clook_c h h1 hst hsm hL hO hq hse).mono ?_
    rintro e w' ⟨rfl,g1,g2⟩
    exact ⟨by rw [onV_err]; show _=Ending.returned (ansE _ b.err true); rw [he],g1,g2⟩
   ·have hc:compV b v=b.comp:=by unfold compV; rw [if_neg (fun e=>hq e.2)]
    rw [hc]
    refine (clook_d h h1 hst hsm hL hO hq hse).mono ?_
    rintro e w' ⟨rfl,g1,g2⟩
    exact ⟨by rw [onV_err]; show _=Ending.returned (ansE _ b.err true); rw [he],g1,g2⟩
  ·have hc:compV b v=b.comp:=by unfold compV; rw [if_neg (fun e=>hO e.1)]
   rw [hc]
   refine (clook_n h h1 hst hsm hL (by simpa using hO) hse).mono ?_
   rintro e w' ⟨rfl,g1,g2⟩
   exact ⟨by rw [onV_err]; show _=Ending.returned (ansE _ b.err true); rw [he],g1,g2⟩
 ·have hL':laidV v b.stamp=false:=by simpa using hL
  by_cases hO:overV v b.stamp=true
  ·have hw:waitK b v=false:=by unfold waitK; rw [hO]; simp
   have hS2:lookK P b v=failV b 4:=by unfold lookK; rw [if_neg hL,if_pos hO]
   rw [(kindK_of hw).1,(kindK_of hw).2,hS,hS2]
   exact clook_f h h1 hst hsm hL' hO
  ·have hO':overV v b.stamp=false:=by simpa using hO
   have hw : waitK b v = true := by unfold waitK; rw [hL', hO']; simp [h1]
   have hS2:lookK P b v=b:=by unfold lookK; rw [if_neg hL,if_neg hO]
   have hkk:kindK P b v=1∧errK P b v=0:=by unfold kindK errK; rw [hw]; exact ⟨rfl,rfl⟩
   rw [hkk.1,hkk.2,hS,hS2]
   exact clook_w h h1 hst hsm hL' hO'
theorem chold_all {w:World} {X:Nat} {P:Cp} {b:Ck} {n:Nat} (h:KAt w X P b) (hk:KOk P b n) (h2:b.st=2) {v:Int} :
  Calls Tryz.prog 141 #[.pointer (some ⟨X,0,none⟩),.int .u64 (IntKind.u64.wrap v)] w fun en w' => en = .returned (ansE (kindK P b v) (errK P b v) true)∧KAt w' X P (stepK P b v)∧Keep [X] w w':=by
 have hp:=hk.p
 obtain ⟨km,hwd⟩:=kok_mid hk (Or.inr (Or.inl h2))
 obtain ⟨w1,w2⟩:=hwd h2
 have he:=km.e
 have hw:waitK b v=false:=by unfold waitK; simp [h2]
 have hS:stepK P b v=holdK P b v:=by unfold stepK; rw [if_neg (by omega),if_neg (by omega),if_pos h2]
 rw [(kindK_of hw).1,(kindK_of hw).2,hS]
 by_cases hH:hitV P.rd b.word.toNat v=true
 ·have hS2:holdK P b v=failV b 3:=by unfold holdK; rw [if_pos hH]
  rw [hS2]
  exact chold_h h hp h2 w1 w2 hH
 ·have hS2:holdK P b v=onV P b:=by unfold holdK; rw [if_neg hH]
  rw [hS2,onV_err,he]
  exact chold_n h hp h2 w1 w2 (by simpa using hH) km.w (by have:=hp.z0; have:=km.lo; omega)
theorem cagain_all {w:World} {X:Nat} {P:Cp} {b:Ck} {n:Nat} (h:KAt w X P b) (hk:KOk P b n) (h3:b.st=3) {v:Int} (hv:W64 v) :
  Calls Tryz.prog 142 #[.pointer (some ⟨X,0,none⟩),.int .i64 v] w fun en w' => en = .returned (ansE (kindK P b v) (errK P b v) true)∧KAt w' X P (stepK P b v)∧Keep [X] w w':=by
 obtain ⟨km,_⟩:=kok_mid hk (Or.inr (Or.inr h3))
 have hw:waitK b v=false:=by unfold waitK; simp [h3]
 have hS:stepK P b v=againK P b v:=by unfold stepK; rw [if_neg (by omega),if_neg (by omega),if_neg (by omega),if_pos h3]
 rw [(kindK_of hw).1,(kindK_of hw).2,hS]
 exact cagain_any h hk.p hv h3 km.e
structure KMem (w:World) (base:Nat) (p:Value) (c:Nat) (L:List Ac) (F:List Nat) (X:Nat) (P:Cp) (b:Ck):Prop where
 mem:MemAt w base p c P.s L F
 at_:KAt w X P b
 out:X ∉ F
 lo:base≤X
theorem kstep_load {w w1 w2:World} {base:Nat} {p:Value} {c:Nat} {L L':List Ac} {F F':List Nat} {X B:Nat} {P:Cp} {b:Ck} {o:Obj} (h:KMem w base p c L F X P b) (hb:Below w.heap.size w w1) (hB:w1.heap[B]? = some o) (hlo:w.heap.size≤B)
  (hm:MemAt w2 base p c P.s L' F') (hn:Next F F' w1 w2):w2.heap[B]? = some o∧KMem w2 base p c L' F' X P b∧B ∉ F'∧B≠X∧Next (X :: F) (X :: F') w w2:=by
 have hx:X < w.heap.size:=heap_lt h.at_
 have hF : ∀ q ∈ F,q < w.heap.size:=fun q hq=>(h.mem.lt q hq).2
 have hs:=hb.size
 have hB1:=heap_lt hB
 refine ⟨hn.row hB (fun e=>by have:=hF _ e; omega),⟨hm,(h.at_.below hb hx).keep hn.1 h.out, ?_,h.lo⟩, ?_,by omega, ?_, ?_⟩
 ·intro e
  rcases hn.2 X e with h1 | h1
  ·exact h.out h1
  ·omega
 ·intro e
  rcases hn.2 B e with h1 | h1
  ·have:=hF _ h1; omega
  ·omega
 ·exact ((Keep.of_below hb F).trans hn.1 (fun q hq=>Or.inl hq)).mono (fun q hq=>by simp [hq])
 ·intro q hq
  rcases List.mem_cons.1 hq with rfl | hq
  ·exact Or.inl (by simp)
  ·rcases hn.2 q hq with h1 | h1
   ·exact Or.inl (by simp [h1])
   ·exact Or.inr (by omega)
theorem kstep_moves {w w2 w3:World} {base:Nat} {p:Value} {c:Nat} {L':List Ac} {F F':List Nat} {X B:Nat} {P:Cp} {b b':Ck} {o:Obj} (hB:w2.heap[B]? = some o) (h:KMem w2 base p c L' F' X P b) (hBX:B≠X) (hn:Next (X :: F) (X :: F') w w2)
  (ha:KAt w3 X P b') (hk:Keep [X] w2 w3):w3.heap[B]? = some o∧KMem w3 base p c L' F' X P b'∧Next (X :: F) (X :: F') w w3:=by
 refine ⟨by rw [hk.block B (heap_lt hB) (by simpa using hBX)]; exact hB,⟨h.mem.keep hk (fun q hq e=>by simp at e; exact h.out (e ▸ hq)),ha,h.out,h.lo⟩, ?_,hn.2⟩
 exact hn.1.trans hk (fun q hq=>by simp at hq; subst hq; exact Or.inl (by simp))
theorem kstep_lays {w w3:World} {base:Nat} {p:Value} {c:Nat} {L':List Ac} {F F':List Nat} {X B:Nat} {P:Cp} {b:Ck} (h:KMem w3 base p c L' F' X P b) (hBX:B≠X) (hBF:B ∉ F') (hlo:w.heap.size≤B) (hn:Next (X :: F) (X :: F') w w3) (k e:Int) (y:Bool) :
  KMem (laidE w3 B k e y) base p c L' F' X P b∧Next (X :: F) (X :: F') w (laidE w3 B k e y) :=
 ⟨⟨h.mem.keep (keepEB k e y) (fun q hq e=>by simp at e; exact hBF (e ▸ hq)),h.at_.keep (keepEB k e y) (by simpa using fun e=>hBX e.symm),h.out,h.lo⟩,keepE hn.1 hlo k e y,hn.2⟩
--STEPS
theorem cstep_0 {w:World} {base:Nat} {p:Value} {c:Nat} {L:List Ac} {F:List Nat} {X:Nat} {P:Cp} {b:Ck} {n:Nat} (h:KMem w base p c L F X P b) (hb:base≤w.heap.size) (hL:L.length < 3298534883328) (hk:KOk P b n) (hs:b.st=0) (hv:W64 (wordOf L (adK P b))) (t:Int) :
  Calls Tryz.prog 136 #[.pointer (some ⟨X, 0, none⟩), p, .int .i64 t] w fun e w' => e = .returned (ansE (kindK P b (wordOf L (adK P b))) (errK P b (wordOf L (adK P b))) true) ∧ ∃ F', KMem w' base p c (loadL c P.s L t (adK P b)) F' X P (stepK P b (wordOf L (adK P b))) ∧ Next (X :: F) (X :: F') w w' := by
 have ht : ¬ thr b:=by unfold thr; omega
 have HG:Hid (∀ o,Calls Tryz.prog 137 #[.pointer (some ⟨X,0,none⟩),p] (w.alloc o) fun e w' => e = .returned (.bool true)∧Below (w.alloc o).heap.size (w.alloc o) w'):=fun o=>by
  have hg:goesK P.s P b=true:=by unfold goesK; simp [hs]
  rw [← hg]; exact cgoes_any (h.mem.below (below_a1 _ _)) (h.at_.alloc _)
 have hx:X < w.heap.size:=heap_lt h.at_
 have HH:Hid (KMem w base p c L F X P b):=h
 have HA : Hid (∀ w', KAt w' X P b → Calls Tryz.prog 138 #[.pointer (some ⟨X, 0, none⟩)] w' fun e w'' => e = .returned (.agg (adC (adK P b))) ∧ Below w'.heap.size w' w'') := fun w' h => caddr_any h
 have HL : Hid (∀ (w' : World), Below w.heap.size w w' → Calls Tryz.prog 110 #[p, .int .i64 t, .agg (adC (adK P b))] w' fun e w'' => e = .returned (.tuple #[.int .i64 (wordOf L (adK P b)), .int .i64 0]) ∧ ∃ F', MemAt w'' base p c P.s (loadL c P.s L t (adK P b)) F' ∧ Next F F' w' w'') := fun w' hb' => by
  have:=load_any (h.mem.below hb') (Nat.le_trans hb hb'.size) hL t (adK P b)
  rw [if_pos (adK_is hk ht),if_pos (adK_is hk ht)] at this
  exact this
 obtain ⟨M,rfl⟩:=h.mem.ptr
 have HS:Hid (∀ w2,KAt w2 X P b→Calls Tryz.prog 139 #[.pointer (some ⟨X,0,none⟩),.int .i64 (wordOf L (adK P b))] w2 fun e w' => e = .returned (.agg #[.int .i64 (kindK P b (wordOf L (adK P b))),.int .i64 (errK P b (wordOf L (adK P b))),.int .i64 0,.bool true])∧KAt w' X P (stepK P b (wordOf L (adK P b)))∧Keep [X] w2 w'):=fun w2 h=>csee_all h hk hs hv
 unfold ansE
 unfold adC at HA HL
 clear h
 generalize kindK P b (wordOf L (adK P b))=kk at *
 generalize errK P b (wordOf L (adK P b))=ee at *
 generalize stepK P b (wordOf L (adK P b))=bb at *
 generalize wordOf L (adK P b)=v at *
 generalize loadL c P.s L t (adK P b)=L' at *
 generalize (adK P b).k=ak at *
 generalize (adK P b).i=ai at *
 generalize (adK P b).j=aj at *
 go_enter Tryz.func136,Tryz.ntmps136
 go_wp2_with fail
 refine (HG.out _).mono ?_
 rintro e w1 ⟨rfl,hb1⟩
 have HR:Hid (w1.heap[w.heap.size]? = some (.cells #[.int .i64 0,.int .i64 0,.int .i64 0,.bool false] 55 (0,0))):=row_on (heap_alloc_new _ _) hb1
 have HB:Hid (Below w.heap.size w w1):=below_then (below_a1 _ _) hb1
 clear hb1
 go_wp2_with fail
 refine (HA.out _ (HH.out.at_.below HB.out hx)).mono ?_
 rintro e w2 ⟨rfl,hb2⟩
 have HR2:Hid (w2.heap[w.heap.size]? = some (.cells #[.int .i64 0,.int .i64 0,.int .i64 0,.bool false] 55 (0,0))):=row_on HR.out hb2
 have HB2:Hid (Below w.heap.size w w2):=below_then HB.out hb2
 clear hb2
 go_wp2_with fail
 refine (HL.out _ HB2.out).mono ?_
 rintro e w3 ⟨rfl, F', hm3, hn3⟩
 obtain ⟨r3,m3,o3,n3,nx3⟩:=kstep_load HH.out HB2.out HR2.out (Nat.le_refl _) hm3 hn3
 have HR3:Hid (w3.heap[w.heap.size]? = some (.cells #[.int .i64 0,.int .i64 0,.int .i64 0,.bool false] 55 (0,0))):=r3
 have HM3:Hid (KMem w3 base (.pointer (some ⟨M,0,none⟩)) c L' F' X P b):=m3
 have HN3:Hid (Next (X :: F) (X :: F') w w3):=nx3
 obtain ⟨x0,x1,x2,x3,x4,x5,x6,x7⟩:=m3.at_.cells
 rw [hs] at x3
 clear hm3 hn3 r3 m3 nx3
 go_wp2_with fail
 refine (HS.out _ HM3.out.at_).mono ?_
 rintro e w4 ⟨rfl,ha4,hk4⟩
 obtain ⟨r4,m4,n4⟩:=kstep_moves HR3.out HM3.out n3 HN3.out ha4 hk4
 have HR4:Hid (w4.heap[w.heap.size]? = some (.cells #[.int .i64 0,.int .i64 0,.int .i64 0,.bool false] 55 (0,0))):=r4
 have HM4:Hid (KMem w4 base (.pointer (some ⟨M,0,none⟩)) c L' F' X P bb):=m4
 have HN4:Hid (Next (X :: F) (X :: F') w w4):=n4
 obtain ⟨⟨a0,a1,a2,a3⟩,g0,g1,g2,g3⟩:=ans_cells HR4.out
 have hB:=heap_lt HR4.out
 clear ha4 hk4 r4 m4 n4 x0 x1 x2 x3 x4 x5 x6 x7
 go_wp2
 obtain ⟨f1,f2⟩:=kstep_lays HM4.out n3 o3 (Nat.le_refl _) HN4.out kk ee true
 exact ret_ans rfl rfl (ansE_set rfl HR4.out kk ee true) rfl rfl ⟨rfl, F', f1, f2⟩
theorem cstep_1 {w:World} {base:Nat} {p:Value} {c:Nat} {L:List Ac} {F:List Nat} {X:Nat} {P:Cp} {b:Ck} {n:Nat} (h:KMem w base p c L F X P b) (hb:base≤w.heap.size) (hL:L.length < 3298534883328) (hk:KOk P b n) (hs:b.st=1) (_hv:W64 (wordOf L (adK P b))) (t:Int) :
  Calls Tryz.prog 136 #[.pointer (some ⟨X, 0, none⟩), p, .int .i64 t] w fun e w' => e = .returned (ansE (kindK P b (wordOf L (adK P b))) (errK P b (wordOf L (adK P b))) true) ∧ ∃ F', KMem w' base p c (loadL c P.s L t (adK P b)) F' X P (stepK P b (wordOf L (adK P b))) ∧ Next (X :: F) (X :: F') w w' := by
 have ht : ¬ thr b:=by unfold thr; omega
 have HG:Hid (∀ o,Calls Tryz.prog 137 #[.pointer (some ⟨X,0,none⟩),p] (w.alloc o) fun e w' => e = .returned (.bool true)∧Below (w.alloc o).heap.size (w.alloc o) w'):=fun o=>by
  have hg:goesK P.s P b=true:=by unfold goesK; simp [hs]
  rw [← hg]; exact cgoes_any (h.mem.below (below_a1 _ _)) (h.at_.alloc _)
 have hx:X < w.heap.size:=heap_lt h.at_
 have HH:Hid (KMem w base p c L F X P b):=h
 have HA : Hid (∀ w', KAt w' X P b → Calls Tryz.prog 138 #[.pointer (some ⟨X, 0, none⟩)] w' fun e w'' => e = .returned (.agg (adC (adK P b))) ∧ Below w'.heap.size w' w'') := fun w' h => caddr_any h
 have HL : Hid (∀ (w' : World), Below w.heap.size w w' → Calls Tryz.prog 110 #[p, .int .i64 t, .agg (adC (adK P b))] w' fun e w'' => e = .returned (.tuple #[.int .i64 (wordOf L (adK P b)), .int .i64 0]) ∧ ∃ F', MemAt w'' base p c P.s (loadL c P.s L t (adK P b)) F' ∧ Next F F' w' w'') := fun w' hb' => by
  have:=load_any (h.mem.below hb') (Nat.le_trans hb hb'.size) hL t (adK P b)
  rw [if_pos (adK_is hk ht),if_pos (adK_is hk ht)] at this
  exact this
 obtain ⟨M,rfl⟩:=h.mem.ptr
 have HS:Hid (∀ w2,KAt w2 X P b→Calls Tryz.prog 140 #[.pointer (some ⟨X,0,none⟩),.int .i64 (wordOf L (adK P b))] w2 fun e w' => e = .returned (.agg #[.int .i64 (kindK P b (wordOf L (adK P b))),.int .i64 (errK P b (wordOf L (adK P b))),.int .i64 0,.bool true])∧KAt w' X P (stepK P b (wordOf L (adK P b)))∧Keep [X] w2 w'):=fun w2 h=>clook_all h hk hs
 unfold ansE
 unfold adC at HA HL
 clear h
 generalize kindK P b (wordOf L (adK P b))=kk at *
 generalize errK P b (wordOf L (adK P b))=ee at *
 generalize stepK P b (wordOf L (adK P b))=bb at *
 generalize wordOf L (adK P b)=v at *
 generalize loadL c P.s L t (adK P b)=L' at *
 generalize (adK P b).k=ak at *
 generalize (adK P b).i=ai at *
 generalize (adK P b).j=aj at *
 go_enter Tryz.func136,Tryz.ntmps136
 go_wp2_with fail
 refine (HG.out _).mono ?_
 rintro e w1 ⟨rfl,hb1⟩
 have HR:Hid (w1.heap[w.heap.size]? = some (.cells #[.int .i64 0,.int .i64 0,.int .i64 0,.bool false] 55 (0,0))):=row_on (heap_alloc_new _ _) hb1
 have HB:Hid (Below w.heap.size w w1):=below_then (below_a1 _ _) hb1
 clear hb1
 go_wp2_with fail
 refine (HA.out _ (HH.out.at_.below HB.out hx)).mono ?_
 rintro e w2 ⟨rfl,hb2⟩
 have HR2:Hid (w2.heap[w.heap.size]? = some (.cells #[.int .i64 0,.int .i64 0,.int .i64 0,.bool false] 55 (0,0))):=row_on HR.out hb2
 have HB2:Hid (Below w.heap.size w w2):=below_then HB.out hb2
 clear hb2
 go_wp2_with fail
 refine (HL.out _ HB2.out).mono ?_
 rintro e w3 ⟨rfl, F', hm3, hn3⟩
 obtain ⟨r3,m3,o3,n3,nx3⟩:=kstep_load HH.out HB2.out HR2.out (Nat.le_refl _) hm3 hn3
 have HR3:Hid (w3.heap[w.heap.size]? = some (.cells #[.int .i64 0,.int .i64 0,.int .i64 0,.bool false] 55 (0,0))):=r3
 have HM3:Hid (KMem w3 base (.pointer (some ⟨M,0,none⟩)) c L' F' X P b):=m3
 have HN3:Hid (Next (X :: F) (X :: F') w w3):=nx3
 obtain ⟨x0,x1,x2,x3,x4,x5,x6,x7⟩:=m3.at_.cells
 rw [hs] at x3
 clear hm3 hn3 r3 m3 nx3
 go_wp2_with fail
 refine (HS.out _ HM3.out.at_).mono ?_
 rintro e w4 ⟨rfl,ha4,hk4⟩
 obtain ⟨r4,m4,n4⟩:=kstep_moves HR3.out HM3.out n3 HN3.out ha4 hk4
 have HR4:Hid (w4.heap[w.heap.size]? = some (.cells #[.int .i64 0,.int .i64 0,.int .i64 0,.bool false] 55 (0,0))):=r4
 have HM4:Hid (KMem w4 base (.pointer (some ⟨M,0,none⟩)) c L' F' X P bb):=m4
 have HN4:Hid (Next (X :: F) (X :: F') w w4):=n4
 obtain ⟨⟨a0,a1,a2,a3⟩,g0,g1,g2,g3⟩:=ans_cells HR4.out
 have hB:=heap_lt HR4.out
 clear ha4 hk4 r4 m4 n4 x0 x1 x2 x3 x4 x5 x6 x7
 go_wp2
 obtain ⟨f1,f2⟩:=kstep_lays HM4.out n3 o3 (Nat.le_refl _) HN4.out kk ee true
 exact ret_ans rfl rfl (ansE_set rfl HR4.out kk ee true) rfl rfl ⟨rfl, F', f1, f2⟩
theorem cstep_2 {w:World} {base:Nat} {p:Value} {c:Nat} {L:List Ac} {F:List Nat} {X:Nat} {P:Cp} {b:Ck} {n:Nat} (h:KMem w base p c L F X P b) (hb:base≤w.heap.size) (hL:L.length < 3298534883328) (hk:KOk P b n) (hs:b.st=2) (_hv:W64 (wordOf L (adK P b))) (t:Int) :
  Calls Tryz.prog 136 #[.pointer (some ⟨X, 0, none⟩), p, .int .i64 t] w fun e w' => e = .returned (ansE (kindK P b (wordOf L (adK P b))) (errK P b (wordOf L (adK P b))) true) ∧ ∃ F', KMem w' base p c (loadL c P.s L t (adK P b)) F' X P (stepK P b (wordOf L (adK P b))) ∧ Next (X :: F) (X :: F') w w' := by
 have ht : ¬ thr b:=by unfold thr; omega
 have HG:Hid (∀ o,Calls Tryz.prog 137 #[.pointer (some ⟨X,0,none⟩),p] (w.alloc o) fun e w' => e = .returned (.bool true)∧Below (w.alloc o).heap.size (w.alloc o) w'):=fun o=>by
  have hg:goesK P.s P b=true:=by unfold goesK; simp [hs]
  rw [← hg]; exact cgoes_any (h.mem.below (below_a1 _ _)) (h.at_.alloc _)
 have hx:X < w.heap.size:=heap_lt h.at_
 have HH:Hid (KMem w base p c L F X P b):=h
 have HA : Hid (∀ w', KAt w' X P b → Calls Tryz.prog 138 #[.pointer (some ⟨X, 0, none⟩)] w' fun e w'' => e = .returned (.agg (adC (adK P b))) ∧ Below w'.heap.size w' w'') := fun w' h => caddr_any h
 have HL : Hid (∀ (w' : World), Below w.heap.size w w' → Calls Tryz.prog 110 #[p, .int .i64 t, .agg (adC (adK P b))] w' fun e w'' => e = .returned (.tuple #[.int .i64 (wordOf L (adK P b)), .int .i64 0]) ∧ ∃ F', MemAt w'' base p c P.s (loadL c P.s L t (adK P b)) F' ∧ Next F F' w' w'') := fun w' hb' => by
  have:=load_any (h.mem.below hb') (Nat.le_trans hb hb'.size) hL t (adK P b)
  rw [if_pos (adK_is hk ht),if_pos (adK_is hk ht)] at this
  exact this
 obtain ⟨M,rfl⟩:=h.mem.ptr
 have HS:Hid (∀ w2,KAt w2 X P b→Calls Tryz.prog 141 #[.pointer (some ⟨X,0,none⟩),.int .u64 (IntKind.u64.wrap (wordOf L (adK P b)))] w2 fun e w' => e = .returned (.agg #[.int .i64 (kindK P b (wordOf L (adK P b))),.int .i64 (errK P b (wordOf L (adK P b))),.int .i64 0,.bool true])∧KAt w' X P (stepK P b (wordOf L (adK P b)))∧Keep [X] w2 w'):=fun w2 h=>chold_all h hk hs
 unfold ansE
 unfold adC at HA HL
 clear h
 generalize kindK P b (wordOf L (adK P b))=kk at *
 generalize errK P b (wordOf L (adK P b))=ee at *
 generalize stepK P b (wordOf L (adK P b))=bb at *
 generalize wordOf L (adK P b)=v at *
 generalize loadL c P.s L t (adK P b)=L' at *
 generalize (adK P b).k=ak at *
 generalize (adK P b).i=ai at *
 generalize (adK P b).j=aj at *
 go_enter Tryz.func136,Tryz.ntmps136
 go_wp2_with fail
 refine (HG.out _).mono ?_
 rintro e w1 ⟨rfl,hb1⟩
 have HR:Hid (w1.heap[w.heap.size]? = some (.cells #[.int .i64 0,.int .i64 0,.int .i64 0,.bool false] 55 (0,0))):=row_on (heap_alloc_new _ _) hb1
 have HB:Hid (Below w.heap.size w w1):=below_then (below_a1 _ _) hb1
 clear hb1
 go_wp2_with fail
 refine (HA.out _ (HH.out.at_.below HB.out hx)).mono ?_
 rintro e w2 ⟨rfl,hb2⟩
 have HR2:Hid (w2.heap[w.heap.size]? = some (.cells #[.int .i64 0,.int .i64 0,.int .i64 0,.bool false] 55 (0,0))):=row_on HR.out hb2
 have HB2:Hid (Below w.heap.size w w2):=below_then HB.out hb2
 clear hb2
 go_wp2_with fail
 refine (HL.out _ HB2.out).mono ?_
 rintro e w3 ⟨rfl, F', hm3, hn3⟩
 obtain ⟨r3,m3,o3,n3,nx3⟩:=kstep_load HH.out HB2.out HR2.out (Nat.le_refl _) hm3 hn3
 have HR3:Hid (w3.heap[w.heap.size]? = some (.cells #[.int .i64 0,.int .i64 0,.int .i64 0,.bool false] 55 (0,0))):=r3
 have HM3:Hid (KMem w3 base (.pointer (some ⟨M,0,none⟩)) c L' F' X P b):=m3
 have HN3:Hid (Next (X :: F) (X :: F') w w3):=nx3
 obtain ⟨x0,x1,x2,x3,x4,x5,x6,x7⟩:=m3.at_.cells
 rw [hs] at x3
 clear hm3 hn3 r3 m3 nx3
 go_wp2_with fail
 refine (HS.out _ HM3.out.at_).mono ?_
 rintro e w4 ⟨rfl,ha4,hk4⟩
 obtain ⟨r4,m4,n4⟩:=kstep_moves HR3.out HM3.out n3 HN3.out ha4 hk4
 have HR4:Hid (w4.heap[w.heap.size]? = some (.cells #[.int .i64 0,.int .i64 0,.int .i64 0,.bool false] 55 (0,0))):=r4
 have HM4:Hid (KMem w4 base (.pointer (some ⟨M,0,none⟩)) c L' F' X P bb):=m4
 have HN4:Hid (Next (X :: F) (X :: F') w w4):=n4
 obtain ⟨⟨a0,a1,a2,a3⟩,g0,g1,g2,g3⟩:=ans_cells HR4.out
 have hB:=heap_lt HR4.out
 clear ha4 hk4 r4 m4 n4 x0 x1 x2 x3 x4 x5 x6 x7
 go_wp2
 obtain ⟨f1,f2⟩:=kstep_lays HM4.out n3 o3 (Nat.le_refl _) HN4.out kk ee true
 exact ret_ans rfl rfl (ansE_set rfl HR4.out kk ee true) rfl rfl ⟨rfl, F', f1, f2⟩
theorem cstep_3 {w:World} {base:Nat} {p:Value} {c:Nat} {L:List Ac} {F:List Nat} {X:Nat} {P:Cp} {b:Ck} {n:Nat} (h:KMem w base p c L F X P b) (hb:base≤w.heap.size) (hL:L.length < 3298534883328) (hk:KOk P b n) (hs:b.st=3) (hv:W64 (wordOf L (adK P b))) (t:Int) :
  Calls Tryz.prog 136 #[.pointer (some ⟨X, 0, none⟩), p, .int .i64 t] w fun e w' => e = .returned (ansE (kindK P b (wordOf L (adK P b))) (errK P b (wordOf L (adK P b))) true) ∧ ∃ F', KMem w' base p c (loadL c P.s L t (adK P b)) F' X P (stepK P b (wordOf L (adK P b))) ∧ Next (X :: F) (X :: F') w w' := by
 have ht : ¬ thr b:=by unfold thr; omega
 have HG:Hid (∀ o,Calls Tryz.prog 137 #[.pointer (some ⟨X,0,none⟩),p] (w.alloc o) fun e w' => e = .returned (.bool true)∧Below (w.alloc o).heap.size (w.alloc o) w'):=fun o=>by
  have hg:goesK P.s P b=true:=by unfold goesK; simp [hs]
  rw [← hg]; exact cgoes_any (h.mem.below (below_a1 _ _)) (h.at_.alloc _)
 have hx:X < w.heap.size:=heap_lt h.at_
 have HH:Hid (KMem w base p c L F X P b):=h
 have HA : Hid (∀ w', KAt w' X P b → Calls Tryz.prog 138 #[.pointer (some ⟨X, 0, none⟩)] w' fun e w'' => e = .returned (.agg (adC (adK P b))) ∧ Below w'.heap.size w' w'') := fun w' h => caddr_any h
 have HL : Hid (∀ (w' : World), Below w.heap.size w w' → Calls Tryz.prog 110 #[p, .int .i64 t, .agg (adC (adK P b))] w' fun e w'' => e = .returned (.tuple #[.int .i64 (wordOf L (adK P b)), .int .i64 0]) ∧ ∃ F', MemAt w'' base p c P.s (loadL c P.s L t (adK P b)) F' ∧ Next F F' w' w'') := fun w' hb' => by
  have:=load_any (h.mem.below hb') (Nat.le_trans hb hb'.size) hL t (adK P b)
  rw [if_pos (adK_is hk ht),if_pos (adK_is hk ht)] at this
  exact this
 obtain ⟨M,rfl⟩:=h.mem.ptr
 have HS:Hid (∀ w2,KAt w2 X P b→Calls Tryz.prog 142 #[.pointer (some ⟨X,0,none⟩),.int .i64 (wordOf L (adK P b))] w2 fun e w' => e = .returned (.agg #[.int .i64 (kindK P b (wordOf L (adK P b))),.int .i64 (errK P b (wordOf L (adK P b))),.int .i64 0,.bool true])∧KAt w' X P (stepK P b (wordOf L (adK P b)))∧Keep [X] w2 w'):=fun w2 h=>cagain_all h hk hs hv
 unfold ansE
 unfold adC at HA HL
 clear h
 generalize kindK P b (wordOf L (adK P b))=kk at *
 generalize errK P b (wordOf L (adK P b))=ee at *
 generalize stepK P b (wordOf L (adK P b))=bb at *
 generalize wordOf L (adK P b)=v at *
 generalize loadL c P.s L t (adK P b)=L' at *
 generalize (adK P b).k=ak at *
 generalize (adK P b).i=ai at *
 generalize (adK P b).j=aj at *
 go_enter Tryz.func136,Tryz.ntmps136
 go_wp2_with fail
 refine (HG.out _).mono ?_
 rintro e w1 ⟨rfl,hb1⟩
 have HR:Hid (w1.heap[w.heap.size]? = some (.cells #[.int .i64 0,.int .i64 0,.int .i64 0,.bool false] 55 (0,0))):=row_on (heap_alloc_new _ _) hb1
 have HB:Hid (Below w.heap.size w w1):=below_then (below_a1 _ _) hb1
 clear hb1
 go_wp2_with fail
 refine (HA.out _ (HH.out.at_.below HB.out hx)).mono ?_
 rintro e w2 ⟨rfl,hb2⟩
 have HR2:Hid (w2.heap[w.heap.size]? = some (.cells #[.int .i64 0,.int .i64 0,.int .i64 0,.bool false] 55 (0,0))):=row_on HR.out hb2
 have HB2:Hid (Below w.heap.size w w2):=below_then HB.out hb2
 clear hb2
 go_wp2_with fail
 refine (HL.out _ HB2.out).mono ?_
 rintro e w3 ⟨rfl, F', hm3, hn3⟩
 obtain ⟨r3,m3,o3,n3,nx3⟩:=kstep_load HH.out HB2.out HR2.out (Nat.le_refl _) hm3 hn3
 have HR3:Hid (w3.heap[w.heap.size]? = some (.cells #[.int .i64 0,.int .i64 0,.int .i64 0,.bool false] 55 (0,0))):=r3
 have HM3:Hid (KMem w3 base (.pointer (some ⟨M,0,none⟩)) c L' F' X P b):=m3
 have HN3:Hid (Next (X :: F) (X :: F') w w3):=nx3
 obtain ⟨x0,x1,x2,x3,x4,x5,x6,x7⟩:=m3.at_.cells
 rw [hs] at x3
 clear hm3 hn3 r3 m3 nx3
 go_wp2_with fail
 refine (HS.out _ HM3.out.at_).mono ?_
 rintro e w4 ⟨rfl,ha4,hk4⟩
 obtain ⟨r4,m4,n4⟩:=kstep_moves HR3.out HM3.out n3 HN3.out ha4 hk4
 have HR4:Hid (w4.heap[w.heap.size]? = some (.cells #[.int .i64 0,.int .i64 0,.int .i64 0,.bool false] 55 (0,0))):=r4
 have HM4:Hid (KMem w4 base (.pointer (some ⟨M,0,none⟩)) c L' F' X P bb):=m4
 have HN4:Hid (Next (X :: F) (X :: F') w w4):=n4
 obtain ⟨⟨a0,a1,a2,a3⟩,g0,g1,g2,g3⟩:=ans_cells HR4.out
 have hB:=heap_lt HR4.out
 clear ha4 hk4 r4 m4 n4 x0 x1 x2 x3 x4 x5 x6 x7
 go_wp2
 obtain ⟨f1,f2⟩:=kstep_lays HM4.out n3 o3 (Nat.le_refl _) HN4.out kk ee true
 exact ret_ans rfl rfl (ansE_set rfl HR4.out kk ee true) rfl rfl ⟨rfl, F', f1, f2⟩
theorem cstep_some {w:World} {base:Nat} {p:Value} {c:Nat} {L:List Ac} {F:List Nat} {X:Nat} {P:Cp} {b:Ck} {n:Nat} (h:KMem w base p c L F X P b) (hb:base≤w.heap.size) (hL:L.length < 3298534883328) (hk:KOk P b n) (ht : ¬ thr b) (hv:W64 (wordOf L (adK P b))) (t:Int) :
  Calls Tryz.prog 136 #[.pointer (some ⟨X, 0, none⟩), p, .int .i64 t] w fun e w' => e = .returned (ansE (kindK P b (wordOf L (adK P b))) (errK P b (wordOf L (adK P b))) true) ∧ ∃ F', KMem w' base p c (loadL c P.s L t (adK P b)) F' X P (stepK P b (wordOf L (adK P b))) ∧ Next (X :: F) (X :: F') w w' := by
 rcases kok_st hk with e | e | e | e | e | e
 ·exact cstep_0 h hb hL hk e hv t
 ·exact cstep_1 h hb hL hk e hv t
 ·exact cstep_2 h hb hL hk e hv t
 ·exact cstep_3 h hb hL hk e hv t
 ·exact absurd (Or.inl e) ht
 ·exact absurd (Or.inr e) ht
--END STEPS
end Go.Proofs.YtdkpgdkjohjcaaaGreat.Co
