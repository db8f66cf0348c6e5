/- A job (layer 21) as it lies. -/
import Derived.Test.YtigfjedohdgjfaaGreatDoorPjM
import Derived.Test.YtigfjedohdgjfaaGreatDoorJTxQTxP
import Derived.Test.YtigfjedohdgjfaaGreatDoorJCtAQuK
import Derived.Deep.CutBlock
import Derived.Deep.DeepCutAuto
import Derived.Test.YtigfjedohdgjfaaGreatDoorJDiBDiA
import Derived.Test.YtigfjedohdgjfaaGreatDoorJChTChB
import Derived.Test.YtigfjedohdgjfaaGreatDoorJTabBTabE
import Derived.Test.YtigfjedohdgjfaaGreatDoorMath
import Derived.Test.YtigfjedohdgjfaaGreatDoorJCoMPgR
import Derived.BigQuiet
import Derived.OwnWalk
import Derived.BigRegion
import Derived.Laws.EntriesVeiled
namespace Go.Proofs.YtigfjedohdgjfaaGreatDoor.Pj
open Go.ChangeShapes Go.WideShapes Go.ChangeAt Go.RowKit
open Tl (Wn wn0 nth numC)
theorem keep_tl {F:List Nat} {w w':World} (k:Keep F w w'):Tl.Keep F w w':=⟨k.os,k.tape,k.output,k.size,k.block⟩
def Dj (a b:List Nat):Prop:=∀ q ∈ a,q ∉ b
theorem Dj.symm {a b:List Nat} (h:Dj a b):Dj b a:=fun q hb ha=>h q ha hb
theorem seg_ne {S:List (List Nat)} (h:S.Pairwise Dj) : ∀ {i k:Nat},i < k→Dj (S.getD i []) (S.getD k []):=by
 induction h with
 | nil=>intro i k _ q hq; simp at hq
 | @cons a l ha _ ih =>
  intro i k hik
  cases k with
  | zero=>omega
  | succ k =>
   cases i with
   | zero =>
    intro q hq hk
    simp only [List.getD_cons_zero,List.getD_cons_succ] at hq hk
    by_cases hl:k < l.length
    ·rw [List.getD_eq_getElem?_getD,List.getElem?_eq_getElem hl] at hk
     exact ha _ (List.getElem_mem hl) q hq hk
    ·rw [List.getD_eq_getElem?_getD,List.getElem?_eq_none (by omega)] at hk
     simp at hk
   | succ i=>simpa using ih (by omega)
theorem seg_dj {S:List (List Nat)} (h:S.Pairwise Dj) {i k:Nat} (hik:i≠k):Dj (S.getD i []) (S.getD k []):=by
 rcases Nat.lt_or_gt_of_ne hik with h1 | h1
 ·exact seg_ne h h1
 ·exact (seg_ne h h1).symm
theorem seg_set {S:List (List Nat)} {B:List Nat} {n:Nat} (h:S.Pairwise Dj) (hb : ∀ a ∈ S,∀ q ∈ a,q < n) : ∀ (i:Nat),(∀ q ∈ B,q ∈ S.getD i [] ∨ n≤q)→(S.set i B).Pairwise Dj:=by
 induction h with
 | nil=>intro i _; exact List.Pairwise.nil
 | @cons a l ha hp ih =>
  intro i hs
  cases i with
  | zero =>
   simp only [List.set_cons_zero]
   refine List.Pairwise.cons (fun x hx q hq hqx => ?_) hp
   rcases hs q hq with h1 | h1
   ·exact ha x hx q (by simpa using h1) hqx
   ·have:=hb x (List.mem_cons_of_mem _ hx) q hqx; omega
  | succ i =>
   simp only [List.set_cons_succ]
   refine List.Pairwise.cons (fun x hx q hq hqx => ?_) (ih (fun a h=>hb a (List.mem_cons_of_mem _ h)) i (fun q hq=>by simpa using hs q hq))
   rcases List.mem_or_eq_of_mem_set hx with h1 | rfl
   ·exact ha x h1 q hq hqx
   ·rcases hs q hqx with h1 | h1
    ·simp only [List.getD_cons_succ] at h1
     by_cases hl:i < l.length
     ·rw [List.getD_eq_getElem?_getD,List.getElem?_eq_getElem hl] at h1
      exact ha _ (List.getElem_mem hl) q hq h1
     ·rw [List.getD_eq_getElem?_getD,List.getElem?_eq_none (by omega)] at h1
      simp at h1
    ·have:=hb a List.mem_cons_self q hq; omega
def AkAt (w:World) (base:Nat) (kv:Value) (F:List Nat):Option Ak→Prop
 | none=>kv = .nilIface∧F = []
 | some (.ct m) => ∃ M,kv = .iface 206 (.pointer (some ⟨M,0,none⟩))∧Tl.Ct.McAt w M F m ∧ ∀ q ∈ F,base≤q
 | some (.qu m) => ∃ M,kv = .iface 209 (.pointer (some ⟨M,0,none⟩))∧Tl.Qu.McAt w M F m ∧ ∀ q ∈ F,base≤q
 | some (.di m) => ∃ M,kv = .iface 212 (.pointer (some ⟨M,0,none⟩))∧Tl.Di.McAt w M F m ∧ ∀ q ∈ F,base≤q
 | some (.ch m) => ∃ M,kv = .iface 215 (.pointer (some ⟨M,0,none⟩))∧Tl.Ch.McAt w M F m ∧ ∀ q ∈ F,base≤q
theorem AkAt.keep {w w':World} {base:Nat} {kv:Value} {F K:List Nat} {a:Option Ak} (h:AkAt w base kv F a) (k:Keep K w w') (hd : ∀ q ∈ F,q ∉ K):AkAt w' base kv F a:=by
 match a,h with
 | none,h=>exact h
 | some (.ct m),⟨M,e,h,b⟩=>exact ⟨M,e,h.keep (keep_tl k) hd,b⟩
 | some (.qu m),⟨M,e,h,b⟩=>exact ⟨M,e,h.keep (keep_tl k) hd,b⟩
 | some (.di m),⟨M,e,h,b⟩=>exact ⟨M,e,h.keep (keep_tl k) hd,b⟩
 | some (.ch m),⟨M,e,h,b⟩=>exact ⟨M,e,h.keep (keep_tl k) hd,b⟩
theorem AkAt.lt {w:World} {base:Nat} {kv:Value} {F:List Nat} {a:Option Ak} (h:AkAt w base kv F a) : ∀ q ∈ F,base≤q∧q < w.heap.size:=by
 match a,h with
 | none,⟨_,hF⟩=>intro q hq; rw [hF] at hq; simp at hq
 | some (.ct m),⟨M,e,h,b⟩=>exact fun q hq=>⟨b q hq,h.lt q hq⟩
 | some (.qu m),⟨M,e,h,b⟩=>exact fun q hq=>⟨b q hq,h.lt q hq⟩
 | some (.di m),⟨M,e,h,b⟩=>exact fun q hq=>⟨b q hq,h.lt q hq⟩
 | some (.ch m),⟨M,e,h,b⟩=>exact fun q hq=>⟨b q hq,h.lt q hq⟩
structure Jv where
 T:Nat
 rv:Value
 av:Value
 sv:Value
 rtv:Value
 tlv:Value
 ev:Value
 kv:Value
 F:List Nat
 G:List Nat
abbrev bl (v:Value):List Nat:=v.ownBlock.toList
def Jv.segs (y:Jv) (X:Nat):List (List Nat):=[[X],bl y.rv,bl y.av,bl y.sv,bl y.rtv,bl y.tlv,bl y.ev,y.F,y.G]
def jobC (j:Jb) (y:Jv):Array Value:=Tl.Pg.jobR j.cf y.rv (Tl.Pc.cellsV j.cf).1 j.code y.av j.nr (.pointer (some ⟨y.T,0,none⟩)) j.pub j.pl j.nx y.sv y.rtv y.tlv j.wt y.kv j.rd y.ev j.ov j.err
structure JAt' (w:World) (base X:Nat) (j:Jb) (y:Jv):Prop where
 raw:w.heap[X]? = some (.cells (jobC j y) 70 (0,0))
 rg:w.ownsRow base 86 3 y.rv j.cf.R.length (Tl.Pg.rgsC j.cf j.cf.R.length)
 ar:w.ownsRow base 2 1 y.av j.args.length (numC j.args)
 st:w.ownsRow base 2 1 y.sv j.st.length (numC j.st)
 rt:w.ownsRow base 3 1 y.rtv j.rt.length (numC j.rt)
 tl:w.ownsRow base 2 1 y.tlv j.tl.length (numC j.tl)
 er:w.ownsRow base 152 19 y.ev j.er.length (evsC j.er)
 ak:AkAt w base y.kv y.F j.ak
 tx:TxAt w base y.T j.tx y.G
 dj:(y.segs X).Pairwise Dj
 bX:base≤X
theorem own_lt {w:World} {base e s n:Nat} {v:Value} {xs:List Value} (h:w.ownsRow base e s v n xs) : ∀ q ∈ bl v,base≤q∧q < w.heap.size:=fun q hq=>own_block h q (by simpa using hq)
theorem JAt'.lt {w:World} {base X:Nat} {j:Jb} {y:Jv} (h:JAt' w base X j y) : ∀ a ∈ y.segs X,∀ q ∈ a,base≤q∧q < w.heap.size:=by
 intro a ha q hq
 simp only [Jv.segs,List.mem_cons,List.not_mem_nil,or_false] at ha
 rcases ha with rfl | rfl | rfl | rfl | rfl | rfl | rfl | rfl | rfl
 ·simp at hq; subst hq; exact ⟨h.bX,heap_lt h.raw⟩
 ·exact own_lt h.rg q hq
 ·exact own_lt h.ar q hq
 ·exact own_lt h.st q hq
 ·exact own_lt h.rt q hq
 ·exact own_lt h.tl q hq
 ·exact own_lt h.er q hq
 ·exact h.ak.lt q hq
 ·exact h.tx.lt q hq
theorem own_kp {w w':World} {K:List Nat} {base e s n:Nat} {v:Value} {xs:List Value} (h:w.ownsRow base e s v n xs) (k:Keep K w w') (hd : ∀ q ∈ bl v,q ∉ K):w'.ownsRow base e s v n xs:=own_keep h k (fun b hb=>hd b (by simp [hb]))
theorem JAt'.keep {w w':World} {base X:Nat} {j:Jb} {y:Jv} {K:List Nat} (h:JAt' w base X j y) (k:Keep K w w') (hd : ∀ a ∈ y.segs X,∀ q ∈ a,q ∉ K):JAt' w' base X j y:=by
 have hm : ∀ i,i < 9 → ∀ q ∈ (y.segs X).getD i [],q ∉ K:=by
  intro i hi
  refine hd _ ?_
  have hl:i < (y.segs X).length:=hi
  rw [List.getD_eq_getElem?_getD,List.getElem?_eq_getElem hl]
  exact List.getElem_mem hl
 exact ⟨(k.block X (heap_lt h.raw) (hm 0 (by decide) X (by simp [Jv.segs]))).trans h.raw,own_kp h.rg k (hm 1 (by decide)),own_kp h.ar k (hm 2 (by decide)),own_kp h.st k (hm 3 (by decide)),own_kp h.rt k (hm 4 (by decide)),own_kp h.tl k (hm 5 (by decide)),own_kp h.er k (hm 6 (by decide)),h.ak.keep k (hm 7 (by decide)),h.tx.keep k (hm 8 (by decide)),h.dj,h.bX⟩
structure Kp (w':World) (base:Nat) (j:Jb) (y:Jv) (i:Nat):Prop where
 rg:i≠1→w'.ownsRow base 86 3 y.rv j.cf.R.length (Tl.Pg.rgsC j.cf j.cf.R.length)
 ar:i≠2→w'.ownsRow base 2 1 y.av j.args.length (numC j.args)
 st:i≠3→w'.ownsRow base 2 1 y.sv j.st.length (numC j.st)
 rt:i≠4→w'.ownsRow base 3 1 y.rtv j.rt.length (numC j.rt)
 tl:i≠5→w'.ownsRow base 2 1 y.tlv j.tl.length (numC j.tl)
 er:i≠6→w'.ownsRow base 152 19 y.ev j.er.length (evsC j.er)
 ak:i≠7→AkAt w' base y.kv y.F j.ak
 tx:i≠8→TxAt w' base y.T j.tx y.G
theorem JAt'.kp {w w':World} {base X:Nat} {j:Jb} {y:Jv} {K:List Nat} (h:JAt' w base X j y) (k:Keep K w w') (i:Nat) (hK : ∀ q ∈ K,q=X∨q ∈ (y.segs X).getD i [] ∨ w.heap.size≤q):Kp w' base j y i:=by
 have hm : ∀ n,n < 9→n≠0→i≠n → ∀ q ∈ (y.segs X).getD n [],q ∉ K:=by
  intro n hn h0 hi q hq hk
  have hl:n < (y.segs X).length:=hn
  have hm:(y.segs X).getD n [] ∈ y.segs X:=by
   rw [List.getD_eq_getElem?_getD,List.getElem?_eq_getElem hl]
   exact List.getElem_mem hl
  rcases hK q hk with rfl | h1 | h1
  ·exact seg_dj h.dj (Ne.symm h0) q (by simp [Jv.segs]) hq
  ·exact seg_dj h.dj hi q h1 hq
  ·have:=(h.lt _ hm q hq).2; omega
 exact ⟨fun hi=>own_kp h.rg k (hm 1 (by decide) (by decide) hi),fun hi=>own_kp h.ar k (hm 2 (by decide) (by decide) hi),fun hi=>own_kp h.st k (hm 3 (by decide) (by decide) hi),fun hi=>own_kp h.rt k (hm 4 (by decide) (by decide) hi),fun hi=>own_kp h.tl k (hm 5 (by decide) (by decide) hi),fun hi=>own_kp h.er k (hm 6 (by decide) (by decide) hi),fun hi=>h.ak.keep k (hm 7 (by decide) (by decide) hi),fun hi=>h.tx.keep k (hm 8 (by decide) (by decide) hi)⟩
end Go.Proofs.YtigfjedohdgjfaaGreatDoor.Pj
namespace Go.Proofs.YtigfjedohdgjfaaGreatDoor.Pj
open Go.ChangeShapes Go.WideShapes Go.ChangeAt Go.RowKit
open Tl (Wn wn0 nth numC Nl)
attribute [local go_sem ↓] Go.wp_at_zero Go.wp_at_succ
theorem job_cells {w:World} {X:Nat} {cf:Tl.Pc.Cf} {rv:Value} {n:Int} {code:ByteArray} {av:Value} {nr:Int} {tv:Value} {pub:Bool} {pl nx:Int} {sv rtv tlv:Value} {wt:Wn} {kv:Value} {rd:Int} {ev:Value} {ov:Bool} {er:Int} (h:w.heap[X]? = some (.cells (Tl.Pg.jobR cf rv n code av nr tv pub pl nx sv rtv tlv wt kv rd ev ov er) 70 (0,0))) :
  w.cell? ⟨X,0,none⟩=some (.int .i64 cf.raw)∧w.cell? ⟨X,1,none⟩=some (.int .i64 cf.ring)∧w.cell? ⟨X,2,none⟩=some (.int .i64 cf.wrs)∧w.cell? ⟨X,3,none⟩=some (.int .i64 cf.st)∧w.cell? ⟨X,4,none⟩=some (.bool cf.multi)∧w.cell? ⟨X,5,none⟩=some (.int .i64 cf.tries)∧w.cell? ⟨X,6,none⟩=some (.slice none 0 0)∧w.cell? ⟨X,7,none⟩=some (rv)∧w.cell? ⟨X,8,none⟩=some (.int .i64 n)∧w.cell? ⟨X,9,none⟩=some (.string code)∧w.cell? ⟨X,10,none⟩=some (av)∧w.cell? ⟨X,11,none⟩=some (.int .i64 nr)∧w.cell? ⟨X,12,none⟩=some (tv)∧w.cell? ⟨X,13,none⟩=some (.bool pub)∧w.cell? ⟨X,14,none⟩=some (.int .i64 pl)∧w.cell? ⟨X,15,none⟩=some (.int .i64 nx)∧w.cell? ⟨X,16,none⟩=some (sv)∧w.cell? ⟨X,17,none⟩=some (rtv)∧w.cell? ⟨X,18,none⟩=some (tlv)∧w.cell? ⟨X,19,none⟩=some (.int .i64 wt.kind)∧w.cell? ⟨X,20,none⟩=some (.int .i64 wt.cell)∧w.cell? ⟨X,21,none⟩=some (.int .i64 wt.val)∧w.cell? ⟨X,22,none⟩=some (.int .i64 wt.code)∧w.cell? ⟨X,23,none⟩=some (kv)∧w.cell? ⟨X,24,none⟩=some (.int .i64 rd)∧w.cell? ⟨X,25,none⟩=some (ev)∧w.cell? ⟨X,26,none⟩=some (.bool ov)∧w.cell? ⟨X,27,none⟩=some (.int .i64 er) :=
 ⟨(cell_at h 0).trans rfl,(cell_at h 1).trans rfl,(cell_at h 2).trans rfl,(cell_at h 3).trans rfl,(cell_at h 4).trans rfl,(cell_at h 5).trans rfl,(cell_at h 6).trans rfl,(cell_at h 7).trans rfl,(cell_at h 8).trans rfl,(cell_at h 9).trans rfl,(cell_at h 10).trans rfl,(cell_at h 11).trans rfl,(cell_at h 12).trans rfl,(cell_at h 13).trans rfl,(cell_at h 14).trans rfl,(cell_at h 15).trans rfl,(cell_at h 16).trans rfl,(cell_at h 17).trans rfl,(cell_at h 18).trans rfl,(cell_at h 19).trans rfl,(cell_at h 20).trans rfl,(cell_at h 21).trans rfl,(cell_at h 22).trans rfl,(cell_at h 23).trans rfl,(cell_at h 24).trans rfl,(cell_at h 25).trans rfl,(cell_at h 26).trans rfl,(cell_at h 27).trans rfl⟩
theorem set14 (cf:Tl.Pc.Cf) (rv:Value) (n:Int) (code:ByteArray) (av:Value) (nr:Int) (tv:Value) (pub:Bool) (pl nx:Int) (sv rtv tlv:Value) (wt:Wn) (kv:Value) (rd:Int) (ev:Value) (ov:Bool) (er:Int) (m:Int) (tw:Value):(((((((((((((((Tl.Pg.jobR cf rv n code av nr tv pub pl nx sv rtv tlv wt kv rd ev ov er).setIfInBounds 11 (.int .i64 m)).setIfInBounds 12 (tw)).setIfInBounds 13 (.bool false)).setIfInBounds 14 (.int .i64 0)).setIfInBounds 15 (.int .i64 0)).setIfInBounds 16 (.slice none 0 0)).setIfInBounds 17 (.slice none 0 0)).setIfInBounds 18 (.slice none 0 0)).setIfInBounds 19 (.int .i64 0)).setIfInBounds 20 (.int .i64 0)).setIfInBounds 21 (.int .i64 0)).setIfInBounds 22 (.int .i64 0)).setIfInBounds 23 (.nilIface)).setIfInBounds 24 (.int .i64 0))=Tl.Pg.jobR cf rv n code av m tw false 0 0 (.slice none 0 0) (.slice none 0 0) (.slice none 0 0) wn0 .nilIface 0 ev ov er:=by
 simp [Tl.Pg.jobR,wn0]
theorem wr1 {x:Int} (h:0≤x∧x≤255):wrap64 (x+1)=x+1:=by unfold wrap64; omega
theorem ok_parts {c:Tl.Pc.Cf} (h:Tl.Pc.okC c=true):1≤c.raw∧c.raw≤64∧1≤c.ring∧c.ring≤16∧1≤c.wrs∧c.wrs≤24∧1≤c.st∧c.st≤1099511627776∧1≤c.tries∧c.tries≤255:=by
 simp only [Tl.Pc.okC,Tl.Pc.okN,Bool.and_eq_true,decide_eq_true_eq] at h
 omega
set_option maxRecDepth 10000 in
set_option maxHeartbeats 2000000 in
theorem newTry_raw {w:World} {base X:Nat} {cf:Tl.Pc.Cf} {rv:Value} {n:Int} {code:ByteArray} {av:Value} {nr:Int} {tv:Value} {pub:Bool} {pl nx:Int} {sv rtv tlv:Value} {wt:Wn} {kv:Value} {rd:Int} {ev:Value} {ov:Bool} {er:Int} (hb:base≤w.heap.size) (hX:w.heap[X]? = some (.cells (Tl.Pg.jobR cf rv n code av nr tv pub pl nx sv rtv tlv wt kv rd ev ov er) 70 (0,0))) (hc:Tl.Pc.okC cf=true) (hn:0≤nr∧nr≤255) :
  Calls Tryz.prog 21 #[.pointer (some ⟨X,0,none⟩)] w fun e w' => ∃ T G,e = .returned (.tuple #[])∧w'.heap[X]? = some (.cells (Tl.Pg.jobR cf rv n code av (nr+1) (.pointer (some ⟨T,0,none⟩)) false 0 0 (.slice none 0 0) (.slice none 0 0) (.slice none 0 0) wn0 .nilIface 0 ev ov er) 70 (0,0))∧TxAt w' base T (newTx cf) G∧(∀ q ∈ G,w.heap.size≤q)∧Keep [X] w w':=by
 have HN:Hid (∀ w':World,base≤w'.heap.size→Calls Tryz.prog 34 #[.agg #[.int .i64 cf.raw,.int .i64 cf.ring,.int .i64 cf.wrs,.int .i64 cf.st,.bool cf.multi,.int .i64 cf.tries,.slice none 0 0]] w' fun e w'' => ∃ T G,e = .returned (.tuple #[.pointer (some ⟨T,0,none⟩),.int .i64 0])∧TxAt w'' base T (newTx cf) G∧(∀ q ∈ G,w'.heap.size≤q)∧Below w'.heap.size w' w''):=fun w' hw=>by
  obtain ⟨_,_,a1,a2,b1,b2,c1,c2,_⟩:=ok_parts hc
  have:=newT_yes w' base hw cf.raw cf.ring.toNat cf.wrs.toNat cf.st cf.multi cf.tries (.slice none 0 0) (by omega) (by omega) c1 c2 (by omega) (by omega)
  unfold confT at this
  rw [show ((cf.ring.toNat:Nat):Int)=cf.ring by omega,show ((cf.wrs.toNat:Nat):Int)=cf.wrs by omega] at this
  exact this
 have hwr:=wr1 hn
 have hl:=heap_lt hX
 have HX:Hid (w.heap[X]? = some (.cells (Tl.Pg.jobR cf rv n code av nr tv pub pl nx sv rtv tlv wt kv rd ev ov er) 70 (0,0))):=hX
 obtain ⟨c0,c1,c2,c3,c4,c5,c6,_⟩:=job_cells hX
 clear hX hn
 generalize newTx cf=NT at *
 obtain ⟨a,b,d,s,mu,t,R⟩:=cf
 dsimp only at *
 go_enter Tryz.func21,Tryz.ntmps21
 go_wp2_with fail
 refine (HN.out _ hb).mono ?_
 rintro e w1 ⟨T,G,rfl,hT,hG,hb1⟩
 have hX1:=row_on HX.out hb1
 have hl1:=heap_lt hX1
 obtain ⟨_,_,_,_,_,_,_,_,_,_,_,q11,q12,q13,q14,q15,q16,q17,q18,q19,q20,q21,q22,q23,q24,_⟩:=job_cells hX1
 have HX1:Hid (w1.heap[X]? = some (.cells (Tl.Pg.jobR ⟨a,b,d,s,mu,t,R⟩ rv n code av nr tv pub pl nx sv rtv tlv wt kv rd ev ov er) 70 (0,0))):=hX1
 have HB1:Hid (Keep [X] w w1∧TxAt w1 base T NT G∧(∀ q ∈ G,w.heap.size≤q)):=⟨Keep.of_below hb1 _,hT,hG⟩
 have f:=frozen_at hX1
 clear hX1 hb1 c0 c1 c2 c3 c4 c5 c6 HX HN hT hG hc
 go_wp2_with fail
 go_end0
 have hn1:X ∉ G:=fun hq=>by have:=HB1.out.2.2 X hq; omega
 have h11:=heap_set HX1.out 11 (.int .i64 (nr+1))
 have h12:=heap_set h11 12 (.pointer (some ⟨T,0,none⟩))
 have h13:=heap_set h12 13 (.bool false)
 have h14:=heap_set h13 14 (.int .i64 0)
 have h15:=heap_set h14 15 (.int .i64 0)
 have h16:=heap_set h15 16 (.slice none 0 0)
 have h17:=heap_set h16 17 (.slice none 0 0)
 have h18:=heap_set h17 18 (.slice none 0 0)
 have h19:=heap_set h18 19 (.int .i64 0)
 have h20:=heap_set h19 20 (.int .i64 0)
 have h21:=heap_set h20 21 (.int .i64 0)
 have h22:=heap_set h21 22 (.int .i64 0)
 have h23:=heap_set h22 23 (.nilIface)
 have h24:=heap_set h23 24 (.int .i64 0)
 have k11:=(Keep.refl [X] w1).setCell ⟨X,11,none⟩ (.int .i64 (nr+1)) (Or.inl (by simp))
 have k12:=k11.setCell ⟨X,12,none⟩ (.pointer (some ⟨T,0,none⟩)) (Or.inl (by simp))
 have k13:=k12.setCell ⟨X,13,none⟩ (.bool false) (Or.inl (by simp))
 have k14:=k13.setCell ⟨X,14,none⟩ (.int .i64 0) (Or.inl (by simp))
 have k15:=k14.setCell ⟨X,15,none⟩ (.int .i64 0) (Or.inl (by simp))
 have k16:=k15.setCell ⟨X,16,none⟩ (.slice none 0 0) (Or.inl (by simp))
 have k17:=k16.setCell ⟨X,17,none⟩ (.slice none 0 0) (Or.inl (by simp))
 have k18:=k17.setCell ⟨X,18,none⟩ (.slice none 0 0) (Or.inl (by simp))
 have k19:=k18.setCell ⟨X,19,none⟩ (.int .i64 0) (Or.inl (by simp))
 have k20:=k19.setCell ⟨X,20,none⟩ (.int .i64 0) (Or.inl (by simp))
 have k21:=k20.setCell ⟨X,21,none⟩ (.int .i64 0) (Or.inl (by simp))
 have k22:=k21.setCell ⟨X,22,none⟩ (.int .i64 0) (Or.inl (by simp))
 have k23:=k22.setCell ⟨X,23,none⟩ (.nilIface) (Or.inl (by simp))
 have k24:=k23.setCell ⟨X,24,none⟩ (.int .i64 0) (Or.inl (by simp))
 rw [set14] at h24
 refine ⟨T,G,rfl,h24,HB1.out.2.1.keep k24 (fun q hq => ?_),HB1.out.2.2,HB1.out.1.trans k24 (fun b hb=>Or.inl hb)⟩
 simp
 rintro rfl
 exact hn1 hq
end Go.Proofs.YtigfjedohdgjfaaGreatDoor.Pj
namespace Go.Proofs.YtigfjedohdgjfaaGreatDoor.Pj
open Go.ChangeShapes Go.WideShapes Go.ChangeAt Go.RowKit
open Tl (Wn wn0 nth numC Nl)
attribute [local go_sem ↓] Go.wp_at_zero Go.wp_at_succ
theorem JAt'.fz {w:World} {base X:Nat} {j:Jb} {y:Jv} (h:JAt' w base X j y) (i:Nat):w.frozen? ⟨X,i,none⟩=false:=frozen_at h.raw i
theorem JAt'.put {w w':World} {base X:Nat} {j j':Jb} {y:Jv} (h:JAt' w base X j y) (hr:w'.heap[X]? = some (.cells (jobC j' y) 70 (0,0))) (k:Keep [X] w w') (hj:j'.cf=j.cf∧j'.code=j.code∧j'.args=j.args∧j'.st=j.st∧j'.rt=j.rt∧j'.tl=j.tl∧j'.er=j.er∧j'.ak=j.ak∧j'.tx=j.tx):JAt' w' base X j' y:=by
 have hk:=h.kp k 0 (fun q hq=>Or.inl (by simpa using hq))
 obtain ⟨e1,e2,e3,e4,e5,e6,e7,e8,e9⟩:=hj
 refine ⟨hr, ?_, ?_, ?_, ?_, ?_, ?_, ?_, ?_,h.dj,h.bX⟩
 ·rw [e1]; exact hk.rg (by decide)
 ·rw [e3]; exact hk.ar (by decide)
 ·rw [e4]; exact hk.st (by decide)
 ·rw [e5]; exact hk.rt (by decide)
 ·rw [e6]; exact hk.tl (by decide)
 ·rw [e7]; exact hk.er (by decide)
 ·rw [e8]; exact hk.ak (by decide)
 ·rw [e9]; exact hk.tx (by decide)
theorem JAt'.stack {w w':World} {base X:Nat} {j:Jb} {y:Jv} {l:List Int} {sv:Value} (h:JAt' w base X j y) (hr:w'.heap[X]? = some (.cells (jobC { j with st:=l } { y with sv:=sv }) 70 (0,0))) (k:Keep (X :: bl y.sv) w w') (ho:w'.ownsRow base 2 1 sv l.length (numC l)) (hs : ∀ q ∈ bl sv,q ∈ bl y.sv∨w.heap.size≤q):JAt' w' base X { j with st:=l } { y with sv:=sv }:=by
 have hk:=h.kp k 3 (fun q hq=>by rcases List.mem_cons.1 hq with h1 | h1; exact Or.inl h1; exact Or.inr (Or.inl h1))
 exact ⟨hr,hk.rg (by decide),hk.ar (by decide),ho,hk.rt (by decide),hk.tl (by decide),hk.er (by decide),hk.ak (by decide),hk.tx (by decide),seg_set h.dj (fun a ha q hq=>(h.lt a ha q hq).2) 3 hs,h.bX⟩
theorem mem_segs {y:Jv} {X:Nat} (q:Nat):q ∈ (y.segs X).flatten ↔ q=X∨q ∈ bl y.rv∨q ∈ bl y.av∨q ∈ bl y.sv∨q ∈ bl y.rtv∨q ∈ bl y.tlv∨q ∈ bl y.ev∨q ∈ y.F∨q ∈ y.G:=by
 simp [Jv.segs]
theorem one_num (v:Int) : ∀ u ∈ [Value.int .i64 v],u.oneCell'=true:=by intro u hu; simp at hu; subst hu; rfl
theorem push_row (cf:Tl.Pc.Cf) (rv:Value) (n:Int) (code:ByteArray) (av:Value) (nr:Int) (tv:Value) (pub:Bool) (pl nx:Int) (sv rtv tlv:Value) (wt:Wn) (kv:Value) (rd:Int) (ev:Value) (ov:Bool) (er:Int) (u:Value):(Tl.Pg.jobR cf rv n code av nr tv pub pl nx sv rtv tlv wt kv rd ev ov er).setIfInBounds 16 u=Tl.Pg.jobR cf rv n code av nr tv pub pl nx u rtv tlv wt kv rd ev ov er:=by simp [Tl.Pg.jobR]
set_option maxRecDepth 10000 in
theorem push_any' {w:World} {base X:Nat} {j:Jb} {y:Jv} (h:JAt' w base X j y) (hb:base≤w.heap.size) (hl:j.st.length≤1000) (v:Int) :
  Calls Tryz.prog 43 #[.pointer (some ⟨X,0,none⟩),.int .i64 v] w fun e w' => ∃ sv,e = .returned (.tuple #[])∧JAt' w' base X (j.push v) { y with sv:=sv }∧(∀ q ∈ bl sv,q ∈ bl y.sv∨w.heap.size≤q)∧Keep (X :: bl y.sv) w w':=by
 have c16:w.cell? ⟨X,16,none⟩=some y.sv:=(cell_at h.raw 16).trans rfl
 have HJ:Hid (JAt' w base X j y):=h
 have HO:Hid (w.ownsRow base 2 1 y.sv j.st.length (numC j.st)):=h.st
 have hX:=heap_lt h.raw
 have hf:=h.fz 16
 have hne : ∀ q ∈ bl y.sv,q≠X:=fun q hq e=>by subst e; exact seg_dj h.dj (i:=0) (k:=3) (by decide) q (by simp [Jv.segs]) hq
 have HNE:Hid (y.sv.ownBlock≠some X):=fun e=>hne X (by simp [e]) rfl
 obtain ⟨i0,hi,hz0,hz1,hz2⟩:=Tl.info_parts Tl.info_i64
 clear h hne
 obtain ⟨sa,sc,hsv⟩:=own_slice HO.out
 generalize hS:y.sv=S0 at *
 subst hsv
 have hN:Hid (j.st.length=j.st.length):=rfl
 generalize hNN:j.st.length=n at *
 replace hN:Hid (j.st.length=n):=hNN
 clear hNN
 go_enter Tryz.func43,Tryz.ntmps43
 go_wp2_with (at_builtin; refine list_lies_wide _ rfl _ _ 25 rfl base 2 i0 _ 1 8 Tryz.underlying25 hi hz0 hz1 hz2 rfl (by decide) _ _ _ rfl (HO.out.alloc _) ⟨w.heap.size,0,none⟩ 1 1 [.int .i64 v] rfl rfl ?c1 ?c2 ?c3 ?c4 ?c5 ?c6 _ rfl ?_)
 case c1=>exact World.news_of_block (cs:=#[.int .i64 v]) (t:=2) (fr:=(0,0)) (heap_alloc_new _ _)
 case c2=>exact one_num v
 case c3=>decide
 case c4=>unfold maxLen; omega
 case c5=>omega
 case c6=>simp; omega
 intro g cp w2 hown hgrow hat hlt
 have hx2:w2.heap[X]? = some (.cells (jobC j y) 70 (0,0)):=((hgrow.block X (by simp; omega) (Ne.symm HNE.out)).trans (Below.heap_alloc _ _ _ hX)).trans HJ.out.raw
 have hk2:Keep (bl (.slice sa n sc)) w w2:=((Keep.refl _ _).alloc _).grown hgrow (fun b hb=>Or.inl (by simp [hb]))
 have HF:Hid (w2.heap[X]? = some (.cells (jobC j y) 70 (0,0))∧Keep (bl (.slice sa n sc)) w w2∧w2.ownsRow base 2 1 (.slice (some ⟨g,0,none⟩) (n+1) cp) (n+1) (numC j.st ++ [.int .i64 v])∧(∀ q ∈ bl (.slice (some ⟨g,0,none⟩) (n+1) cp),q ∈ bl (.slice sa n sc)∨w.heap.size≤q)):=by
  refine ⟨hx2,hk2,hown,fun q hq => ?_⟩
  simp [Value.ownBlock] at hq
  subst hq
  rcases hat with h1 | h1
  ·left; simp [h1]
  ·right; omega
 have x16:w2.cell? ⟨X,16,none⟩=some (.slice sa n sc):=by rw [cell_at hx2]; rw [← hS]; rfl
 have xf:w2.frozen? ⟨X,16,none⟩=false:=frozen_at hx2 16
 clear hx2 hk2 hown hgrow hat hlt c16 hf
 go_wp2_with fail
 go_end0
 obtain ⟨f1,f2,f3,f4⟩:=HF.out
 have r1:=heap_set f1 16 (.slice (some ⟨g,0,none⟩) (n+1) cp)
 unfold jobC at r1
 rw [push_row] at r1
 have kk:Keep (X :: bl (.slice sa n sc)) w (w2.setCell ⟨X,16,none⟩ (.slice (some ⟨g,0,none⟩) (n+1) cp)):=(f2.mono (fun b hb=>List.mem_cons_of_mem _ hb)).setCell _ _ (Or.inl (by simp))
 have f4o:=f4
 have kko:=kk
 rw [← hS] at kk f4
 refine ⟨.slice (some ⟨g,0,none⟩) (n+1) cp,rfl,HJ.out.stack r1 kk ?_ f4,f4o,kko⟩
 have hnl:(j.st ++ [v]).length=n+1:=by simp [hN.out]
 rw [hnl,Tl.numC_snoc]
 refine own_keep f3 ((Keep.refl [X] _).setCell _ _ (Or.inl (by simp))) (fun b hb => ?_)
 simp [Value.ownBlock] at hb
 subst hb
 simp
 rintro rfl
 rcases f4 g (by simp [Value.ownBlock]) with h1 | h1
 ·exact HNE.out (by rw [← hS]; simpa using h1)
 ·omega
theorem end_row (cf:Tl.Pc.Cf) (rv:Value) (n:Int) (code:ByteArray) (av:Value) (nr:Int) (tv:Value) (pub:Bool) (pl nx:Int) (sv rtv tlv:Value) (wt:Wn) (kv:Value) (rd:Int) (ev:Value) (ov:Bool) (er:Int) (u:Int):((Tl.Pg.jobR cf rv n code av nr tv pub pl nx sv rtv tlv wt kv rd ev ov er).setIfInBounds 26 (.bool true)).setIfInBounds 27 (.int .i64 u)=Tl.Pg.jobR cf rv n code av nr tv pub pl nx sv rtv tlv wt kv rd ev true u:=by simp [Tl.Pg.jobR]
theorem end_any' {w:World} {base X:Nat} {j:Jb} {y:Jv} (h:JAt' w base X j y) (u:Int) :
  Calls Tryz.prog 96 #[.pointer (some ⟨X,0,none⟩),.int .i64 u] w fun e w' => e = .returned (.tuple #[])∧JAt' w' base X { j with ov:=true,err:=u } y∧Keep [X] w w':=by
 have c26:w.cell? ⟨X,26,none⟩=some (.bool j.ov):=(cell_at h.raw 26).trans rfl
 have c27:w.cell? ⟨X,27,none⟩=some (.int .i64 j.err):=(cell_at h.raw 27).trans rfl
 have f26:=h.fz 26
 have f27:=h.fz 27
 have HJ:Hid (JAt' w base X j y):=h
 have hX:=heap_lt h.raw
 clear h
 go_enter Tryz.func96,Tryz.ntmps96
 go_wp2_with fail
 go_end0
 have r:=heap_set (heap_set HJ.out.raw 26 (.bool true)) 27 (.int .i64 u)
 unfold jobC at r
 rw [end_row] at r
 have k:Keep [X] w ((w.setCell ⟨X,26,none⟩ (.bool true)).setCell ⟨X,27,none⟩ (.int .i64 u)):=((Keep.refl [X] w).setCell _ _ (Or.inl (by simp))).setCell _ _ (Or.inl (by simp))
 exact ⟨rfl,HJ.out.put r k ⟨rfl,rfl,rfl,rfl,rfl,rfl,rfl,rfl,rfl⟩,k⟩
def overV (j:Jb) (c r:Nat):Bool:=decide ((r:Int)=j.cf.ring) && decide ((Tl.Pc.cellsV j.cf).1≤(c:Int))
theorem goes_any {w:World} {base X:Nat} {j:Jb} {y:Jv} (h:JAt' w base X j y) {bm:Nat} {p:Value} {c r:Nat} {L:List Ac} {F:List Nat} (hm:MemAt w bm p c r L F) :
  Calls Tryz.prog 24 #[.pointer (some ⟨X,0,none⟩),p] w fun e w' => e = .returned (.bool (overV j c r))∧Below w.heap.size w w':=by
 have HS:Hid (Calls Tryz.prog 40 #[p] w fun e w' => e = .returned (.tuple #[.int .i64 (c:Int),.int .i64 (r:Int)])∧Below w.heap.size w w'):=sizes_any hm
 have c1:w.cell? ⟨X,1,none⟩=some (.int .i64 j.cf.ring):=(cell_at h.raw 1).trans rfl
 have c8:w.cell? ⟨X,8,none⟩=some (.int .i64 (Tl.Pc.cellsV j.cf).1):=(cell_at h.raw 8).trans rfl
 have hX:=heap_lt h.raw
 obtain ⟨M,rfl⟩ : ∃ M,p = .pointer (some ⟨M,0,none⟩):=by
  obtain ⟨M,_,_,_,_,hm⟩:=hm
  exact ⟨M,hm.p⟩
 unfold overV
 generalize (Tl.Pc.cellsV j.cf).1=z at *
 generalize j.cf.ring=q at *
 clear h hm
 go_enter Tryz.func24,Tryz.ntmps24
 go_wp2_with fail
 refine HS.out.mono ?_
 rintro e w1 ⟨rfl,hw⟩
 have d1:=cell_later hw (a:=⟨X,1,none⟩) hX c1
 have d8:=cell_later hw (a:=⟨X,8,none⟩) hX c8
 have hX1:=Nat.lt_of_lt_of_le hX hw.size
 have HB:Hid (Below w.heap.size w w1):=hw
 clear c1 c8 hw
 by_cases hq:(r:Int)=q
 ·subst hq
  go_wp2_with fail
  go_ret
  simp
  exact HB.out
 ·have hqd:decide ((r:Int)=q)=false:=by simpa using hq
  have hqe:((r:Int) == q)=false:=by simpa using hq
  go_wp2_with fail
  go_ret
  simp [hq]
  exact HB.out
end Go.Proofs.YtigfjedohdgjfaaGreatDoor.Pj
namespace Go.Proofs.YtigfjedohdgjfaaGreatDoor.Pj
open Go.ChangeShapes Go.WideShapes Go.ChangeAt Go.RowKit
open Tl (Wn wn0 nth numC Nl)
attribute [local go_sem ↓] Go.wp_at_zero Go.wp_at_succ
theorem set_pub (cf:Tl.Pc.Cf) (rv:Value) (n:Int) (code:ByteArray) (av:Value) (nr:Int) (tv:Value) (pub:Bool) (pl nx:Int) (sv rtv tlv:Value) (wt:Wn) (kv:Value) (rd:Int) (ev:Value) (ov:Bool) (er:Int) (u:Bool):((Tl.Pg.jobR cf rv n code av nr tv pub pl nx sv rtv tlv wt kv rd ev ov er).setIfInBounds 13 (.bool u))=Tl.Pg.jobR cf rv n code av nr tv u pl nx sv rtv tlv wt kv rd ev ov er:=by simp [Tl.Pg.jobR]
theorem set_wt (cf:Tl.Pc.Cf) (rv:Value) (n:Int) (code:ByteArray) (av:Value) (nr:Int) (tv:Value) (pub:Bool) (pl nx:Int) (sv rtv tlv:Value) (wt:Wn) (kv:Value) (rd:Int) (ev:Value) (ov:Bool) (er:Int) (u:Wn):(((((Tl.Pg.jobR cf rv n code av nr tv pub pl nx sv rtv tlv wt kv rd ev ov er).setIfInBounds 19 (.int .i64 u.kind)).setIfInBounds 20 (.int .i64 u.cell)).setIfInBounds 21 (.int .i64 u.val)).setIfInBounds 22 (.int .i64 u.code))=Tl.Pg.jobR cf rv n code av nr tv pub pl nx sv rtv tlv u kv rd ev ov er:=by simp [Tl.Pg.jobR]
theorem fin_idle {w:World} {base X:Nat} {j:Jb} {y:Jv} (h:JAt' w base X j y) (hk:j.wt.kind=1∨j.wt.kind=5) (v:Int) :
  Calls Tryz.prog 48 #[.pointer (some ⟨X,0,none⟩),.int .i64 v] w fun e w' => e = .returned (.tuple #[])∧w'=w:=by
 have c19:w.cell? ⟨X,19,none⟩=some (.int .i64 j.wt.kind):=(cell_at h.raw 19).trans rfl
 have hX:=heap_lt h.raw
 generalize j.wt.kind=z at *
 clear h
 rcases hk with rfl | rfl
 all_goals
  go_enter Tryz.func48,Tryz.ntmps48
  go_wp2_with fail
  go_end0
  simp
theorem fin_comm {w:World} {base X:Nat} {j:Jb} {y:Jv} (h:JAt' w base X j y) (hk:j.wt.kind=4) (v:Int) :
  Calls Tryz.prog 48 #[.pointer (some ⟨X,0,none⟩),.int .i64 v] w fun e w' => e = .returned (.tuple #[])∧JAt' w' base X { j with ov:=true,err:=0 } y∧Keep [X] w w':=by
 have c19:w.cell? ⟨X,19,none⟩=some (.int .i64 4):=by rw [← hk]; exact (cell_at h.raw 19).trans rfl
 have hX:=heap_lt h.raw
 have HE:Hid (Calls Tryz.prog 96 #[.pointer (some ⟨X,0,none⟩),.int .i64 0] w fun e w' => e = .returned (.tuple #[])∧JAt' w' base X { j with ov:=true,err:=0 } y∧Keep [X] w w'):=end_any' h 0
 clear h hk
 go_enter Tryz.func48,Tryz.ntmps48
 go_wp2_with fail
 refine HE.out.mono ?_
 rintro e w1 ⟨rfl,h1,h2⟩
 go_wp2_with fail
 go_end0
 exact ⟨rfl,h1,h2⟩
end Go.Proofs.YtigfjedohdgjfaaGreatDoor.Pj
namespace Go.Proofs.YtigfjedohdgjfaaGreatDoor.Pj
open Go.ChangeShapes Go.WideShapes Go.ChangeAt Go.RowKit
open Tl (Wn wn0 nth numC Nl)
attribute [local go_sem ↓] Go.wp_at_zero Go.wp_at_succ
def pubJ (j:Jb):Jb:={ j with pub:=j.pub || decide (j.tx.phase=5) }
structure HW (w w1:World) (base X:Nat) (j:Jb) (y:Jv) (k e v:Int) (g:Bool):Prop where
 job:JAt' w1 base X j y
 arg:w1.heap[w.heap.size]? = some (.cells #[.int .i64 k,.int .i64 e,.int .i64 v,.bool g] 51 (0,0))
 res:w1.heap[w.heap.size+1]? = some (.cells #[.int .i64 0,.int .i64 0,.int .i64 0,.bool false] 51 (0,0))
 kp:Keep [X] w w1
theorem an_cells {w:World} {B:Nat} {k e v:Int} {g:Bool} (h:w.heap[B]? = some (.cells #[.int .i64 k,.int .i64 e,.int .i64 v,.bool g] 51 (0,0))) :
  w.cell? ⟨B,0,none⟩=some (.int .i64 k)∧w.cell? ⟨B,1,none⟩=some (.int .i64 e)∧w.cell? ⟨B,2,none⟩=some (.int .i64 v)∧w.cell? ⟨B,3,none⟩=some (.bool g):=⟨(cell_at h 0).trans rfl,(cell_at h 1).trans rfl,(cell_at h 2).trans rfl,(cell_at h 3).trans rfl⟩
theorem HW.pub {w w1:World} {base X:Nat} {j:Jb} {y:Jv} {k e v:Int} {g:Bool} (h:HW w w1 base X j y k e v g) (b:Bool) (hX:X < w.heap.size):HW w (w1.setCell ⟨X,13,none⟩ (.bool b)) base X { j with pub:=b } y k e v g:=by
 have r:=heap_set h.job.raw 13 (.bool b)
 unfold jobC at r
 rw [set_pub] at r
 have kk:Keep [X] w1 (w1.setCell ⟨X,13,none⟩ (.bool b)):=(Keep.refl [X] w1).setCell _ _ (Or.inl (by simp))
 exact ⟨h.job.put (j':={ j with pub:=b }) r kk ⟨rfl,rfl,rfl,rfl,rfl,rfl,rfl,rfl,rfl⟩,(heap_set_other _ _ (by omega)).trans h.arg,(heap_set_other _ _ (by omega)).trans h.res,h.kp.trans kk (fun b hb=>Or.inl hb)⟩
theorem HW.first {w w1:World} {base X:Nat} {j:Jb} {y:Jv} {k e v:Int} {g:Bool} (h:JAt' w base X j y)
  (hb:Below ((w.alloc (.cells #[.int .i64 k,.int .i64 e,.int .i64 v,.bool g] 51)).alloc (.cells #[.int .i64 0,.int .i64 0,.int .i64 0,.bool false] 51)).heap.size ((w.alloc (.cells #[.int .i64 k,.int .i64 e,.int .i64 v,.bool g] 51)).alloc (.cells #[.int .i64 0,.int .i64 0,.int .i64 0,.bool false] 51)) w1):HW w w1 base X j y k e v g:=by
 have hb1:Below w.heap.size w w1:=below_then (below_then (below_a1 _ _) (below_a1 _ _)) hb
 exact ⟨h.keep (Keep.of_below hb1 []) (by simp),Tl.row_next1 ⟨hb.os,hb.tape,hb.output,hb.size,hb.block⟩,Tl.row_next2 ⟨hb.os,hb.tape,hb.output,hb.size,hb.block⟩,Keep.of_below hb1 _⟩
abbrev fl (y:Jv) (X:Nat):List Nat:=(y.segs X).flatten
theorem mem_fl {y:Jv} {X q:Nat}:q ∈ fl y X ↔ ∃ a ∈ y.segs X,q ∈ a:=by simp only [fl,List.mem_flatten]
set_option maxRecDepth 10000 in
theorem heed_pass {w:World} {base X:Nat} {j:Jb} {y:Jv} (h:JAt' w base X j y) (hp:j.pub=false) (k e v:Int) (g:Bool) (h3:k≠3) (h4:k≠4) :
  Calls Tryz.prog 29 #[.pointer (some ⟨X,0,none⟩),anV k e v g] w fun ee w' => ee = .returned (anV k e v g)∧JAt' w' base X (pubJ j) y∧Keep [X] w w':=by
 have HPH : Hid (∀ w', Below w.heap.size w w' → Calls Tryz.prog 25 #[.pointer (some ⟨y.T, 0, none⟩)] w' fun e w'' => e = .returned (.int .i64 j.tx.phase) ∧ Below w'.heap.size w' w'') := fun w' hb => phase_any (h.tx.below hb)
 have c12:w.cell? ⟨X,12,none⟩=some (.pointer (some ⟨y.T,0,none⟩)):=(cell_at h.raw 12).trans rfl
 have c13:w.cell? ⟨X,13,none⟩=some (.bool false):=by rw [← hp]; exact (cell_at h.raw 13).trans rfl
 have hX:=heap_lt h.raw
 have HJ:Hid (JAt' w base X j y):=h
 have HLT:Hid (∀ a ∈ y.segs X,∀ q ∈ a,q < w.heap.size):=fun a ha q hq=>(h.lt a ha q hq).2
 have k3:(k == 3)=false:=by simpa using h3
 have k4:(k == 4)=false:=by simpa using h4
 have HPJ:Hid (pubJ j = { j with pub:=j.tx.phase == 5 }):=by unfold Hid pubJ; rw [hp]; rfl
 clear h h3 h4
 unfold anV
 go_enter Tryz.func29,Tryz.ntmps29
 go_wp2_with fail
 refine (HPH.out _ (below_then (below_a1 _ _) (below_a1 _ _))).mono ?_
 rintro ee w1 ⟨rfl,hb1⟩
 have hw:=HW.first HJ.out hb1
 have HW1:Hid (HW w w1 base X j y k e v g):=hw
 have d13:w1.cell? ⟨X,13,none⟩=some (.bool false):=by rw [← hp]; exact (cell_at hw.job.raw 13).trans rfl
 have f13:=hw.job.fz 13
 obtain ⟨p0,p1,p2,p3⟩:=an_cells hw.arg
 obtain ⟨z0,z1,z2,z3⟩:=an_cells hw.res
 have fz:=frozen_at hw.res
 have hX1:=heap_lt hw.job.raw
 have hl1:=heap_lt hw.res
 have n1:X≠w.heap.size:=by omega
 have n2:X≠w.heap.size+1:=by omega
 clear hb1 hw HPH c12 c13 HJ
 go_wp2_with fail
 have hz:=HW1.out.pub (j.tx.phase == 5) hX
 refine ret_ans rfl rfl (Co.ansW_set rfl hz.res k e v g) rfl rfl ⟨rfl, ?_, ?_⟩
 ·rw [HPJ.out]
  exact hz.job.keep (Co.keepWB k e v g) (fun a ha q hq=>by have:=HLT.out a ha q hq; simp; omega)
 ·exact hz.kp.trans (Co.keepWB k e v g) (fun b hb=>Or.inr (by simp at hb; omega))
set_option maxRecDepth 10000 in
set_option maxHeartbeats 2000000 in
theorem heed_done {w:World} {base X:Nat} {j j2:Jb} {y:Jv} (h:JAt' w base X j y) (hp:j.pub=false) (e v:Int) (g:Bool)
  (HF : ∀ w1, JAt' w1 base X (pubJ j) y → w.heap.size ≤ w1.heap.size → Calls Tryz.prog 48 #[.pointer (some ⟨X, 0, none⟩), .int .i64 v] w1 fun ee w2 => ee = .returned (.tuple #[]) ∧ ∃ y', JAt' w2 base X j2 y' ∧ Next (fl y X) (fl y' X) w1 w2) :
  Calls Tryz.prog 29 #[.pointer (some ⟨X, 0, none⟩), anV 3 e v g] w fun ee w' => ee = .returned (anV (if j2.ov = true then 3 else 2) 0 0 g) ∧ ∃ y', JAt' w' base X j2 y' ∧ Next (fl y X) (fl y' X) w w' := by
 have HPH : Hid (∀ w', Below w.heap.size w w' → Calls Tryz.prog 25 #[.pointer (some ⟨y.T, 0, none⟩)] w' fun e w'' => e = .returned (.int .i64 j.tx.phase) ∧ Below w'.heap.size w' w'') := fun w' hb => phase_any (h.tx.below hb)
 have c12:w.cell? ⟨X,12,none⟩=some (.pointer (some ⟨y.T,0,none⟩)):=(cell_at h.raw 12).trans rfl
 have c13:w.cell? ⟨X,13,none⟩=some (.bool false):=by rw [← hp]; exact (cell_at h.raw 13).trans rfl
 have hX:=heap_lt h.raw
 have HJ:Hid (JAt' w base X j y):=h
 have HLT:Hid (∀ a ∈ y.segs X,∀ q ∈ a,q < w.heap.size):=fun a ha q hq=>(h.lt a ha q hq).2
 have HPJ:Hid (pubJ j = { j with pub:=j.tx.phase == 5 }):=by unfold Hid pubJ; rw [hp]; rfl
 have HFF : Hid (∀ w1, JAt' w1 base X (pubJ j) y → w.heap.size ≤ w1.heap.size → Calls Tryz.prog 48 #[.pointer (some ⟨X, 0, none⟩), .int .i64 v] w1 fun ee w2 => ee = .returned (.tuple #[]) ∧ ∃ y', JAt' w2 base X j2 y' ∧ Next (fl y X) (fl y' X) w1 w2) := HF
 clear h HF
 obtain ⟨kk,hkk⟩ : ∃ kk:Int,kk=if j2.ov=true then 3 else 2:=⟨_,rfl⟩
 rw [← hkk]
 have HKK:Hid (kk=if j2.ov=true then 3 else 2):=hkk
 clear hkk
 unfold anV
 go_enter Tryz.func29,Tryz.ntmps29
 go_wp2_with fail
 refine (HPH.out _ (below_then (below_a1 _ _) (below_a1 _ _))).mono ?_
 rintro ee w1 ⟨rfl,hb1⟩
 have hw:=HW.first HJ.out hb1
 have HW1:Hid (HW w w1 base X j y 3 e v g):=hw
 have d13:w1.cell? ⟨X,13,none⟩=some (.bool false):=by rw [← hp]; exact (cell_at hw.job.raw 13).trans rfl
 have f13:=hw.job.fz 13
 obtain ⟨p0,p1,p2,p3⟩:=an_cells hw.arg
 obtain ⟨z0,z1,z2,z3⟩:=an_cells hw.res
 have fz:=frozen_at hw.res
 have hX1:=heap_lt hw.job.raw
 have hl1:=heap_lt hw.res
 have n1:X≠w.heap.size:=by omega
 have n2:X≠w.heap.size+1:=by omega
 clear hb1 hw HPH c12 c13 HJ
 go_wp2_with fail
 have hz:=HW1.out.pub (j.tx.phase == 5) hX
 rw [← HPJ.out] at hz
 have hsz:w.heap.size≤w1.heap.size:=HW1.out.kp.size
 refine (HFF.out _ hz.job (by simpa using hsz)).mono ?_
 rintro ee w2 ⟨rfl, y', h2, hn⟩
 have hne : ∀ b,w.heap.size≤b→b ∉ fl y X:=fun b hb hq=>by
  obtain ⟨a,ha,hq⟩:=mem_fl.1 hq
  have:=HLT.out a ha b hq
  omega
 have ha2:w2.heap[w.heap.size]? = some (.cells #[.int .i64 3,.int .i64 e,.int .i64 v,.bool g] 51 (0,0)):=(hn.1.block _ (heap_lt hz.arg) (hne _ (Nat.le_refl _))).trans hz.arg
 have hr2:w2.heap[w.heap.size+1]? = some (.cells #[.int .i64 0,.int .i64 0,.int .i64 0,.bool false] 51 (0,0)):=(hn.1.block _ (heap_lt hz.res) (hne _ (by omega))).trans hz.res
 have HN:Hid (JAt' w2 base X j2 y'∧Next (fl y X) (fl y' X) w w2):=⟨h2,hz.kp.mono (fun b hb=>by simp at hb; subst hb; exact mem_fl.2 ⟨[b],by simp [Jv.segs],by simp⟩) |>.trans hn.1 (fun b hb=>Or.inl hb),fun q hq=>by
    rcases hn.2 q hq with h1 | h1
    · exact Or.inl h1
    · right; have:w.heap.size≤w1.heap.size:=hsz; simp at h1; omega⟩
 have e26:w2.cell? ⟨X,26,none⟩=some (.bool j2.ov):=(cell_at h2.raw 26).trans rfl
 have hX2:=heap_lt h2.raw
 obtain ⟨t0,t1,t2,t3⟩:=an_cells ha2
 obtain ⟨s0,s1,s2,s3⟩:=an_cells hr2
 have fs:=frozen_at hr2
 have hl2:=heap_lt hr2
 have HR2:Hid (w2.heap[w.heap.size+1]? = some (.cells #[.int .i64 0,.int .i64 0,.int .i64 0,.bool false] 51 (0,0))):=hr2
 have HQ:Hid (∀ q ∈ fl y' X,q≠w.heap.size+1):=fun q hq e=>by
  rcases hn.2 q hq with h1 | h1
  ·exact hne q (by omega) h1
  ·have:=heap_lt hz.res; omega
 clear h2 hn hne ha2 hr2 hz p0 p1 p2 p3 z0 z1 z2 z3 fz d13 f13 HFF HLT
 cases hov:j2.ov
 ·rw [hov] at e26
  go_wp2_with fail
  obtain ⟨q1,q2⟩:=HN.out
  have hkk:kk=2:=by rw [HKK.out,hov]; rfl
  have w1a:=Co.ansW_set rfl HR2.out 2 0 0 g
  have w1b:=q1.keep (Co.keepWB (w:=w2) (B:=w.heap.size+1) 2 0 0 g) (fun a ha q hq=>by have:=HQ.out q (mem_fl.2 ⟨a,ha,hq⟩); simpa using this)
  have w1c:Keep (fl y X) w (Co.laidW w2 (w.heap.size+1) 2 0 0 g):=q2.1.trans (Co.keepWB (w:=w2) (B:=w.heap.size+1) 2 0 0 g) (fun b hb=>Or.inr (by simp at hb; omega))
  exact ret_ans rfl rfl w1a rfl rfl ⟨by rw [hkk], y', w1b, w1c, q2.2⟩
 ·rw [hov] at e26
  go_wp2_with fail
  obtain ⟨q1,q2⟩:=HN.out
  have hkk:kk=3:=by rw [HKK.out,hov]; rfl
  have w1a:=Co.ansW_set rfl HR2.out 3 0 0 g
  have w1b:=q1.keep (Co.keepWB (w:=w2) (B:=w.heap.size+1) 3 0 0 g) (fun a ha q hq=>by have:=HQ.out q (mem_fl.2 ⟨a,ha,hq⟩); simpa using this)
  have w1c:Keep (fl y X) w (Co.laidW w2 (w.heap.size+1) 3 0 0 g):=q2.1.trans (Co.keepWB (w:=w2) (B:=w.heap.size+1) 3 0 0 g) (fun b hb=>Or.inr (by simp at hb; omega))
  exact ret_ans rfl rfl w1a rfl rfl ⟨by rw [hkk], y', w1b, w1c, q2.2⟩
end Go.Proofs.YtigfjedohdgjfaaGreatDoor.Pj
namespace Go.Proofs.YtigfjedohdgjfaaGreatDoor.Pj
open Go.ChangeShapes Go.WideShapes Go.ChangeAt Go.RowKit
open Tl (Wn wn0 nth numC Nl)
attribute [local go_sem ↓] Go.wp_at_zero Go.wp_at_succ
theorem seg_set' {S:List (List Nat)} {B:List Nat} (h:S.Pairwise Dj) : ∀ (i:Nat),(∀ q ∈ B,q ∈ S.getD i [] ∨ ∀ a ∈ S,q ∉ a)→(S.set i B).Pairwise Dj:=by
 induction h with
 | nil=>intro i _; exact List.Pairwise.nil
 | @cons a l ha hp ih =>
  intro i hs
  cases i with
  | zero =>
   simp only [List.set_cons_zero]
   refine List.Pairwise.cons (fun x hx q hq hqx => ?_) hp
   rcases hs q hq with h1 | h1
   ·exact ha x hx q (by simpa using h1) hqx
   ·exact h1 x (List.mem_cons_of_mem _ hx) hqx
  | succ i =>
   simp only [List.set_cons_succ]
   refine List.Pairwise.cons (fun x hx q hq hqx => ?_) (ih i (fun q hq=>by
        rcases hs q hq with h1 | h1
        · exact Or.inl (by simpa using h1)
        · exact Or.inr (fun a ha=>h1 a (List.mem_cons_of_mem _ ha))))
   rcases List.mem_or_eq_of_mem_set hx with h1 | rfl
   ·exact ha x h1 q hq hqx
   ·rcases hs q hqx with h1 | h1
    ·simp only [List.getD_cons_succ] at h1
     by_cases hl:i < l.length
     ·rw [List.getD_eq_getElem?_getD,List.getElem?_eq_getElem hl] at h1
      exact ha _ (List.getElem_mem hl) q hq h1
     ·rw [List.getD_eq_getElem?_getD,List.getElem?_eq_none (by omega)] at h1
      simp at h1
    ·exact h1 a List.mem_cons_self hq
theorem JAt'.onTx {w w':World} {base X:Nat} {j:Jb} {y:Jv} {K:List Nat} {x:Tx} {G:List Nat} (h:JAt' w base X j y) (k:Keep K w w') (hK : ∀ q ∈ K,q ∈ y.G∨q ∉ fl y X) (hx:TxAt w' base y.T x G) (hG : ∀ q ∈ G,q ∈ y.G∨q ∉ fl y X):JAt' w' base X { j with tx:=x } { y with G:=G }:=by
 have hm : ∀ n,n < 8 → ∀ q ∈ (y.segs X).getD n [],q ∉ K:=by
  intro n hn q hq hk
  have hl:n < (y.segs X).length:=by show n < 9; omega
  have hm:(y.segs X).getD n [] ∈ y.segs X:=by
   rw [List.getD_eq_getElem?_getD,List.getElem?_eq_getElem hl]
   exact List.getElem_mem hl
  rcases hK q hk with h1 | h1
  ·exact seg_dj h.dj (i:=8) (k:=n) (by omega) q h1 hq
  ·exact h1 (mem_fl.2 ⟨_,hm,hq⟩)
 refine ⟨(k.block X (heap_lt h.raw) (hm 0 (by decide) X (by simp [Jv.segs]))).trans h.raw,own_kp h.rg k (hm 1 (by decide)),own_kp h.ar k (hm 2 (by decide)),own_kp h.st k (hm 3 (by decide)),own_kp h.rt k (hm 4 (by decide)),own_kp h.tl k (hm 5 (by decide)),own_kp h.er k (hm 6 (by decide)),h.ak.keep k (hm 7 (by decide)),hx,seg_set' h.dj 8 (fun q hq=>(hG q hq).imp id (fun h1 a ha h2=>h1 (mem_fl.2 ⟨a,ha,h2⟩))),h.bX⟩
structure JW (w:World) (base:Nat) (p:Value) (c r:Nat) (L:List Ac) (F:List Nat) (X:Nat) (j:Jb) (y:Jv):Prop where
 mem:MemAt w base p c r L F
 job:JAt' w base X j y
 out : ∀ q ∈ fl y X,q ∉ F
theorem JW.below {w w':World} {base:Nat} {p:Value} {c r:Nat} {L:List Ac} {F:List Nat} {X:Nat} {j:Jb} {y:Jv} (h:JW w base p c r L F X j y) (k:Below w.heap.size w w'):JW w' base p c r L F X j y:=⟨h.mem.below k,h.job.keep (Keep.of_below k []) (by simp),h.out⟩
theorem JW.tm {w:World} {base:Nat} {p:Value} {c r:Nat} {L:List Ac} {F:List Nat} {X:Nat} {j:Jb} {y:Jv} (h:JW w base p c r L F X j y):TM w base p c r L F y.T j.tx y.G:=⟨h.mem,h.job.tx,fun q hq=>h.out q (mem_fl.2 ⟨y.G,by simp [Jv.segs],hq⟩)⟩
theorem JW.onJob {w w':World} {base:Nat} {p:Value} {c r:Nat} {L:List Ac} {F:List Nat} {X:Nat} {j j':Jb} {y y':Jv} (h:JW w base p c r L F X j y) (hj:JAt' w' base X j' y') (hn:Next (fl y X) (fl y' X) w w'):JW w' base p c r L F X j' y':=⟨h.mem.keep hn.1 (fun b hb hg=>h.out b hg hb),hj,fun q hq hF=>by
  rcases hn.2 q hq with h1 | h1
  · exact h.out q h1 hF
  · have:=(h.mem.lt q hF).2; omega⟩
theorem JW.onTx {w w':World} {base:Nat} {p:Value} {c r:Nat} {L L':List Ac} {F F':List Nat} {X:Nat} {j:Jb} {y:Jv} {x:Tx} {G:List Nat} (h:JW w base p c r L F X j y) (ht:TM w' base p c r L' F' y.T x G) (hn:Next (y.G++F) (G++F') w w') :
  JW w' base p c r L' F' X { j with tx:=x } { y with G:=G }∧Next (fl y X++F) (fl { y with G:=G } X++F') w w':=by
 have hnew : ∀ q,w.heap.size≤q→q ∉ fl y X:=fun q hq h1=>by
  obtain ⟨a,ha,h2⟩:=mem_fl.1 h1
  have:=(h.job.lt a ha q h2).2
  omega
 have hF : ∀ q ∈ F,q ∉ fl y X:=fun q hq h1=>h.out q h1 hq
 have hG : ∀ q ∈ G,q ∈ y.G∨q ∉ fl y X:=fun q hq=>by
  rcases hn.2 q (List.mem_append.2 (Or.inl hq)) with h1 | h1
  ·rcases List.mem_append.1 h1 with h2 | h2
   ·exact Or.inl h2
   ·exact Or.inr (hF q h2)
  ·exact Or.inr (hnew q h1)
 have hj:=h.job.onTx hn.1 (fun q hq=>(List.mem_append.1 hq).imp id (hF q)) ht.tx hG
 have hgf : ∀ q ∈ fl { y with G:=G } X,q ∈ fl y X∨q ∈ G:=fun q hq=>by
  rw [fl,mem_segs] at hq ⊢
  simp only at hq
  rcases hq with h1 | h1 | h1 | h1 | h1 | h1 | h1 | h1 | h1 <;> simp [h1]
 have hgy : ∀ q ∈ y.G,q ∈ fl y X:=fun q hq=>mem_fl.2 ⟨y.G,by simp [Jv.segs],hq⟩
 refine ⟨⟨ht.mem,hj,fun q hq hF' => ?_⟩,hn.1.mono (fun q hq => ?_),fun q hq => ?_⟩
 ·by_cases hqG:q ∈ G
  ·exact ht.out q hqG hF'
  ·have h1:=(hgf q hq).resolve_right hqG
   rcases hn.2 q (List.mem_append.2 (Or.inr hF')) with h2 | h2
   ·rcases List.mem_append.1 h2 with h3 | h3
    ·have h4:=(mem_segs q).1 hq
     simp only at h4
     have hd:=fun (n:Nat) (hn:n≠8)=>seg_dj h.job.dj (i:=8) (k:=n) (Ne.symm hn) q h3
     rcases h4 with h5 | h5 | h5 | h5 | h5 | h5 | h5 | h5 | h5
     ·exact hd 0 (by decide) (by simp [Jv.segs,h5])
     ·exact hd 1 (by decide) h5
     ·exact hd 2 (by decide) h5
     ·exact hd 3 (by decide) h5
     ·exact hd 4 (by decide) h5
     ·exact hd 5 (by decide) h5
     ·exact hd 6 (by decide) h5
     ·exact hd 7 (by decide) h5
     ·exact hqG h5
    ·exact hF q h3 h1
   ·exact hnew q h2 h1
 ·rcases List.mem_append.1 hq with h1 | h1
  ·exact List.mem_append.2 (Or.inl (hgy q h1))
  ·exact List.mem_append.2 (Or.inr h1)
 ·have hq2:q ∈ fl y X∨q ∈ G++F':=by
   rcases List.mem_append.1 hq with h1 | h1
   ·exact (hgf q h1).imp id (fun h=>List.mem_append.2 (Or.inl h))
   ·exact Or.inr (List.mem_append.2 (Or.inr h1))
  rcases hq2 with h1 | h1
  ·exact Or.inl (List.mem_append.2 (Or.inl h1))
  ·rcases hn.2 q h1 with h2 | h2
   ·rcases List.mem_append.1 h2 with h3 | h3
    ·exact Or.inl (List.mem_append.2 (Or.inl (hgy q h3)))
    ·exact Or.inl (List.mem_append.2 (Or.inr h3))
   ·exact Or.inr h2
theorem wt_set {w:World} {base X:Nat} {j:Jb} {y:Jv} (h:JAt' w base X j y) (a:Wn):JAt' ((((w.setCell ⟨X,19,none⟩ (.int .i64 a.kind)).setCell ⟨X,20,none⟩ (.int .i64 a.cell)).setCell ⟨X,21,none⟩ (.int .i64 a.val)).setCell ⟨X,22,none⟩ (.int .i64 a.code)) base X { j with wt:=a } y∧Keep [X] w ((((w.setCell ⟨X,19,none⟩ (.int .i64 a.kind)).setCell ⟨X,20,none⟩ (.int .i64 a.cell)).setCell ⟨X,21,none⟩ (.int .i64 a.val)).setCell ⟨X,22,none⟩ (.int .i64 a.code)):=by
 have r:=heap_set (heap_set (heap_set (heap_set h.raw 19 (.int .i64 a.kind)) 20 (.int .i64 a.cell)) 21 (.int .i64 a.val)) 22 (.int .i64 a.code)
 unfold jobC at r
 rw [set_wt] at r
 have k:Keep [X] w ((((w.setCell ⟨X,19,none⟩ (.int .i64 a.kind)).setCell ⟨X,20,none⟩ (.int .i64 a.cell)).setCell ⟨X,21,none⟩ (.int .i64 a.val)).setCell ⟨X,22,none⟩ (.int .i64 a.code)):=((((Keep.refl [X] w).setCell _ _ (Or.inl (by simp))).setCell _ _ (Or.inl (by simp))).setCell _ _ (Or.inl (by simp))).setCell _ _ (Or.inl (by simp))
 exact ⟨h.put (j':={ j with wt:=a }) r k ⟨rfl,rfl,rfl,rfl,rfl,rfl,rfl,rfl,rfl⟩,k⟩
end Go.Proofs.YtigfjedohdgjfaaGreatDoor.Pj
namespace Go.Proofs.YtigfjedohdgjfaaGreatDoor.Pj
open Go.ChangeShapes Go.WideShapes Go.ChangeAt Go.RowKit
open Tl (Wn wn0 nth numC Nl)
attribute [local go_sem ↓] Go.wp_at_zero Go.wp_at_succ
theorem do_res {w W0 w1 w2:World} {R:Nat} {o:Obj} {A B C D:List Nat} {F:List Nat} (h:W0.heap[R]? = some o) (k1:Next (A++F) (B++D) W0 w1) (k2:Next B C w1 w2) (hl : ∀ q ∈ A++F,q < w.heap.size) (hR:R < W0.heap.size) (hw:w.heap.size≤R):w2.heap[R]? = some o:=by
 have n1:R ∉ A++F:=fun hq=>by have:=hl R hq; omega
 have h1:w1.heap[R]? = some o:=(k1.1.block R hR n1).trans h
 have n2:R ∉ B:=fun hq=>by
  rcases k1.2 R (List.mem_append.2 (Or.inl hq)) with h2 | h2
  ·exact n1 h2
  ·omega
 exact (k2.1.block R (heap_lt h1) n2).trans h1
theorem do_fin {w W0 w1 w2 w3:World} {base:Nat} {p:Value} {c r:Nat} {L:List Ac} {F F1:List Nat} {X R:Nat} {j1 j':Jb} {y y1 y':Jv} (hK0:Keep [X] w W0) (k1:Next (fl y X++F) (fl y1 X++F1) W0 w1) (q1:JW w1 base p c r L F1 X j1 y1) (q2:JAt' w2 base X j' y') (k2:Next (fl y1 X) (fl y' X) w1 w2) (hl : ∀ q ∈ fl y X++F,q < w.heap.size) (hR:R < W0.heap.size) (hw:w.heap.size≤R) (hk:Keep [R] w2 w3) :
  JW w3 base p c r L F1 X j' y'∧Next (fl y X++F) (fl y' X++F1) w w3:=by
 have s0:=hK0.size
 have s1:=k1.1.size
 have n2:R ∉ fl y1 X++F1:=fun hq=>by
  rcases k1.2 R hq with h2 | h2
  ·have:=hl R h2; omega
  ·omega
 have n3:R ∉ fl y' X:=fun hq=>by
  rcases k2.2 R hq with h2 | h2
  ·exact n2 (List.mem_append.2 (Or.inl h2))
  ·omega
 have hj:=q1.onJob q2 k2
 have hXf:X ∈ fl y X:=mem_fl.2 ⟨[X],by simp [Jv.segs],by simp⟩
 refine ⟨⟨hj.mem.keep hk (fun b hb hg => ?_),hj.job.keep hk (fun a ha q hq hg => ?_),hj.out⟩, ?_,fun q hq => ?_⟩
 ·simp at hg; subst hg; exact n2 (List.mem_append.2 (Or.inr hb))
 ·simp at hg; subst hg; exact n3 (mem_fl.2 ⟨a,ha,hq⟩)
 ·have a1:Keep (fl y X++F) w W0:=hK0.mono (fun b hb=>by simp at hb; subst hb; exact List.mem_append.2 (Or.inl hXf))
  have a2:=a1.trans k1.1 (fun b hb=>Or.inl hb)
  have a3:=a2.trans k2.1 (fun b hb=>by
      rcases k1.2 b (List.mem_append.2 (Or.inl hb)) with h2 | h2
      · exact Or.inl h2
      · right; omega)
  exact a3.trans hk (fun b hb=>Or.inr (by simp at hb; omega))
 ·have h1:q ∈ fl y1 X++F1∨w1.heap.size≤q:=by
   rcases List.mem_append.1 hq with h2 | h2
   ·exact (k2.2 q h2).imp (fun h=>List.mem_append.2 (Or.inl h)) id
   ·exact Or.inl (List.mem_append.2 (Or.inr h2))
  rcases h1 with h2 | h2
  ·exact (k1.2 q h2).imp id (fun h=>by omega)
  ·right; omega
def wnV (a:Wn):Value:=.agg #[.int .i64 a.kind,.int .i64 a.cell,.int .i64 a.val,.int .i64 a.code]
set_option maxRecDepth 10000 in
set_option maxHeartbeats 2000000 in
theorem do_run {w:World} {base:Nat} {p:Value} {c r:Nat} {L:List Ac} {F:List Nat} {X:Nat} {j j':Jb} {y:Jv} (h:JW w base p c r L F X j y) (hb:base≤w.heap.size) (hL:L.length < 3298534883328) (hE:j.tx.ev.length+1 < 1073741824) (hx:XOk j.tx) (hd:Wd L) (hc:c≤1024) (a:Wn) (t:Int) (k' e' v':Int) (g':Bool)
  (HH : ∀ w1 G, JAt' w1 base X { j with wt := a, tx := (doX c r j.tx L t (waOf a)).x } { y with G := G } → base ≤ w1.heap.size → Calls Tryz.prog 29 #[.pointer (some ⟨X, 0, none⟩), anV (doX c r j.tx L t (waOf a)).k (doX c r j.tx L t (waOf a)).e (doX c r j.tx L t (waOf a)).v (doX c r j.tx L t (waOf a)).y] w1 fun e w2 => e = .returned (anV k' e' v' g') ∧ ∃ y', JAt' w2 base X j' y' ∧ Next (fl { y with G := G } X) (fl y' X) w1 w2) :
  Calls Tryz.prog 26 #[.pointer (some ⟨X, 0, none⟩), p, .int .i64 t, wnV a] w fun e w' => e = .returned (anV k' e' v' g') ∧ ∃ y' F', JW w' base p c r (doX c r j.tx L t (waOf a)).L F' X j' y' ∧ Next (fl y X ++ F) (fl y' X ++ F') w w' := by
 have HJ:Hid (JW w base p c r L F X j y):=h
 have HD : Hid (∀ w1, JW w1 base p c r L F X { j with wt := a } y → base ≤ w1.heap.size → Calls Tryz.prog 42 #[.pointer (some ⟨y.T, 0, none⟩), p, .int .i64 t, waV (waOf a)] w1 fun e w' => e = .returned (anV (doX c r j.tx L t (waOf a)).k (doX c r j.tx L t (waOf a)).e (doX c r j.tx L t (waOf a)).v (doX c r j.tx L t (waOf a)).y) ∧ ∃ F' G', TM w' base p c r (doX c r j.tx L t (waOf a)).L F' y.T (doX c r j.tx L t (waOf a)).x G' ∧ Next (y.G ++ F) (G' ++ F') w1 w') := fun w1 h1 hb1 => do_any h1.tm hb1 hL hE hx hd hc (waOf a) t
 have HHH : Hid (∀ w1 G, JAt' w1 base X { j with wt := a, tx := (doX c r j.tx L t (waOf a)).x } { y with G := G } → base ≤ w1.heap.size → Calls Tryz.prog 29 #[.pointer (some ⟨X, 0, none⟩), anV (doX c r j.tx L t (waOf a)).k (doX c r j.tx L t (waOf a)).e (doX c r j.tx L t (waOf a)).v (doX c r j.tx L t (waOf a)).y] w1 fun e w2 => e = .returned (anV k' e' v' g') ∧ ∃ y', JAt' w2 base X j' y' ∧ Next (fl { y with G := G } X) (fl y' X) w1 w2) := HH
 generalize doX c r j.tx L t (waOf a)=o at *
 obtain ⟨ox,oL,ok,oe,ov,oy⟩:=o
 dsimp only at *
 have hX:=heap_lt h.job.raw
 have c12:w.cell? ⟨X,12,none⟩=some (.pointer (some ⟨y.T,0,none⟩)):=(cell_at h.job.raw 12).trans rfl
 have c19:w.cell? ⟨X,19,none⟩=some (.int .i64 j.wt.kind):=(cell_at h.job.raw 19).trans rfl
 have c20:w.cell? ⟨X,20,none⟩=some (.int .i64 j.wt.cell):=(cell_at h.job.raw 20).trans rfl
 have c21:w.cell? ⟨X,21,none⟩=some (.int .i64 j.wt.val):=(cell_at h.job.raw 21).trans rfl
 have c22:w.cell? ⟨X,22,none⟩=some (.int .i64 j.wt.code):=(cell_at h.job.raw 22).trans rfl
 have fX:=frozen_at h.job.raw
 obtain ⟨M,rfl⟩ : ∃ M,p = .pointer (some ⟨M,0,none⟩):=by
  obtain ⟨M,_,_,_,_,hm⟩:=h.mem
  exact ⟨M,hm.p⟩
 clear h HH hL hE hx hd hc
 unfold wnV waV waOf anV at *
 obtain ⟨ak,al,av,ac⟩:=a
 dsimp only at *
 go_enter Tryz.func26,Tryz.ntmps26
 go_wp2_with fail
 obtain ⟨hw1,hw2⟩:=wt_set HJ.out.job ⟨ak,al,av,ac⟩
 dsimp only at hw1 hw2
 have hs4:((((w.setCell ⟨X,19,none⟩ (.int .i64 ak)).setCell ⟨X,20,none⟩ (.int .i64 al)).setCell ⟨X,21,none⟩ (.int .i64 av)).setCell ⟨X,22,none⟩ (.int .i64 ac)).heap.size=w.heap.size:=by simp
 have hXF : [X] ⊆ fl y X:=fun q hq=>mem_fl.2 ⟨[X],by simp [Jv.segs],hq⟩
 have hjw:=HJ.out.onJob hw1 ⟨hw2.mono hXF,fun q hq=>Or.inl hq⟩
 generalize (((w.setCell ⟨X,19,none⟩ (.int .i64 ak)).setCell ⟨X,20,none⟩ (.int .i64 al)).setCell ⟨X,21,none⟩ (.int .i64 av)).setCell ⟨X,22,none⟩ (.int .i64 ac)=w4 at *
 have hjv:=hjw.below (below_then (below_a1 w4 (.cells #[.int .i64 ak,.int .i64 al,.int .i64 av,.int .i64 ac] 63)) (below_a1 _ (.cells #[.int .i64 0,.int .i64 0,.int .i64 0,.bool false] 51)))
 have r0:((w4.alloc (.cells #[.int .i64 ak,.int .i64 al,.int .i64 av,.int .i64 ac] 63)).alloc (.cells #[.int .i64 0,.int .i64 0,.int .i64 0,.bool false] 51)).heap[w.heap.size]? = some (.cells #[.int .i64 ak,.int .i64 al,.int .i64 av,.int .i64 ac] 63 (0,0)):=by
  rw [← hs4]
  exact Tl.row_next1 (Below.refl _ _)
 have r1:((w4.alloc (.cells #[.int .i64 ak,.int .i64 al,.int .i64 av,.int .i64 ac] 63)).alloc (.cells #[.int .i64 0,.int .i64 0,.int .i64 0,.bool false] 51)).heap[w.heap.size+1]? = some (.cells #[.int .i64 0,.int .i64 0,.int .i64 0,.bool false] 51 (0,0)):=by
  rw [← hs4]
  exact Tl.row_next2 (Below.refl _ _)
 have hk0:Keep [X] w ((w4.alloc (.cells #[.int .i64 ak,.int .i64 al,.int .i64 av,.int .i64 ac] 63)).alloc (.cells #[.int .i64 0,.int .i64 0,.int .i64 0,.bool false] 51)):=(hw2.alloc _).alloc _
 generalize (w4.alloc (.cells #[.int .i64 ak,.int .i64 al,.int .i64 av,.int .i64 ac] 63)).alloc (.cells #[.int .i64 0,.int .i64 0,.int .i64 0,.bool false] 51)=W0 at *
 have HR1:Hid (W0.heap[w.heap.size+1]? = some (.cells #[.int .i64 0,.int .i64 0,.int .i64 0,.bool false] 51 (0,0))):=r1
 have HK0:Hid (Keep [X] w W0):=hk0
 have HLT:Hid (∀ q ∈ fl y X++F,q < w.heap.size):=fun q hq=>by
  rcases List.mem_append.1 hq with h1 | h1
  ·obtain ⟨s,hs,h2⟩:=mem_fl.1 h1
   exact (HJ.out.job.lt s hs q h2).2
  ·exact (HJ.out.mem.lt q h1).2
 have hXw:X < w.heap.size:=hX
 have HDW : Hid (∀ w1, Below W0.heap.size W0 w1 → Calls Tryz.prog 42 #[.pointer (some ⟨y.T, 0, none⟩), .pointer (some ⟨M, 0, none⟩), .int .i64 t, .agg #[.int .i64 ak, .int .i64 al, .int .i64 av, .int .i64 ac]] w1 fun e w' => e = .returned (.agg #[.int .i64 ok, .int .i64 oe, .int .i64 ov, .bool oy]) ∧ ∃ F' G', JW w' base (.pointer (some ⟨M, 0, none⟩)) c r oL F' X { { j with wt := ⟨ak, al, av, ac⟩ } with tx := ox } { y with G := G' } ∧ Next (fl y X ++ F) (fl { y with G := G' } X ++ F') W0 w') := fun w1 hb1 => by
  refine (HD.out w1 (hjv.below hb1) (Nat.le_trans hb (Nat.le_trans HK0.out.size hb1.size))).mono ?_
  rintro e w' ⟨rfl, F', G', q1, q2⟩
  obtain ⟨q3,q4⟩:=(hjv.below hb1).onTx q1 q2
  exact ⟨rfl, F', G', q3, (Keep.of_below hb1 _).trans q4.1 (fun b hb => Or.inl hb), fun q hq => (q4.2 q hq).imp id (fun h => Nat.le_trans hb1.size h)⟩
 have d12:W0.cell? ⟨X,12,none⟩=some (.pointer (some ⟨y.T,0,none⟩)):=(cell_at hjv.job.raw 12).trans rfl
 have e0:W0.cell? ⟨w.heap.size,0,none⟩=some (.int .i64 ak):=(cell_at r0 0).trans rfl
 have e1:W0.cell? ⟨w.heap.size,1,none⟩=some (.int .i64 al):=(cell_at r0 1).trans rfl
 have e2:W0.cell? ⟨w.heap.size,2,none⟩=some (.int .i64 av):=(cell_at r0 2).trans rfl
 have e3:W0.cell? ⟨w.heap.size,3,none⟩=some (.int .i64 ac):=(cell_at r0 3).trans rfl
 have hX0:=heap_lt hjv.job.raw
 have hB0:=heap_lt r1
 have hbb:base≤W0.heap.size:=Nat.le_trans hb HK0.out.size
 clear hw1 hw2 hjw hjv hs4 hXF r0 r1 hk0 c12 c19 c20 c21 c22 fX HD HJ hX
 go_region_with (first
    | (go_at_call 42; refine (HDW.out _ (by first | exact Below.refl _ _ | exact (Below.refl _ _).drew | exact (Below.refl _ _).drew.drew)).mono ?_; rintro e w1 ⟨rfl,F1,G1,q1,k1⟩)
    | (go_at_call 29; refine (HHH.out _ _ q1.job (Nat.le_trans hbb k1.1.size)).mono ?_; rintro e w2 ⟨rfl, y', q2, k2⟩; have hr2 : w2.heap[w.heap.size + 1]? = some (.cells #[.int .i64 0, .int .i64 0, .int .i64 0, .bool false] 51 (0, 0)) := do_res HR1.out k1 k2 HLT.out hB0 (Nat.le_succ _); obtain ⟨s0, s1, s2, s3⟩ := an_cells hr2; have fs := frozen_at hr2; have hl2 := heap_lt hr2))
 all_goals
  have HFN:Hid (JW (Co.laidW w2 (w.heap.size+1) k' e' v' g') base (.pointer (some ⟨M,0,none⟩)) c r oL F1 X j' y'∧Next (fl y X++F) (fl y' X++F1) w (Co.laidW w2 (w.heap.size+1) k' e' v' g')):=do_fin HK0.out k1 q1 q2 k2 HLT.out hB0 (Nat.le_succ _) (Co.keepWB k' e' v' g')
  have HR2:Hid (w2.heap[w.heap.size+1]? = some (.cells #[.int .i64 0,.int .i64 0,.int .i64 0,.bool false] 51 (0,0))):=hr2
  clear hr2 q1 q2 k1 k2 HDW HHH
  go_wp2_with fail
  obtain ⟨z1,z2⟩:=HFN.out
  exact ret_ans rfl rfl (Co.ansW_set rfl HR2.out k' e' v' g') rfl rfl ⟨rfl, y', F1, z1, z2⟩
end Go.Proofs.YtigfjedohdgjfaaGreatDoor.Pj
namespace Go.Proofs.YtigfjedohdgjfaaGreatDoor.Pj
open Go.ChangeShapes Go.WideShapes Go.ChangeAt Go.RowKit
open Tl (Wn wn0 nth numC Nl)
attribute [local go_sem ↓] Go.wp_at_zero Go.wp_at_succ
theorem JW.other {w w':World} {base:Nat} {p:Value} {c r:Nat} {L:List Ac} {F:List Nat} {X R:Nat} {j:Jb} {y:Jv} (h:JW w base p c r L F X j y) (k:Keep [R] w w') (hR:R ∉ fl y X++F):JW w' base p c r L F X j y:=⟨h.mem.keep k (fun b hb hg=>by simp at hg; subst hg; exact hR (List.mem_append.2 (Or.inr hb))),h.job.keep k (fun a ha q hq hg=>by simp at hg; subst hg; exact hR (List.mem_append.2 (Or.inl (mem_fl.2 ⟨a,ha,hq⟩)))),h.out⟩
theorem JW.lt {w:World} {base:Nat} {p:Value} {c r:Nat} {L:List Ac} {F:List Nat} {X:Nat} {j:Jb} {y:Jv} (h:JW w base p c r L F X j y) : ∀ q ∈ fl y X++F,q < w.heap.size:=fun q hq=>by
 rcases List.mem_append.1 hq with h1 | h1
 ·obtain ⟨s,hs,h2⟩:=mem_fl.1 h1
  exact (h.job.lt s hs q h2).2
 ·exact (h.mem.lt q h1).2
set_option maxRecDepth 10000 in
theorem step_begin {w:World} {base:Nat} {p:Value} {c r:Nat} {L L':List Ac} {F:List Nat} {X:Nat} {j j':Jb} {y:Jv} (h:JW w base p c r L F X j y) (ho:j.ov=false) (hg:overV j c r=true) (hph:j.tx.phase=0) (t k' e' v':Int) (g':Bool)
  (HD : ∀ w1, JW w1 base p c r L F X j y → w.heap.size ≤ w1.heap.size → Calls Tryz.prog 26 #[.pointer (some ⟨X, 0, none⟩), p, .int .i64 t, .agg #[.int .i64 1, .int .i64 0, .int .i64 0, .int .i64 0]] w1 fun e w' => e = .returned (anV k' e' v' g') ∧ ∃ y' F', JW w' base p c r L' F' X j' y' ∧ Next (fl y X ++ F) (fl y' X ++ F') w1 w') :
  Calls Tryz.prog 14 #[.pointer (some ⟨X, 0, none⟩), p, .int .i64 t] w fun e w' => e = .returned (anV k' e' v' g') ∧ ∃ y' F', JW w' base p c r L' F' X j' y' ∧ Next (fl y X ++ F) (fl y' X ++ F') w w' := by
 have HG : Hid (∀ w', Below w.heap.size w w' → Calls Tryz.prog 24 #[.pointer (some ⟨X, 0, none⟩), p] w' fun e w'' => e = .returned (.bool true) ∧ Below w'.heap.size w' w'') := fun w' hb => by
  have:=goes_any (h.below hb).job (h.below hb).mem
  rw [hg] at this
  exact this
 have HP : Hid (∀ w', Below w.heap.size w w' → Calls Tryz.prog 25 #[.pointer (some ⟨y.T, 0, none⟩)] w' fun e w'' => e = .returned (.int .i64 0) ∧ Below w'.heap.size w' w'') := fun w' hb => by
  have:=phase_any (h.below hb).job.tx
  rw [hph] at this
  exact this
 have HDD : Hid (∀ w1, JW w1 base p c r L F X j y → w.heap.size ≤ w1.heap.size → Calls Tryz.prog 26 #[.pointer (some ⟨X, 0, none⟩), p, .int .i64 t, .agg #[.int .i64 1, .int .i64 0, .int .i64 0, .int .i64 0]] w1 fun e w' => e = .returned (anV k' e' v' g') ∧ ∃ y' F', JW w' base p c r L' F' X j' y' ∧ Next (fl y X ++ F) (fl y' X ++ F') w1 w') := HD
 have HJ:Hid (JW w base p c r L F X j y):=h
 have c26:w.cell? ⟨X,26,none⟩=some (.bool false):=by rw [← ho]; exact (cell_at h.job.raw 26).trans rfl
 have hX:=heap_lt h.job.raw
 have HLT:Hid (∀ q ∈ fl y X++F,q < w.heap.size):=h.lt
 obtain ⟨M,rfl⟩ : ∃ M,p = .pointer (some ⟨M,0,none⟩):=by
  obtain ⟨M,_,_,_,_,hm⟩:=h.mem
  exact ⟨M,hm.p⟩
 clear h HD ho hg hph
 unfold anV at *
 go_enter Tryz.func14,Tryz.ntmps14
 go_wp2_with fail
 refine (HG.out _ (below_a1 _ _)).mono ?_
 rintro e w1 ⟨rfl,hb1⟩
 have hr:=Tl.row_next (w:=w) ⟨hb1.os,hb1.tape,hb1.output,hb1.size,hb1.block⟩
 have HR:Hid (w1.heap[w.heap.size]? = some (.cells #[.int .i64 0,.int .i64 0,.int .i64 0,.bool false] 51 (0,0))):=hr
 have hB:Below w.heap.size w w1:=below_then (below_a1 _ _) hb1
 have HB:Hid (Below w.heap.size w w1):=hB
 have c12:w1.cell? ⟨X,12,none⟩=some (.pointer (some ⟨y.T,0,none⟩)):=(cell_at (HJ.out.below hB).job.raw 12).trans rfl
 have hX1:=Nat.lt_of_lt_of_le hX hB.size
 have hl1:=heap_lt hr
 clear hb1 hB HG hr c26
 go_wp2_with fail
 refine (HP.out _ HB.out).mono ?_
 rintro e w2 ⟨rfl,hb2⟩
 have HR2:Hid (w2.heap[w.heap.size]? = some (.cells #[.int .i64 0,.int .i64 0,.int .i64 0,.bool false] 51 (0,0))):=row_on HR.out hb2
 have HB2:Hid (Below w.heap.size w w2):=below_then HB.out hb2
 clear hb2 HP HR
 go_wp2_with fail
 refine (HDD.out _ (HJ.out.below HB2.out) HB2.out.size).mono ?_
 rintro e w3 ⟨rfl, y', F', q1, k1⟩
 have hne:w.heap.size ∉ fl y X++F:=fun hq=>by have:=HLT.out _ hq; omega
 have hl2:=heap_lt HR2.out
 have hr3:w3.heap[w.heap.size]? = some (.cells #[.int .i64 0,.int .i64 0,.int .i64 0,.bool false] 51 (0,0)):=(k1.1.block _ hl2 hne).trans HR2.out
 have hne3:w.heap.size ∉ fl y' X++F':=fun hq=>by
  rcases k1.2 _ hq with h1 | h1
  ·exact hne h1
  ·omega
 have HFN:Hid (JW (Co.laidW w3 w.heap.size k' e' v' g') base (.pointer (some ⟨M,0,none⟩)) c r L' F' X j' y'∧Next (fl y X++F) (fl y' X++F') w (Co.laidW w3 w.heap.size k' e' v' g')):=⟨q1.other (Co.keepWB k' e' v' g') hne3,((Keep.of_below HB2.out _).trans k1.1 (fun b hb=>Or.inl hb)).trans (Co.keepWB k' e' v' g') (fun b hb=>Or.inr (by simp at hb; omega)),fun q hq=>(k1.2 q hq).imp id (fun h=>Nat.le_trans HB2.out.size h)⟩
 have HR3:Hid (w3.heap[w.heap.size]? = some (.cells #[.int .i64 0,.int .i64 0,.int .i64 0,.bool false] 51 (0,0))):=hr3
 obtain ⟨s0,s1,s2,s3⟩:=an_cells hr3
 have fs:=frozen_at hr3
 have hl3:=heap_lt hr3
 clear hr3 q1 k1 hne hne3 HDD HLT
 go_wp2_with fail
 obtain ⟨z1,z2⟩:=HFN.out
 exact ret_ans rfl rfl (Co.ansW_set rfl HR3.out k' e' v' g') rfl rfl ⟨rfl, y', F', z1, z2⟩
end Go.Proofs.YtigfjedohdgjfaaGreatDoor.Pj
namespace Go.Proofs.YtigfjedohdgjfaaGreatDoor.Pj
open Go.ChangeShapes Go.WideShapes Go.ChangeAt Go.RowKit
open Tl (Wn wn0 nth numC Nl)
attribute [local go_sem ↓] Go.wp_at_zero Go.wp_at_succ
theorem own_cut {w:World} {B e k g n cap:Nat} {xs:List Value} (h:w.ownsRow B e k (.slice (some ⟨g,0,none⟩) n cap) n xs) {m:Nat} (hm:m≤n):w.ownsRow B e k (.slice (some ⟨g,0,none⟩) m cap) m (xs.take (m * k)):=by
 obtain ⟨hl,hx⟩:=h
 have hmk:m * k≤n * k:=Nat.mul_le_mul_right _ hm
 refine ⟨by rw [List.length_take,hl]; omega, ?_⟩
 rcases hx with ⟨h1, _⟩ | ⟨g', c', cur, h1, h2, h3, h4, h5, h6, h7⟩
 ·cases h1
 ·injection h1 with a1 a2 a3
  injection a1 with a1
  injection a1 with a1
  subst a1 a3
  exact Or.inr ⟨g,cap,cur,rfl,h2,h3,by omega,h5,h6,by rw [← h7,List.take_take]; congr 1; omega⟩
theorem numC_take (l:List Int) (i:Nat):(numC l).take i=numC (l.take i):=by simp [numC]
theorem wr_sub {a b:Nat} (h:b≤a) (h1:a≤1000):wrap64 ((a:Int) - (b:Int))=((a - b:Nat):Int):=by unfold wrap64; omega
set_option maxRecDepth 10000 in
theorem popAll_any {w:World} {base X:Nat} {j:Jb} {y:Jv} (h:JAt' w base X j y) (n:Nat) (h1:1≤n) (hn:n≤j.st.length) (hl:j.st.length≤1000) :
  Calls Tryz.prog 123 #[.pointer (some ⟨X,0,none⟩),.int .i64 (n:Int)] w fun e w' => ∃ g cap,e = .returned (.slice (some ⟨g,j.st.length - n,none⟩) n (cap - (j.st.length - n)))∧y.sv = .slice (some ⟨g,0,none⟩) j.st.length cap∧JAt' w' base X { j with st:=j.st.take (j.st.length - n) } { y with sv:=.slice (some ⟨g,0,none⟩) (j.st.length - n) cap }∧(∀ i,i < n→w'.cell? ⟨g,j.st.length - n+i,none⟩=some (.int .i64 (nth j.st (j.st.length - n+i))))∧Keep [X] w w':=by
 have HJ:Hid (JAt' w base X j y):=h
 obtain ⟨g,cap,hsv⟩ : ∃ g cap,y.sv = .slice (some ⟨g,0,none⟩) j.st.length cap:=by
  rcases h.st.2 with ⟨_,h2⟩ | ⟨g,cap,_,h2,_⟩
  ·omega
  ·exact ⟨g,cap,h2⟩
 have hcap:j.st.length≤cap∧cap≤maxLen:=by
  rcases h.st.2 with ⟨_, h2⟩ | ⟨g', cap', _, h2, _, _, h3, h4, _⟩
  ·omega
  ·rw [hsv] at h2
   injection h2 with a1 a2 a3
   omega
 have c16:w.cell? ⟨X,16,none⟩=some (.slice (some ⟨g,0,none⟩) j.st.length cap):=by rw [← hsv]; exact (cell_at h.raw 16).trans rfl
 have f16:=h.fz 16
 have hX:=heap_lt h.raw
 have HO:Hid (w.ownsRow base 2 1 (.slice (some ⟨g,0,none⟩) j.st.length cap) j.st.length (numC j.st)):=by rw [← hsv]; exact h.st
 have HSV:Hid (y.sv = .slice (some ⟨g,0,none⟩) j.st.length cap):=hsv
 have hsub:=wr_sub hn hl
 have hlt:j.st.length - n < j.st.length:=by omega
 clear h hsv
 generalize hL:j.st.length=m at *
 generalize hR:m - n=q at *
 have hnq:m - q=n:=by omega
 clear hn h1
 go_enter Tryz.func123,Tryz.ntmps123
 go_wp2_with fail
 go_ret
 have r:=heap_set HJ.out.raw 16 (.slice (some ⟨g,0,none⟩) q cap)
 unfold jobC at r
 rw [push_row] at r
 have k:Keep [X] w (w.setCell ⟨X,16,none⟩ (.slice (some ⟨g,0,none⟩) q cap)):=(Keep.refl [X] w).setCell _ _ (Or.inl (by simp))
 have hgX:g≠X:=fun e=>by
  subst e
  exact seg_dj HJ.out.dj (i:=0) (k:=3) (by decide) g (by simp [Jv.segs]) (by show g ∈ bl y.sv; rw [HSV.out]; simp [bl,Value.ownBlock])
 have hcut:=own_cut HO.out (m:=q) (by omega)
 rw [Nat.mul_one,numC_take] at hcut
 have hlen:(j.st.take q).length=q:=by rw [List.length_take,hL]; omega
 refine ⟨g,cap,rfl,HSV.out,HJ.out.stack (l:=j.st.take q) r (k.mono (fun b hb=>by simp at hb; simp [hb])) ?_ (fun b hb=>Or.inl (by rw [HSV.out]; simpa [bl,Value.ownBlock] using hb)),fun i hi => ?_,k⟩
 ·rw [hlen]
  exact own_keep hcut k (fun b hb=>by simp [Value.ownBlock] at hb; subst hb; simpa using hgX)
 ·have h0:=own_cells HO.out (q+i) (.int .i64 (nth j.st (q+i))) (Tl.numC_get j.st (q+i) (by omega))
  have hb:(w.setCell ⟨X,16,none⟩ (.slice (some ⟨g,0,none⟩) q cap)).heap[g]? = w.heap[g]?:=heap_set_other _ _ (Ne.symm hgX)
  rcases HO.out.2 with ⟨h2, _⟩ | ⟨g', c', cur, h2, _, h3, _⟩
  ·cases h2
  ·injection h2 with a1 a2 a3
   injection a1 with a1
   injection a1 with a1
   subst a1
   rw [cell_at (hb.trans h3)]
   rw [cell_at h3] at h0
   exact h0
theorem pop_any {w:World} {base X:Nat} {j:Jb} {y:Jv} (h:JAt' w base X j y) (hn:1≤j.st.length) (hl:j.st.length≤1000) :
  Calls Tryz.prog 116 #[.pointer (some ⟨X,0,none⟩)] w fun e w' => ∃ sv,e = .returned (.int .i64 (nth j.st (j.st.length - 1)))∧JAt' w' base X { j with st:=j.st.take (j.st.length - 1) } { y with sv:=sv }∧bl sv=bl y.sv∧Keep [X] w w':=by
 have HP:Hid (Calls Tryz.prog 123 #[.pointer (some ⟨X,0,none⟩),.int .i64 1] w fun e w' => ∃ g cap,e = .returned (.slice (some ⟨g,j.st.length - 1,none⟩) 1 (cap - (j.st.length - 1)))∧y.sv = .slice (some ⟨g,0,none⟩) j.st.length cap∧JAt' w' base X { j with st:=j.st.take (j.st.length - 1) } { y with sv:=.slice (some ⟨g,0,none⟩) (j.st.length - 1) cap }∧(∀ i,i < 1→w'.cell? ⟨g,j.st.length - 1+i,none⟩=some (.int .i64 (nth j.st (j.st.length - 1+i))))∧Keep [X] w w'):=popAll_any h 1 (Nat.le_refl _) hn hl
 clear h hn hl
 generalize j.st.length - 1=q at *
 go_enter Tryz.func116,Tryz.ntmps116
 go_wp2_with fail
 refine HP.out.mono ?_
 rintro e w1 ⟨g,cap,rfl,hsv,hj,hc,hk⟩
 have c0:w1.cell? ⟨g,q,none⟩=some (.int .i64 (nth j.st q)):=hc 0 (by decide)
 have hg:=World.block_lt_of_cell? _ _ c0
 have HJ:Hid (JAt' w1 base X { j with st:=j.st.take q } { y with sv:=.slice (some ⟨g,0,none⟩) q cap }∧bl (.slice (some ⟨g,0,none⟩) q cap)=bl y.sv∧Keep [X] w w1):=⟨hj,by rw [hsv]; rfl,hk⟩
 clear hsv hj hc hk
 go_wp2_with fail
 go_ret
 exact ⟨_,rfl,HJ.out.1,HJ.out.2.1,HJ.out.2.2⟩
theorem popTwo_any {w:World} {base X:Nat} {j:Jb} {y:Jv} (h:JAt' w base X j y) (hn:2≤j.st.length) (hl:j.st.length≤1000) :
  Calls Tryz.prog 117 #[.pointer (some ⟨X,0,none⟩)] w fun e w' => ∃ sv,e = .returned (.tuple #[.int .i64 (nth j.st (j.st.length - 2)),.int .i64 (nth j.st (j.st.length - 2+1))])∧JAt' w' base X { j with st:=j.st.take (j.st.length - 2) } { y with sv:=sv }∧bl sv=bl y.sv∧Keep [X] w w':=by
 have HP:Hid (Calls Tryz.prog 123 #[.pointer (some ⟨X,0,none⟩),.int .i64 2] w fun e w' => ∃ g cap,e = .returned (.slice (some ⟨g,j.st.length - 2,none⟩) 2 (cap - (j.st.length - 2)))∧y.sv = .slice (some ⟨g,0,none⟩) j.st.length cap∧JAt' w' base X { j with st:=j.st.take (j.st.length - 2) } { y with sv:=.slice (some ⟨g,0,none⟩) (j.st.length - 2) cap }∧(∀ i,i < 2→w'.cell? ⟨g,j.st.length - 2+i,none⟩=some (.int .i64 (nth j.st (j.st.length - 2+i))))∧Keep [X] w w'):=popAll_any h 2 (by decide) hn hl
 clear h hn hl
 generalize j.st.length - 2=q at *
 go_enter Tryz.func117,Tryz.ntmps117
 go_wp2_with fail
 refine HP.out.mono ?_
 rintro e w1 ⟨g,cap,rfl,hsv,hj,hc,hk⟩
 have c0:w1.cell? ⟨g,q,none⟩=some (.int .i64 (nth j.st q)):=hc 0 (by decide)
 have c1:w1.cell? ⟨g,q+1,none⟩=some (.int .i64 (nth j.st (q+1))):=hc 1 (by decide)
 have hg:=World.block_lt_of_cell? _ _ c0
 have HJ:Hid (JAt' w1 base X { j with st:=j.st.take q } { y with sv:=.slice (some ⟨g,0,none⟩) q cap }∧bl (.slice (some ⟨g,0,none⟩) q cap)=bl y.sv∧Keep [X] w w1):=⟨hj,by rw [hsv]; rfl,hk⟩
 clear hsv hj hc hk
 go_wp2_with fail
 go_quiet (fail)
 go_wp2_with fail
 go_ret2
 exact ⟨_,rfl,HJ.out.1.keep (Keep.of_below (below_drawn (Below.refl _ _) _) []) (by simp),HJ.out.2.1,HJ.out.2.2.drewN _⟩
end Go.Proofs.YtigfjedohdgjfaaGreatDoor.Pj
namespace Go.Proofs.YtigfjedohdgjfaaGreatDoor.Pj
open Go.ChangeShapes Go.WideShapes Go.ChangeAt Go.RowKit
attribute [local go_sem ↓] Go.wp_at_zero Go.wp_at_succ
def tkC:List Int:=[0,0,0,0,1,1,2,2,2,2,2,2,2,2,2,2,1,2,2,2,2,2,2,1,0,1,0,0,0,1,0,1,2,0,0,0,0,0,0,0,0]
def ptC:List Int:=[0,1,1,1,2,0,2,3,1,1,1,1,1,1,1,1,1,1,1,1,1,1,1,1,0,0,0,0,1,0,0,1,0,2,2,2,2,2,2,2,2]
def fnC:List Nat:=[64,65,65,65,66,67,68,69,70,71,72,73,74,75,76,77,78,79,80,81,82,83,84,85,86,87,88,89,90,91,92,93,94,95,95,95,95,95,95,95,95]
def insC:Array Value:=#[.int .i64 0,.int .i64 0,.func (.func 64) #[] #[],.int .i64 0,.int .i64 1,.func (.func 65) #[] #[],.int .i64 0,.int .i64 1,.func (.func 65) #[] #[],.int .i64 0,.int .i64 1,.func (.func 65) #[] #[],.int .i64 1,.int .i64 2,.func (.func 66) #[] #[],.int .i64 1,.int .i64 0,.func (.func 67) #[] #[],.int .i64 2,.int .i64 2,.func (.func 68) #[] #[],.int .i64 2,.int .i64 3,.func (.func 69) #[] #[],.int .i64 2,.int .i64 1,.func (.func 70) #[] #[],.int .i64 2,.int .i64 1,.func (.func 71) #[] #[],.int .i64 2,.int .i64 1,.func (.func 72) #[] #[],.int .i64 2,.int .i64 1,.func (.func 73) #[] #[],.int .i64 2,.int .i64 1,.func (.func 74) #[] #[],.int .i64 2,.int .i64 1,.func (.func 75) #[] #[],.int .i64 2,.int .i64 1,.func (.func 76) #[] #[],.int .i64 2,.int .i64 1,.func (.func 77) #[] #[],.int .i64 1,.int .i64 1,.func (.func 78) #[] #[],.int .i64 2,.int .i64 1,.func (.func 79) #[] #[],.int .i64 2,.int .i64 1,.func (.func 80) #[] #[],.int .i64 2,.int .i64 1,.func (.func 81) #[] #[],.int .i64 2,.int .i64 1,.func (.func 82) #[] #[],.int .i64 2,.int .i64 1,.func (.func 83) #[] #[],.int .i64 2,.int .i64 1,.func (.func 84) #[] #[],.int .i64 1,.int .i64 1,.func (.func 85) #[] #[],.int .i64 0,.int .i64 0,.func (.func 86) #[] #[],.int .i64 1,.int .i64 0,.func (.func 87) #[] #[],.int .i64 0,.int .i64 0,.func (.func 88) #[] #[],.int .i64 0,.int .i64 0,.func (.func 89) #[] #[],.int .i64 0,.int .i64 1,.func (.func 90) #[] #[],.int .i64 1,.int .i64 0,.func (.func 91) #[] #[],.int .i64 0,.int .i64 0,.func (.func 92) #[] #[],.int .i64 1,.int .i64 1,.func (.func 93) #[] #[],.int .i64 2,.int .i64 0,.func (.func 94) #[] #[],.int .i64 0,.int .i64 2,.func (.func 95) #[] #[],.int .i64 0,.int .i64 2,.func (.func 95) #[] #[],.int .i64 0,.int .i64 2,.func (.func 95) #[] #[],.int .i64 0,.int .i64 2,.func (.func 95) #[] #[],.int .i64 0,.int .i64 2,.func (.func 95) #[] #[],.int .i64 0,.int .i64 2,.func (.func 95) #[] #[],.int .i64 0,.int .i64 2,.func (.func 95) #[] #[],.int .i64 0,.int .i64 2,.func (.func 95) #[] #[]]
theorem ret_ins {fn:Func} {p:Tmp} {R:Ending→World→Prop} {a:Act} {w:World} {g:Nat} {cs:Array Value} (h:fn.results = #[.cell p 102]) (hp:a.tmps.getD p undef = .pointer (some ⟨g,0,none⟩))
  (hg:w.heap[g]? = some (.cells cs 102 (0,0))) (hz:cs.size=123) (hd:a.defers = []) (hR:R (.returned (.agg cs)) w):bodyPost Tryz.prog fn R .ret a w:=by
 refine bodyPost_ret (v:=.agg cs) ?_ hd hR
 have hp':a.tmps[p]?.getD undef = .pointer (some ⟨g,0,none⟩):=by simpa using hp
 have hl:=run_loadVar_row (P:=Tryz.prog) w g 102 102 cs (0,0) _ hg Tryz.underlying102 rfl (by rw [hz]; kernel_rfl)
 simp [results, h, hp', asAddr, hl]
theorem insC_nest:(((((((((((((((((((((((((((((((((((((((((((((((((((((((((((((((((((((((((((((((((((((((((((((((((((((((((((((((((((((((((((Tryz.zeroCells102.toList).set 0 (.int .i64 0)).set 1 (.int .i64 0)).set 2 (.func (.func 64) #[] #[])).set 3 (.int .i64 0)).set 4 (.int .i64 1)).set 5 (.func (.func 65) #[] #[])).set 6 (.int .i64 0)).set 7 (.int .i64 1)).set 8 (.func (.func 65) #[] #[])).set 9 (.int .i64 0)).set 10 (.int .i64 1)).set 11 (.func (.func 65) #[] #[])).set 12 (.int .i64 1)).set 13 (.int .i64 2)).set 14 (.func (.func 66) #[] #[])).set 15 (.int .i64 1)).set 16 (.int .i64 0)).set 17 (.func (.func 67) #[] #[])).set 18 (.int .i64 2)).set 19 (.int .i64 2)).set 20 (.func (.func 68) #[] #[])).set 21 (.int .i64 2)).set 22 (.int .i64 3)).set 23 (.func (.func 69) #[] #[])).set 24 (.int .i64 2)).set 25 (.int .i64 1)).set 26 (.func (.func 70) #[] #[])).set 27 (.int .i64 2)).set 28 (.int .i64 1)).set 29 (.func (.func 71) #[] #[])).set 30 (.int .i64 2)).set 31 (.int .i64 1)).set 32 (.func (.func 72) #[] #[])).set 33 (.int .i64 2)).set 34 (.int .i64 1)).set 35 (.func (.func 73) #[] #[])).set 36 (.int .i64 2)).set 37 (.int .i64 1)).set 38 (.func (.func 74) #[] #[])).set 39 (.int .i64 2)).set 40 (.int .i64 1)).set 41 (.func (.func 75) #[] #[])).set 42 (.int .i64 2)).set 43 (.int .i64 1)).set 44 (.func (.func 76) #[] #[])).set 45 (.int .i64 2)).set 46 (.int .i64 1)).set 47 (.func (.func 77) #[] #[])).set 48 (.int .i64 1)).set 49 (.int .i64 1)).set 50 (.func (.func 78) #[] #[])).set 51 (.int .i64 2)).set 52 (.int .i64 1)).set 53 (.func (.func 79) #[] #[])).set 54 (.int .i64 2)).set 55 (.int .i64 1)).set 56 (.func (.func 80) #[] #[])).set 57 (.int .i64 2)).set 58 (.int .i64 1)).set 59 (.func (.func 81) #[] #[])).set 60 (.int .i64 2)).set 61 (.int .i64 1)).set 62 (.func (.func 82) #[] #[])).set 63 (.int .i64 2)).set 64 (.int .i64 1)).set 65 (.func (.func 83) #[] #[])).set 66 (.int .i64 2)).set 67 (.int .i64 1)).set 68 (.func (.func 84) #[] #[])).set 69 (.int .i64 1)).set 70 (.int .i64 1)).set 71 (.func (.func 85) #[] #[])).set 72 (.int .i64 0)).set 73 (.int .i64 0)).set 74 (.func (.func 86) #[] #[])).set 75 (.int .i64 1)).set 76 (.int .i64 0)).set 77 (.func (.func 87) #[] #[])).set 78 (.int .i64 0)).set 79 (.int .i64 0)).set 80 (.func (.func 88) #[] #[])).set 81 (.int .i64 0)).set 82 (.int .i64 0)).set 83 (.func (.func 89) #[] #[])).set 84 (.int .i64 0)).set 85 (.int .i64 1)).set 86 (.func (.func 90) #[] #[])).set 87 (.int .i64 1)).set 88 (.int .i64 0)).set 89 (.func (.func 91) #[] #[])).set 90 (.int .i64 0)).set 91 (.int .i64 0)).set 92 (.func (.func 92) #[] #[])).set 93 (.int .i64 1)).set 94 (.int .i64 1)).set 95 (.func (.func 93) #[] #[])).set 96 (.int .i64 2)).set 97 (.int .i64 0)).set 98 (.func (.func 94) #[] #[])).set 99 (.int .i64 0)).set 100 (.int .i64 2)).set 101 (.func (.func 95) #[] #[])).set 102 (.int .i64 0)).set 103 (.int .i64 2)).set 104 (.func (.func 95) #[] #[])).set 105 (.int .i64 0)).set 106 (.int .i64 2)).set 107 (.func (.func 95) #[] #[])).set 108 (.int .i64 0)).set 109 (.int .i64 2)).set 110 (.func (.func 95) #[] #[])).set 111 (.int .i64 0)).set 112 (.int .i64 2)).set 113 (.func (.func 95) #[] #[])).set 114 (.int .i64 0)).set 115 (.int .i64 2)).set 116 (.func (.func 95) #[] #[])).set 117 (.int .i64 0)).set 118 (.int .i64 2)).set 119 (.func (.func 95) #[] #[])).set 120 (.int .i64 0)).set 121 (.int .i64 2)).set 122 (.func (.func 95) #[] #[])=insC.toList:=by kernel_rfl
theorem new_ins (w : World) : ∃ w', Sem.run Tryz.prog (storeCells ⟨w.heap.size, 0, none⟩ insC.toList 0) (w.alloc (.cells Tryz.zeroCells102 102)) = .ok () w' ∧ w'.heap[w.heap.size]? = some (.cells insC 102 (0, 0)) ∧ Below w.heap.size w w' :=
 ⟨_,Tl.store_whole (heap_alloc_new w _) (by kernel_rfl) (by kernel_rfl),setRow_heap _ _ _ _ _ _ (heap_alloc_new w _),Tl.below_row (below_a1 _ _) _ (Nat.le_refl _) _⟩
set_option maxRecDepth 20000 in
set_option maxHeartbeats 1000000 in
theorem ins_any (w:World):Calls Tryz.prog 47 #[] w fun e w' => e = .returned (.agg insC)∧Below w.heap.size w w':=by
 obtain ⟨w1,hs,hr,hb⟩:=new_ins w
 rw [← insC_nest] at hs
 have HR:Hid (w1.heap[w.heap.size]? = some (.cells insC 102 (0,0))∧Below w.heap.size w w1):=⟨hr,hb⟩
 clear hr hb
 go_enter Tryz.func47,Tryz.ntmps47
 go_wp2_with fail
 exact ret_ins rfl rfl HR.out.1 rfl rfl ⟨rfl,HR.out.2⟩
theorem ins_0 (w:World):(Instr.index 102 (.agg insC) (.int .i64 0)).run Tryz.prog w = .ok (.agg #[.int .i64 0,.int .i64 0,.func (.func 64) #[] #[]]) w:=by kernel_rfl
theorem ins_1 (w:World):(Instr.index 102 (.agg insC) (.int .i64 1)).run Tryz.prog w = .ok (.agg #[.int .i64 0,.int .i64 1,.func (.func 65) #[] #[]]) w:=by kernel_rfl
theorem ins_2 (w:World):(Instr.index 102 (.agg insC) (.int .i64 2)).run Tryz.prog w = .ok (.agg #[.int .i64 0,.int .i64 1,.func (.func 65) #[] #[]]) w:=by kernel_rfl
theorem ins_3 (w:World):(Instr.index 102 (.agg insC) (.int .i64 3)).run Tryz.prog w = .ok (.agg #[.int .i64 0,.int .i64 1,.func (.func 65) #[] #[]]) w:=by kernel_rfl
theorem ins_4 (w:World):(Instr.index 102 (.agg insC) (.int .i64 4)).run Tryz.prog w = .ok (.agg #[.int .i64 1,.int .i64 2,.func (.func 66) #[] #[]]) w:=by kernel_rfl
theorem ins_5 (w:World):(Instr.index 102 (.agg insC) (.int .i64 5)).run Tryz.prog w = .ok (.agg #[.int .i64 1,.int .i64 0,.func (.func 67) #[] #[]]) w:=by kernel_rfl
theorem ins_6 (w:World):(Instr.index 102 (.agg insC) (.int .i64 6)).run Tryz.prog w = .ok (.agg #[.int .i64 2,.int .i64 2,.func (.func 68) #[] #[]]) w:=by kernel_rfl
theorem ins_7 (w:World):(Instr.index 102 (.agg insC) (.int .i64 7)).run Tryz.prog w = .ok (.agg #[.int .i64 2,.int .i64 3,.func (.func 69) #[] #[]]) w:=by kernel_rfl
theorem ins_8 (w:World):(Instr.index 102 (.agg insC) (.int .i64 8)).run Tryz.prog w = .ok (.agg #[.int .i64 2,.int .i64 1,.func (.func 70) #[] #[]]) w:=by kernel_rfl
theorem ins_9 (w:World):(Instr.index 102 (.agg insC) (.int .i64 9)).run Tryz.prog w = .ok (.agg #[.int .i64 2,.int .i64 1,.func (.func 71) #[] #[]]) w:=by kernel_rfl
theorem ins_10 (w:World):(Instr.index 102 (.agg insC) (.int .i64 10)).run Tryz.prog w = .ok (.agg #[.int .i64 2,.int .i64 1,.func (.func 72) #[] #[]]) w:=by kernel_rfl
theorem ins_11 (w:World):(Instr.index 102 (.agg insC) (.int .i64 11)).run Tryz.prog w = .ok (.agg #[.int .i64 2,.int .i64 1,.func (.func 73) #[] #[]]) w:=by kernel_rfl
theorem ins_12 (w:World):(Instr.index 102 (.agg insC) (.int .i64 12)).run Tryz.prog w = .ok (.agg #[.int .i64 2,.int .i64 1,.func (.func 74) #[] #[]]) w:=by kernel_rfl
theorem ins_13 (w:World):(Instr.index 102 (.agg insC) (.int .i64 13)).run Tryz.prog w = .ok (.agg #[.int .i64 2,.int .i64 1,.func (.func 75) #[] #[]]) w:=by kernel_rfl
theorem ins_14 (w:World):(Instr.index 102 (.agg insC) (.int .i64 14)).run Tryz.prog w = .ok (.agg #[.int .i64 2,.int .i64 1,.func (.func 76) #[] #[]]) w:=by kernel_rfl
theorem ins_15 (w:World):(Instr.index 102 (.agg insC) (.int .i64 15)).run Tryz.prog w = .ok (.agg #[.int .i64 2,.int .i64 1,.func (.func 77) #[] #[]]) w:=by kernel_rfl
theorem ins_16 (w:World):(Instr.index 102 (.agg insC) (.int .i64 16)).run Tryz.prog w = .ok (.agg #[.int .i64 1,.int .i64 1,.func (.func 78) #[] #[]]) w:=by kernel_rfl
theorem ins_17 (w:World):(Instr.index 102 (.agg insC) (.int .i64 17)).run Tryz.prog w = .ok (.agg #[.int .i64 2,.int .i64 1,.func (.func 79) #[] #[]]) w:=by kernel_rfl
theorem ins_18 (w:World):(Instr.index 102 (.agg insC) (.int .i64 18)).run Tryz.prog w = .ok (.agg #[.int .i64 2,.int .i64 1,.func (.func 80) #[] #[]]) w:=by kernel_rfl
theorem ins_19 (w:World):(Instr.index 102 (.agg insC) (.int .i64 19)).run Tryz.prog w = .ok (.agg #[.int .i64 2,.int .i64 1,.func (.func 81) #[] #[]]) w:=by kernel_rfl
theorem ins_20 (w:World):(Instr.index 102 (.agg insC) (.int .i64 20)).run Tryz.prog w = .ok (.agg #[.int .i64 2,.int .i64 1,.func (.func 82) #[] #[]]) w:=by kernel_rfl
theorem ins_21 (w:World):(Instr.index 102 (.agg insC) (.int .i64 21)).run Tryz.prog w = .ok (.agg #[.int .i64 2,.int .i64 1,.func (.func 83) #[] #[]]) w:=by kernel_rfl
theorem ins_22 (w:World):(Instr.index 102 (.agg insC) (.int .i64 22)).run Tryz.prog w = .ok (.agg #[.int .i64 2,.int .i64 1,.func (.func 84) #[] #[]]) w:=by kernel_rfl
theorem ins_23 (w:World):(Instr.index 102 (.agg insC) (.int .i64 23)).run Tryz.prog w = .ok (.agg #[.int .i64 1,.int .i64 1,.func (.func 85) #[] #[]]) w:=by kernel_rfl
theorem ins_24 (w:World):(Instr.index 102 (.agg insC) (.int .i64 24)).run Tryz.prog w = .ok (.agg #[.int .i64 0,.int .i64 0,.func (.func 86) #[] #[]]) w:=by kernel_rfl
theorem ins_25 (w:World):(Instr.index 102 (.agg insC) (.int .i64 25)).run Tryz.prog w = .ok (.agg #[.int .i64 1,.int .i64 0,.func (.func 87) #[] #[]]) w:=by kernel_rfl
theorem ins_26 (w:World):(Instr.index 102 (.agg insC) (.int .i64 26)).run Tryz.prog w = .ok (.agg #[.int .i64 0,.int .i64 0,.func (.func 88) #[] #[]]) w:=by kernel_rfl
theorem ins_27 (w:World):(Instr.index 102 (.agg insC) (.int .i64 27)).run Tryz.prog w = .ok (.agg #[.int .i64 0,.int .i64 0,.func (.func 89) #[] #[]]) w:=by kernel_rfl
theorem ins_28 (w:World):(Instr.index 102 (.agg insC) (.int .i64 28)).run Tryz.prog w = .ok (.agg #[.int .i64 0,.int .i64 1,.func (.func 90) #[] #[]]) w:=by kernel_rfl
theorem ins_29 (w:World):(Instr.index 102 (.agg insC) (.int .i64 29)).run Tryz.prog w = .ok (.agg #[.int .i64 1,.int .i64 0,.func (.func 91) #[] #[]]) w:=by kernel_rfl
theorem ins_30 (w:World):(Instr.index 102 (.agg insC) (.int .i64 30)).run Tryz.prog w = .ok (.agg #[.int .i64 0,.int .i64 0,.func (.func 92) #[] #[]]) w:=by kernel_rfl
theorem ins_31 (w:World):(Instr.index 102 (.agg insC) (.int .i64 31)).run Tryz.prog w = .ok (.agg #[.int .i64 1,.int .i64 1,.func (.func 93) #[] #[]]) w:=by kernel_rfl
theorem ins_32 (w:World):(Instr.index 102 (.agg insC) (.int .i64 32)).run Tryz.prog w = .ok (.agg #[.int .i64 2,.int .i64 0,.func (.func 94) #[] #[]]) w:=by kernel_rfl
theorem ins_33 (w:World):(Instr.index 102 (.agg insC) (.int .i64 33)).run Tryz.prog w = .ok (.agg #[.int .i64 0,.int .i64 2,.func (.func 95) #[] #[]]) w:=by kernel_rfl
theorem ins_34 (w:World):(Instr.index 102 (.agg insC) (.int .i64 34)).run Tryz.prog w = .ok (.agg #[.int .i64 0,.int .i64 2,.func (.func 95) #[] #[]]) w:=by kernel_rfl
theorem ins_35 (w:World):(Instr.index 102 (.agg insC) (.int .i64 35)).run Tryz.prog w = .ok (.agg #[.int .i64 0,.int .i64 2,.func (.func 95) #[] #[]]) w:=by kernel_rfl
theorem ins_36 (w:World):(Instr.index 102 (.agg insC) (.int .i64 36)).run Tryz.prog w = .ok (.agg #[.int .i64 0,.int .i64 2,.func (.func 95) #[] #[]]) w:=by kernel_rfl
theorem ins_37 (w:World):(Instr.index 102 (.agg insC) (.int .i64 37)).run Tryz.prog w = .ok (.agg #[.int .i64 0,.int .i64 2,.func (.func 95) #[] #[]]) w:=by kernel_rfl
theorem ins_38 (w:World):(Instr.index 102 (.agg insC) (.int .i64 38)).run Tryz.prog w = .ok (.agg #[.int .i64 0,.int .i64 2,.func (.func 95) #[] #[]]) w:=by kernel_rfl
theorem ins_39 (w:World):(Instr.index 102 (.agg insC) (.int .i64 39)).run Tryz.prog w = .ok (.agg #[.int .i64 0,.int .i64 2,.func (.func 95) #[] #[]]) w:=by kernel_rfl
theorem ins_40 (w:World):(Instr.index 102 (.agg insC) (.int .i64 40)).run Tryz.prog w = .ok (.agg #[.int .i64 0,.int .i64 2,.func (.func 95) #[] #[]]) w:=by kernel_rfl
theorem ins_at (c:Nat) (hc:c < 41) (w:World):(Instr.index 102 (.agg insC) (.int .i64 (c:Int))).run Tryz.prog w = .ok (.agg #[.int .i64 (tkC.getD c 0),.int .i64 (ptC.getD c 0),.func (.func (fnC.getD c 0)) #[] #[]]) w :=
 match c,hc with
 | 0,_=>ins_0 w
 | 1,_=>ins_1 w
 | 2,_=>ins_2 w
 | 3,_=>ins_3 w
 | 4,_=>ins_4 w
 | 5,_=>ins_5 w
 | 6,_=>ins_6 w
 | 7,_=>ins_7 w
 | 8,_=>ins_8 w
 | 9,_=>ins_9 w
 | 10,_=>ins_10 w
 | 11,_=>ins_11 w
 | 12,_=>ins_12 w
 | 13,_=>ins_13 w
 | 14,_=>ins_14 w
 | 15,_=>ins_15 w
 | 16,_=>ins_16 w
 | 17,_=>ins_17 w
 | 18,_=>ins_18 w
 | 19,_=>ins_19 w
 | 20,_=>ins_20 w
 | 21,_=>ins_21 w
 | 22,_=>ins_22 w
 | 23,_=>ins_23 w
 | 24,_=>ins_24 w
 | 25,_=>ins_25 w
 | 26,_=>ins_26 w
 | 27,_=>ins_27 w
 | 28,_=>ins_28 w
 | 29,_=>ins_29 w
 | 30,_=>ins_30 w
 | 31,_=>ins_31 w
 | 32,_=>ins_32 w
 | 33,_=>ins_33 w
 | 34,_=>ins_34 w
 | 35,_=>ins_35 w
 | 36,_=>ins_36 w
 | 37,_=>ins_37 w
 | 38,_=>ins_38 w
 | 39,_=>ins_39 w
 | 40,_=>ins_40 w
 | n+41,h=>absurd h (by omega)
end Go.Proofs.YtigfjedohdgjfaaGreatDoor.Pj
namespace Go.Proofs.YtigfjedohdgjfaaGreatDoor.Pj
open Go.ChangeShapes Go.WideShapes Go.ChangeAt Go.RowKit
open Tl (Wn wn0 nth numC Nl)
attribute [local go_sem ↓] Go.wp_at_zero Go.wp_at_succ
structure Da (w:World) (base X:Nat) (j:Jb) (y:Jv) (S:List Int) (sv:Value) (w1:World):Prop where
 job:JAt' w1 base X { j with st:=S } { y with sv:=sv }
 own : ∀ q ∈ bl sv,q ∈ bl y.sv∨w.heap.size≤q
 kp:Keep (X :: bl y.sv) w w1
theorem JAt'.da {w:World} {base X:Nat} {j:Jb} {y:Jv} (h:JAt' w base X j y):Da w base X j y j.st y.sv w:=⟨h,fun _ hq=>Or.inl hq,Keep.refl _ _⟩
theorem Da.below {w w1 w2:World} {base X:Nat} {j:Jb} {y:Jv} {S:List Int} {sv:Value} (h:Da w base X j y S sv w1) (hb:Below w1.heap.size w1 w2):Da w base X j y S sv w2:=⟨h.job.keep (Keep.of_below hb []) (by simp),h.own,h.kp.trans (Keep.of_below hb []) (by simp)⟩
theorem Da.push {w w1 : World} {base X : Nat} {j : Jb} {y : Jv} {S : List Int} {sv : Value} (h : Da w base X j y S sv w1) (hb : base ≤ w.heap.size) (hl : S.length ≤ 1000) (v : Int) : Calls Tryz.prog 43 #[.pointer (some ⟨X, 0, none⟩), .int .i64 v] w1 fun e w' => ∃ sv', e = .returned (.tuple #[]) ∧ Da w base X j y (S ++ [v]) sv' w' := by
 refine (push_any' h.job (Nat.le_trans hb h.kp.size) hl v).mono ?_
 rintro e w' ⟨sv', rfl, q1, q2, q3⟩
 refine ⟨sv', rfl, q1, fun q hq => (q2 q hq).elim (fun h1 => h.own q h1) (fun h1 => Or.inr (Nat.le_trans h.kp.size h1)), h.kp.trans q3 (fun b hb => ?_)⟩
 rcases List.mem_cons.1 hb with rfl | h1
 ·exact Or.inl List.mem_cons_self
 ·exact (h.own b h1).imp (List.mem_cons_of_mem _) id
theorem Da.pop {w w1 : World} {base X : Nat} {j : Jb} {y : Jv} {S : List Int} {sv : Value} (h : Da w base X j y S sv w1) (hn : 1 ≤ S.length) (hl : S.length ≤ 1000) : Calls Tryz.prog 116 #[.pointer (some ⟨X, 0, none⟩)] w1 fun e w' => ∃ sv', e = .returned (.int .i64 (nth S (S.length - 1))) ∧ Da w base X j y (S.take (S.length - 1)) sv' w' := by
 refine (pop_any h.job hn hl).mono ?_
 rintro e w' ⟨sv', rfl, q1, q2, q3⟩
 exact ⟨sv', rfl, q1, fun q hq => h.own q (q2 ▸ hq), h.kp.trans q3 (fun b hb => Or.inl (by simp at hb; simp [hb]))⟩
theorem Da.popTwo {w w1 : World} {base X : Nat} {j : Jb} {y : Jv} {S : List Int} {sv : Value} (h : Da w base X j y S sv w1) (hn : 2 ≤ S.length) (hl : S.length ≤ 1000) : Calls Tryz.prog 117 #[.pointer (some ⟨X, 0, none⟩)] w1 fun e w' => ∃ sv', e = .returned (.tuple #[.int .i64 (nth S (S.length - 2)), .int .i64 (nth S (S.length - 2 + 1))]) ∧ Da w base X j y (S.take (S.length - 2)) sv' w' := by
 refine (popTwo_any h.job hn hl).mono ?_
 rintro e w' ⟨sv', rfl, q1, q2, q3⟩
 exact ⟨sv', rfl, q1, fun q hq => h.own q (q2 ▸ hq), h.kp.trans q3 (fun b hb => Or.inl (by simp at hb; simp [hb]))⟩
def trV (b:Bool):Int:=if b then 1 else 0
theorem Da.truth {w w1 : World} {base X : Nat} {j : Jb} {y : Jv} {S : List Int} {sv : Value} (h : Da w base X j y S sv w1) (hb : base ≤ w.heap.size) (hl : S.length ≤ 1000) (b : Bool) : Calls Tryz.prog 119 #[.pointer (some ⟨X, 0, none⟩), .bool b] w1 fun e w' => ∃ sv', e = .returned (.tuple #[]) ∧ Da w base X j y (S ++ [trV b]) sv' w' := by
 have HP : Hid (∀ v, Calls Tryz.prog 43 #[.pointer (some ⟨X, 0, none⟩), .int .i64 v] w1 fun e w' => ∃ sv', e = .returned (.tuple #[]) ∧ Da w base X j y (S ++ [v]) sv' w') := fun v => h.push hb hl v
 clear h
 cases b
 all_goals
  go_enter Tryz.func119,Tryz.ntmps119
  go_wp2_with fail
  refine (HP.out _).mono ?_
  rintro e w2 ⟨sv', rfl, q⟩
  have HQ:Hid (Da w base X j y _ sv' w2):=q
  clear q
  go_wp2_with fail
  first | go_end0 | ((try simp only [Exit.inBlock,Exit.then]); refine bodyPost_ret (results_none rfl _ _ _) rfl ?_)
  exact ⟨_,rfl,HQ.out⟩
def shN (n:Int):Nat:=(n % 64).toNat
theorem shiftBy_any (n:Int) (w:World):Calls Tryz.prog 118 #[.int .i64 n] w fun e w' => e = .returned (.int .u64 (shN n:Int))∧w'=w:=by
 have hm:=and63 n
 unfold shN
 go_enter Tryz.func118,Tryz.ntmps118
 go_wp2_with fail
 go_ret
 exact ⟨by rw [Int.ofNat_toNat]; rfl,rfl⟩
theorem shN_lt (n:Int):shN n < 64:=by unfold shN; omega
def narV (a o:Int):Int:=if o=0 then wrap64 (IntKind.i8.wrap a) else if o=1 then wrap64 (IntKind.i16.wrap a) else if o=2 then wrap64 (wrap32 a) else if o=3 then a % 256 else if o=4 then a % 65536 else a % 4294967296
theorem dup_any {w:World} {base X:Nat} {j:Jb} {y:Jv} (h:JAt' w base X j y) (hb:base≤w.heap.size) (hn:1≤j.st.length) (hl:j.st.length≤990) (oc ox:Int) :
  Calls Tryz.prog 66 #[.pointer (some ⟨X,0,none⟩),.agg #[.int .i64 oc,.int .i64 ox]] w fun e w' => ∃ sv,e = .returned (.tuple #[])∧Da w base X j y (j.st.take (j.st.length - 1) ++ [(nth j.st (j.st.length - 1))] ++ [(nth j.st (j.st.length - 1))]) sv w':=by
 have HT:Hid (∀ w0,Below w.heap.size w w0→Calls Tryz.prog 116 #[.pointer (some ⟨X,0,none⟩)] w0 fun e w' => ∃ sv,e = .returned (.int .i64 (nth j.st (j.st.length - 1)))∧Da w base X j y (j.st.take (j.st.length - 1)) sv w'):=fun w0 hw=>(h.da.below hw).pop hn (by omega)
 have HP : Hid (∀ w1 S sv v, Da w base X j y S sv w1 → S.length ≤ 1000 → Calls Tryz.prog 43 #[.pointer (some ⟨X, 0, none⟩), .int .i64 v] w1 fun e w' => ∃ sv', e = .returned (.tuple #[]) ∧ Da w base X j y (S ++ [v]) sv' w') := fun w1 S sv v h1 h2 => h1.push hb h2 v
 clear h hb
 have hS:(j.st.take (j.st.length - 1)).length≤990:=by simp; omega
 generalize nth j.st (j.st.length - 1)=a at *
 generalize j.st.take (j.st.length - 1)=S at *
 clear hn hl
 go_enter Tryz.func66,Tryz.ntmps66
 go_wp2_with fail
 refine (HT.out _ (below_a1 _ _)).mono ?_
 rintro e w1 ⟨sv,rfl,q⟩
 have HQ:Hid (Da w base X j y S sv w1):=q
 clear q HT
 go_wp2_with fail
 refine (HP.out _ _ _ _ HQ.out (by first | omega | (simp; omega))).mono ?_
 rintro e w2 ⟨sv2,rfl,q⟩
 clear HQ
 have HQ:Hid (Da w base X j y _ sv2 w2):=q
 clear q
 go_wp2_with fail
 refine (HP.out _ _ _ _ HQ.out (by first | omega | (simp; omega))).mono ?_
 rintro e w3 ⟨sv3,rfl,q⟩
 clear HQ
 have HQ:Hid (Da w base X j y _ sv3 w3):=q
 clear q
 go_wp2_with fail
 first | go_end0 | ((try simp only [Exit.inBlock,Exit.then]); refine bodyPost_ret (results_none rfl _ _ _) rfl ?_)
 exact ⟨_,rfl,by first | exact HQ.out | simpa using HQ.out | simpa [List.append_assoc] using HQ.out⟩
theorem drop_any {w:World} {base X:Nat} {j:Jb} {y:Jv} (h:JAt' w base X j y) (_hb:base≤w.heap.size) (hn:1≤j.st.length) (hl:j.st.length≤990) (oc ox:Int) :
  Calls Tryz.prog 67 #[.pointer (some ⟨X,0,none⟩),.agg #[.int .i64 oc,.int .i64 ox]] w fun e w' => ∃ sv,e = .returned (.tuple #[])∧Da w base X j y (j.st.take (j.st.length - 1)) sv w':=by
 have HT:Hid (∀ w0,Below w.heap.size w w0→Calls Tryz.prog 116 #[.pointer (some ⟨X,0,none⟩)] w0 fun e w' => ∃ sv,e = .returned (.int .i64 (nth j.st (j.st.length - 1)))∧Da w base X j y (j.st.take (j.st.length - 1)) sv w'):=fun w0 hw=>(h.da.below hw).pop hn (by omega)
 clear h _hb
 have hS:(j.st.take (j.st.length - 1)).length≤990:=by simp; omega
 generalize nth j.st (j.st.length - 1)=a at *
 generalize j.st.take (j.st.length - 1)=S at *
 clear hn hl
 go_enter Tryz.func67,Tryz.ntmps67
 go_wp2_with fail
 refine (HT.out _ (below_a1 _ _)).mono ?_
 rintro e w1 ⟨sv,rfl,q⟩
 have HQ:Hid (Da w base X j y S sv w1):=q
 clear q HT
 go_wp2_with fail
 first | go_end0 | ((try simp only [Exit.inBlock,Exit.then]); refine bodyPost_ret (results_none rfl _ _ _) rfl ?_)
 exact ⟨_,rfl,by first | exact HQ.out | simpa using HQ.out | simpa [List.append_assoc] using HQ.out⟩
theorem swap_any {w:World} {base X:Nat} {j:Jb} {y:Jv} (h:JAt' w base X j y) (hb:base≤w.heap.size) (hn:2≤j.st.length) (hl:j.st.length≤990) (oc ox:Int) :
  Calls Tryz.prog 68 #[.pointer (some ⟨X,0,none⟩),.agg #[.int .i64 oc,.int .i64 ox]] w fun e w' => ∃ sv,e = .returned (.tuple #[])∧Da w base X j y (j.st.take (j.st.length - 2) ++ [(nth j.st (j.st.length - 2+1))] ++ [(nth j.st (j.st.length - 2))]) sv w':=by
 have HT:Hid (∀ w0,Below w.heap.size w w0→Calls Tryz.prog 117 #[.pointer (some ⟨X,0,none⟩)] w0 fun e w' => ∃ sv,e = .returned (.tuple #[.int .i64 (nth j.st (j.st.length - 2)),.int .i64 (nth j.st (j.st.length - 2+1))])∧Da w base X j y (j.st.take (j.st.length - 2)) sv w'):=fun w0 hw=>(h.da.below hw).popTwo hn (by omega)
 have HP : Hid (∀ w1 S sv v, Da w base X j y S sv w1 → S.length ≤ 1000 → Calls Tryz.prog 43 #[.pointer (some ⟨X, 0, none⟩), .int .i64 v] w1 fun e w' => ∃ sv', e = .returned (.tuple #[]) ∧ Da w base X j y (S ++ [v]) sv' w') := fun w1 S sv v h1 h2 => h1.push hb h2 v
 clear h hb
 have hS:(j.st.take (j.st.length - 2)).length≤990:=by simp; omega
 generalize nth j.st (j.st.length - 2)=a at *
 generalize nth j.st (j.st.length - 2+1)=b at *
 generalize j.st.take (j.st.length - 2)=S at *
 clear hn hl
 go_enter Tryz.func68,Tryz.ntmps68
 go_wp2_with fail
 refine (HT.out _ (below_a1 _ _)).mono ?_
 rintro e w1 ⟨sv,rfl,q⟩
 have HQ:Hid (Da w base X j y S sv w1):=q
 clear q HT
 go_wp2_with fail
 refine (HP.out _ _ _ _ HQ.out (by first | omega | (simp; omega))).mono ?_
 rintro e w2 ⟨sv2,rfl,q⟩
 clear HQ
 have HQ:Hid (Da w base X j y _ sv2 w2):=q
 clear q
 go_wp2_with fail
 refine (HP.out _ _ _ _ HQ.out (by first | omega | (simp; omega))).mono ?_
 rintro e w3 ⟨sv3,rfl,q⟩
 clear HQ
 have HQ:Hid (Da w base X j y _ sv3 w3):=q
 clear q
 go_wp2_with fail
 first | go_end0 | ((try simp only [Exit.inBlock,Exit.then]); refine bodyPost_ret (results_none rfl _ _ _) rfl ?_)
 exact ⟨_,rfl,by first | exact HQ.out | simpa using HQ.out | simpa [List.append_assoc] using HQ.out⟩
theorem over_any {w:World} {base X:Nat} {j:Jb} {y:Jv} (h:JAt' w base X j y) (hb:base≤w.heap.size) (hn:2≤j.st.length) (hl:j.st.length≤990) (oc ox:Int) :
  Calls Tryz.prog 69 #[.pointer (some ⟨X,0,none⟩),.agg #[.int .i64 oc,.int .i64 ox]] w fun e w' => ∃ sv,e = .returned (.tuple #[])∧Da w base X j y (j.st.take (j.st.length - 2) ++ [(nth j.st (j.st.length - 2))] ++ [(nth j.st (j.st.length - 2+1))] ++ [(nth j.st (j.st.length - 2))]) sv w':=by
 have HT:Hid (∀ w0,Below w.heap.size w w0→Calls Tryz.prog 117 #[.pointer (some ⟨X,0,none⟩)] w0 fun e w' => ∃ sv,e = .returned (.tuple #[.int .i64 (nth j.st (j.st.length - 2)),.int .i64 (nth j.st (j.st.length - 2+1))])∧Da w base X j y (j.st.take (j.st.length - 2)) sv w'):=fun w0 hw=>(h.da.below hw).popTwo hn (by omega)
 have HP : Hid (∀ w1 S sv v, Da w base X j y S sv w1 → S.length ≤ 1000 → Calls Tryz.prog 43 #[.pointer (some ⟨X, 0, none⟩), .int .i64 v] w1 fun e w' => ∃ sv', e = .returned (.tuple #[]) ∧ Da w base X j y (S ++ [v]) sv' w') := fun w1 S sv v h1 h2 => h1.push hb h2 v
 clear h hb
 have hS:(j.st.take (j.st.length - 2)).length≤990:=by simp; omega
 generalize nth j.st (j.st.length - 2)=a at *
 generalize nth j.st (j.st.length - 2+1)=b at *
 generalize j.st.take (j.st.length - 2)=S at *
 clear hn hl
 go_enter Tryz.func69,Tryz.ntmps69
 go_wp2_with fail
 refine (HT.out _ (below_a1 _ _)).mono ?_
 rintro e w1 ⟨sv,rfl,q⟩
 have HQ:Hid (Da w base X j y S sv w1):=q
 clear q HT
 go_wp2_with fail
 refine (HP.out _ _ _ _ HQ.out (by first | omega | (simp; omega))).mono ?_
 rintro e w2 ⟨sv2,rfl,q⟩
 clear HQ
 have HQ:Hid (Da w base X j y _ sv2 w2):=q
 clear q
 go_wp2_with fail
 refine (HP.out _ _ _ _ HQ.out (by first | omega | (simp; omega))).mono ?_
 rintro e w3 ⟨sv3,rfl,q⟩
 clear HQ
 have HQ:Hid (Da w base X j y _ sv3 w3):=q
 clear q
 go_wp2_with fail
 refine (HP.out _ _ _ _ HQ.out (by first | omega | (simp; omega))).mono ?_
 rintro e w4 ⟨sv4,rfl,q⟩
 clear HQ
 have HQ:Hid (Da w base X j y _ sv4 w4):=q
 clear q
 go_wp2_with fail
 first | go_end0 | ((try simp only [Exit.inBlock,Exit.then]); refine bodyPost_ret (results_none rfl _ _ _) rfl ?_)
 exact ⟨_,rfl,by first | exact HQ.out | simpa using HQ.out | simpa [List.append_assoc] using HQ.out⟩
theorem pushOperand_any {w:World} {base X:Nat} {j:Jb} {y:Jv} (h:JAt' w base X j y) (hb:base≤w.heap.size) (_hn:0≤j.st.length) (hl:j.st.length≤990) (oc ox:Int) :
  Calls Tryz.prog 65 #[.pointer (some ⟨X,0,none⟩),.agg #[.int .i64 oc,.int .i64 ox]] w fun e w' => ∃ sv,e = .returned (.tuple #[])∧Da w base X j y (j.st ++ [ox]) sv w':=by
 have H0:Hid (∀ w0,Below w.heap.size w w0→Da w base X j y j.st y.sv w0):=fun w0 hw=>h.da.below hw
 have HP : Hid (∀ w1 S sv v, Da w base X j y S sv w1 → S.length ≤ 1000 → Calls Tryz.prog 43 #[.pointer (some ⟨X, 0, none⟩), .int .i64 v] w1 fun e w' => ∃ sv', e = .returned (.tuple #[]) ∧ Da w base X j y (S ++ [v]) sv' w') := fun w1 S sv v h1 h2 => h1.push hb h2 v
 clear h hb
 have hS:j.st.length≤990:=hl
 generalize j.st=S at *
 clear hl
 go_enter Tryz.func65,Tryz.ntmps65
 go_wp2_with fail
 refine (HP.out _ _ _ _ (H0.out _ (below_a1 _ _)) (by first | omega | (simp; omega))).mono ?_
 rintro e w2 ⟨sv2,rfl,q⟩
 have HQ:Hid (Da w base X j y _ sv2 w2):=q
 clear q
 go_wp2_with fail
 first | go_end0 | ((try simp only [Exit.inBlock,Exit.then]); refine bodyPost_ret (results_none rfl _ _ _) rfl ?_)
 exact ⟨_,rfl,by first | exact HQ.out | simpa using HQ.out | simpa [List.append_assoc] using HQ.out⟩
theorem and_any {w:World} {base X:Nat} {j:Jb} {y:Jv} (h:JAt' w base X j y) (hb:base≤w.heap.size) (hn:2≤j.st.length) (hl:j.st.length≤990) (oc ox:Int) :
  Calls Tryz.prog 75 #[.pointer (some ⟨X,0,none⟩),.agg #[.int .i64 oc,.int .i64 ox]] w fun e w' => ∃ sv,e = .returned (.tuple #[])∧Da w base X j y (j.st.take (j.st.length - 2) ++ [bits .and .i64 (nth j.st (j.st.length - 2)) (nth j.st (j.st.length - 2+1))]) sv w':=by
 have HT:Hid (∀ w0,Below w.heap.size w w0→Calls Tryz.prog 117 #[.pointer (some ⟨X,0,none⟩)] w0 fun e w' => ∃ sv,e = .returned (.tuple #[.int .i64 (nth j.st (j.st.length - 2)),.int .i64 (nth j.st (j.st.length - 2+1))])∧Da w base X j y (j.st.take (j.st.length - 2)) sv w'):=fun w0 hw=>(h.da.below hw).popTwo hn (by omega)
 have HP : Hid (∀ w1 S sv v, Da w base X j y S sv w1 → S.length ≤ 1000 → Calls Tryz.prog 43 #[.pointer (some ⟨X, 0, none⟩), .int .i64 v] w1 fun e w' => ∃ sv', e = .returned (.tuple #[]) ∧ Da w base X j y (S ++ [v]) sv' w') := fun w1 S sv v h1 h2 => h1.push hb h2 v
 clear h hb
 have hS:(j.st.take (j.st.length - 2)).length≤990:=by simp; omega
 generalize nth j.st (j.st.length - 2)=a at *
 generalize nth j.st (j.st.length - 2+1)=b at *
 generalize j.st.take (j.st.length - 2)=S at *
 clear hn hl
 go_enter Tryz.func75,Tryz.ntmps75
 go_wp2_with fail
 refine (HT.out _ (below_a1 _ _)).mono ?_
 rintro e w1 ⟨sv,rfl,q⟩
 have HQ:Hid (Da w base X j y S sv w1):=q
 clear q HT
 go_wp2_with fail
 refine (HP.out _ _ _ _ HQ.out (by first | omega | (simp; omega))).mono ?_
 rintro e w2 ⟨sv2,rfl,q⟩
 clear HQ
 have HQ:Hid (Da w base X j y _ sv2 w2):=q
 clear q
 go_wp2_with fail
 first | go_end0 | ((try simp only [Exit.inBlock,Exit.then]); refine bodyPost_ret (results_none rfl _ _ _) rfl ?_)
 exact ⟨_,rfl,by first | exact HQ.out | simpa using HQ.out | simpa [List.append_assoc] using HQ.out⟩
theorem or_any {w:World} {base X:Nat} {j:Jb} {y:Jv} (h:JAt' w base X j y) (hb:base≤w.heap.size) (hn:2≤j.st.length) (hl:j.st.length≤990) (oc ox:Int) :
  Calls Tryz.prog 76 #[.pointer (some ⟨X,0,none⟩),.agg #[.int .i64 oc,.int .i64 ox]] w fun e w' => ∃ sv,e = .returned (.tuple #[])∧Da w base X j y (j.st.take (j.st.length - 2) ++ [bits .or .i64 (nth j.st (j.st.length - 2)) (nth j.st (j.st.length - 2+1))]) sv w':=by
 have HT:Hid (∀ w0,Below w.heap.size w w0→Calls Tryz.prog 117 #[.pointer (some ⟨X,0,none⟩)] w0 fun e w' => ∃ sv,e = .returned (.tuple #[.int .i64 (nth j.st (j.st.length - 2)),.int .i64 (nth j.st (j.st.length - 2+1))])∧Da w base X j y (j.st.take (j.st.length - 2)) sv w'):=fun w0 hw=>(h.da.below hw).popTwo hn (by omega)
 have HP : Hid (∀ w1 S sv v, Da w base X j y S sv w1 → S.length ≤ 1000 → Calls Tryz.prog 43 #[.pointer (some ⟨X, 0, none⟩), .int .i64 v] w1 fun e w' => ∃ sv', e = .returned (.tuple #[]) ∧ Da w base X j y (S ++ [v]) sv' w') := fun w1 S sv v h1 h2 => h1.push hb h2 v
 clear h hb
 have hS:(j.st.take (j.st.length - 2)).length≤990:=by simp; omega
 generalize nth j.st (j.st.length - 2)=a at *
 generalize nth j.st (j.st.length - 2+1)=b at *
 generalize j.st.take (j.st.length - 2)=S at *
 clear hn hl
 go_enter Tryz.func76,Tryz.ntmps76
 go_wp2_with fail
 refine (HT.out _ (below_a1 _ _)).mono ?_
 rintro e w1 ⟨sv,rfl,q⟩
 have HQ:Hid (Da w base X j y S sv w1):=q
 clear q HT
 go_wp2_with fail
 refine (HP.out _ _ _ _ HQ.out (by first | omega | (simp; omega))).mono ?_
 rintro e w2 ⟨sv2,rfl,q⟩
 clear HQ
 have HQ:Hid (Da w base X j y _ sv2 w2):=q
 clear q
 go_wp2_with fail
 first | go_end0 | ((try simp only [Exit.inBlock,Exit.then]); refine bodyPost_ret (results_none rfl _ _ _) rfl ?_)
 exact ⟨_,rfl,by first | exact HQ.out | simpa using HQ.out | simpa [List.append_assoc] using HQ.out⟩
theorem xor_any {w:World} {base X:Nat} {j:Jb} {y:Jv} (h:JAt' w base X j y) (hb:base≤w.heap.size) (hn:2≤j.st.length) (hl:j.st.length≤990) (oc ox:Int) :
  Calls Tryz.prog 77 #[.pointer (some ⟨X,0,none⟩),.agg #[.int .i64 oc,.int .i64 ox]] w fun e w' => ∃ sv,e = .returned (.tuple #[])∧Da w base X j y (j.st.take (j.st.length - 2) ++ [bits .xor .i64 (nth j.st (j.st.length - 2)) (nth j.st (j.st.length - 2+1))]) sv w':=by
 have HT:Hid (∀ w0,Below w.heap.size w w0→Calls Tryz.prog 117 #[.pointer (some ⟨X,0,none⟩)] w0 fun e w' => ∃ sv,e = .returned (.tuple #[.int .i64 (nth j.st (j.st.length - 2)),.int .i64 (nth j.st (j.st.length - 2+1))])∧Da w base X j y (j.st.take (j.st.length - 2)) sv w'):=fun w0 hw=>(h.da.below hw).popTwo hn (by omega)
 have HP : Hid (∀ w1 S sv v, Da w base X j y S sv w1 → S.length ≤ 1000 → Calls Tryz.prog 43 #[.pointer (some ⟨X, 0, none⟩), .int .i64 v] w1 fun e w' => ∃ sv', e = .returned (.tuple #[]) ∧ Da w base X j y (S ++ [v]) sv' w') := fun w1 S sv v h1 h2 => h1.push hb h2 v
 clear h hb
 have hS:(j.st.take (j.st.length - 2)).length≤990:=by simp; omega
 generalize nth j.st (j.st.length - 2)=a at *
 generalize nth j.st (j.st.length - 2+1)=b at *
 generalize j.st.take (j.st.length - 2)=S at *
 clear hn hl
 go_enter Tryz.func77,Tryz.ntmps77
 go_wp2_with fail
 refine (HT.out _ (below_a1 _ _)).mono ?_
 rintro e w1 ⟨sv,rfl,q⟩
 have HQ:Hid (Da w base X j y S sv w1):=q
 clear q HT
 go_wp2_with fail
 refine (HP.out _ _ _ _ HQ.out (by first | omega | (simp; omega))).mono ?_
 rintro e w2 ⟨sv2,rfl,q⟩
 clear HQ
 have HQ:Hid (Da w base X j y _ sv2 w2):=q
 clear q
 go_wp2_with fail
 first | go_end0 | ((try simp only [Exit.inBlock,Exit.then]); refine bodyPost_ret (results_none rfl _ _ _) rfl ?_)
 exact ⟨_,rfl,by first | exact HQ.out | simpa using HQ.out | simpa [List.append_assoc] using HQ.out⟩
theorem add_any {w:World} {base X:Nat} {j:Jb} {y:Jv} (h:JAt' w base X j y) (hb:base≤w.heap.size) (hn:2≤j.st.length) (hl:j.st.length≤990) (oc ox:Int) :
  Calls Tryz.prog 70 #[.pointer (some ⟨X,0,none⟩),.agg #[.int .i64 oc,.int .i64 ox]] w fun e w' => ∃ sv,e = .returned (.tuple #[])∧Da w base X j y (j.st.take (j.st.length - 2) ++ [wrap64 ((nth j.st (j.st.length - 2))+(nth j.st (j.st.length - 2+1)))]) sv w':=by
 have HT:Hid (∀ w0,Below w.heap.size w w0→Calls Tryz.prog 117 #[.pointer (some ⟨X,0,none⟩)] w0 fun e w' => ∃ sv,e = .returned (.tuple #[.int .i64 (nth j.st (j.st.length - 2)),.int .i64 (nth j.st (j.st.length - 2+1))])∧Da w base X j y (j.st.take (j.st.length - 2)) sv w'):=fun w0 hw=>(h.da.below hw).popTwo hn (by omega)
 have HP : Hid (∀ w1 S sv v, Da w base X j y S sv w1 → S.length ≤ 1000 → Calls Tryz.prog 43 #[.pointer (some ⟨X, 0, none⟩), .int .i64 v] w1 fun e w' => ∃ sv', e = .returned (.tuple #[]) ∧ Da w base X j y (S ++ [v]) sv' w') := fun w1 S sv v h1 h2 => h1.push hb h2 v
 clear h hb
 have hS:(j.st.take (j.st.length - 2)).length≤990:=by simp; omega
 generalize nth j.st (j.st.length - 2)=a at *
 generalize nth j.st (j.st.length - 2+1)=b at *
 generalize j.st.take (j.st.length - 2)=S at *
 clear hn hl
 go_enter Tryz.func70,Tryz.ntmps70
 go_wp2_with fail
 refine (HT.out _ (below_a1 _ _)).mono ?_
 rintro e w1 ⟨sv,rfl,q⟩
 have HQ:Hid (Da w base X j y S sv w1):=q
 clear q HT
 go_wp2_with fail
 refine (HP.out _ _ _ _ HQ.out (by first | omega | (simp; omega))).mono ?_
 rintro e w2 ⟨sv2,rfl,q⟩
 clear HQ
 have HQ:Hid (Da w base X j y _ sv2 w2):=q
 clear q
 go_wp2_with fail
 first | go_end0 | ((try simp only [Exit.inBlock,Exit.then]); refine bodyPost_ret (results_none rfl _ _ _) rfl ?_)
 exact ⟨_,rfl,by first | exact HQ.out | simpa using HQ.out | simpa [List.append_assoc] using HQ.out⟩
theorem sub_any {w:World} {base X:Nat} {j:Jb} {y:Jv} (h:JAt' w base X j y) (hb:base≤w.heap.size) (hn:2≤j.st.length) (hl:j.st.length≤990) (oc ox:Int) :
  Calls Tryz.prog 71 #[.pointer (some ⟨X,0,none⟩),.agg #[.int .i64 oc,.int .i64 ox]] w fun e w' => ∃ sv,e = .returned (.tuple #[])∧Da w base X j y (j.st.take (j.st.length - 2) ++ [wrap64 ((nth j.st (j.st.length - 2)) - (nth j.st (j.st.length - 2+1)))]) sv w':=by
 have HT:Hid (∀ w0,Below w.heap.size w w0→Calls Tryz.prog 117 #[.pointer (some ⟨X,0,none⟩)] w0 fun e w' => ∃ sv,e = .returned (.tuple #[.int .i64 (nth j.st (j.st.length - 2)),.int .i64 (nth j.st (j.st.length - 2+1))])∧Da w base X j y (j.st.take (j.st.length - 2)) sv w'):=fun w0 hw=>(h.da.below hw).popTwo hn (by omega)
 have HP : Hid (∀ w1 S sv v, Da w base X j y S sv w1 → S.length ≤ 1000 → Calls Tryz.prog 43 #[.pointer (some ⟨X, 0, none⟩), .int .i64 v] w1 fun e w' => ∃ sv', e = .returned (.tuple #[]) ∧ Da w base X j y (S ++ [v]) sv' w') := fun w1 S sv v h1 h2 => h1.push hb h2 v
 clear h hb
 have hS:(j.st.take (j.st.length - 2)).length≤990:=by simp; omega
 generalize nth j.st (j.st.length - 2)=a at *
 generalize nth j.st (j.st.length - 2+1)=b at *
 generalize j.st.take (j.st.length - 2)=S at *
 clear hn hl
 go_enter Tryz.func71,Tryz.ntmps71
 go_wp2_with fail
 refine (HT.out _ (below_a1 _ _)).mono ?_
 rintro e w1 ⟨sv,rfl,q⟩
 have HQ:Hid (Da w base X j y S sv w1):=q
 clear q HT
 go_wp2_with fail
 refine (HP.out _ _ _ _ HQ.out (by first | omega | (simp; omega))).mono ?_
 rintro e w2 ⟨sv2,rfl,q⟩
 clear HQ
 have HQ:Hid (Da w base X j y _ sv2 w2):=q
 clear q
 go_wp2_with fail
 first | go_end0 | ((try simp only [Exit.inBlock,Exit.then]); refine bodyPost_ret (results_none rfl _ _ _) rfl ?_)
 exact ⟨_,rfl,by first | exact HQ.out | simpa using HQ.out | simpa [List.append_assoc] using HQ.out⟩
theorem mul_any {w:World} {base X:Nat} {j:Jb} {y:Jv} (h:JAt' w base X j y) (hb:base≤w.heap.size) (hn:2≤j.st.length) (hl:j.st.length≤990) (oc ox:Int) :
  Calls Tryz.prog 72 #[.pointer (some ⟨X,0,none⟩),.agg #[.int .i64 oc,.int .i64 ox]] w fun e w' => ∃ sv,e = .returned (.tuple #[])∧Da w base X j y (j.st.take (j.st.length - 2) ++ [wrap64 ((nth j.st (j.st.length - 2)) * (nth j.st (j.st.length - 2+1)))]) sv w':=by
 have HT:Hid (∀ w0,Below w.heap.size w w0→Calls Tryz.prog 117 #[.pointer (some ⟨X,0,none⟩)] w0 fun e w' => ∃ sv,e = .returned (.tuple #[.int .i64 (nth j.st (j.st.length - 2)),.int .i64 (nth j.st (j.st.length - 2+1))])∧Da w base X j y (j.st.take (j.st.length - 2)) sv w'):=fun w0 hw=>(h.da.below hw).popTwo hn (by omega)
 have HP : Hid (∀ w1 S sv v, Da w base X j y S sv w1 → S.length ≤ 1000 → Calls Tryz.prog 43 #[.pointer (some ⟨X, 0, none⟩), .int .i64 v] w1 fun e w' => ∃ sv', e = .returned (.tuple #[]) ∧ Da w base X j y (S ++ [v]) sv' w') := fun w1 S sv v h1 h2 => h1.push hb h2 v
 clear h hb
 have hS:(j.st.take (j.st.length - 2)).length≤990:=by simp; omega
 generalize nth j.st (j.st.length - 2)=a at *
 generalize nth j.st (j.st.length - 2+1)=b at *
 generalize j.st.take (j.st.length - 2)=S at *
 clear hn hl
 go_enter Tryz.func72,Tryz.ntmps72
 go_wp2_with fail
 refine (HT.out _ (below_a1 _ _)).mono ?_
 rintro e w1 ⟨sv,rfl,q⟩
 have HQ:Hid (Da w base X j y S sv w1):=q
 clear q HT
 go_wp2_with fail
 refine (HP.out _ _ _ _ HQ.out (by first | omega | (simp; omega))).mono ?_
 rintro e w2 ⟨sv2,rfl,q⟩
 clear HQ
 have HQ:Hid (Da w base X j y _ sv2 w2):=q
 clear q
 go_wp2_with fail
 first | go_end0 | ((try simp only [Exit.inBlock,Exit.then]); refine bodyPost_ret (results_none rfl _ _ _) rfl ?_)
 exact ⟨_,rfl,by first | exact HQ.out | simpa using HQ.out | simpa [List.append_assoc] using HQ.out⟩
theorem eq_any {w:World} {base X:Nat} {j:Jb} {y:Jv} (h:JAt' w base X j y) (hb:base≤w.heap.size) (hn:2≤j.st.length) (hl:j.st.length≤990) (oc ox:Int) :
  Calls Tryz.prog 82 #[.pointer (some ⟨X,0,none⟩),.agg #[.int .i64 oc,.int .i64 ox]] w fun e w' => ∃ sv,e = .returned (.tuple #[])∧Da w base X j y (j.st.take (j.st.length - 2) ++ [trV ((nth j.st (j.st.length - 2)) == (nth j.st (j.st.length - 2+1)))]) sv w':=by
 have HT:Hid (∀ w0,Below w.heap.size w w0→Calls Tryz.prog 117 #[.pointer (some ⟨X,0,none⟩)] w0 fun e w' => ∃ sv,e = .returned (.tuple #[.int .i64 (nth j.st (j.st.length - 2)),.int .i64 (nth j.st (j.st.length - 2+1))])∧Da w base X j y (j.st.take (j.st.length - 2)) sv w'):=fun w0 hw=>(h.da.below hw).popTwo hn (by omega)
 have HU : Hid (∀ w1 S sv v, Da w base X j y S sv w1 → S.length ≤ 1000 → Calls Tryz.prog 119 #[.pointer (some ⟨X, 0, none⟩), .bool v] w1 fun e w' => ∃ sv', e = .returned (.tuple #[]) ∧ Da w base X j y (S ++ [trV v]) sv' w') := fun w1 S sv v h1 h2 => h1.truth hb h2 v
 clear h hb
 have hS:(j.st.take (j.st.length - 2)).length≤990:=by simp; omega
 generalize nth j.st (j.st.length - 2)=a at *
 generalize nth j.st (j.st.length - 2+1)=b at *
 generalize j.st.take (j.st.length - 2)=S at *
 clear hn hl
 go_enter Tryz.func82,Tryz.ntmps82
 go_wp2_with fail
 refine (HT.out _ (below_a1 _ _)).mono ?_
 rintro e w1 ⟨sv,rfl,q⟩
 have HQ:Hid (Da w base X j y S sv w1):=q
 clear q HT
 go_wp2_with fail
 refine (HU.out _ _ _ _ HQ.out (by first | omega | (simp; omega))).mono ?_
 rintro e w2 ⟨sv2,rfl,q⟩
 clear HQ
 have HQ:Hid (Da w base X j y _ sv2 w2):=q
 clear q
 go_wp2_with fail
 first | go_end0 | ((try simp only [Exit.inBlock,Exit.then]); refine bodyPost_ret (results_none rfl _ _ _) rfl ?_)
 exact ⟨_,rfl,by first | exact HQ.out | simpa using HQ.out | simpa [List.append_assoc] using HQ.out⟩
theorem lt_any {w:World} {base X:Nat} {j:Jb} {y:Jv} (h:JAt' w base X j y) (hb:base≤w.heap.size) (hn:2≤j.st.length) (hl:j.st.length≤990) (oc ox:Int) :
  Calls Tryz.prog 83 #[.pointer (some ⟨X,0,none⟩),.agg #[.int .i64 oc,.int .i64 ox]] w fun e w' => ∃ sv,e = .returned (.tuple #[])∧Da w base X j y (j.st.take (j.st.length - 2) ++ [trV (decide ((nth j.st (j.st.length - 2)) < (nth j.st (j.st.length - 2+1))))]) sv w':=by
 have HT:Hid (∀ w0,Below w.heap.size w w0→Calls Tryz.prog 117 #[.pointer (some ⟨X,0,none⟩)] w0 fun e w' => ∃ sv,e = .returned (.tuple #[.int .i64 (nth j.st (j.st.length - 2)),.int .i64 (nth j.st (j.st.length - 2+1))])∧Da w base X j y (j.st.take (j.st.length - 2)) sv w'):=fun w0 hw=>(h.da.below hw).popTwo hn (by omega)
 have HU : Hid (∀ w1 S sv v, Da w base X j y S sv w1 → S.length ≤ 1000 → Calls Tryz.prog 119 #[.pointer (some ⟨X, 0, none⟩), .bool v] w1 fun e w' => ∃ sv', e = .returned (.tuple #[]) ∧ Da w base X j y (S ++ [trV v]) sv' w') := fun w1 S sv v h1 h2 => h1.truth hb h2 v
 clear h hb
 have hS:(j.st.take (j.st.length - 2)).length≤990:=by simp; omega
 generalize nth j.st (j.st.length - 2)=a at *
 generalize nth j.st (j.st.length - 2+1)=b at *
 generalize j.st.take (j.st.length - 2)=S at *
 clear hn hl
 go_enter Tryz.func83,Tryz.ntmps83
 go_wp2_with fail
 refine (HT.out _ (below_a1 _ _)).mono ?_
 rintro e w1 ⟨sv,rfl,q⟩
 have HQ:Hid (Da w base X j y S sv w1):=q
 clear q HT
 go_wp2_with fail
 refine (HU.out _ _ _ _ HQ.out (by first | omega | (simp; omega))).mono ?_
 rintro e w2 ⟨sv2,rfl,q⟩
 clear HQ
 have HQ:Hid (Da w base X j y _ sv2 w2):=q
 clear q
 go_wp2_with fail
 first | go_end0 | ((try simp only [Exit.inBlock,Exit.then]); refine bodyPost_ret (results_none rfl _ _ _) rfl ?_)
 exact ⟨_,rfl,by first | exact HQ.out | simpa using HQ.out | simpa [List.append_assoc] using HQ.out⟩
theorem ult_any {w:World} {base X:Nat} {j:Jb} {y:Jv} (h:JAt' w base X j y) (hb:base≤w.heap.size) (hn:2≤j.st.length) (hl:j.st.length≤990) (oc ox:Int) :
  Calls Tryz.prog 84 #[.pointer (some ⟨X,0,none⟩),.agg #[.int .i64 oc,.int .i64 ox]] w fun e w' => ∃ sv,e = .returned (.tuple #[])∧Da w base X j y (j.st.take (j.st.length - 2) ++ [trV (decide (IntKind.u64.wrap (nth j.st (j.st.length - 2)) < IntKind.u64.wrap (nth j.st (j.st.length - 2+1))))]) sv w':=by
 have HT:Hid (∀ w0,Below w.heap.size w w0→Calls Tryz.prog 117 #[.pointer (some ⟨X,0,none⟩)] w0 fun e w' => ∃ sv,e = .returned (.tuple #[.int .i64 (nth j.st (j.st.length - 2)),.int .i64 (nth j.st (j.st.length - 2+1))])∧Da w base X j y (j.st.take (j.st.length - 2)) sv w'):=fun w0 hw=>(h.da.below hw).popTwo hn (by omega)
 have HU : Hid (∀ w1 S sv v, Da w base X j y S sv w1 → S.length ≤ 1000 → Calls Tryz.prog 119 #[.pointer (some ⟨X, 0, none⟩), .bool v] w1 fun e w' => ∃ sv', e = .returned (.tuple #[]) ∧ Da w base X j y (S ++ [trV v]) sv' w') := fun w1 S sv v h1 h2 => h1.truth hb h2 v
 clear h hb
 have hS:(j.st.take (j.st.length - 2)).length≤990:=by simp; omega
 generalize nth j.st (j.st.length - 2)=a at *
 generalize nth j.st (j.st.length - 2+1)=b at *
 generalize j.st.take (j.st.length - 2)=S at *
 clear hn hl
 go_enter Tryz.func84,Tryz.ntmps84
 go_wp2_with fail
 refine (HT.out _ (below_a1 _ _)).mono ?_
 rintro e w1 ⟨sv,rfl,q⟩
 have HQ:Hid (Da w base X j y S sv w1):=q
 clear q HT
 go_wp2_with fail
 refine (HU.out _ _ _ _ HQ.out (by first | omega | (simp; omega))).mono ?_
 rintro e w2 ⟨sv2,rfl,q⟩
 clear HQ
 have HQ:Hid (Da w base X j y _ sv2 w2):=q
 clear q
 go_wp2_with fail
 first | go_end0 | ((try simp only [Exit.inBlock,Exit.then]); refine bodyPost_ret (results_none rfl _ _ _) rfl ?_)
 exact ⟨_,rfl,by first | exact HQ.out | simpa using HQ.out | simpa [List.append_assoc] using HQ.out⟩
end Go.Proofs.YtigfjedohdgjfaaGreatDoor.Pj
namespace Go.Proofs.YtigfjedohdgjfaaGreatDoor.Pj
open Go.ChangeShapes Go.WideShapes Go.ChangeAt Go.RowKit
open Tl (Wn wn0 nth numC Nl)
attribute [local go_sem ↓] Go.wp_at_zero Go.wp_at_succ
def divV (a b:Int):Int:=if b=0 then 0 else wrap64 (a.tdiv b)
def remV (a b:Int):Int:=if b=0 then 0 else a.tmod b
def shlV (a n:Int):Int:=wrap64 (a * 2 ^ shN n)
def shrV (a n:Int):Int:=a / 2 ^ shN n
def ushrV (a n:Int):Int:=wrap64 (IntKind.u64.wrap a / 2 ^ shN n)
theorem wrap_u16 (a:Int):wrap64 (IntKind.u16.wrap a)=a % 65536:=by
 have h:IntKind.u16.wrap a=a % 65536:=by simp [IntKind.wrap,IntKind.signed,IntKind.bits]
 rw [h]; unfold wrap64; omega
theorem narrowed_any (a o:Int) (w:World):Calls Tryz.prog 120 #[.int .i64 a,.int .i64 o] w fun e w' => e = .returned (.int .i64 (narV a o))∧w'=w:=by
 unfold narV
 by_cases h0:o=0
 ·subst h0
  go_enter Tryz.func120,Tryz.ntmps120
  go_wp2_with fail
  go_ret
  exact ⟨by simp,rfl⟩
 by_cases h1:o=1
 ·subst h1
  go_enter Tryz.func120,Tryz.ntmps120
  go_wp2_with fail
  go_ret
  exact ⟨by simp,rfl⟩
 by_cases h2:o=2
 ·subst h2
  go_enter Tryz.func120,Tryz.ntmps120
  go_wp2_with fail
  go_ret
  exact ⟨by simp,rfl⟩
 by_cases h3:o=3
 ·subst h3
  go_enter Tryz.func120,Tryz.ntmps120
  go_wp2_with fail
  go_ret
  exact ⟨by simp,rfl⟩
 by_cases h4:o=4
 ·subst h4
  go_enter Tryz.func120,Tryz.ntmps120
  go_wp2_with fail
  go_ret
  exact ⟨by simp; exact wrap_u16 a,rfl⟩
 rw [if_neg h0,if_neg h1,if_neg h2,if_neg h3,if_neg h4]
 have e0:(o == 0)=false:=by simpa using h0
 have e1:(o == 1)=false:=by simpa using h1
 have e2:(o == 2)=false:=by simpa using h2
 have e3:(o == 3)=false:=by simpa using h3
 have e4:(o == 4)=false:=by simpa using h4
 go_enter Tryz.func120,Tryz.ntmps120
 go_wp2_with fail
 go_ret
 exact ⟨rfl,rfl⟩
theorem div_any {w:World} {base X:Nat} {j:Jb} {y:Jv} (h:JAt' w base X j y) (hb:base≤w.heap.size) (hn:2≤j.st.length) (hl:j.st.length≤990) (oc ox:Int) :
  Calls Tryz.prog 73 #[.pointer (some ⟨X,0,none⟩),.agg #[.int .i64 oc,.int .i64 ox]] w fun e w' => ∃ sv,e = .returned (.tuple #[])∧Da w base X j y (j.st.take (j.st.length - 2) ++ [divV (nth j.st (j.st.length - 2)) (nth j.st (j.st.length - 2+1))]) sv w':=by
 have HT:Hid (∀ w0,Below w.heap.size w w0→Calls Tryz.prog 117 #[.pointer (some ⟨X,0,none⟩)] w0 fun e w' => ∃ sv,e = .returned (.tuple #[.int .i64 (nth j.st (j.st.length - 2)),.int .i64 (nth j.st (j.st.length - 2+1))])∧Da w base X j y (j.st.take (j.st.length - 2)) sv w'):=fun w0 hw=>(h.da.below hw).popTwo hn (by omega)
 have HP : Hid (∀ w1 S sv v, Da w base X j y S sv w1 → S.length ≤ 1000 → Calls Tryz.prog 43 #[.pointer (some ⟨X, 0, none⟩), .int .i64 v] w1 fun e w' => ∃ sv', e = .returned (.tuple #[]) ∧ Da w base X j y (S ++ [v]) sv' w') := fun w1 S sv v h1 h2 => h1.push hb h2 v
 clear h hb
 have hS:(j.st.take (j.st.length - 2)).length≤990:=by simp; omega
 generalize nth j.st (j.st.length - 2)=a at *
 generalize nth j.st (j.st.length - 2+1)=b at *
 generalize j.st.take (j.st.length - 2)=S at *
 clear hn hl
 by_cases hb0:b=0
 ·subst hb0
  have hv:divV a 0=0:=by simp [divV]
  rw [hv]
  clear hv
  go_enter Tryz.func73,Tryz.ntmps73
  go_wp2_with fail
  refine (HT.out _ (below_a1 _ _)).mono ?_
  rintro e w1 ⟨sv,rfl,q⟩
  have HQ:Hid (Da w base X j y S sv w1):=q
  clear q HT
  go_wp2_with fail
  refine (HP.out _ _ _ _ HQ.out (by first | omega | (simp; omega))).mono ?_
  rintro e w2 ⟨sv2,rfl,q⟩
  clear HQ
  have HQ:Hid (Da w base X j y _ sv2 w2):=q
  clear q
  go_wp2_with fail
  first | go_end0 | ((try simp only [Exit.inBlock,Exit.then]); refine bodyPost_ret (results_none rfl _ _ _) rfl ?_)
  exact ⟨_,rfl,by first | exact HQ.out | simpa using HQ.out | simpa [List.append_assoc] using HQ.out⟩
 ·have hv:divV a b=wrap64 (a.tdiv b):=by simp [divV,hb0]
  have hbz:(b == 0)=false:=by simpa using hb0
  rw [hv]
  clear hv
  go_enter Tryz.func73,Tryz.ntmps73
  go_wp2_with fail
  refine (HT.out _ (below_a1 _ _)).mono ?_
  rintro e w1 ⟨sv,rfl,q⟩
  have HQ:Hid (Da w base X j y S sv w1):=q
  clear q HT
  go_wp2_with fail
  refine (HP.out _ _ _ _ HQ.out (by first | omega | (simp; omega))).mono ?_
  rintro e w2 ⟨sv2,rfl,q⟩
  clear HQ
  have HQ:Hid (Da w base X j y _ sv2 w2):=q
  clear q
  go_wp2_with fail
  first | go_end0 | ((try simp only [Exit.inBlock,Exit.then]); refine bodyPost_ret (results_none rfl _ _ _) rfl ?_)
  exact ⟨_,rfl,by first | exact HQ.out | simpa using HQ.out | simpa [List.append_assoc] using HQ.out⟩
theorem rem_any {w:World} {base X:Nat} {j:Jb} {y:Jv} (h:JAt' w base X j y) (hb:base≤w.heap.size) (hn:2≤j.st.length) (hl:j.st.length≤990) (oc ox:Int) :
  Calls Tryz.prog 74 #[.pointer (some ⟨X,0,none⟩),.agg #[.int .i64 oc,.int .i64 ox]] w fun e w' => ∃ sv,e = .returned (.tuple #[])∧Da w base X j y (j.st.take (j.st.length - 2) ++ [remV (nth j.st (j.st.length - 2)) (nth j.st (j.st.length - 2+1))]) sv w':=by
 have HT:Hid (∀ w0,Below w.heap.size w w0→Calls Tryz.prog 117 #[.pointer (some ⟨X,0,none⟩)] w0 fun e w' => ∃ sv,e = .returned (.tuple #[.int .i64 (nth j.st (j.st.length - 2)),.int .i64 (nth j.st (j.st.length - 2+1))])∧Da w base X j y (j.st.take (j.st.length - 2)) sv w'):=fun w0 hw=>(h.da.below hw).popTwo hn (by omega)
 have HP : Hid (∀ w1 S sv v, Da w base X j y S sv w1 → S.length ≤ 1000 → Calls Tryz.prog 43 #[.pointer (some ⟨X, 0, none⟩), .int .i64 v] w1 fun e w' => ∃ sv', e = .returned (.tuple #[]) ∧ Da w base X j y (S ++ [v]) sv' w') := fun w1 S sv v h1 h2 => h1.push hb h2 v
 clear h hb
 have hS:(j.st.take (j.st.length - 2)).length≤990:=by simp; omega
 generalize nth j.st (j.st.length - 2)=a at *
 generalize nth j.st (j.st.length - 2+1)=b at *
 generalize j.st.take (j.st.length - 2)=S at *
 clear hn hl
 by_cases hb0:b=0
 ·subst hb0
  have hv:remV a 0=0:=by simp [remV]
  rw [hv]
  clear hv
  go_enter Tryz.func74,Tryz.ntmps74
  go_wp2_with fail
  refine (HT.out _ (below_a1 _ _)).mono ?_
  rintro e w1 ⟨sv,rfl,q⟩
  have HQ:Hid (Da w base X j y S sv w1):=q
  clear q HT
  go_wp2_with fail
  refine (HP.out _ _ _ _ HQ.out (by first | omega | (simp; omega))).mono ?_
  rintro e w2 ⟨sv2,rfl,q⟩
  clear HQ
  have HQ:Hid (Da w base X j y _ sv2 w2):=q
  clear q
  go_wp2_with fail
  first | go_end0 | ((try simp only [Exit.inBlock,Exit.then]); refine bodyPost_ret (results_none rfl _ _ _) rfl ?_)
  exact ⟨_,rfl,by first | exact HQ.out | simpa using HQ.out | simpa [List.append_assoc] using HQ.out⟩
 ·have hv:remV a b=a.tmod b:=by simp [remV,hb0]
  have hbz:(b == 0)=false:=by simpa using hb0
  rw [hv]
  clear hv
  go_enter Tryz.func74,Tryz.ntmps74
  go_wp2_with fail
  refine (HT.out _ (below_a1 _ _)).mono ?_
  rintro e w1 ⟨sv,rfl,q⟩
  have HQ:Hid (Da w base X j y S sv w1):=q
  clear q HT
  go_wp2_with fail
  refine (HP.out _ _ _ _ HQ.out (by first | omega | (simp; omega))).mono ?_
  rintro e w2 ⟨sv2,rfl,q⟩
  clear HQ
  have HQ:Hid (Da w base X j y _ sv2 w2):=q
  clear q
  go_wp2_with fail
  first | go_end0 | ((try simp only [Exit.inBlock,Exit.then]); refine bodyPost_ret (results_none rfl _ _ _) rfl ?_)
  exact ⟨_,rfl,by first | exact HQ.out | simpa using HQ.out | simpa [List.append_assoc] using HQ.out⟩
theorem not_any {w:World} {base X:Nat} {j:Jb} {y:Jv} (h:JAt' w base X j y) (hb:base≤w.heap.size) (hn:1≤j.st.length) (hl:j.st.length≤990) (oc ox:Int) :
  Calls Tryz.prog 78 #[.pointer (some ⟨X,0,none⟩),.agg #[.int .i64 oc,.int .i64 ox]] w fun e w' => ∃ sv,e = .returned (.tuple #[])∧Da w base X j y (j.st.take (j.st.length - 1) ++ [bits .xor .i64 (-1) (nth j.st (j.st.length - 1))]) sv w':=by
 have HT:Hid (∀ w0,Below w.heap.size w w0→Calls Tryz.prog 116 #[.pointer (some ⟨X,0,none⟩)] w0 fun e w' => ∃ sv,e = .returned (.int .i64 (nth j.st (j.st.length - 1)))∧Da w base X j y (j.st.take (j.st.length - 1)) sv w'):=fun w0 hw=>(h.da.below hw).pop hn (by omega)
 have HP : Hid (∀ w1 S sv v, Da w base X j y S sv w1 → S.length ≤ 1000 → Calls Tryz.prog 43 #[.pointer (some ⟨X, 0, none⟩), .int .i64 v] w1 fun e w' => ∃ sv', e = .returned (.tuple #[]) ∧ Da w base X j y (S ++ [v]) sv' w') := fun w1 S sv v h1 h2 => h1.push hb h2 v
 clear h hb
 have hS:(j.st.take (j.st.length - 1)).length≤990:=by simp; omega
 generalize nth j.st (j.st.length - 1)=a at *
 generalize j.st.take (j.st.length - 1)=S at *
 clear hn hl
 go_enter Tryz.func78,Tryz.ntmps78
 go_wp2_with fail
 refine (HT.out _ (below_a1 _ _)).mono ?_
 rintro e w1 ⟨sv,rfl,q⟩
 have HQ:Hid (Da w base X j y S sv w1):=q
 clear q HT
 go_wp2_with fail
 refine (HP.out _ _ _ _ HQ.out (by first | omega | (simp; omega))).mono ?_
 rintro e w2 ⟨sv2,rfl,q⟩
 clear HQ
 have HQ:Hid (Da w base X j y _ sv2 w2):=q
 clear q
 go_wp2_with fail
 first | go_end0 | ((try simp only [Exit.inBlock,Exit.then]); refine bodyPost_ret (results_none rfl _ _ _) rfl ?_)
 exact ⟨_,rfl,by first | exact HQ.out | simpa using HQ.out | simpa [List.append_assoc] using HQ.out⟩
theorem shl_any {w:World} {base X:Nat} {j:Jb} {y:Jv} (h:JAt' w base X j y) (hb:base≤w.heap.size) (hn:2≤j.st.length) (hl:j.st.length≤990) (oc ox:Int) :
  Calls Tryz.prog 79 #[.pointer (some ⟨X,0,none⟩),.agg #[.int .i64 oc,.int .i64 ox]] w fun e w' => ∃ sv,e = .returned (.tuple #[])∧Da w base X j y (j.st.take (j.st.length - 2) ++ [shlV (nth j.st (j.st.length - 2)) (nth j.st (j.st.length - 2+1))]) sv w':=by
 have HT:Hid (∀ w0,Below w.heap.size w w0→Calls Tryz.prog 117 #[.pointer (some ⟨X,0,none⟩)] w0 fun e w' => ∃ sv,e = .returned (.tuple #[.int .i64 (nth j.st (j.st.length - 2)),.int .i64 (nth j.st (j.st.length - 2+1))])∧Da w base X j y (j.st.take (j.st.length - 2)) sv w'):=fun w0 hw=>(h.da.below hw).popTwo hn (by omega)
 have HP : Hid (∀ w1 S sv v, Da w base X j y S sv w1 → S.length ≤ 1000 → Calls Tryz.prog 43 #[.pointer (some ⟨X, 0, none⟩), .int .i64 v] w1 fun e w' => ∃ sv', e = .returned (.tuple #[]) ∧ Da w base X j y (S ++ [v]) sv' w') := fun w1 S sv v h1 h2 => h1.push hb h2 v
 clear h hb
 have hS:(j.st.take (j.st.length - 2)).length≤990:=by simp; omega
 generalize nth j.st (j.st.length - 2)=a at *
 generalize nth j.st (j.st.length - 2+1)=b at *
 generalize j.st.take (j.st.length - 2)=S at *
 clear hn hl
 unfold shlV
 have hsl:=shN_lt b
 have HS:Hid (∀ w:World,Calls Tryz.prog 118 #[.int .i64 b] w fun e w' => e = .returned (.int .u64 (shN b:Int))∧w'=w):=shiftBy_any b
 generalize shN b=n at *
 go_enter Tryz.func79,Tryz.ntmps79
 go_wp2_with fail
 refine (HT.out _ (below_a1 _ _)).mono ?_
 rintro e w1 ⟨sv,rfl,q⟩
 have HQ:Hid (Da w base X j y S sv w1):=q
 clear q HT
 go_wp2_with fail
 refine (HS.out _).mono ?_
 rintro e w1 ⟨rfl,rfl⟩
 go_wp2_with fail
 refine (HP.out _ _ _ _ HQ.out (by first | omega | (simp; omega))).mono ?_
 rintro e w2 ⟨sv2,rfl,q⟩
 clear HQ
 have HQ:Hid (Da w base X j y _ sv2 w2):=q
 clear q
 go_wp2_with fail
 first | go_end0 | ((try simp only [Exit.inBlock,Exit.then]); refine bodyPost_ret (results_none rfl _ _ _) rfl ?_)
 exact ⟨_,rfl,by first | exact HQ.out | simpa using HQ.out | simpa [List.append_assoc] using HQ.out⟩
theorem shr_any {w:World} {base X:Nat} {j:Jb} {y:Jv} (h:JAt' w base X j y) (hb:base≤w.heap.size) (hn:2≤j.st.length) (hl:j.st.length≤990) (oc ox:Int) :
  Calls Tryz.prog 80 #[.pointer (some ⟨X,0,none⟩),.agg #[.int .i64 oc,.int .i64 ox]] w fun e w' => ∃ sv,e = .returned (.tuple #[])∧Da w base X j y (j.st.take (j.st.length - 2) ++ [shrV (nth j.st (j.st.length - 2)) (nth j.st (j.st.length - 2+1))]) sv w':=by
 have HT:Hid (∀ w0,Below w.heap.size w w0→Calls Tryz.prog 117 #[.pointer (some ⟨X,0,none⟩)] w0 fun e w' => ∃ sv,e = .returned (.tuple #[.int .i64 (nth j.st (j.st.length - 2)),.int .i64 (nth j.st (j.st.length - 2+1))])∧Da w base X j y (j.st.take (j.st.length - 2)) sv w'):=fun w0 hw=>(h.da.below hw).popTwo hn (by omega)
 have HP : Hid (∀ w1 S sv v, Da w base X j y S sv w1 → S.length ≤ 1000 → Calls Tryz.prog 43 #[.pointer (some ⟨X, 0, none⟩), .int .i64 v] w1 fun e w' => ∃ sv', e = .returned (.tuple #[]) ∧ Da w base X j y (S ++ [v]) sv' w') := fun w1 S sv v h1 h2 => h1.push hb h2 v
 clear h hb
 have hS:(j.st.take (j.st.length - 2)).length≤990:=by simp; omega
 generalize nth j.st (j.st.length - 2)=a at *
 generalize nth j.st (j.st.length - 2+1)=b at *
 generalize j.st.take (j.st.length - 2)=S at *
 clear hn hl
 unfold shrV
 have hsl:=shN_lt b
 have HS:Hid (∀ w:World,Calls Tryz.prog 118 #[.int .i64 b] w fun e w' => e = .returned (.int .u64 (shN b:Int))∧w'=w):=shiftBy_any b
 generalize shN b=n at *
 go_enter Tryz.func80,Tryz.ntmps80
 go_wp2_with fail
 refine (HT.out _ (below_a1 _ _)).mono ?_
 rintro e w1 ⟨sv,rfl,q⟩
 have HQ:Hid (Da w base X j y S sv w1):=q
 clear q HT
 go_wp2_with fail
 refine (HS.out _).mono ?_
 rintro e w1 ⟨rfl,rfl⟩
 go_wp2_with fail
 refine (HP.out _ _ _ _ HQ.out (by first | omega | (simp; omega))).mono ?_
 rintro e w2 ⟨sv2,rfl,q⟩
 clear HQ
 have HQ:Hid (Da w base X j y _ sv2 w2):=q
 clear q
 go_wp2_with fail
 first | go_end0 | ((try simp only [Exit.inBlock,Exit.then]); refine bodyPost_ret (results_none rfl _ _ _) rfl ?_)
 exact ⟨_,rfl,by first | exact HQ.out | simpa using HQ.out | simpa [List.append_assoc] using HQ.out⟩
theorem ushr_any {w:World} {base X:Nat} {j:Jb} {y:Jv} (h:JAt' w base X j y) (hb:base≤w.heap.size) (hn:2≤j.st.length) (hl:j.st.length≤990) (oc ox:Int) :
  Calls Tryz.prog 81 #[.pointer (some ⟨X,0,none⟩),.agg #[.int .i64 oc,.int .i64 ox]] w fun e w' => ∃ sv,e = .returned (.tuple #[])∧Da w base X j y (j.st.take (j.st.length - 2) ++ [ushrV (nth j.st (j.st.length - 2)) (nth j.st (j.st.length - 2+1))]) sv w':=by
 have HT:Hid (∀ w0,Below w.heap.size w w0→Calls Tryz.prog 117 #[.pointer (some ⟨X,0,none⟩)] w0 fun e w' => ∃ sv,e = .returned (.tuple #[.int .i64 (nth j.st (j.st.length - 2)),.int .i64 (nth j.st (j.st.length - 2+1))])∧Da w base X j y (j.st.take (j.st.length - 2)) sv w'):=fun w0 hw=>(h.da.below hw).popTwo hn (by omega)
 have HP : Hid (∀ w1 S sv v, Da w base X j y S sv w1 → S.length ≤ 1000 → Calls Tryz.prog 43 #[.pointer (some ⟨X, 0, none⟩), .int .i64 v] w1 fun e w' => ∃ sv', e = .returned (.tuple #[]) ∧ Da w base X j y (S ++ [v]) sv' w') := fun w1 S sv v h1 h2 => h1.push hb h2 v
 clear h hb
 have hS:(j.st.take (j.st.length - 2)).length≤990:=by simp; omega
 generalize nth j.st (j.st.length - 2)=a at *
 generalize nth j.st (j.st.length - 2+1)=b at *
 generalize j.st.take (j.st.length - 2)=S at *
 clear hn hl
 unfold ushrV
 have hsl:=shN_lt b
 have HS:Hid (∀ w:World,Calls Tryz.prog 118 #[.int .i64 b] w fun e w' => e = .returned (.int .u64 (shN b:Int))∧w'=w):=shiftBy_any b
 generalize shN b=n at *
 go_enter Tryz.func81,Tryz.ntmps81
 go_wp2_with fail
 refine (HT.out _ (below_a1 _ _)).mono ?_
 rintro e w1 ⟨sv,rfl,q⟩
 have HQ:Hid (Da w base X j y S sv w1):=q
 clear q HT
 go_wp2_with fail
 refine (HS.out _).mono ?_
 rintro e w1 ⟨rfl,rfl⟩
 go_wp2_with fail
 refine (HP.out _ _ _ _ HQ.out (by first | omega | (simp; omega))).mono ?_
 rintro e w2 ⟨sv2,rfl,q⟩
 clear HQ
 have HQ:Hid (Da w base X j y _ sv2 w2):=q
 clear q
 go_wp2_with fail
 first | go_end0 | ((try simp only [Exit.inBlock,Exit.then]); refine bodyPost_ret (results_none rfl _ _ _) rfl ?_)
 exact ⟨_,rfl,by first | exact HQ.out | simpa using HQ.out | simpa [List.append_assoc] using HQ.out⟩
theorem conv_any {w:World} {base X:Nat} {j:Jb} {y:Jv} (h:JAt' w base X j y) (hb:base≤w.heap.size) (hn:1≤j.st.length) (hl:j.st.length≤990) (oc ox:Int) :
  Calls Tryz.prog 85 #[.pointer (some ⟨X,0,none⟩),.agg #[.int .i64 oc,.int .i64 ox]] w fun e w' => ∃ sv,e = .returned (.tuple #[])∧Da w base X j y (j.st.take (j.st.length - 1) ++ [narV (nth j.st (j.st.length - 1)) ox]) sv w':=by
 have HT:Hid (∀ w0,Below w.heap.size w w0→Calls Tryz.prog 116 #[.pointer (some ⟨X,0,none⟩)] w0 fun e w' => ∃ sv,e = .returned (.int .i64 (nth j.st (j.st.length - 1)))∧Da w base X j y (j.st.take (j.st.length - 1)) sv w'∧Keep [X] w0 w'):=fun w0 hw=>by
  refine (pop_any (h.keep (Keep.of_below hw []) (by simp)) hn (by omega)).mono ?_
  rintro e w' ⟨sv,rfl,q1,q2,q3⟩
  exact ⟨sv,rfl,⟨q1,fun q hq=>Or.inl (q2 ▸ hq),(Keep.of_below hw _).trans (q3.mono (fun b hb=>by simp at hb; simp [hb])) (fun b hb=>Or.inl hb)⟩,q3⟩
 have HP : Hid (∀ w1 S sv v, Da w base X j y S sv w1 → S.length ≤ 1000 → Calls Tryz.prog 43 #[.pointer (some ⟨X, 0, none⟩), .int .i64 v] w1 fun e w' => ∃ sv', e = .returned (.tuple #[]) ∧ Da w base X j y (S ++ [v]) sv' w') := fun w1 S sv v h1 h2 => h1.push hb h2 v
 have HNV:Hid (∀ a w1,Calls Tryz.prog 120 #[.int .i64 a,.int .i64 ox] w1 fun e w' => e = .returned (.int .i64 (narV a ox))∧w'=w1):=fun a w1=>narrowed_any a ox w1
 have hX:=heap_lt h.raw
 clear h hb
 have hS:(j.st.take (j.st.length - 1)).length≤1000:=by simp; omega
 generalize nth j.st (j.st.length - 1)=a at *
 generalize j.st.take (j.st.length - 1)=S at *
 generalize hnv:narV a ox=z at *
 clear hn hl
 go_enter Tryz.func85,Tryz.ntmps85
 go_wp2_with fail
 have HO:Hid ((w.alloc (.cells #[.int .i64 oc,.int .i64 ox] 38)).heap[w.heap.size]? = some (.cells #[.int .i64 oc,.int .i64 ox] 38 (0,0))):=heap_alloc_new _ _
 have HB:Hid (Below w.heap.size w (w.alloc (.cells #[.int .i64 oc,.int .i64 ox] 38))):=below_a1 _ _
 generalize w.alloc (.cells #[.int .i64 oc,.int .i64 ox] 38)=w0 at *
 have d1:w0.cell? ⟨w.heap.size,1,none⟩=some (.int .i64 ox):=(cell_at HO.out 1).trans rfl
 have hl0:=heap_lt HO.out
 go_region_with (first
    | (go_at_call 116; refine (HT.out _ (by first | exact HB.out | exact HB.out.drew | exact HB.out.drew.drew)).mono ?_; rintro e w1 ⟨sv,rfl,q,hk⟩; have hP1:=(hk.block w.heap.size (by simpa using hl0) (by simp; omega)).trans HO.out; have d1':w1.cell? ⟨w.heap.size,1,none⟩=some (.int .i64 ox):=(cell_at hP1 1).trans rfl; have hl1:=heap_lt hP1)
    | (go_at_call 120; refine (HNV.out _ _).mono ?_; rintro e w2 ⟨rfl,rfl⟩; try rw [hnv])
    | (go_at_call 43; refine (HP.out _ _ _ _ q hS).mono ?_; rintro e w3 ⟨sv3,rfl,q3⟩))
 all_goals
  go_wp2_with fail
  first | go_end0 | ((try simp only [Exit.inBlock,Exit.then]); refine bodyPost_ret (results_none rfl _ _ _) rfl ?_)
  exact ⟨_,rfl,by first | exact q3 | exact q3.below (below_drawn (Below.refl _ _) _)⟩
end Go.Proofs.YtigfjedohdgjfaaGreatDoor.Pj
namespace Go.Proofs.YtigfjedohdgjfaaGreatDoor.Pj
open Go.RowKit (wrap64)
open Tl (Wn wn0 nth)
open Tl.Cd (atS wdC)
def arK (k b m c:Int) (n:Nat):Bool :=
 if k=1 then Tl.Ct.rightV b m c n else if k=2 then Tl.Qu.rightV b m c n else if k=3 then Tl.Di.rightV b m c n else Tl.Ch.rightV b m c n
def argK (k b m c:Int):Option Nat:=if arK k b m c 0 then some 0 else if arK k b m c 1 then some 1 else if arK k b m c 2 then some 2 else none
def mkAk (k b m c:Int) (A:List Int):Ak :=
 if k=1 then .ct (Tl.Ct.mkM b m c A) else if k=2 then .qu (Tl.Qu.mkM b m c A) else if k=3 then .di (Tl.Di.mkM b m c A) else .ch (Tl.Ch.mkM b m c A)
def rgK (j:Jb) (o:Int):Int × Int × Int:=((Tl.Pc.nthR j.cf.R o.toNat).1,(Tl.Pc.baseV j.cf o).1,(Tl.Pc.nthR j.cf.R o.toNat).2)
def effV (j:Jb) (c:Nat) (o:Int):Option (Int × Int) :=
 if c≤32 then some (tkC.getD c 0,ptC.getD c 0)
 else if (j.cf.R.length:Int)≤o then none
 else (argK (rgK j o).1 (rgK j o).2.1 (rgK j o).2.2 ((c:Int) - 32)).map fun n=>((n:Int),ptC.getD c 0)
def faultsV (j:Jb) (c:Nat) (o:Int):Bool:=match effV j c o with
 | none=>true
 | some (tk,pt)=>decide ((j.st.length:Int) < tk) || decide (32 < (j.st.length:Int) - tk+pt) || (decide (c=26) && decide (j.rt.length=8)) || (decide (c=27) && decide (j.rt.length=0)) || (decide (c=29) && decide (j.tl.length=16))
def plcV (j:Jb) (p:Int):Int:=IntKind.u64.wrap p % j.cf.raw
def twoV (c:Nat) (a b:Int):Int :=
 if c=8 then wrap64 (a+b) else if c=9 then wrap64 (a - b) else if c=10 then wrap64 (a * b) else if c=11 then divV a b else if c=12 then remV a b
 else if c=13 then bits .and .i64 a b else if c=14 then bits .or .i64 a b else if c=15 then bits .xor .i64 a b
 else if c=17 then shlV a b else if c=18 then shrV a b else if c=19 then ushrV a b
 else if c=20 then trV (a == b) else if c=21 then trV (decide (a < b)) else trV (decide (IntKind.u64.wrap a < IntKind.u64.wrap b))
def isTwo (c:Nat):Bool:=decide (8≤c) && decide (c≤22) && decide (c≠16)
def opV (c:Nat) (o:Int) (j:Jb):Jb :=
 if c=0 then { j with wt:=⟨4,0,0,0⟩ }
 else if c≤3 then { j with st:=j.st ++ [o] }
 else if c=4 then { j with st:=j.st.take (j.st.length - 1) ++ [nth j.st (j.st.length - 1)] ++ [nth j.st (j.st.length - 1)] }
 else if c=5 then { j with st:=j.st.take (j.st.length - 1) }
 else if c=6 then { j with st:=j.st.take (j.st.length - 2) ++ [nth j.st (j.st.length - 2+1)] ++ [nth j.st (j.st.length - 2)] }
 else if c=7 then { j with st:=j.st.take (j.st.length - 2) ++ [nth j.st (j.st.length - 2)] ++ [nth j.st (j.st.length - 2+1)] ++ [nth j.st (j.st.length - 2)] }
 else if isTwo c then { j with st:=j.st.take (j.st.length - 2) ++ [twoV c (nth j.st (j.st.length - 2)) (nth j.st (j.st.length - 2+1))] }
 else if c=16 then { j with st:=j.st.take (j.st.length - 1) ++ [bits .xor .i64 (-1) (nth j.st (j.st.length - 1))] }
 else if c=23 then { j with st:=j.st.take (j.st.length - 1) ++ [narV (nth j.st (j.st.length - 1)) o] }
 else if c=24 then { j with nx:=wrap64 (j.nx+o) }
 else if c=25 then { j with st:=j.st.take (j.st.length - 1),nx:=if nth j.st (j.st.length - 1)=0 then wrap64 (j.nx+o) else j.nx }
 else if c=26 then { j with rt:=j.rt ++ [j.nx],nx:=o }
 else if c=27 then { j with rt:=j.rt.take (j.rt.length - 1),nx:=nth j.rt (j.rt.length - 1) }
 else if c=28 then { j with st:=j.st ++ [if (j.args.length:Int)≤o then 0 else nth j.args o.toNat] }
 else if c=29 then { j with st:=j.st.take (j.st.length - 1),tl:=j.tl ++ [nth j.st (j.st.length - 1)] }
 else if c=30 then { j with wt:=⟨5,0,0,8⟩ }
 else if c=31 then { j with st:=j.st.take (j.st.length - 1),wt:=⟨2,plcV j (nth j.st (j.st.length - 1)),0,0⟩ }
 else if c=32 then { j with st:=j.st.take (j.st.length - 2),wt:=⟨3,plcV j (nth j.st (j.st.length - 2)),nth j.st (j.st.length - 2+1),0⟩ }
 else
  let n:=((argK (rgK j o).1 (rgK j o).2.1 (rgK j o).2.2 ((c:Int) - 32)).getD 0)
  { j with st:=j.st.take (j.st.length - n),ak:=some (mkAk (rgK j o).1 (rgK j o).2.1 (rgK j o).2.2 ((c:Int) - 32) (j.st.drop (j.st.length - n))) }
end Go.Proofs.YtigfjedohdgjfaaGreatDoor.Pj
namespace Go.Proofs.YtigfjedohdgjfaaGreatDoor.Pj
open Go.ChangeShapes Go.WideShapes Go.ChangeAt Go.RowKit
open Tl (Wn wn0 nth numC Nl)
attribute [local go_sem ↓] Go.wp_at_zero Go.wp_at_succ
theorem effect_low (w:World) (x:Value) (c:Nat) (hc:c≤32) (o:Int) :
  Calls Tryz.prog 63 #[x,.agg #[.int .i64 (c:Int),.int .i64 o]] w fun e w' => e = .returned (.tuple #[.int .i64 (tkC.getD c 0),.int .i64 (ptC.getD c 0),.bool true])∧Below w.heap.size w w':=by
 have HI : ∀ w,(Instr.index 102 (.agg insC) (.int .i64 (c:Int))).run Tryz.prog w = .ok (.agg #[.int .i64 (tkC.getD c 0),.int .i64 (ptC.getD c 0),.func (.func (fnC.getD c 0)) #[] #[]]) w:=fun w=>ins_at c (by omega) w
 have HN:Hid (∀ w,Calls Tryz.prog 47 #[] w fun e w' => e = .returned (.agg insC)∧Below w.heap.size w w'):=ins_any
 have hc2:(c:Int)≤32:=by omega
 generalize insC=IC at *
 generalize tkC.getD c 0=tk at *
 generalize ptC.getD c 0=pt at *
 generalize fnC.getD c 0=fn at *
 generalize (c:Int)=ci at *
 go_enter Tryz.func63,Tryz.ntmps63
 go_wp2_with fail
 have HO:Hid ((w.alloc (.cells #[.int .i64 ci,.int .i64 o] 38)).heap[w.heap.size]? = some (.cells #[.int .i64 ci,.int .i64 o] 38 (0,0))):=heap_alloc_new _ _
 obtain ⟨w0,hw0⟩ : ∃ w0,w0=w.alloc (.cells #[.int .i64 ci,.int .i64 o] 38):=⟨_,rfl⟩
 have HB:Hid (Below w.heap.size w w0):=by unfold Hid; rw [hw0]; exact below_a1 _ _
 rw [← hw0] at HO ⊢
 clear hw0
 go_cut [7] (fun p wx => ∃ P,p = .pointer (some ⟨P,0,none⟩)∧wx.heap[P]? = some (.cells #[.int .i64 tk,.int .i64 pt,.func (.func fn) #[] #[]] 101 (0,0))∧Below w0.heap.size w0 wx)
 case first =>
  have c0:w0.cell? ⟨w.heap.size,0,none⟩=some (.int .i64 ci):=(cell_at HO.out 0).trans rfl
  have hl0:=heap_lt HO.out
  go_region_with (go_at_call 47; refine (HN.out _).mono ?_; rintro e w1 ⟨rfl,hb1⟩; have HB1:Hid (Below w0.heap.size w0 w1):=(by first | exact hb1 | exact below_then (below_drawn (Below.refl _ _) 1) hb1 | exact below_then (below_a1 _ _) hb1 | exact below_then (below_a1 _ _).drew hb1); have c1:w1.cell? ⟨w.heap.size,0,none⟩=some (.int .i64 ci):=(cell_at (row_on HO.out HB1.out) 0).trans rfl; have hl1:=heap_lt (row_on HO.out HB1.out); (try (have hr:w1.heap[w0.heap.size]? = some (.cells #[.int .i64 0,.int .i64 0,.nilFunc] 101 (0,0)):=(by first | exact row_on (w:=w0.alloc (.cells #[.int .i64 0,.int .i64 0,.nilFunc] 101)) (heap_alloc_new w0 _) hb1 | exact row_on (w:=(w0.alloc (.cells #[.int .i64 0,.int .i64 0,.nilFunc] 101)).drew) (heap_alloc_new w0 _) hb1); have z0:w1.cell? ⟨w0.heap.size,0,none⟩=some (.int .i64 0):=(cell_at hr 0).trans rfl; have z1:w1.cell? ⟨w0.heap.size,1,none⟩=some (.int .i64 0):=(cell_at hr 1).trans rfl; have z2:w1.cell? ⟨w0.heap.size,2,none⟩=some .nilFunc:=(cell_at hr 2).trans rfl; have fz:=frozen_at hr; have hlz:=heap_lt hr)))
  all_goals
   go_wp2_with fail
   go_meet
   first
    | exact ⟨_,rfl,heap_alloc_new w1 _,below_then HB1.out (below_a1 _ _)⟩
    | (have h3:=heap_set (heap_set (heap_set hr 0 (.int .i64 tk)) 1 (.int .i64 pt)) 2 (.func (.func fn) #[] #[]); exact ⟨_,rfl,by simpa using h3,Tl.Cd.below_set (Tl.Cd.below_set (Tl.Cd.below_set HB1.out _ _ _ (Nat.le_refl _)) _ _ _ (Nat.le_refl _)) _ _ _ (Nat.le_refl _)⟩)
 case rest =>
  obtain ⟨P,rfl,hP,hb⟩:=hcut
  have hO:=row_on HO.out hb
  have c0:wc.cell? ⟨w.heap.size,0,none⟩=some (.int .i64 ci):=(cell_at hO 0).trans rfl
  have p0:wc.cell? ⟨P,0,none⟩=some (.int .i64 tk):=(cell_at hP 0).trans rfl
  have p1:wc.cell? ⟨P,1,none⟩=some (.int .i64 pt):=(cell_at hP 1).trans rfl
  have HB2:Hid (Below w.heap.size w wc):=below_then HB.out hb
  clear hO hP hb HO HB
  go_wp2_with fail
  go_quiet (fail)
  go_wp2_with fail
  go_ret3
  exact ⟨rfl,below_drawn HB2.out _⟩
structure FtC (w:World) (X:Nat) (n r t:Nat):Prop where
 st : ∃ a c,w.cell? ⟨X,16,none⟩=some (.slice a n c)
 rt : ∃ a c,w.cell? ⟨X,17,none⟩=some (.slice a r c)
 tl : ∃ a c,w.cell? ⟨X,18,none⟩=some (.slice a t c)
 lt:X < w.heap.size
theorem JAt'.ftC {w:World} {base X:Nat} {j:Jb} {y:Jv} (h:JAt' w base X j y):FtC w X j.st.length j.rt.length j.tl.length:=by
 obtain ⟨a1,c1,e1⟩:=own_slice h.st
 obtain ⟨a2,c2,e2⟩:=own_slice h.rt
 obtain ⟨a3,c3,e3⟩:=own_slice h.tl
 refine ⟨⟨a1,c1, ?_⟩,⟨a2,c2, ?_⟩,⟨a3,c3, ?_⟩,heap_lt h.raw⟩
 ·rw [← e1]; exact (cell_at h.raw 16).trans rfl
 ·rw [← e2]; exact (cell_at h.raw 17).trans rfl
 ·rw [← e3]; exact (cell_at h.raw 18).trans rfl
theorem FtC.below {w w':World} {X n r t:Nat} (h:FtC w X n r t) (hb:Below w.heap.size w w'):FtC w' X n r t:=by
 obtain ⟨⟨a1,c1,e1⟩,⟨a2,c2,e2⟩,⟨a3,c3,e3⟩,hl⟩:=h
 exact ⟨⟨a1,c1,(hb.cell hl).trans e1⟩,⟨a2,c2,(hb.cell hl).trans e2⟩,⟨a3,c3,(hb.cell hl).trans e3⟩,Nat.lt_of_lt_of_le hl hb.size⟩
set_option maxHeartbeats 2000000 in
theorem faults_ok {w : World} {X : Nat} {n r t : Nat} (h : FtC w X n r t) (c o tk pt : Int) (hn : n ≤ 990) (htk : 0 ≤ tk ∧ tk ≤ 99) (hpt : 0 ≤ pt ∧ pt ≤ 99) (HE : ∀ w', Below w.heap.size w w' → Calls Tryz.prog 63 #[.pointer (some ⟨X, 0, none⟩), .agg #[.int .i64 c, .int .i64 o]] w' fun e w'' => e = .returned (.tuple #[.int .i64 tk, .int .i64 pt, .bool true]) ∧ Below w'.heap.size w' w'') :
  Calls Tryz.prog 45 #[.pointer (some ⟨X,0,none⟩),.agg #[.int .i64 c,.int .i64 o]] w fun e w' => e = .returned (.bool (decide ((n:Int) < tk) || decide (32 < (n:Int) - tk+pt) || (decide (c=26) && decide (r=8)) || (decide (c=27) && decide (r=0)) || (decide (c=29) && decide (t=16))))∧Below w.heap.size w w':=by
 have HEE : Hid (∀ w', Below w.heap.size w w' → Calls Tryz.prog 63 #[.pointer (some ⟨X, 0, none⟩), .agg #[.int .i64 c, .int .i64 o]] w' fun e w'' => e = .returned (.tuple #[.int .i64 tk, .int .i64 pt, .bool true]) ∧ Below w'.heap.size w' w'') := HE
 have HF:Hid (FtC w X n r t):=h
 obtain ⟨fv,hfv⟩ : ∃ fv,(decide ((n:Int) < tk) || decide (32 < (n:Int) - tk+pt) || (decide (c=26) && decide (r=8)) || (decide (c=27) && decide (r=0)) || (decide (c=29) && decide (t=16)))=fv:=⟨_,rfl⟩
 rw [hfv]
 have HFV:Hid ((decide ((n:Int) < tk) || decide (32 < (n:Int) - tk+pt) || (decide (c=26) && decide (r=8)) || (decide (c=27) && decide (r=0)) || (decide (c=29) && decide (t=16)))=fv):=hfv
 obtain ⟨d,hd⟩ : ∃ d,(n:Int) - tk=d:=⟨_,rfl⟩
 obtain ⟨d2,hd2⟩ : ∃ d2,d+pt=d2:=⟨_,rfl⟩
 have e1:wrap64 ((n:Int) - tk)=d:=by rw [← hd]; unfold wrap64; omega
 have e2:wrap64 (d+pt)=d2:=by rw [← hd2,← hd]; unfold wrap64; omega
 have HD:Hid (32 < (n:Int) - tk+pt ↔ 32 < d2):=by unfold Hid; rw [← hd2,← hd]
 have HC:Hid (∀ w1,Below w.heap.size w w1→FtC w1 X n r t):=fun w1 hb=>HF.out.below hb
 have eq8:Hid (((r:Int) == 8)=decide (r=8)):=by unfold Hid; by_cases h:r=8 <;> simp [h]; omega
 have eq0:Hid (((r:Int) == 0)=decide (r=0)):=by unfold Hid; by_cases h:r=0 <;> simp [h]
 have eq16:Hid (((t:Int) == 16)=decide (t=16)):=by unfold Hid; by_cases h:t=16 <;> simp [h]; omega
 clear HE h hfv hd hd2 htk hpt hn HF
 by_cases h1:(n:Int) < tk
 ·have hf:fv=true:=by rw [← HFV.out,decide_eq_true h1]; rfl
  rw [hf]
  clear HFV hf
  go_enter Tryz.func45,Tryz.ntmps45
  go_wp2_with fail
  refine (HEE.out _ (below_a1 _ _)).mono ?_
  rintro e w1 ⟨rfl,hb⟩
  have HB:Hid (Below w.heap.size w w1):=below_then (below_a1 _ _) hb
  have hP:=row_on (heap_alloc_new w _) hb
  have k0:w1.cell? ⟨w.heap.size,0,none⟩=some (.int .i64 c):=(cell_at hP 0).trans rfl
  have hlP:=heap_lt hP
  obtain ⟨⟨a1,c1,q16⟩,⟨a2,c2,q17⟩,⟨a3,c3,q18⟩,hX1⟩:=HC.out _ HB.out
  clear hb hP HEE HC
  go_wp2_with fail
  go_ret
  exact ⟨rfl,HB.out⟩
 by_cases h2:32 < d2
 ·have hf:fv=true:=by rw [← HFV.out,decide_eq_false h1,decide_eq_true (HD.out.2 h2)]; rfl
  rw [hf]
  clear HFV hf HD
  go_enter Tryz.func45,Tryz.ntmps45
  go_wp2_with fail
  refine (HEE.out _ (below_a1 _ _)).mono ?_
  rintro e w1 ⟨rfl,hb⟩
  have HB:Hid (Below w.heap.size w w1):=below_then (below_a1 _ _) hb
  have hP:=row_on (heap_alloc_new w _) hb
  have k0:w1.cell? ⟨w.heap.size,0,none⟩=some (.int .i64 c):=(cell_at hP 0).trans rfl
  have hlP:=heap_lt hP
  obtain ⟨⟨a1,c1,q16⟩,⟨a2,c2,q17⟩,⟨a3,c3,q18⟩,hX1⟩:=HC.out _ HB.out
  clear hb hP HEE HC
  go_wp2_with fail
  go_ret
  exact ⟨rfl,HB.out⟩
 have h3 : ¬ 32 < (n:Int) - tk+pt:=fun h=>h2 (HD.out.1 h)
 rw [decide_eq_false h1,decide_eq_false h3] at HFV
 clear h3 HD
 by_cases k26:c=26
 ·subst k26
  have hf:fv=decide (r=8):=by rw [← HFV.out]; simp
  rw [hf,← eq8.out]
  clear HFV hf
  go_enter Tryz.func45,Tryz.ntmps45
  go_wp2_with fail
  refine (HEE.out _ (below_a1 _ _)).mono ?_
  rintro e w1 ⟨rfl,hb⟩
  have HB:Hid (Below w.heap.size w w1):=below_then (below_a1 _ _) hb
  have hP:=row_on (heap_alloc_new w _) hb
  have k0:w1.cell? ⟨w.heap.size,0,none⟩=some (.int .i64 26):=(cell_at hP 0).trans rfl
  have hlP:=heap_lt hP
  obtain ⟨⟨a1,c1,q16⟩,⟨a2,c2,q17⟩,⟨a3,c3,q18⟩,hX1⟩:=HC.out _ HB.out
  clear hb hP HEE HC
  go_wp2_with fail
  go_ret
  exact ⟨rfl,HB.out⟩
 by_cases k27:c=27
 ·subst k27
  have hf:fv=decide (r=0):=by rw [← HFV.out]; simp
  rw [hf,← eq0.out]
  clear HFV hf
  go_enter Tryz.func45,Tryz.ntmps45
  go_wp2_with fail
  refine (HEE.out _ (below_a1 _ _)).mono ?_
  rintro e w1 ⟨rfl,hb⟩
  have HB:Hid (Below w.heap.size w w1):=below_then (below_a1 _ _) hb
  have hP:=row_on (heap_alloc_new w _) hb
  have k0:w1.cell? ⟨w.heap.size,0,none⟩=some (.int .i64 27):=(cell_at hP 0).trans rfl
  have hlP:=heap_lt hP
  obtain ⟨⟨a1,c1,q16⟩,⟨a2,c2,q17⟩,⟨a3,c3,q18⟩,hX1⟩:=HC.out _ HB.out
  clear hb hP HEE HC
  go_wp2_with fail
  go_ret
  exact ⟨rfl,HB.out⟩
 by_cases k29:c=29
 ·subst k29
  have hf:fv=decide (t=16):=by rw [← HFV.out]; simp
  rw [hf,← eq16.out]
  clear HFV hf
  go_enter Tryz.func45,Tryz.ntmps45
  go_wp2_with fail
  refine (HEE.out _ (below_a1 _ _)).mono ?_
  rintro e w1 ⟨rfl,hb⟩
  have HB:Hid (Below w.heap.size w w1):=below_then (below_a1 _ _) hb
  have hP:=row_on (heap_alloc_new w _) hb
  have k0:w1.cell? ⟨w.heap.size,0,none⟩=some (.int .i64 29):=(cell_at hP 0).trans rfl
  have hlP:=heap_lt hP
  obtain ⟨⟨a1,c1,q16⟩,⟨a2,c2,q17⟩,⟨a3,c3,q18⟩,hX1⟩:=HC.out _ HB.out
  clear hb hP HEE HC
  go_wp2_with fail
  go_ret
  exact ⟨rfl,HB.out⟩
 have hf:fv=false:=by rw [← HFV.out]; simp [k26,k27,k29]
 rw [hf]
 clear HFV hf
 have b26:(c == 26)=false:=by simpa using k26
 have b27:(c == 27)=false:=by simpa using k27
 have b29:(c == 29)=false:=by simpa using k29
 go_enter Tryz.func45,Tryz.ntmps45
 go_wp2_with fail
 refine (HEE.out _ (below_a1 _ _)).mono ?_
 rintro e w1 ⟨rfl,hb⟩
 have HB:Hid (Below w.heap.size w w1):=below_then (below_a1 _ _) hb
 have hP:=row_on (heap_alloc_new w _) hb
 have k0:w1.cell? ⟨w.heap.size,0,none⟩=some (.int .i64 c):=(cell_at hP 0).trans rfl
 have hlP:=heap_lt hP
 obtain ⟨⟨a1,c1,q16⟩,⟨a2,c2,q17⟩,⟨a3,c3,q18⟩,hX1⟩:=HC.out _ HB.out
 clear hb hP HEE HC
 go_wp2_with fail
 go_ret
 exact ⟨rfl,HB.out⟩
end Go.Proofs.YtigfjedohdgjfaaGreatDoor.Pj
namespace Go.Proofs.YtigfjedohdgjfaaGreatDoor.Pj
open Go.ChangeShapes Go.WideShapes Go.ChangeAt Go.RowKit
open Tl (Wn wn0 nth numC Nl)
attribute [local go_sem ↓] Go.wp_at_zero Go.wp_at_succ
theorem nx_row (cf:Tl.Pc.Cf) (rv:Value) (n:Int) (code:ByteArray) (av:Value) (nr:Int) (tv:Value) (pub:Bool) (pl nx:Int) (sv rtv tlv:Value) (wt:Wn) (kv:Value) (rd:Int) (ev:Value) (ov:Bool) (er:Int) (u:Int):(Tl.Pg.jobR cf rv n code av nr tv pub pl nx sv rtv tlv wt kv rd ev ov er).setIfInBounds 15 (.int .i64 u)=Tl.Pg.jobR cf rv n code av nr tv pub pl u sv rtv tlv wt kv rd ev ov er:=by simp [Tl.Pg.jobR]
theorem pl_row (cf:Tl.Pc.Cf) (rv:Value) (n:Int) (code:ByteArray) (av:Value) (nr:Int) (tv:Value) (pub:Bool) (pl nx:Int) (sv rtv tlv:Value) (wt:Wn) (kv:Value) (rd:Int) (ev:Value) (ov:Bool) (er:Int) (u:Int):(Tl.Pg.jobR cf rv n code av nr tv pub pl nx sv rtv tlv wt kv rd ev ov er).setIfInBounds 14 (.int .i64 u)=Tl.Pg.jobR cf rv n code av nr tv pub u nx sv rtv tlv wt kv rd ev ov er:=by simp [Tl.Pg.jobR]
theorem JAt'.setNx {w:World} {base X:Nat} {j:Jb} {y:Jv} (h:JAt' w base X j y) (u:Int):JAt' (w.setCell ⟨X,15,none⟩ (.int .i64 u)) base X { j with nx:=u } y∧Keep [X] w (w.setCell ⟨X,15,none⟩ (.int .i64 u)):=by
 have r:=heap_set h.raw 15 (.int .i64 u)
 unfold jobC at r
 rw [nx_row] at r
 have k:Keep [X] w (w.setCell ⟨X,15,none⟩ (.int .i64 u)):=(Keep.refl [X] w).setCell _ _ (Or.inl (by simp))
 exact ⟨h.put (j':={ j with nx:=u }) r k ⟨rfl,rfl,rfl,rfl,rfl,rfl,rfl,rfl,rfl⟩,k⟩
theorem JAt'.setPl {w:World} {base X:Nat} {j:Jb} {y:Jv} (h:JAt' w base X j y) (u:Int):JAt' (w.setCell ⟨X,14,none⟩ (.int .i64 u)) base X { j with pl:=u } y∧Keep [X] w (w.setCell ⟨X,14,none⟩ (.int .i64 u)):=by
 have r:=heap_set h.raw 14 (.int .i64 u)
 unfold jobC at r
 rw [pl_row] at r
 have k:Keep [X] w (w.setCell ⟨X,14,none⟩ (.int .i64 u)):=(Keep.refl [X] w).setCell _ _ (Or.inl (by simp))
 exact ⟨h.put (j':={ j with pl:=u }) r k ⟨rfl,rfl,rfl,rfl,rfl,rfl,rfl,rfl,rfl⟩,k⟩
theorem JAt'.blw {w w':World} {base X:Nat} {j:Jb} {y:Jv} (h:JAt' w base X j y) (hb:Below w.heap.size w w'):JAt' w' base X j y:=h.keep (Keep.of_below hb []) (by simp)
theorem jump_any {w:World} {base X:Nat} {j:Jb} {y:Jv} (h:JAt' w base X j y) (oc ox:Int) (hx : -9223372036854775808≤ox∧ox≤9223372036854775807):Calls Tryz.prog 86 #[.pointer (some ⟨X,0,none⟩),.agg #[.int .i64 oc,.int .i64 ox]] w fun e w' => e = .returned (.tuple #[])∧JAt' w' base X { j with nx:=wrap64 (j.nx+ox) } y∧Keep [X] w w':=by
 have c15:w.cell? ⟨X,15,none⟩=some (.int .i64 j.nx):=(cell_at h.raw 15).trans rfl
 have f15:=h.fz 15
 have hX:=heap_lt h.raw
 have HJ:Hid (JAt' w base X j y):=h
 obtain ⟨hx0,hx1⟩:=hx
 clear h
 obtain ⟨u,hu⟩ : ∃ u,wrap64 (j.nx+ox)=u:=⟨_,rfl⟩
 rw [hu]
 go_enter Tryz.func86,Tryz.ntmps86
 go_wp2_with fail
 go_region
 go_wp2_with fail
 go_end0
 obtain ⟨q1,q2⟩:=HJ.out.setNx u
 exact ⟨rfl,q1.blw (below_a1 _ _).drew,(q2.alloc _).drewN 1⟩
theorem commit_any {w:World} {base X:Nat} {j:Jb} {y:Jv} (h:JAt' w base X j y) (oc ox:Int):Calls Tryz.prog 64 #[.pointer (some ⟨X,0,none⟩),.agg #[.int .i64 oc,.int .i64 ox]] w fun e w' => e = .returned (.tuple #[])∧JAt' w' base X { j with wt:=⟨4,0,0,0⟩ } y∧Keep [X] w w':=by
 have c19:w.cell? ⟨X,19,none⟩=some (.int .i64 j.wt.kind):=(cell_at h.raw 19).trans rfl
 have c20:w.cell? ⟨X,20,none⟩=some (.int .i64 j.wt.cell):=(cell_at h.raw 20).trans rfl
 have c21:w.cell? ⟨X,21,none⟩=some (.int .i64 j.wt.val):=(cell_at h.raw 21).trans rfl
 have c22:w.cell? ⟨X,22,none⟩=some (.int .i64 j.wt.code):=(cell_at h.raw 22).trans rfl
 have fX:=frozen_at h.raw
 have hX:=heap_lt h.raw
 have HJ:Hid (JAt' w base X j y):=h
 clear h
 go_enter Tryz.func64,Tryz.ntmps64
 go_wp2_with fail
 go_end0
 obtain ⟨q1,q2⟩:=wt_set HJ.out ⟨4,0,0,0⟩
 exact ⟨rfl,q1.blw (below_a1 _ _),q2.alloc _⟩
end Go.Proofs.YtigfjedohdgjfaaGreatDoor.Pj
namespace Go.Proofs.YtigfjedohdgjfaaGreatDoor.Pj
open Go.ChangeShapes Go.WideShapes Go.ChangeAt Go.RowKit
open Tl (Wn wn0 nth numC Nl)
attribute [local go_sem ↓] Go.wp_at_zero Go.wp_at_succ
theorem rt_row (cf:Tl.Pc.Cf) (rv:Value) (n:Int) (code:ByteArray) (av:Value) (nr:Int) (tv:Value) (pub:Bool) (pl nx:Int) (sv rtv tlv:Value) (wt:Wn) (kv:Value) (rd:Int) (ev:Value) (ov:Bool) (er:Int) (u:Value):(Tl.Pg.jobR cf rv n code av nr tv pub pl nx sv rtv tlv wt kv rd ev ov er).setIfInBounds 17 u=Tl.Pg.jobR cf rv n code av nr tv pub pl nx sv u tlv wt kv rd ev ov er:=by simp [Tl.Pg.jobR]
theorem tl_row (cf:Tl.Pc.Cf) (rv:Value) (n:Int) (code:ByteArray) (av:Value) (nr:Int) (tv:Value) (pub:Bool) (pl nx:Int) (sv rtv tlv:Value) (wt:Wn) (kv:Value) (rd:Int) (ev:Value) (ov:Bool) (er:Int) (u:Value):(Tl.Pg.jobR cf rv n code av nr tv pub pl nx sv rtv tlv wt kv rd ev ov er).setIfInBounds 18 u=Tl.Pg.jobR cf rv n code av nr tv pub pl nx sv rtv u wt kv rd ev ov er:=by simp [Tl.Pg.jobR]
theorem JAt'.rets {w w':World} {base X:Nat} {j:Jb} {y:Jv} {l:List Int} {sv:Value} (h:JAt' w base X j y) (hr:w'.heap[X]? = some (.cells (jobC { j with rt:=l } { y with rtv:=sv }) 70 (0,0))) (k:Keep (X :: bl y.rtv) w w') (ho:w'.ownsRow base 3 1 sv l.length (numC l)) (hs : ∀ q ∈ bl sv,q ∈ bl y.rtv∨w.heap.size≤q):JAt' w' base X { j with rt:=l } { y with rtv:=sv }:=by
 have hk:=h.kp k 4 (fun q hq=>by rcases List.mem_cons.1 hq with h1 | h1; exact Or.inl h1; exact Or.inr (Or.inl h1))
 exact ⟨hr,hk.rg (by decide),hk.ar (by decide),hk.st (by decide),ho,hk.tl (by decide),hk.er (by decide),hk.ak (by decide),hk.tx (by decide),seg_set h.dj (fun a ha q hq=>(h.lt a ha q hq).2) 4 hs,h.bX⟩
theorem JAt'.tells {w w':World} {base X:Nat} {j:Jb} {y:Jv} {l:List Int} {sv:Value} (h:JAt' w base X j y) (hr:w'.heap[X]? = some (.cells (jobC { j with tl:=l } { y with tlv:=sv }) 70 (0,0))) (k:Keep (X :: bl y.tlv) w w') (ho:w'.ownsRow base 2 1 sv l.length (numC l)) (hs : ∀ q ∈ bl sv,q ∈ bl y.tlv∨w.heap.size≤q):JAt' w' base X { j with tl:=l } { y with tlv:=sv }:=by
 have hk:=h.kp k 5 (fun q hq=>by rcases List.mem_cons.1 hq with h1 | h1; exact Or.inl h1; exact Or.inr (Or.inl h1))
 exact ⟨hr,hk.rg (by decide),hk.ar (by decide),hk.st (by decide),hk.rt (by decide),ho,hk.er (by decide),hk.ak (by decide),hk.tx (by decide),seg_set h.dj (fun a ha q hq=>(h.lt a ha q hq).2) 5 hs,h.bX⟩
theorem rt_fin {w W w2:World} {base X g n cp:Nat} {j:Jb} {y:Jv} {sa:Option Addr} {sc:Nat} {v:Int} (h:JAt' w base X j y) (hw:Below w.heap.size w W) (hS:y.rtv = .slice sa n sc) (hn:j.rt.length=n)
  (hown:w2.ownsRow base 3 1 (.slice (some ⟨g,0,none⟩) (n+1) cp) (n+1) (numC j.rt ++ [.int .i64 v])) (hgrow:W.grownBy w2 (Value.slice sa n sc).ownBlock) (hat:(Value.slice sa n sc).ownBlock=some g∨w.heap.size≤g) :
  JAt' (w2.setCell ⟨X,17,none⟩ (.slice (some ⟨g,0,none⟩) (n+1) cp)) base X { j with rt:=j.rt ++ [v] } { y with rtv:=.slice (some ⟨g,0,none⟩) (n+1) cp }∧Keep (X :: bl y.rtv) w (w2.setCell ⟨X,17,none⟩ (.slice (some ⟨g,0,none⟩) (n+1) cp)) ∧ ∀ q ∈ bl (.slice (some ⟨g,0,none⟩) (n+1) cp),q ∈ bl y.rtv∨w.heap.size≤q:=by
 have hX:=heap_lt h.raw
 have hne:y.rtv.ownBlock≠some X:=fun e=>seg_dj h.dj (i:=0) (k:=4) (by decide) X (by simp [Jv.segs]) (by simp [Jv.segs,e])
 rw [← hS] at hgrow hat
 have f1:w2.heap[X]? = some (.cells (jobC j y) 70 (0,0)):=(hgrow.block X (Nat.lt_of_lt_of_le hX hw.size) (Ne.symm hne)).trans (row_on h.raw hw)
 have f2:Keep (bl y.rtv) w w2:=(Keep.of_below hw _).grown hgrow (fun b hb=>Or.inl (by simp [hb]))
 have f4 : ∀ q ∈ bl (.slice (some ⟨g,0,none⟩) (n+1) cp),q ∈ bl y.rtv∨w.heap.size≤q:=fun q hq=>by
  simp [Value.ownBlock] at hq
  subst hq
  rcases hat with h1 | h1
  ·left; simp [h1]
  ·exact Or.inr h1
 have r1:=heap_set f1 17 (.slice (some ⟨g,0,none⟩) (n+1) cp)
 unfold jobC at r1
 rw [rt_row] at r1
 have kk:Keep (X :: bl y.rtv) w (w2.setCell ⟨X,17,none⟩ (.slice (some ⟨g,0,none⟩) (n+1) cp)):=(f2.mono (fun b hb=>List.mem_cons_of_mem _ hb)).setCell _ _ (Or.inl (by simp))
 refine ⟨h.rets r1 kk ?_ f4,kk,f4⟩
 have hnl:(j.rt ++ [v]).length=n+1:=by simp [hn]
 rw [hnl,Tl.numC_snoc]
 refine own_keep hown ((Keep.refl [X] _).setCell _ _ (Or.inl (by simp))) (fun b hb => ?_)
 simp [Value.ownBlock] at hb
 subst hb
 simp
 rintro rfl
 rcases f4 g (by simp [Value.ownBlock]) with h1 | h1
 ·exact hne (by simpa using h1)
 ·omega
theorem tl_fin {w W w2:World} {base X g n cp:Nat} {j:Jb} {y:Jv} {sa:Option Addr} {sc:Nat} {v:Int} (h:JAt' w base X j y) (hw:Below w.heap.size w W) (hS:y.tlv = .slice sa n sc) (hn:j.tl.length=n)
  (hown:w2.ownsRow base 2 1 (.slice (some ⟨g,0,none⟩) (n+1) cp) (n+1) (numC j.tl ++ [.int .i64 v])) (hgrow:W.grownBy w2 (Value.slice sa n sc).ownBlock) (hat:(Value.slice sa n sc).ownBlock=some g∨w.heap.size≤g) :
  JAt' (w2.setCell ⟨X,18,none⟩ (.slice (some ⟨g,0,none⟩) (n+1) cp)) base X { j with tl:=j.tl ++ [v] } { y with tlv:=.slice (some ⟨g,0,none⟩) (n+1) cp }∧Keep (X :: bl y.tlv) w (w2.setCell ⟨X,18,none⟩ (.slice (some ⟨g,0,none⟩) (n+1) cp)) ∧ ∀ q ∈ bl (.slice (some ⟨g,0,none⟩) (n+1) cp),q ∈ bl y.tlv∨w.heap.size≤q:=by
 have hX:=heap_lt h.raw
 have hne:y.tlv.ownBlock≠some X:=fun e=>seg_dj h.dj (i:=0) (k:=5) (by decide) X (by simp [Jv.segs]) (by simp [Jv.segs,e])
 rw [← hS] at hgrow hat
 have f1:w2.heap[X]? = some (.cells (jobC j y) 70 (0,0)):=(hgrow.block X (Nat.lt_of_lt_of_le hX hw.size) (Ne.symm hne)).trans (row_on h.raw hw)
 have f2:Keep (bl y.tlv) w w2:=(Keep.of_below hw _).grown hgrow (fun b hb=>Or.inl (by simp [hb]))
 have f4 : ∀ q ∈ bl (.slice (some ⟨g,0,none⟩) (n+1) cp),q ∈ bl y.tlv∨w.heap.size≤q:=fun q hq=>by
  simp [Value.ownBlock] at hq
  subst hq
  rcases hat with h1 | h1
  ·left; simp [h1]
  ·exact Or.inr h1
 have r1:=heap_set f1 18 (.slice (some ⟨g,0,none⟩) (n+1) cp)
 unfold jobC at r1
 rw [tl_row] at r1
 have kk:Keep (X :: bl y.tlv) w (w2.setCell ⟨X,18,none⟩ (.slice (some ⟨g,0,none⟩) (n+1) cp)):=(f2.mono (fun b hb=>List.mem_cons_of_mem _ hb)).setCell _ _ (Or.inl (by simp))
 refine ⟨h.tells r1 kk ?_ f4,kk,f4⟩
 have hnl:(j.tl ++ [v]).length=n+1:=by simp [hn]
 rw [hnl,Tl.numC_snoc]
 refine own_keep hown ((Keep.refl [X] _).setCell _ _ (Or.inl (by simp))) (fun b hb => ?_)
 simp [Value.ownBlock] at hb
 subst hb
 simp
 rintro rfl
 rcases f4 g (by simp [Value.ownBlock]) with h1 | h1
 ·exact hne (by simpa using h1)
 ·omega
end Go.Proofs.YtigfjedohdgjfaaGreatDoor.Pj
namespace Go.Proofs.YtigfjedohdgjfaaGreatDoor.Pj
open Go.ChangeShapes Go.WideShapes Go.ChangeAt Go.RowKit
attribute [local go_sem ↓] Go.wp_at_zero Go.wp_at_succ
theorem ret_o2 {fn:Func} {p q:Tmp} {R:Ending→World→Prop} {a:Act} {w:World} {g:Nat} {cs:Array Value} (h:fn.results = #[.cell p 27,.tmp q]) (hp:a.tmps.getD p undef = .pointer (some ⟨g,0,none⟩))
  (hg:w.heap[g]? = some (.cells cs 27 (0,0))) (hz:cs.size=3) (hd:a.defers = []) (hR:R (.returned (.tuple #[.agg cs,a.tmps.getD q undef])) w):bodyPost Tryz.prog fn R .ret a w:=by
 refine bodyPost_ret (v:=.tuple #[.agg cs,a.tmps.getD q undef]) ?_ hd hR
 have hp':a.tmps[p]?.getD undef = .pointer (some ⟨g,0,none⟩):=by simpa using hp
 have hl:=run_loadVar_row (P:=Tryz.prog) w g 27 27 cs (0,0) _ hg Tryz.underlying27 rfl (by rw [hz]; kernel_rfl)
 simp [results, h, hp', asAddr, hl]
end Go.Proofs.YtigfjedohdgjfaaGreatDoor.Pj
namespace Go.Proofs.YtigfjedohdgjfaaGreatDoor.Pj
open Go.ChangeShapes Go.WideShapes Go.ChangeAt Go.RowKit
open Tl (Wn wn0 nth numC Nl)
theorem X_fl {y:Jv} {X:Nat} : ∀ q ∈ [X],q ∈ fl y X:=fun q hq=>mem_fl.2 ⟨[X],by simp [Jv.segs],hq⟩
theorem mem_word (L:List Ac) (h:L = []):Wd L:=by
 subst h
 intro a
 rw [wordOf_nil]
 unfold first
 split <;> exact ⟨by decide,by decide⟩
end Go.Proofs.YtigfjedohdgjfaaGreatDoor.Pj
namespace Go.Proofs.YtigfjedohdgjfaaGreatDoor.Pj
open Go.ChangeShapes Go.WideShapes Go.ChangeAt Go.RowKit
open Tl (Wn wn0 nth numC Nl)
attribute [local go_sem ↓] Go.wp_at_zero Go.wp_at_succ
def Dz (w : World) (base X : Nat) (j' : Jb) (y : Jv) : Ending → World → Prop := fun e w' => e = .returned (.tuple #[]) ∧ ∃ y', JAt' w' base X j' y' ∧ Next (fl y X) (fl y' X) w w'
theorem dz_keep {w w1:World} {base X:Nat} {j':Jb} {y:Jv} (h:JAt' w1 base X j' y) (k:Keep [X] w w1):Dz w base X j' y (.returned (.tuple #[])) w1:=⟨rfl,y,h,k.mono X_fl,fun _ hq=>Or.inl hq⟩
theorem next_rets {w w1:World} {X:Nat} {y:Jv} {sv:Value} (k:Keep (X :: bl y.rtv) w w1) (hs : ∀ q ∈ bl sv,q ∈ bl y.rtv∨w.heap.size≤q):Next (fl y X) (fl { y with rtv:=sv } X) w w1:=by
 refine ⟨k.mono (fun b hb => ?_),fun q hq => ?_⟩
 ·rcases List.mem_cons.1 hb with rfl | h1
  ·exact mem_fl.2 ⟨[b],by simp [Jv.segs],by simp⟩
  ·exact mem_fl.2 ⟨_,by simp [Jv.segs],h1⟩
 ·have hq':=(mem_segs q).1 hq
  dsimp only at hq'
  rcases hq' with h1 | h1 | h1 | h1 | h1 | h1
  ·exact Or.inl ((mem_segs q).2 (Or.inl h1))
  ·exact Or.inl ((mem_segs q).2 (Or.inr (Or.inl h1)))
  ·exact Or.inl ((mem_segs q).2 (Or.inr (Or.inr (Or.inl h1))))
  ·exact Or.inl ((mem_segs q).2 (Or.inr (Or.inr (Or.inr (Or.inl h1)))))
  ·exact (hs q h1).imp (fun h2=>(mem_segs q).2 (Or.inr (Or.inr (Or.inr (Or.inr (Or.inl h2)))))) id
  ·exact Or.inl ((mem_segs q).2 (Or.inr (Or.inr (Or.inr (Or.inr (Or.inr h1))))))
theorem next_tells {w w1:World} {X:Nat} {y:Jv} {sv:Value} (k:Keep (X :: bl y.tlv) w w1) (hs : ∀ q ∈ bl sv,q ∈ bl y.tlv∨w.heap.size≤q):Next (fl y X) (fl { y with tlv:=sv } X) w w1:=by
 refine ⟨k.mono (fun b hb => ?_),fun q hq => ?_⟩
 ·rcases List.mem_cons.1 hb with rfl | h1
  ·exact mem_fl.2 ⟨[b],by simp [Jv.segs],by simp⟩
  ·exact mem_fl.2 ⟨_,by simp [Jv.segs],h1⟩
 ·have hq':=(mem_segs q).1 hq
  dsimp only at hq'
  rcases hq' with h1 | h1 | h1 | h1 | h1 | h1 | h1
  ·exact Or.inl ((mem_segs q).2 (Or.inl h1))
  ·exact Or.inl ((mem_segs q).2 (Or.inr (Or.inl h1)))
  ·exact Or.inl ((mem_segs q).2 (Or.inr (Or.inr (Or.inl h1))))
  ·exact Or.inl ((mem_segs q).2 (Or.inr (Or.inr (Or.inr (Or.inl h1)))))
  ·exact Or.inl ((mem_segs q).2 (Or.inr (Or.inr (Or.inr (Or.inr (Or.inl h1))))))
  ·exact (hs q h1).imp (fun h2=>(mem_segs q).2 (Or.inr (Or.inr (Or.inr (Or.inr (Or.inr (Or.inl h2))))))) id
  ·exact Or.inl ((mem_segs q).2 (Or.inr (Or.inr (Or.inr (Or.inr (Or.inr (Or.inr h1)))))))
theorem next_stack {w w1:World} {X:Nat} {y:Jv} {sv:Value} (k:Keep (X :: bl y.sv) w w1) (hs : ∀ q ∈ bl sv,q ∈ bl y.sv∨w.heap.size≤q):Next (fl y X) (fl { y with sv:=sv } X) w w1:=by
 refine ⟨k.mono (fun b hb => ?_),fun q hq => ?_⟩
 ·rcases List.mem_cons.1 hb with rfl | h1
  ·exact mem_fl.2 ⟨[b],by simp [Jv.segs],by simp⟩
  ·exact mem_fl.2 ⟨_,by simp [Jv.segs],h1⟩
 ·have hq':=(mem_segs q).1 hq
  dsimp only at hq'
  rcases hq' with h1 | h1 | h1 | h1 | h1
  ·exact Or.inl ((mem_segs q).2 (Or.inl h1))
  ·exact Or.inl ((mem_segs q).2 (Or.inr (Or.inl h1)))
  ·exact Or.inl ((mem_segs q).2 (Or.inr (Or.inr (Or.inl h1))))
  ·exact (hs q h1).imp (fun h2=>(mem_segs q).2 (Or.inr (Or.inr (Or.inr (Or.inl h2))))) id
  ·exact Or.inl ((mem_segs q).2 (Or.inr (Or.inr (Or.inr (Or.inr h1)))))
theorem Da.dz {w w1:World} {base X:Nat} {j:Jb} {y:Jv} {S:List Int} {sv:Value} (h:Da w base X j y S sv w1):Dz w base X { j with st:=S } y (.returned (.tuple #[])) w1:=⟨rfl,_,h.job,next_stack h.kp h.own⟩
theorem next_then {H H1 H2:List Nat} {w w1 w2:World} (a:Next H H1 w w1) (b:Next H1 H2 w1 w2):Next H H2 w w2:=⟨a.1.trans b.1 (fun q hq=>a.2 q hq),fun q hq=>(b.2 q hq).elim (fun h=>a.2 q h) (fun h=>Or.inr (Nat.le_trans a.1.size h))⟩
set_option maxRecDepth 10000 in
theorem call_any {w:World} {base X:Nat} {j:Jb} {y:Jv} (h:JAt' w base X j y) (_hb:base≤w.heap.size) (hl:j.rt.length≤990) (oc ox:Int) :
  Calls Tryz.prog 88 #[.pointer (some ⟨X,0,none⟩),.agg #[.int .i64 oc,.int .i64 ox]] w (Dz w base X { j with rt:=j.rt ++ [j.nx],nx:=ox } y):=by
 have c17:w.cell? ⟨X,17,none⟩=some y.rtv:=(cell_at h.raw 17).trans rfl
 have c15:w.cell? ⟨X,15,none⟩=some (.int .i64 j.nx):=(cell_at h.raw 15).trans rfl
 have hX:=heap_lt h.raw
 have HJ:Hid (JAt' w base X j y):=h
 have HO:Hid (w.ownsRow base 3 1 y.rtv j.rt.length (numC j.rt)):=h.rt
 have hf:=h.fz 17
 have HNE:Hid (y.rtv.ownBlock≠some X):=fun e=>seg_dj h.dj (i:=0) (k:=4) (by decide) X (by simp [Jv.segs]) (by simp [Jv.segs,e])
 obtain ⟨i0,hi,hz0,hz1,hz2⟩:=Tl.info_parts Tl.info_int
 clear h
 obtain ⟨sa,sc,hsv⟩:=own_slice HO.out
 generalize hS:y.rtv=S0 at *
 subst hsv
 have HS:Hid (y.rtv = .slice sa j.rt.length sc):=hS
 clear hS
 generalize hNN:j.rt.length=n at *
 have HN:Hid (j.rt.length=n):=hNN
 clear hNN
 have hX2:X < w.heap.size+1:=by omega
 generalize hnx:j.nx=nx at *
 have HNX:Hid (j.nx=nx):=hnx
 clear hnx
 go_enter Tryz.func88,Tryz.ntmps88
 go_wp2_with fail
 go_region_law
  ((refine step_lies_wide _ (by rfl) _ _ _ (by rfl) base 3 i0 _ 1 8 Tryz.underlying61 hi hz0 hz1 hz2 rfl (by decide) (.slice sa n sc) n (numC j.rt) (by rfl) (((HO.out.alloc _).alloc _).drew)
        ⟨w.heap.size+1,0,none⟩ 1 1 [.int .i64 nx] (by rfl) (by rfl) (World.news_of_block (cs:=#[.int .i64 nx]) (t:=3) (fr:=(0,0)) (heap_alloc2_new w _ _)) (one_num _)
        (by decide) (by unfold maxLen; omega) (by omega) (by simp; omega) (w.heap.size+2) (by simp) ?_; intro gg cap' w1 hown1 hgrow hat hlt; have hs1:w1.cell? ⟨X,17,none⟩=some (.slice sa n sc):=(by rw [hgrow.cell_far _ (by simp; omega) (Ne.symm HNE.out)]; simp [hX,hX2,World.cell?_alloc_past,c17]); have hs2:w1.frozen? ⟨X,17,none⟩=false:=(by rw [hgrow.frozen_far _ (by simp; omega) (Ne.symm HNE.out)]; rw [fr_drew,World.frozen?_alloc_past _ _ _ (by simp; omega),World.frozen?_alloc_past _ _ _ hX]; exact hf)))
 all_goals
  have hW:Below w.heap.size w (((w.alloc (.cells #[.int .i64 oc,.int .i64 ox] 38)).alloc (.cells #[.int .i64 nx] 3)).drew):=(below_then (below_a1 _ _) (below_a1 _ _)).drew
  have hP0:(((w.alloc (.cells #[.int .i64 oc,.int .i64 ox] 38)).alloc (.cells #[.int .i64 nx] 3)).drew).heap[w.heap.size]? = some (.cells #[.int .i64 oc,.int .i64 ox] 38 (0,0)):=row_on (heap_alloc_new w _) (below_a1 _ _).drew
  have hP1:=(hgrow.block w.heap.size (by simp; omega) (fun e=>by have:=HO.out.lt _ e.symm; omega)).trans hP0
  have hlw:=heap_lt hP1
  have hP3:=(((Keep.refl [X] w1).setCell ⟨X,17,none⟩ (.slice (some ⟨gg,0,none⟩) (n+1) cap') (Or.inl (by simp))).block w.heap.size hlw (by simp; omega)).trans hP1
  obtain ⟨q1,q2,q3⟩:=rt_fin HJ.out hW HS.out HN.out hown1 hgrow (hat.imp id (fun h=>by omega))
  generalize w1.setCell ⟨X,17,none⟩ (.slice (some ⟨gg,0,none⟩) (n+1) cap')=w3 at *
  have HQ:Hid (JAt' w3 base X { j with rt:=j.rt ++ [nx] } { y with rtv:=.slice (some ⟨gg,0,none⟩) (n+1) cap' }∧Keep (X :: bl y.rtv) w w3 ∧ ∀ q ∈ bl (.slice (some ⟨gg,0,none⟩) (n+1) cap'),q ∈ bl y.rtv∨w.heap.size≤q):=⟨q1,q2,q3⟩
  have d1:w3.cell? ⟨w.heap.size,1,none⟩=some (.int .i64 ox):=(cell_at hP3 1).trans rfl
  have d15:w3.cell? ⟨X,15,none⟩=some (.int .i64 nx):=by rw [← HNX.out]; exact (cell_at q1.raw 15).trans rfl
  have f15:=q1.fz 15
  have hX3:=heap_lt q1.raw
  have hl3:=heap_lt hP3
  clear q1 q2 q3 hP3 hP1 hP0 hW hown1 hgrow hat hlt hs1 hs2 hlw c17 c15 hf
  go_wp2_with fail
  go_end0
  obtain ⟨q1,q2,q3⟩:=HQ.out
  obtain ⟨r1,r2⟩:=q1.setNx ox
  exact ⟨rfl,_,r1,next_then (next_rets q2 q3) ⟨r2.mono X_fl,fun _ hq=>Or.inl hq⟩⟩
structure PT (w w':World) (base X:Nat) (j:Jb) (y:Jv) (S:List Int) (sv:Value) (sa:Option Addr) (n sc:Nat):Prop where
 job:JAt' w' base X { j with st:=S } { y with sv:=sv }
 bl:bl sv=bl y.sv
 kp:Keep [X] w w'
 own:w'.ownsRow base 2 1 (.slice sa n sc) n (numC j.tl)
 c18:w'.cell? ⟨X,18,none⟩=some (.slice sa n sc)
 f18:w'.frozen? ⟨X,18,none⟩=false
 lt:X < w'.heap.size
set_option maxRecDepth 10000 in
theorem tell_any {w:World} {base X:Nat} {j:Jb} {y:Jv} (h:JAt' w base X j y) (hb:base≤w.heap.size) (hn1:1≤j.st.length) (hl1:j.st.length≤990) (hl:j.tl.length≤990) (oc ox:Int) :
  Calls Tryz.prog 91 #[.pointer (some ⟨X,0,none⟩),.agg #[.int .i64 oc,.int .i64 ox]] w (Dz w base X { j with st:=j.st.take (j.st.length - 1),tl:=j.tl ++ [nth j.st (j.st.length - 1)] } y):=by
 have hX:=heap_lt h.raw
 obtain ⟨sa,sc,hsv⟩:=own_slice h.tl
 obtain ⟨n,hNN⟩ : ∃ n,j.tl.length=n:=⟨_,rfl⟩
 have HN:Hid (j.tl.length=n):=hNN
 rw [hNN] at hsv hl
 have HS:Hid (y.tlv = .slice sa n sc):=hsv
 have HNE:Hid ((Value.slice sa n sc).ownBlock≠some X):=by unfold Hid; rw [← hsv]; exact fun e=>seg_dj h.dj (i:=0) (k:=5) (by decide) X (by simp [Jv.segs]) (by simp [Jv.segs,e])
 have HT:Hid (∀ w1,Below w.heap.size w w1→Calls Tryz.prog 116 #[.pointer (some ⟨X,0,none⟩)] w1 fun e w' => ∃ sv,e = .returned (.int .i64 (nth j.st (j.st.length - 1)))∧PT w w' base X j y (j.st.take (j.st.length - 1)) sv sa n sc):=fun w1 hw=>by
  refine (pop_any (h.keep (Keep.of_below hw []) (by simp)) hn1 (by omega)).mono ?_
  rintro e w' ⟨sv,rfl,q1,q2,q3⟩
  refine ⟨sv,rfl,q1,q2,(Keep.of_below hw [X]).trans q3 (fun b hb=>Or.inl hb), ?_, ?_,q1.fz 18,heap_lt q1.raw⟩
  ·have:=q1.tl
   dsimp only at this
   rw [hsv,hNN] at this
   exact this
  ·rw [cell_at q1.raw,← hsv]; rfl
 have c18:w.cell? ⟨X,18,none⟩=some (.slice sa n sc):=by rw [cell_at h.raw,← hsv]; rfl
 obtain ⟨i0,hi,hz0,hz1,hz2⟩:=Tl.info_parts Tl.info_i64
 clear h hn1 hl1 hsv hNN
 generalize nth j.st (j.st.length - 1)=v at *
 generalize j.st.take (j.st.length - 1)=S at *
 go_enter Tryz.func91,Tryz.ntmps91
 go_wp2_with fail
 go_region_law (first
    | (refine step_lies_wide _ (by rfl) _ _ _ (by rfl) base 2 i0 _ 1 8 Tryz.underlying25 hi hz0 hz1 hz2 rfl (by decide) (.slice sa n sc) n (numC j.tl) (by rfl) (pt.own.alloc _)
        ⟨w1.heap.size,0,none⟩ 1 1 [.int .i64 v] (by rfl) (by rfl) (World.news_of_block (cs:=#[.int .i64 v]) (t:=2) (fr:=(0,0)) (heap_alloc_new _ _)) (one_num _)
        (by decide) (by unfold maxLen; omega) (by omega) (by simp; omega) (w1.heap.size+1) (by simp) ?_; intro gg cap' w2 hown1 hgrow hat hlt; have hs1:w2.cell? ⟨X,18,none⟩=some (.slice sa n sc):=(by rw [hgrow.cell_far _ (by simp; omega) (Ne.symm HNE.out)]; simp [hX1,World.cell?_alloc_past,c18']); have hs2:w2.frozen? ⟨X,18,none⟩=false:=(by rw [hgrow.frozen_far _ (by simp; omega) (Ne.symm HNE.out)]; rw [World.frozen?_alloc_past _ _ _ hX1]; exact f18))
    | (go_simp; go_at_call 116; refine (HT.out _ (by first | exact below_a1 _ _ | exact (below_a1 _ _).drew | exact (below_a1 _ _).drew.drew)).mono ?_; rintro e w1 ⟨sv,rfl,pt⟩; have c18':=pt.c18; have hX1:=pt.lt; have f18:=pt.f18; have hbw:=Nat.le_trans hb pt.kp.size))
 all_goals
  obtain ⟨q1,q2,q3⟩:=tl_fin (y:={ y with sv:=sv }) (v:=v) pt.job (below_a1 w1 (.cells #[.int .i64 v] 2)) HS.out HN.out hown1 hgrow (hat.imp id (fun h=>by omega))
  have k1:Next (fl y X) (fl { y with sv:=sv } X) w w1:=next_stack (pt.kp.mono (fun b hb=>by simp at hb; simp [hb])) (fun q hq=>Or.inl (pt.bl ▸ hq))
  refine bodyPost_end (results_none rfl _ _ _) rfl ?_
  exact ⟨rfl,_,q1,next_then k1 (next_tells q2 q3)⟩
set_option maxRecDepth 10000 in
theorem ret_any {w:World} {base X:Nat} {j:Jb} {y:Jv} (h:JAt' w base X j y) (hn:1≤j.rt.length) (hl:j.rt.length≤990) (oc ox:Int) :
  Calls Tryz.prog 89 #[.pointer (some ⟨X,0,none⟩),.agg #[.int .i64 oc,.int .i64 ox]] w (Dz w base X { j with rt:=j.rt.take (j.rt.length - 1),nx:=nth j.rt (j.rt.length - 1) } y):=by
 have HJ:Hid (JAt' w base X j y):=h
 obtain ⟨g,cap,hsv⟩ : ∃ g cap,y.rtv = .slice (some ⟨g,0,none⟩) j.rt.length cap:=by
  rcases h.rt.2 with ⟨_,h2⟩ | ⟨g,cap,_,h2,_⟩
  ·omega
  ·exact ⟨g,cap,h2⟩
 have hcap:j.rt.length≤cap∧cap≤maxLen:=by
  rcases h.rt.2 with ⟨_, h2⟩ | ⟨g', cap', _, h2, _, _, h3, h4, _⟩
  ·omega
  ·rw [hsv] at h2
   injection h2 with a1 a2 a3
   omega
 have c17:w.cell? ⟨X,17,none⟩=some (.slice (some ⟨g,0,none⟩) j.rt.length cap):=by rw [← hsv]; exact (cell_at h.raw 17).trans rfl
 have f17:=h.fz 17
 have f15:=h.fz 15
 have c15:w.cell? ⟨X,15,none⟩=some (.int .i64 j.nx):=(cell_at h.raw 15).trans rfl
 have hX:=heap_lt h.raw
 have HO:Hid (w.ownsRow base 3 1 (.slice (some ⟨g,0,none⟩) j.rt.length cap) j.rt.length (numC j.rt)):=by rw [← hsv]; exact h.rt
 have HSV:Hid (y.rtv = .slice (some ⟨g,0,none⟩) j.rt.length cap):=hsv
 have hgX:g≠X:=fun e=>by
  subst e
  exact seg_dj HJ.out.dj (i:=0) (k:=4) (by decide) g (by simp [Jv.segs]) (by show g ∈ bl y.rtv; rw [HSV.out]; simp [bl,Value.ownBlock])
 have cq:w.cell? ⟨g,j.rt.length - 1,none⟩=some (.int .i64 (nth j.rt (j.rt.length - 1))):=own_cells HO.out (j.rt.length - 1) _ (Tl.numC_get j.rt (j.rt.length - 1) (by omega))
 have hg:=World.block_lt_of_cell? _ _ cq
 have hsub:=wr_sub hn (by omega)
 have hlt:j.rt.length - 1 < j.rt.length:=by omega
 clear h hsv
 generalize hV:nth j.rt (j.rt.length - 1)=v at *
 generalize hL:j.rt.length=m at *
 generalize hR:m - 1=q at *
 clear hn
 go_enter Tryz.func89,Tryz.ntmps89
 go_wp2_with fail
 go_end0
 obtain ⟨q1,k0⟩:=HJ.out.setNx v
 have r:=heap_set q1.raw 17 (.slice (some ⟨g,0,none⟩) q cap)
 unfold jobC at r
 rw [rt_row] at r
 generalize w.setCell ⟨X,15,none⟩ (.int .i64 v)=w1 at *
 have k:Keep [X] w1 (w1.setCell ⟨X,17,none⟩ (.slice (some ⟨g,0,none⟩) q cap)):=(Keep.refl [X] w1).setCell _ _ (Or.inl (by simp))
 have ho1:w1.ownsRow base 3 1 (.slice (some ⟨g,0,none⟩) m cap) m (numC j.rt):=by have:=q1.rt; dsimp only at this; rw [HSV.out,hL] at this; exact this
 have hcut:=own_cut ho1 (m:=q) (by omega)
 rw [Nat.mul_one,numC_take] at hcut
 have hlen:(j.rt.take q).length=q:=by rw [List.length_take,hL]; omega
 have hs : ∀ b ∈ bl (.slice (some ⟨g,0,none⟩) q cap),b ∈ bl y.rtv∨w.heap.size≤b:=fun b hb=>Or.inl (by rw [HSV.out]; simpa [bl,Value.ownBlock] using hb)
 have hs1 : ∀ b ∈ bl (.slice (some ⟨g,0,none⟩) q cap),b ∈ bl y.rtv∨w1.heap.size≤b:=fun b hb=>Or.inl (by rw [HSV.out]; simpa [bl,Value.ownBlock] using hb)
 have hk1:Keep (X :: bl y.rtv) w1 (w1.setCell ⟨X,17,none⟩ (.slice (some ⟨g,0,none⟩) q cap)):=k.mono (fun b hb=>by simp at hb; simp [hb])
 have hk2:Keep (X :: bl y.rtv) w (w1.setCell ⟨X,17,none⟩ (.slice (some ⟨g,0,none⟩) q cap)):=(k0.trans k (fun b hb=>Or.inl hb)).mono (fun b hb=>by simp at hb; simp [hb])
 have hfin:=q1.rets (l:=j.rt.take q) (sv:=.slice (some ⟨g,0,none⟩) q cap) r hk1 (by rw [hlen]; exact own_keep hcut k (fun b hb=>by simp [Value.ownBlock] at hb; subst hb; simpa using hgX)) hs1
 exact ⟨rfl,_,hfin.blw (below_a1 _ _),next_rets (hk2.alloc _) hs⟩
theorem jumpz_any {w:World} {base X:Nat} {j:Jb} {y:Jv} (h:JAt' w base X j y) (hn:1≤j.st.length) (hl:j.st.length≤990) (oc ox:Int) (hx : -9223372036854775808≤ox∧ox≤9223372036854775807) :
  Calls Tryz.prog 87 #[.pointer (some ⟨X,0,none⟩),.agg #[.int .i64 oc,.int .i64 ox]] w (Dz w base X { j with st:=j.st.take (j.st.length - 1),nx:=if nth j.st (j.st.length - 1)=0 then wrap64 (j.nx+ox) else j.nx } y):=by
 have HT:Hid (∀ w0,Below w.heap.size w w0→Calls Tryz.prog 116 #[.pointer (some ⟨X,0,none⟩)] w0 fun e w' => ∃ sv,e = .returned (.int .i64 (nth j.st (j.st.length - 1)))∧Da w base X j y (j.st.take (j.st.length - 1)) sv w'∧Keep [X] w0 w'):=fun w0 hw=>by
  refine (pop_any (h.keep (Keep.of_below hw []) (by simp)) hn (by omega)).mono ?_
  rintro e w' ⟨sv,rfl,q1,q2,q3⟩
  exact ⟨sv,rfl,⟨q1,fun q hq=>Or.inl (q2 ▸ hq),(Keep.of_below hw _).trans (q3.mono (fun b hb=>by simp at hb; simp [hb])) (fun b hb=>Or.inl hb)⟩,q3⟩
 have HU:Hid (∀ w1 S sv,Da w base X j y S sv w1→Calls Tryz.prog 86 #[.pointer (some ⟨X,0,none⟩),.agg #[.int .i64 oc,.int .i64 ox]] w1 fun e w' => e = .returned (.tuple #[])∧JAt' w' base X { j with st:=S,nx:=wrap64 (j.nx+ox) } { y with sv:=sv }∧Keep [X] w1 w'):=fun w1 S sv h1=>jump_any h1.job oc ox hx
 have hX:=heap_lt h.raw
 clear h hn hl hx
 generalize nth j.st (j.st.length - 1)=v at *
 generalize j.st.take (j.st.length - 1)=S at *
 by_cases hv:v=0
 ·subst hv
  rw [if_pos (rfl:(0:Int)=0)]
  go_enter Tryz.func87,Tryz.ntmps87
  go_wp2_with fail
  refine (HT.out _ (below_a1 _ _)).mono ?_
  rintro e w1 ⟨sv,rfl,q,hk⟩
  have HQ:Hid (Da w base X j y S sv w1):=q
  have hP:w1.heap[w.heap.size]? = some (.cells #[.int .i64 oc,.int .i64 ox] 38 (0,0)):=(hk.block _ (by simp) (by simp; omega)).trans (heap_alloc_new _ _)
  have d0:w1.cell? ⟨w.heap.size,0,none⟩=some (.int .i64 oc):=(cell_at hP 0).trans rfl
  have d1:w1.cell? ⟨w.heap.size,1,none⟩=some (.int .i64 ox):=(cell_at hP 1).trans rfl
  have hl1:=heap_lt hP
  clear q HT hP hk
  go_wp2_with fail
  refine (HU.out _ _ _ HQ.out).mono ?_
  rintro e w2 ⟨rfl,q1,q2⟩
  have HR:Hid (JAt' w2 base X { j with st:=S,nx:=wrap64 (j.nx+ox) } { y with sv:=sv }∧Keep [X] w1 w2):=⟨q1,q2⟩
  clear q1 q2
  go_wp2_with fail
  go_end0
  exact ⟨rfl,_,HR.out.1,next_then (next_stack HQ.out.kp HQ.out.own) ⟨HR.out.2.mono X_fl,fun _ hq=>Or.inl hq⟩⟩
 ·rw [if_neg hv]
  have hv2:(v == 0)=false:=by simpa using hv
  go_enter Tryz.func87,Tryz.ntmps87
  go_wp2_with fail
  refine (HT.out _ (below_a1 _ _)).mono ?_
  rintro e w1 ⟨sv,rfl,q,hk⟩
  have HQ:Hid (Da w base X j y S sv w1):=q
  clear q HT hk
  go_wp2_with fail
  go_end0
  exact ⟨rfl,_,HQ.out.job,next_stack HQ.out.kp HQ.out.own⟩
end Go.Proofs.YtigfjedohdgjfaaGreatDoor.Pj
namespace Go.Proofs.YtigfjedohdgjfaaGreatDoor.Pj
open Go.ChangeShapes Go.WideShapes Go.ChangeAt Go.RowKit
open Tl (Wn wn0 nth numC Nl)
attribute [local go_sem ↓] Go.wp_at_zero Go.wp_at_succ
set_option maxRecDepth 100000 in
theorem field_fn (tk pt:Int) (f:Nat) (w:World):(Instr.field 101 (.agg #[.int .i64 tk,.int .i64 pt,.func (.func f) #[] #[]]) 2).run Tryz.prog w = .ok (.func (.func f) #[] #[]) w:=by kernel_rfl
def AtIs (w : World) (code : ByteArray) (pl c o sz why : Int) : Prop := ∀ w', Below w.heap.size w w' → Calls Tryz.prog 44 #[.string code, .int .i64 pl] w' fun e w'' => e = .returned (.tuple #[.agg #[.int .i64 c, .int .i64 o], .int .i64 sz, .int .i64 why]) ∧ Below w'.heap.size w' w''
set_option maxRecDepth 10000 in
set_option maxHeartbeats 4000000 in
theorem perform_move {w:World} {base X:Nat} {j j2:Jb} {y:Jv} {c o sz nx1:Int} {f:Nat} {p t:Value} (h:JAt' w base X j y) (hb:base≤w.heap.size) (HA:AtIs w j.code j.pl c o sz 0)
  (HF : ∀ w', Below w.heap.size w w' → Calls Tryz.prog 45 #[.pointer (some ⟨X, 0, none⟩), .agg #[.int .i64 c, .int .i64 o]] w' fun e w'' => e = .returned (.bool false) ∧ Below w'.heap.size w' w'')
  (hnx:wrap64 (j.pl+sz)=nx1) (HI : ∃ tk pt:Int,∀ w,(Instr.index 102 (.agg insC) (.int .i64 c)).run Tryz.prog w = .ok (.agg #[.int .i64 tk,.int .i64 pt,.func (.func f) #[] #[]]) w)
  (HOP : ∀ w1,JAt' w1 base X { j with nx:=nx1,wt:=wn0 } y→base≤w1.heap.size→Calls Tryz.prog f #[.pointer (some ⟨X,0,none⟩),.agg #[.int .i64 c,.int .i64 o]] w1 (Dz w1 base X j2 y)) (HC : ∀ args w,(callFunc f args).run Tryz.prog w = .ok (.enter f args) w) (ha:j2.ak=none) (hw:j2.wt.kind=0) :
  Calls Tryz.prog 28 #[.pointer (some ⟨X, 0, none⟩), p, t] w fun e w' => e = .returned (anV 2 0 0 false) ∧ ∃ y', JAt' w' base X { j2 with pl := j2.nx } y' ∧ Next (fl y X) (fl y' X) w w' := by
 have HAA:Hid (AtIs w j.code j.pl c o sz 0):=HA
 have HFF : Hid (∀ w', Below w.heap.size w w' → Calls Tryz.prog 45 #[.pointer (some ⟨X, 0, none⟩), .agg #[.int .i64 c, .int .i64 o]] w' fun e w'' => e = .returned (.bool false) ∧ Below w'.heap.size w' w'') := HF
 have HJ:Hid (JAt' w base X j y):=h
 have c9:w.cell? ⟨X,9,none⟩=some (.string j.code):=(cell_at h.raw 9).trans rfl
 have c14:w.cell? ⟨X,14,none⟩=some (.int .i64 j.pl):=(cell_at h.raw 14).trans rfl
 have hX:=heap_lt h.raw
 have HLT:Hid (∀ q ∈ fl y X,q < w.heap.size):=fun q hq=>by
  obtain ⟨s,hs,h2⟩:=mem_fl.1 hq
  exact (h.lt s hs q h2).2
 have HN:Hid (∀ w,Calls Tryz.prog 47 #[] w fun e w' => e = .returned (.agg insC)∧Below w.heap.size w w'):=ins_any
 have HOO:Hid (∀ w1,JAt' w1 base X { j with nx:=nx1,wt:=wn0 } y→base≤w1.heap.size→Calls Tryz.prog f #[.pointer (some ⟨X,0,none⟩),.agg #[.int .i64 c,.int .i64 o]] w1 (Dz w1 base X j2 y)):=HOP
 obtain ⟨tk,pt,HIX⟩:=HI
 have HFL : ∀ w:World,(Instr.field 101 (.agg #[.int .i64 tk,.int .i64 pt,.func (.func f) #[] #[]]) 2).run Tryz.prog w = .ok (.func (.func f) #[] #[]) w:=fun w=>field_fn tk pt f w
 generalize insC=IC at *
 clear HA HF h HOP
 unfold anV
 go_enter Tryz.func28,Tryz.ntmps28
 go_upto_region 1 with fail
 have HO:Hid ((w.alloc (.cells #[.int .i64 0,.int .i64 0,.int .i64 0,.bool false] 51)).heap[w.heap.size]? = some (.cells #[.int .i64 0,.int .i64 0,.int .i64 0,.bool false] 51 (0,0))):=heap_alloc_new _ _
 have hB0:=below_a1 w (.cells #[.int .i64 0,.int .i64 0,.int .i64 0,.bool false] 51)
 generalize w.alloc (.cells #[.int .i64 0,.int .i64 0,.int .i64 0,.bool false] 51)=w0 at *
 have HB0:Hid (Below w.heap.size w w0):=hB0
 have d9:w0.cell? ⟨X,9,none⟩=some (.string j.code):=(hB0.cell hX).trans c9
 have d14:w0.cell? ⟨X,14,none⟩=some (.int .i64 j.pl):=(hB0.cell hX).trans c14
 have hX0:=Nat.lt_of_lt_of_le hX hB0.size
 have hl0:=heap_lt HO.out
 clear hB0 c9 c14
 go_cut [7,8,9] (fun p7 p8 p9 wx => ∃ P,p7 = .pointer (some ⟨P,0,none⟩)∧p8 = .int .i64 sz∧p9 = .int .i64 0∧wx.heap[P]? = some (.cells #[.int .i64 c,.int .i64 o] 38 (0,0))∧w.heap.size≤P∧Below w0.heap.size w0 wx)
 case first =>
  go_region_with (go_at_call 44; refine (HAA.out _ (by first | exact HB0.out | exact HB0.out.drew | exact below_then HB0.out (below_a1 _ _) | exact (below_then HB0.out (below_a1 _ _)).drew)).mono ?_; rintro e w1 ⟨rfl,hb1⟩; have HB1:Hid (Below w0.heap.size w0 w1):=(by first | exact hb1 | exact below_then (below_drawn (Below.refl _ _) 1) hb1 | exact below_then (below_a1 _ _) hb1 | exact below_then (below_a1 _ _).drew hb1); (try (have hr:w1.heap[w0.heap.size]? = some (.cells #[.int .i64 0,.int .i64 0] 38 (0,0)):=(by first | exact row_on (w:=w0.alloc (.cells #[.int .i64 0,.int .i64 0] 38)) (heap_alloc_new w0 _) hb1 | exact row_on (w:=(w0.alloc (.cells #[.int .i64 0,.int .i64 0] 38)).drew) (heap_alloc_new w0 _) hb1); have z0:w1.cell? ⟨w0.heap.size,0,none⟩=some (.int .i64 0):=(cell_at hr 0).trans rfl; have z1:w1.cell? ⟨w0.heap.size,1,none⟩=some (.int .i64 0):=(cell_at hr 1).trans rfl; have fz:=frozen_at hr; have hlz:=heap_lt hr)))
  all_goals
   go_wp2_with fail
   go_meet
   first
    | exact ⟨_,rfl,rfl,rfl,heap_alloc_new w1 _,Nat.le_trans HB0.out.size HB1.out.size,below_then HB1.out (below_a1 _ _)⟩
    | (have h3:=heap_set (heap_set hr 0 (.int .i64 c)) 1 (.int .i64 o); exact ⟨_,rfl,rfl,rfl,by simpa using h3,HB0.out.size,Tl.Cd.below_set (Tl.Cd.below_set HB1.out _ _ _ (Nat.le_refl _)) _ _ _ (Nat.le_refl _)⟩)
 case rest =>
  obtain ⟨P,rfl,rfl,rfl,hP,hwP,hb1⟩:=hcut
  have HJ1:Hid (JAt' wc base X j y):=HJ.out.blw (below_then HB0.out hb1)
  have HO1:Hid (wc.heap[w.heap.size]? = some (.cells #[.int .i64 0,.int .i64 0,.int .i64 0,.bool false] 51 (0,0))):=row_on HO.out hb1
  have HP1:Hid (wc.heap[P]? = some (.cells #[.int .i64 c,.int .i64 o] 38 (0,0))):=hP
  have HB1:Hid (Below w.heap.size w wc):=below_then HB0.out hb1
  have a0:wc.cell? ⟨P,0,none⟩=some (.int .i64 c):=(cell_at hP 0).trans rfl
  have a1:wc.cell? ⟨P,1,none⟩=some (.int .i64 o):=(cell_at hP 1).trans rfl
  have hlP:=heap_lt hP
  have hPO:P≠w.heap.size:=fun e=>by
   have h1:=HO1.out
   rw [← e,hP] at h1
   simp at h1
  have hPX:P≠X:=by omega
  clear hb1 HO HB0 hP d9 d14 HJ HAA
  go_wp2_with fail
  refine (HFF.out _ HB1.out).mono ?_
  rintro e w2 ⟨rfl,hb2⟩
  have hJ2:=HJ1.out.blw hb2
  have HJ2:Hid (JAt' w2 base X j y):=hJ2
  have HO2:Hid (w2.heap[w.heap.size]? = some (.cells #[.int .i64 0,.int .i64 0,.int .i64 0,.bool false] 51 (0,0))):=row_on HO1.out hb2
  have HP2:Hid (w2.heap[P]? = some (.cells #[.int .i64 c,.int .i64 o] 38 (0,0))):=row_on HP1.out hb2
  have HB2:Hid (Below w.heap.size w w2):=below_then HB1.out hb2
  have b14:w2.cell? ⟨X,14,none⟩=some (.int .i64 j.pl):=(cell_at hJ2.raw 14).trans rfl
  have b15:w2.cell? ⟨X,15,none⟩=some (.int .i64 j.nx):=(cell_at hJ2.raw 15).trans rfl
  have b19:w2.cell? ⟨X,19,none⟩=some (.int .i64 j.wt.kind):=(cell_at hJ2.raw 19).trans rfl
  have b20:w2.cell? ⟨X,20,none⟩=some (.int .i64 j.wt.cell):=(cell_at hJ2.raw 20).trans rfl
  have b21:w2.cell? ⟨X,21,none⟩=some (.int .i64 j.wt.val):=(cell_at hJ2.raw 21).trans rfl
  have b22:w2.cell? ⟨X,22,none⟩=some (.int .i64 j.wt.code):=(cell_at hJ2.raw 22).trans rfl
  have fX:=frozen_at hJ2.raw
  have hX2:=heap_lt hJ2.raw
  clear hb2 hJ2 HJ1 HO1 HP1 HB1 a0 a1 hlP HFF
  go_upto_region 6 with fail
  obtain ⟨W,hW⟩ : ∃ W,W=(((((w2.setCell ⟨X,15,none⟩ (.int .i64 nx1)).setCell ⟨X,19,none⟩ (.int .i64 0)).setCell ⟨X,20,none⟩ (.int .i64 0)).setCell ⟨X,21,none⟩ (.int .i64 0)).setCell ⟨X,22,none⟩ (.int .i64 0)):=⟨_,rfl⟩
  rw [← hW]
  obtain ⟨q1,k1⟩:=HJ2.out.setNx nx1
  obtain ⟨q2,k2⟩:=wt_set q1 wn0
  have hJW:JAt' W base X { j with nx:=nx1,wt:=wn0 } y:=by rw [hW]; exact q2
  have hKW:Keep [X] w2 W:=by rw [hW]; exact k1.trans k2 (fun b hb=>Or.inl hb)
  clear q1 q2 k1 k2 hW b14 b15 b19 b20 b21 b22 fX hX2
  have hXw:X < w.heap.size:=hX
  have hOW:W.heap[w.heap.size]? = some (.cells #[.int .i64 0,.int .i64 0,.int .i64 0,.bool false] 51 (0,0)):=(hKW.block _ (heap_lt HO2.out) (by simp; omega)).trans HO2.out
  have hPW:W.heap[P]? = some (.cells #[.int .i64 c,.int .i64 o] 38 (0,0)):=(hKW.block _ (heap_lt HP2.out) (by simp; omega)).trans HP2.out
  have HKW:Hid (Keep [X] w W):=(Keep.of_below HB2.out [X]).trans hKW (fun b hb=>Or.inl hb)
  have HJW:Hid (JAt' W base X { j with nx:=nx1,wt:=wn0 } y):=hJW
  have HOW:Hid (W.heap[w.heap.size]? = some (.cells #[.int .i64 0,.int .i64 0,.int .i64 0,.bool false] 51 (0,0))):=hOW
  have HPW:Hid (W.heap[P]? = some (.cells #[.int .i64 c,.int .i64 o] 38 (0,0))):=hPW
  have a0:W.cell? ⟨P,0,none⟩=some (.int .i64 c):=(cell_at hPW 0).trans rfl
  have a1:W.cell? ⟨P,1,none⟩=some (.int .i64 o):=(cell_at hPW 1).trans rfl
  have hlP:=heap_lt hPW
  have hbW:base≤W.heap.size:=Nat.le_trans hb HKW.out.size
  clear hKW hJW hOW hPW HO2 HP2 HB2 HJ2
  go_cut [] (fun wx => ∃ y4,JAt' wx base X j2 y4∧Next (fl y X) (fl y4 X) W wx)
  case first =>
   go_region_with (first
        | (go_at_call 47; refine (HN.out _).mono ?_; rintro e w3 ⟨rfl,hb3⟩; have HB3:Hid (Below W.heap.size W w3):=(by first | exact hb3 | exact below_then (below_drawn (Below.refl _ _) 1) hb3); have e0:w3.cell? ⟨P,0,none⟩=some (.int .i64 c):=(cell_at (row_on HPW.out HB3.out) 0).trans rfl; have e1:w3.cell? ⟨P,1,none⟩=some (.int .i64 o):=(cell_at (row_on HPW.out HB3.out) 1).trans rfl; have hl3:=heap_lt (row_on HPW.out HB3.out))
        | (refine (HOO.out _ (by first | exact HJW.out.blw HB3.out | exact HJW.out.blw HB3.out.drew) (by first | exact Nat.le_trans hbW HB3.out.size | exact Nat.le_trans hbW (HB3.out.drew).size)).mono ?_; rintro e w4 ⟨rfl,y4,q4,n4⟩))
   all_goals
    go_wp2_with fail
    go_meet
    exact ⟨y4,q4,(Keep.of_below HB3.out _).trans n4.1 (fun b hb=>Or.inl hb),fun q hq=>(n4.2 q hq).imp id (fun h=>Nat.le_trans HB3.out.size h)⟩
  case rest =>
   obtain ⟨y4,q4,n4⟩:=hcut
   have hne4:w.heap.size ∉ fl y X:=fun hq=>by have:=HLT.out _ hq; omega
   have hR4:=(n4.1.block _ (heap_lt HOW.out) hne4).trans HOW.out
   have hne5 : ∀ q ∈ fl y4 X,q≠w.heap.size:=fun q hq e=>by
    rcases n4.2 q hq with h1 | h1
    ·have:=HLT.out q h1; omega
    ·have:=heap_lt HOW.out; omega
   obtain ⟨q5,k5⟩:=q4.setPl j2.nx
   have hXn:X≠w.heap.size:=by omega
   have hR5:=(k5.block _ (heap_lt hR4) (by simp; omega)).trans hR4
   have HE:Hid (JAt' (wc.setCell ⟨X,14,none⟩ (.int .i64 j2.nx)) base X { j2 with pl:=j2.nx } y4∧Keep (fl y X) w (wc.setCell ⟨X,14,none⟩ (.int .i64 j2.nx))∧(wc.setCell ⟨X,14,none⟩ (.int .i64 j2.nx)).heap[w.heap.size]? = some (.cells #[.int .i64 0,.int .i64 0,.int .i64 0,.bool false] 51 (0,0))∧(∀ q ∈ fl y4 X,q≠w.heap.size) ∧ ∀ q ∈ fl y4 X,q ∈ fl y X∨w.heap.size≤q) :=
    ⟨q5,((HKW.out.mono X_fl).trans n4.1 (fun b hb=>Or.inl hb)).trans k5 (fun b hb=>Or.inl (X_fl b hb)),hR5,hne5,fun q hq=>(n4.2 q hq).imp id (fun h=>Nat.le_trans HKW.out.size h)⟩
   have c23:wc.cell? ⟨X,23,none⟩=some .nilIface:=by
    have h1:=q4.ak
    rw [ha] at h1
    rw [← h1.1]
    exact (cell_at q4.raw 23).trans rfl
   have c19:wc.cell? ⟨X,19,none⟩=some (.int .i64 0):=by rw [← hw]; exact (cell_at q4.raw 19).trans rfl
   have c15:wc.cell? ⟨X,15,none⟩=some (.int .i64 j2.nx):=(cell_at q4.raw 15).trans rfl
   have c14:wc.cell? ⟨X,14,none⟩=some (.int .i64 j2.pl):=(cell_at q4.raw 14).trans rfl
   have f14:=q4.fz 14
   have hX4:=heap_lt q4.raw
   obtain ⟨s0,s1,s2,s3⟩:=an_cells hR4
   have fs:=frozen_at hR4
   have hl4:=heap_lt hR4
   clear q4 n4 hne4 hR4 hne5 q5 k5 hR5 HJW HOW HPW HN HOO HIX HFL a0 a1
   go_wp2_with fail
   obtain ⟨e1,e2,e3,e4,e5⟩:=HE.out
   exact ret_ans rfl rfl (Co.ansW_set rfl e3 2 0 0 false) rfl rfl ⟨rfl,y4,e1.keep (Co.keepWB 2 0 0 false) (fun a ha q hq=>by have:=e4 q (mem_fl.2 ⟨a,ha,hq⟩); simpa using this),e2.trans (Co.keepWB 2 0 0 false) (fun b hb=>Or.inr (by simp at hb; omega)),e5⟩
end Go.Proofs.YtigfjedohdgjfaaGreatDoor.Pj
namespace Go.Proofs.YtigfjedohdgjfaaGreatDoor.Pj
open Go.ChangeShapes Go.WideShapes Go.ChangeAt Go.RowKit
open Tl (Wn wn0 nth numC Nl)
attribute [local go_sem ↓] Go.wp_at_zero Go.wp_at_succ
set_option maxRecDepth 10000 in
set_option maxHeartbeats 4000000 in
theorem perform_want {w:World} {base X cc r:Nat} {L L':List Ac} {F:List Nat} {j j2 j':Jb} {y:Jv} {c o sz nx1 tt k' e' v':Int} {g':Bool} {f:Nat} {p:Value} (hjw:JW w base p cc r L F X j y) (hb:base≤w.heap.size) (HA:AtIs w j.code j.pl c o sz 0)
  (HF : ∀ w', Below w.heap.size w w' → Calls Tryz.prog 45 #[.pointer (some ⟨X, 0, none⟩), .agg #[.int .i64 c, .int .i64 o]] w' fun e w'' => e = .returned (.bool false) ∧ Below w'.heap.size w' w'')
  (hnx:wrap64 (j.pl+sz)=nx1) (HI : ∃ tk pt:Int,∀ w,(Instr.index 102 (.agg insC) (.int .i64 c)).run Tryz.prog w = .ok (.agg #[.int .i64 tk,.int .i64 pt,.func (.func f) #[] #[]]) w)
  (HOP : ∀ w1,JAt' w1 base X { j with nx:=nx1,wt:=wn0 } y→base≤w1.heap.size→Calls Tryz.prog f #[.pointer (some ⟨X,0,none⟩),.agg #[.int .i64 c,.int .i64 o]] w1 (Dz w1 base X j2 y)) (HC : ∀ args w,(callFunc f args).run Tryz.prog w = .ok (.enter f args) w) (ha:j2.ak=none) (hw:j2.wt.kind≠0)
  (HDO : ∀ w1 y1, JW w1 base p cc r L F X j2 y1 → base ≤ w1.heap.size → Calls Tryz.prog 26 #[.pointer (some ⟨X, 0, none⟩), p, .int .i64 tt, wnV j2.wt] w1 fun e w' => e = .returned (anV k' e' v' g') ∧ ∃ y' F', JW w' base p cc r L' F' X j' y' ∧ Next (fl y1 X ++ F) (fl y' X ++ F') w1 w') :
  Calls Tryz.prog 28 #[.pointer (some ⟨X, 0, none⟩), p, .int .i64 tt] w fun e w' => e = .returned (anV k' e' v' g') ∧ ∃ y' F', JW w' base p cc r L' F' X j' y' ∧ Next (fl y X ++ F) (fl y' X ++ F') w w' := by
 have h:=hjw.job
 have HJW0:Hid (JW w base p cc r L F X j y):=hjw
 have HFLT:Hid (∀ q ∈ F,q < w.heap.size):=fun q hq=>(hjw.mem.lt q hq).2
 have HDD : Hid (∀ w1 y1, JW w1 base p cc r L F X j2 y1 → base ≤ w1.heap.size → Calls Tryz.prog 26 #[.pointer (some ⟨X, 0, none⟩), p, .int .i64 tt, wnV j2.wt] w1 fun e w' => e = .returned (anV k' e' v' g') ∧ ∃ y' F', JW w' base p cc r L' F' X j' y' ∧ Next (fl y1 X ++ F) (fl y' X ++ F') w1 w') := HDO
 have hw2:(j2.wt.kind == 0)=false:=by simpa using hw
 clear hjw HDO hw
 have HAA:Hid (AtIs w j.code j.pl c o sz 0):=HA
 have HFF : Hid (∀ w', Below w.heap.size w w' → Calls Tryz.prog 45 #[.pointer (some ⟨X, 0, none⟩), .agg #[.int .i64 c, .int .i64 o]] w' fun e w'' => e = .returned (.bool false) ∧ Below w'.heap.size w' w'') := HF
 have HJ:Hid (JAt' w base X j y):=h
 have c9:w.cell? ⟨X,9,none⟩=some (.string j.code):=(cell_at h.raw 9).trans rfl
 have c14:w.cell? ⟨X,14,none⟩=some (.int .i64 j.pl):=(cell_at h.raw 14).trans rfl
 have hX:=heap_lt h.raw
 have HLT:Hid (∀ q ∈ fl y X,q < w.heap.size):=fun q hq=>by
  obtain ⟨s,hs,h2⟩:=mem_fl.1 hq
  exact (h.lt s hs q h2).2
 have HN:Hid (∀ w,Calls Tryz.prog 47 #[] w fun e w' => e = .returned (.agg insC)∧Below w.heap.size w w'):=ins_any
 have HOO:Hid (∀ w1,JAt' w1 base X { j with nx:=nx1,wt:=wn0 } y→base≤w1.heap.size→Calls Tryz.prog f #[.pointer (some ⟨X,0,none⟩),.agg #[.int .i64 c,.int .i64 o]] w1 (Dz w1 base X j2 y)):=HOP
 obtain ⟨tk,pt,HIX⟩:=HI
 have HFL : ∀ w:World,(Instr.field 101 (.agg #[.int .i64 tk,.int .i64 pt,.func (.func f) #[] #[]]) 2).run Tryz.prog w = .ok (.func (.func f) #[] #[]) w:=fun w=>field_fn tk pt f w
 generalize insC=IC at *
 clear HA HF h HOP
 unfold anV wnV at *
 go_enter Tryz.func28,Tryz.ntmps28
 go_upto_region 1 with fail
 have HO:Hid ((w.alloc (.cells #[.int .i64 0,.int .i64 0,.int .i64 0,.bool false] 51)).heap[w.heap.size]? = some (.cells #[.int .i64 0,.int .i64 0,.int .i64 0,.bool false] 51 (0,0))):=heap_alloc_new _ _
 have hB0:=below_a1 w (.cells #[.int .i64 0,.int .i64 0,.int .i64 0,.bool false] 51)
 generalize w.alloc (.cells #[.int .i64 0,.int .i64 0,.int .i64 0,.bool false] 51)=w0 at *
 have HB0:Hid (Below w.heap.size w w0):=hB0
 have d9:w0.cell? ⟨X,9,none⟩=some (.string j.code):=(hB0.cell hX).trans c9
 have d14:w0.cell? ⟨X,14,none⟩=some (.int .i64 j.pl):=(hB0.cell hX).trans c14
 have hX0:=Nat.lt_of_lt_of_le hX hB0.size
 have hl0:=heap_lt HO.out
 clear hB0 c9 c14
 go_cut [7,8,9] (fun p7 p8 p9 wx => ∃ P,p7 = .pointer (some ⟨P,0,none⟩)∧p8 = .int .i64 sz∧p9 = .int .i64 0∧wx.heap[P]? = some (.cells #[.int .i64 c,.int .i64 o] 38 (0,0))∧w.heap.size≤P∧Below w0.heap.size w0 wx)
 case first =>
  go_region_with (go_at_call 44; refine (HAA.out _ (by first | exact HB0.out | exact HB0.out.drew | exact below_then HB0.out (below_a1 _ _) | exact (below_then HB0.out (below_a1 _ _)).drew)).mono ?_; rintro e w1 ⟨rfl,hb1⟩; have HB1:Hid (Below w0.heap.size w0 w1):=(by first | exact hb1 | exact below_then (below_drawn (Below.refl _ _) 1) hb1 | exact below_then (below_a1 _ _) hb1 | exact below_then (below_a1 _ _).drew hb1); (try (have hr:w1.heap[w0.heap.size]? = some (.cells #[.int .i64 0,.int .i64 0] 38 (0,0)):=(by first | exact row_on (w:=w0.alloc (.cells #[.int .i64 0,.int .i64 0] 38)) (heap_alloc_new w0 _) hb1 | exact row_on (w:=(w0.alloc (.cells #[.int .i64 0,.int .i64 0] 38)).drew) (heap_alloc_new w0 _) hb1); have z0:w1.cell? ⟨w0.heap.size,0,none⟩=some (.int .i64 0):=(cell_at hr 0).trans rfl; have z1:w1.cell? ⟨w0.heap.size,1,none⟩=some (.int .i64 0):=(cell_at hr 1).trans rfl; have fz:=frozen_at hr; have hlz:=heap_lt hr)))
  all_goals
   go_wp2_with fail
   go_meet
   first
    | exact ⟨_,rfl,rfl,rfl,heap_alloc_new w1 _,Nat.le_trans HB0.out.size HB1.out.size,below_then HB1.out (below_a1 _ _)⟩
    | (have h3:=heap_set (heap_set hr 0 (.int .i64 c)) 1 (.int .i64 o); exact ⟨_,rfl,rfl,rfl,by simpa using h3,HB0.out.size,Tl.Cd.below_set (Tl.Cd.below_set HB1.out _ _ _ (Nat.le_refl _)) _ _ _ (Nat.le_refl _)⟩)
 case rest =>
  obtain ⟨P,rfl,rfl,rfl,hP,hwP,hb1⟩:=hcut
  have HJ1:Hid (JAt' wc base X j y):=HJ.out.blw (below_then HB0.out hb1)
  have HO1:Hid (wc.heap[w.heap.size]? = some (.cells #[.int .i64 0,.int .i64 0,.int .i64 0,.bool false] 51 (0,0))):=row_on HO.out hb1
  have HP1:Hid (wc.heap[P]? = some (.cells #[.int .i64 c,.int .i64 o] 38 (0,0))):=hP
  have HB1:Hid (Below w.heap.size w wc):=below_then HB0.out hb1
  have a0:wc.cell? ⟨P,0,none⟩=some (.int .i64 c):=(cell_at hP 0).trans rfl
  have a1:wc.cell? ⟨P,1,none⟩=some (.int .i64 o):=(cell_at hP 1).trans rfl
  have hlP:=heap_lt hP
  have hPO:P≠w.heap.size:=fun e=>by
   have h1:=HO1.out
   rw [← e,hP] at h1
   simp at h1
  have hPX:P≠X:=by omega
  clear hb1 HO HB0 hP d9 d14 HJ HAA
  go_wp2_with fail
  refine (HFF.out _ HB1.out).mono ?_
  rintro e w2 ⟨rfl,hb2⟩
  have hJ2:=HJ1.out.blw hb2
  have HJ2:Hid (JAt' w2 base X j y):=hJ2
  have HO2:Hid (w2.heap[w.heap.size]? = some (.cells #[.int .i64 0,.int .i64 0,.int .i64 0,.bool false] 51 (0,0))):=row_on HO1.out hb2
  have HP2:Hid (w2.heap[P]? = some (.cells #[.int .i64 c,.int .i64 o] 38 (0,0))):=row_on HP1.out hb2
  have HB2:Hid (Below w.heap.size w w2):=below_then HB1.out hb2
  have b14:w2.cell? ⟨X,14,none⟩=some (.int .i64 j.pl):=(cell_at hJ2.raw 14).trans rfl
  have b15:w2.cell? ⟨X,15,none⟩=some (.int .i64 j.nx):=(cell_at hJ2.raw 15).trans rfl
  have b19:w2.cell? ⟨X,19,none⟩=some (.int .i64 j.wt.kind):=(cell_at hJ2.raw 19).trans rfl
  have b20:w2.cell? ⟨X,20,none⟩=some (.int .i64 j.wt.cell):=(cell_at hJ2.raw 20).trans rfl
  have b21:w2.cell? ⟨X,21,none⟩=some (.int .i64 j.wt.val):=(cell_at hJ2.raw 21).trans rfl
  have b22:w2.cell? ⟨X,22,none⟩=some (.int .i64 j.wt.code):=(cell_at hJ2.raw 22).trans rfl
  have fX:=frozen_at hJ2.raw
  have hX2:=heap_lt hJ2.raw
  clear hb2 hJ2 HJ1 HO1 HP1 HB1 a0 a1 hlP HFF
  go_upto_region 6 with fail
  obtain ⟨W,hW⟩ : ∃ W,W=(((((w2.setCell ⟨X,15,none⟩ (.int .i64 nx1)).setCell ⟨X,19,none⟩ (.int .i64 0)).setCell ⟨X,20,none⟩ (.int .i64 0)).setCell ⟨X,21,none⟩ (.int .i64 0)).setCell ⟨X,22,none⟩ (.int .i64 0)):=⟨_,rfl⟩
  rw [← hW]
  obtain ⟨q1,k1⟩:=HJ2.out.setNx nx1
  obtain ⟨q2,k2⟩:=wt_set q1 wn0
  have hJW:JAt' W base X { j with nx:=nx1,wt:=wn0 } y:=by rw [hW]; exact q2
  have hKW:Keep [X] w2 W:=by rw [hW]; exact k1.trans k2 (fun b hb=>Or.inl hb)
  clear q1 q2 k1 k2 hW b14 b15 b19 b20 b21 b22 fX hX2
  have hXw:X < w.heap.size:=hX
  have hOW:W.heap[w.heap.size]? = some (.cells #[.int .i64 0,.int .i64 0,.int .i64 0,.bool false] 51 (0,0)):=(hKW.block _ (heap_lt HO2.out) (by simp; omega)).trans HO2.out
  have hPW:W.heap[P]? = some (.cells #[.int .i64 c,.int .i64 o] 38 (0,0)):=(hKW.block _ (heap_lt HP2.out) (by simp; omega)).trans HP2.out
  have HKW:Hid (Keep [X] w W):=(Keep.of_below HB2.out [X]).trans hKW (fun b hb=>Or.inl hb)
  have HJW:Hid (JAt' W base X { j with nx:=nx1,wt:=wn0 } y):=hJW
  have HOW:Hid (W.heap[w.heap.size]? = some (.cells #[.int .i64 0,.int .i64 0,.int .i64 0,.bool false] 51 (0,0))):=hOW
  have HPW:Hid (W.heap[P]? = some (.cells #[.int .i64 c,.int .i64 o] 38 (0,0))):=hPW
  have a0:W.cell? ⟨P,0,none⟩=some (.int .i64 c):=(cell_at hPW 0).trans rfl
  have a1:W.cell? ⟨P,1,none⟩=some (.int .i64 o):=(cell_at hPW 1).trans rfl
  have hlP:=heap_lt hPW
  have hbW:base≤W.heap.size:=Nat.le_trans hb HKW.out.size
  clear hKW hJW hOW hPW HO2 HP2 HB2 HJ2
  go_cut [] (fun wx => ∃ y4,JAt' wx base X j2 y4∧Next (fl y X) (fl y4 X) W wx)
  case first =>
   go_region_with (first
        | (go_at_call 47; refine (HN.out _).mono ?_; rintro e w3 ⟨rfl,hb3⟩; have HB3:Hid (Below W.heap.size W w3):=(by first | exact hb3 | exact below_then (below_drawn (Below.refl _ _) 1) hb3); have e0:w3.cell? ⟨P,0,none⟩=some (.int .i64 c):=(cell_at (row_on HPW.out HB3.out) 0).trans rfl; have e1:w3.cell? ⟨P,1,none⟩=some (.int .i64 o):=(cell_at (row_on HPW.out HB3.out) 1).trans rfl; have hl3:=heap_lt (row_on HPW.out HB3.out))
        | (refine (HOO.out _ (by first | exact HJW.out.blw HB3.out | exact HJW.out.blw HB3.out.drew) (by first | exact Nat.le_trans hbW HB3.out.size | exact Nat.le_trans hbW (HB3.out.drew).size)).mono ?_; rintro e w4 ⟨rfl,y4,q4,n4⟩))
   all_goals
    go_wp2_with fail
    go_meet
    exact ⟨y4,q4,(Keep.of_below HB3.out _).trans n4.1 (fun b hb=>Or.inl hb),fun q hq=>(n4.2 q hq).imp id (fun h=>Nat.le_trans HB3.out.size h)⟩
  case rest =>
   obtain ⟨y4,q4,n4⟩:=hcut
   have hne4:w.heap.size ∉ fl y X:=fun hq=>by have:=HLT.out _ hq; omega
   have hR4:=(n4.1.block _ (heap_lt HOW.out) hne4).trans HOW.out
   have hne5 : ∀ q ∈ fl y4 X,q≠w.heap.size:=fun q hq e=>by
    rcases n4.2 q hq with h1 | h1
    ·have:=HLT.out q h1; omega
    ·have:=heap_lt HOW.out; omega
   have HJ4:Hid (JW wc base p cc r L F X j2 y4):=HJW0.out.onJob q4 ⟨(HKW.out.mono X_fl).trans n4.1 (fun b hb=>Or.inl hb),fun q hq=>(n4.2 q hq).imp id (fun h=>Nat.le_trans HKW.out.size h)⟩
   have HK4:Hid (Next (fl y X) (fl y4 X) w wc):=⟨(HKW.out.mono X_fl).trans n4.1 (fun b hb=>Or.inl hb),fun q hq=>(n4.2 q hq).imp id (fun h=>Nat.le_trans HKW.out.size h)⟩
   have HR4:Hid (wc.heap[w.heap.size]? = some (.cells #[.int .i64 0,.int .i64 0,.int .i64 0,.bool false] 51 (0,0))):=hR4
   have HNE5:Hid (∀ q ∈ fl y4 X,q≠w.heap.size):=hne5
   have c23:wc.cell? ⟨X,23,none⟩=some .nilIface:=by
    have h1:=q4.ak
    rw [ha] at h1
    rw [← h1.1]
    exact (cell_at q4.raw 23).trans rfl
   have c19:wc.cell? ⟨X,19,none⟩=some (.int .i64 j2.wt.kind):=(cell_at q4.raw 19).trans rfl
   have c20:wc.cell? ⟨X,20,none⟩=some (.int .i64 j2.wt.cell):=(cell_at q4.raw 20).trans rfl
   have c21:wc.cell? ⟨X,21,none⟩=some (.int .i64 j2.wt.val):=(cell_at q4.raw 21).trans rfl
   have c22:wc.cell? ⟨X,22,none⟩=some (.int .i64 j2.wt.code):=(cell_at q4.raw 22).trans rfl
   have hX4:=heap_lt q4.raw
   have hb4:base≤wc.heap.size:=Nat.le_trans hb HK4.out.1.size
   clear q4 n4 hne4 hR4 hne5 HJW HOW HPW HN HOO HIX HFL a0 a1 HJW0
   go_wp2_with fail
   refine (HDD.out _ _ HJ4.out hb4).mono ?_
   rintro e w5 ⟨rfl, y', F', q5, n5⟩
   have hne6:w.heap.size ∉ fl y4 X++F:=fun hq=>by
    rcases List.mem_append.1 hq with h1 | h1
    ·exact HNE5.out _ h1 rfl
    ·have:=HFLT.out _ h1; omega
   have hR5:=(n5.1.block _ (heap_lt HR4.out) hne6).trans HR4.out
   have hne7:w.heap.size ∉ fl y' X++F':=fun hq=>by
    rcases n5.2 _ hq with h1 | h1
    ·exact hne6 h1
    ·have:=heap_lt HR4.out; omega
   have HE:Hid (JW (Co.laidW w5 w.heap.size k' e' v' g') base p cc r L' F' X j' y'∧Next (fl y X++F) (fl y' X++F') w (Co.laidW w5 w.heap.size k' e' v' g')):=by
    refine ⟨q5.other (Co.keepWB k' e' v' g') hne7,((HK4.out.1.mono (fun b hb=>List.mem_append.2 (Or.inl hb))).trans n5.1 (fun b hb => ?_)).trans (Co.keepWB k' e' v' g') (fun b hb=>Or.inr (by simp at hb; omega)),fun q hq => ?_⟩
    ·rcases List.mem_append.1 hb with h1 | h1
     ·exact (HK4.out.2 b h1).imp (fun h=>List.mem_append.2 (Or.inl h)) id
     ·exact Or.inl (List.mem_append.2 (Or.inr h1))
    ·rcases n5.2 q hq with h1 | h1
     ·rcases List.mem_append.1 h1 with h2 | h2
      ·exact (HK4.out.2 q h2).imp (fun h=>List.mem_append.2 (Or.inl h)) id
      ·exact Or.inl (List.mem_append.2 (Or.inr h2))
     ·exact Or.inr (Nat.le_trans HK4.out.1.size h1)
   have HR5:Hid (w5.heap[w.heap.size]? = some (.cells #[.int .i64 0,.int .i64 0,.int .i64 0,.bool false] 51 (0,0))):=hR5
   obtain ⟨s0,s1,s2,s3⟩:=an_cells hR5
   have fs:=frozen_at hR5
   have hl5:=heap_lt hR5
   clear hR5 hne6 hne7 q5 n5 c19 c20 c21 c22 c23 hX4
   go_wp2_with fail
   obtain ⟨e1,e2⟩:=HE.out
   exact ret_ans rfl rfl (Co.ansW_set rfl HR5.out k' e' v' g') rfl rfl ⟨rfl, y', F', e1, e2⟩
end Go.Proofs.YtigfjedohdgjfaaGreatDoor.Pj
namespace Go.Proofs.YtigfjedohdgjfaaGreatDoor.Pj
open Go.ChangeShapes Go.WideShapes Go.ChangeAt Go.RowKit
open Tl (Wn wn0 nth numC Nl)
structure OpOk (c:Nat) (o:Int) (j:Jb):Prop where
 tk:tkC.getD c 0≤(j.st.length:Int)
 st:j.st.length≤900
 rt:j.rt.length≤900
 tl:j.tl.length≤900
 rn:c=27→1≤j.rt.length
 ox : -9223372036854775808≤o∧o≤9223372036854775807
def OpIs (f c:Nat):Prop:=(∀ args w,(callFunc f args).run Tryz.prog w = .ok (.enter f args) w) ∧ ∀ {w:World} {base X:Nat} {j:Jb} {y:Jv} {o:Int},JAt' w base X j y→base≤w.heap.size→OpOk c o j→Calls Tryz.prog f #[.pointer (some ⟨X,0,none⟩),.agg #[.int .i64 (c:Int),.int .i64 o]] w (Dz w base X (opV c o j) y)
theorem op_1:OpIs 65 1:=⟨Tl.Ch.ent Tryz.func65 rfl rfl,fun {w base X j y o} h hb ok=>by
  have ht:=ok.tk
  have hs:=ok.st
  simp [tkC] at ht
  refine (pushOperand_any h hb (by omega) (by omega) _ o).mono ?_
  rintro e w' ⟨sv,rfl,q⟩
  exact q.dz⟩
theorem op_2:OpIs 65 2:=⟨Tl.Ch.ent Tryz.func65 rfl rfl,fun {w base X j y o} h hb ok=>by
  have ht:=ok.tk
  have hs:=ok.st
  simp [tkC] at ht
  refine (pushOperand_any h hb (by omega) (by omega) _ o).mono ?_
  rintro e w' ⟨sv,rfl,q⟩
  exact q.dz⟩
theorem op_3:OpIs 65 3:=⟨Tl.Ch.ent Tryz.func65 rfl rfl,fun {w base X j y o} h hb ok=>by
  have ht:=ok.tk
  have hs:=ok.st
  simp [tkC] at ht
  refine (pushOperand_any h hb (by omega) (by omega) _ o).mono ?_
  rintro e w' ⟨sv,rfl,q⟩
  exact q.dz⟩
theorem op_4:OpIs 66 4:=⟨Tl.Ch.ent Tryz.func66 rfl rfl,fun {w base X j y o} h hb ok=>by
  have ht:=ok.tk
  have hs:=ok.st
  simp [tkC] at ht
  refine (dup_any h hb (by omega) (by omega) _ o).mono ?_
  rintro e w' ⟨sv,rfl,q⟩
  exact q.dz⟩
theorem op_5:OpIs 67 5:=⟨Tl.Ch.ent Tryz.func67 rfl rfl,fun {w base X j y o} h hb ok=>by
  have ht:=ok.tk
  have hs:=ok.st
  simp [tkC] at ht
  refine (drop_any h hb (by omega) (by omega) _ o).mono ?_
  rintro e w' ⟨sv,rfl,q⟩
  exact q.dz⟩
theorem op_6:OpIs 68 6:=⟨Tl.Ch.ent Tryz.func68 rfl rfl,fun {w base X j y o} h hb ok=>by
  have ht:=ok.tk
  have hs:=ok.st
  simp [tkC] at ht
  refine (swap_any h hb (by omega) (by omega) _ o).mono ?_
  rintro e w' ⟨sv,rfl,q⟩
  exact q.dz⟩
theorem op_7:OpIs 69 7:=⟨Tl.Ch.ent Tryz.func69 rfl rfl,fun {w base X j y o} h hb ok=>by
  have ht:=ok.tk
  have hs:=ok.st
  simp [tkC] at ht
  refine (over_any h hb (by omega) (by omega) _ o).mono ?_
  rintro e w' ⟨sv,rfl,q⟩
  exact q.dz⟩
theorem op_8:OpIs 70 8:=⟨Tl.Ch.ent Tryz.func70 rfl rfl,fun {w base X j y o} h hb ok=>by
  have ht:=ok.tk
  have hs:=ok.st
  simp [tkC] at ht
  refine (add_any h hb (by omega) (by omega) _ o).mono ?_
  rintro e w' ⟨sv,rfl,q⟩
  exact q.dz⟩
theorem op_9:OpIs 71 9:=⟨Tl.Ch.ent Tryz.func71 rfl rfl,fun {w base X j y o} h hb ok=>by
  have ht:=ok.tk
  have hs:=ok.st
  simp [tkC] at ht
  refine (sub_any h hb (by omega) (by omega) _ o).mono ?_
  rintro e w' ⟨sv,rfl,q⟩
  exact q.dz⟩
theorem op_10:OpIs 72 10:=⟨Tl.Ch.ent Tryz.func72 rfl rfl,fun {w base X j y o} h hb ok=>by
  have ht:=ok.tk
  have hs:=ok.st
  simp [tkC] at ht
  refine (mul_any h hb (by omega) (by omega) _ o).mono ?_
  rintro e w' ⟨sv,rfl,q⟩
  exact q.dz⟩
theorem op_11:OpIs 73 11:=⟨Tl.Ch.ent Tryz.func73 rfl rfl,fun {w base X j y o} h hb ok=>by
  have ht:=ok.tk
  have hs:=ok.st
  simp [tkC] at ht
  refine (div_any h hb (by omega) (by omega) _ o).mono ?_
  rintro e w' ⟨sv,rfl,q⟩
  exact q.dz⟩
theorem op_12:OpIs 74 12:=⟨Tl.Ch.ent Tryz.func74 rfl rfl,fun {w base X j y o} h hb ok=>by
  have ht:=ok.tk
  have hs:=ok.st
  simp [tkC] at ht
  refine (rem_any h hb (by omega) (by omega) _ o).mono ?_
  rintro e w' ⟨sv,rfl,q⟩
  exact q.dz⟩
theorem op_13:OpIs 75 13:=⟨Tl.Ch.ent Tryz.func75 rfl rfl,fun {w base X j y o} h hb ok=>by
  have ht:=ok.tk
  have hs:=ok.st
  simp [tkC] at ht
  refine (and_any h hb (by omega) (by omega) _ o).mono ?_
  rintro e w' ⟨sv,rfl,q⟩
  exact q.dz⟩
theorem op_14:OpIs 76 14:=⟨Tl.Ch.ent Tryz.func76 rfl rfl,fun {w base X j y o} h hb ok=>by
  have ht:=ok.tk
  have hs:=ok.st
  simp [tkC] at ht
  refine (or_any h hb (by omega) (by omega) _ o).mono ?_
  rintro e w' ⟨sv,rfl,q⟩
  exact q.dz⟩
theorem op_15:OpIs 77 15:=⟨Tl.Ch.ent Tryz.func77 rfl rfl,fun {w base X j y o} h hb ok=>by
  have ht:=ok.tk
  have hs:=ok.st
  simp [tkC] at ht
  refine (xor_any h hb (by omega) (by omega) _ o).mono ?_
  rintro e w' ⟨sv,rfl,q⟩
  exact q.dz⟩
theorem op_16:OpIs 78 16:=⟨Tl.Ch.ent Tryz.func78 rfl rfl,fun {w base X j y o} h hb ok=>by
  have ht:=ok.tk
  have hs:=ok.st
  simp [tkC] at ht
  refine (not_any h hb (by omega) (by omega) _ o).mono ?_
  rintro e w' ⟨sv,rfl,q⟩
  exact q.dz⟩
theorem op_17:OpIs 79 17:=⟨Tl.Ch.ent Tryz.func79 rfl rfl,fun {w base X j y o} h hb ok=>by
  have ht:=ok.tk
  have hs:=ok.st
  simp [tkC] at ht
  refine (shl_any h hb (by omega) (by omega) _ o).mono ?_
  rintro e w' ⟨sv,rfl,q⟩
  exact q.dz⟩
theorem op_18:OpIs 80 18:=⟨Tl.Ch.ent Tryz.func80 rfl rfl,fun {w base X j y o} h hb ok=>by
  have ht:=ok.tk
  have hs:=ok.st
  simp [tkC] at ht
  refine (shr_any h hb (by omega) (by omega) _ o).mono ?_
  rintro e w' ⟨sv,rfl,q⟩
  exact q.dz⟩
theorem op_19:OpIs 81 19:=⟨Tl.Ch.ent Tryz.func81 rfl rfl,fun {w base X j y o} h hb ok=>by
  have ht:=ok.tk
  have hs:=ok.st
  simp [tkC] at ht
  refine (ushr_any h hb (by omega) (by omega) _ o).mono ?_
  rintro e w' ⟨sv,rfl,q⟩
  exact q.dz⟩
theorem op_20:OpIs 82 20:=⟨Tl.Ch.ent Tryz.func82 rfl rfl,fun {w base X j y o} h hb ok=>by
  have ht:=ok.tk
  have hs:=ok.st
  simp [tkC] at ht
  refine (eq_any h hb (by omega) (by omega) _ o).mono ?_
  rintro e w' ⟨sv,rfl,q⟩
  exact q.dz⟩
theorem op_21:OpIs 83 21:=⟨Tl.Ch.ent Tryz.func83 rfl rfl,fun {w base X j y o} h hb ok=>by
  have ht:=ok.tk
  have hs:=ok.st
  simp [tkC] at ht
  refine (lt_any h hb (by omega) (by omega) _ o).mono ?_
  rintro e w' ⟨sv,rfl,q⟩
  exact q.dz⟩
theorem op_22:OpIs 84 22:=⟨Tl.Ch.ent Tryz.func84 rfl rfl,fun {w base X j y o} h hb ok=>by
  have ht:=ok.tk
  have hs:=ok.st
  simp [tkC] at ht
  refine (ult_any h hb (by omega) (by omega) _ o).mono ?_
  rintro e w' ⟨sv,rfl,q⟩
  exact q.dz⟩
theorem op_23:OpIs 85 23:=⟨Tl.Ch.ent Tryz.func85 rfl rfl,fun {w base X j y o} h hb ok=>by
  have ht:=ok.tk
  have hs:=ok.st
  simp [tkC] at ht
  refine (conv_any h hb (by omega) (by omega) _ o).mono ?_
  rintro e w' ⟨sv,rfl,q⟩
  exact q.dz⟩
theorem op_24:OpIs 86 24:=⟨Tl.Ch.ent Tryz.func86 rfl rfl,fun {w base X j y o} h _ ok=>by
  refine (jump_any h _ o ok.ox).mono ?_
  rintro e w' ⟨rfl,q1,q2⟩
  exact dz_keep q1 q2⟩
theorem op_25:OpIs 87 25:=⟨Tl.Ch.ent Tryz.func87 rfl rfl,fun {w base X j y o} h _ ok=>by
  have ht:=ok.tk
  have hs:=ok.st
  simp [tkC] at ht
  exact jumpz_any h (by omega) (by omega) _ o ok.ox⟩
theorem op_26:OpIs 88 26:=⟨Tl.Ch.ent Tryz.func88 rfl rfl,fun {w base X j y o} h hb ok=>by
  have hs:=ok.rt
  exact call_any h hb (by omega) _ o⟩
theorem op_27:OpIs 89 27:=⟨Tl.Ch.ent Tryz.func89 rfl rfl,fun {w base X j y o} h _ ok=>by
  have hs:=ok.rt
  exact ret_any h (ok.rn rfl) (by omega) _ o⟩
theorem op_29:OpIs 91 29:=⟨Tl.Ch.ent Tryz.func91 rfl rfl,fun {w base X j y o} h hb ok=>by
  have ht:=ok.tk
  have hs:=ok.st
  have hl:=ok.tl
  simp [tkC] at ht
  exact tell_any h hb (by omega) (by omega) (by omega) _ o⟩
def isLoc (c:Nat):Bool:=decide (1≤c) && decide (c≤29) && decide (c≠28)
theorem op_loc : ∀ c,isLoc c=true→OpIs (fnC.getD c 0) c
 | 1,_=>op_1
 | 2,_=>op_2
 | 3,_=>op_3
 | 4,_=>op_4
 | 5,_=>op_5
 | 6,_=>op_6
 | 7,_=>op_7
 | 8,_=>op_8
 | 9,_=>op_9
 | 10,_=>op_10
 | 11,_=>op_11
 | 12,_=>op_12
 | 13,_=>op_13
 | 14,_=>op_14
 | 15,_=>op_15
 | 16,_=>op_16
 | 17,_=>op_17
 | 18,_=>op_18
 | 19,_=>op_19
 | 20,_=>op_20
 | 21,_=>op_21
 | 22,_=>op_22
 | 23,_=>op_23
 | 24,_=>op_24
 | 25,_=>op_25
 | 26,_=>op_26
 | 27,_=>op_27
 | 29,_=>op_29
 | 0,h=>by simp [isLoc] at h
 | 28,h=>by simp [isLoc] at h
 | n+30,h=>by simp [isLoc] at h
end Go.Proofs.YtigfjedohdgjfaaGreatDoor.Pj
namespace Go.Proofs.YtigfjedohdgjfaaGreatDoor.Pj
open Go.ChangeShapes Go.WideShapes Go.ChangeAt Go.RowKit
open Tl (Wn wn0 nth numC Nl)
attribute [local go_sem ↓] Go.wp_at_zero Go.wp_at_succ
set_option maxRecDepth 10000 in
theorem step_live {w:World} {base:Nat} {p:Value} {c r:Nat} {L L':List Ac} {F:List Nat} {X:Nat} {j j':Jb} {y:Jv} (h:JW w base p c r L F X j y) (ho:j.ov=false) (hg:overV j c r=true) (hph:j.tx.phase=2) (hak:j.ak=none) (t k' e' v':Int) (g':Bool)
  (HD : ∀ w1, JW w1 base p c r L F X j y → Below w.heap.size w w1 → Calls Tryz.prog 28 #[.pointer (some ⟨X, 0, none⟩), p, .int .i64 t] w1 fun e w' => e = .returned (anV k' e' v' g') ∧ ∃ y' F', JW w' base p c r L' F' X j' y' ∧ Next (fl y X ++ F) (fl y' X ++ F') w1 w') :
  Calls Tryz.prog 14 #[.pointer (some ⟨X, 0, none⟩), p, .int .i64 t] w fun e w' => e = .returned (anV k' e' v' g') ∧ ∃ y' F', JW w' base p c r L' F' X j' y' ∧ Next (fl y X ++ F) (fl y' X ++ F') w w' := by
 have HG : Hid (∀ w', Below w.heap.size w w' → Calls Tryz.prog 24 #[.pointer (some ⟨X, 0, none⟩), p] w' fun e w'' => e = .returned (.bool true) ∧ Below w'.heap.size w' w'') := fun w' hb => by
  have:=goes_any (h.below hb).job (h.below hb).mem
  rw [hg] at this
  exact this
 have HP : Hid (∀ w', Below w.heap.size w w' → Calls Tryz.prog 25 #[.pointer (some ⟨y.T, 0, none⟩)] w' fun e w'' => e = .returned (.int .i64 2) ∧ Below w'.heap.size w' w'') := fun w' hb => by
  have:=phase_any (h.below hb).job.tx
  rw [hph] at this
  exact this
 have HDD : Hid (∀ w1, JW w1 base p c r L F X j y → Below w.heap.size w w1 → Calls Tryz.prog 28 #[.pointer (some ⟨X, 0, none⟩), p, .int .i64 t] w1 fun e w' => e = .returned (anV k' e' v' g') ∧ ∃ y' F', JW w' base p c r L' F' X j' y' ∧ Next (fl y X ++ F) (fl y' X ++ F') w1 w') := HD
 have HJ:Hid (JW w base p c r L F X j y):=h
 have c26:w.cell? ⟨X,26,none⟩=some (.bool false):=by rw [← ho]; exact (cell_at h.job.raw 26).trans rfl
 have hX:=heap_lt h.job.raw
 have HLT:Hid (∀ q ∈ fl y X++F,q < w.heap.size):=h.lt
 obtain ⟨M,rfl⟩ : ∃ M,p = .pointer (some ⟨M,0,none⟩):=by
  obtain ⟨M,_,_,_,_,hm⟩:=h.mem
  exact ⟨M,hm.p⟩
 clear h HD ho hg hph
 unfold anV at *
 go_enter Tryz.func14,Tryz.ntmps14
 go_wp2_with fail
 refine (HG.out _ (below_a1 _ _)).mono ?_
 rintro e w1 ⟨rfl,hb1⟩
 have hr:=Tl.row_next (w:=w) ⟨hb1.os,hb1.tape,hb1.output,hb1.size,hb1.block⟩
 have HR:Hid (w1.heap[w.heap.size]? = some (.cells #[.int .i64 0,.int .i64 0,.int .i64 0,.bool false] 51 (0,0))):=hr
 have hB:Below w.heap.size w w1:=below_then (below_a1 _ _) hb1
 have HB:Hid (Below w.heap.size w w1):=hB
 have c12:w1.cell? ⟨X,12,none⟩=some (.pointer (some ⟨y.T,0,none⟩)):=(cell_at (HJ.out.below hB).job.raw 12).trans rfl
 have hX1:=Nat.lt_of_lt_of_le hX hB.size
 have hl1:=heap_lt hr
 clear hb1 hB HG hr c26
 go_wp2_with fail
 refine (HP.out _ HB.out).mono ?_
 rintro e w2 ⟨rfl,hb2⟩
 have HR2:Hid (w2.heap[w.heap.size]? = some (.cells #[.int .i64 0,.int .i64 0,.int .i64 0,.bool false] 51 (0,0))):=row_on HR.out hb2
 have HB2:Hid (Below w.heap.size w w2):=below_then HB.out hb2
 have c23:w2.cell? ⟨X,23,none⟩=some .nilIface:=by
  have h1:=(HJ.out.below HB2.out).job.ak
  rw [hak] at h1
  rw [← h1.1]
  exact (cell_at (HJ.out.below HB2.out).job.raw 23).trans rfl
 have hX2:=heap_lt (HJ.out.below HB2.out).job.raw
 clear hb2 HP HR
 go_wp2_with fail
 refine (HDD.out _ (HJ.out.below HB2.out) HB2.out).mono ?_
 rintro e w3 ⟨rfl, y', F', q1, k1⟩
 have hne:w.heap.size ∉ fl y X++F:=fun hq=>by have:=HLT.out _ hq; omega
 have hl2:=heap_lt HR2.out
 have hr3:w3.heap[w.heap.size]? = some (.cells #[.int .i64 0,.int .i64 0,.int .i64 0,.bool false] 51 (0,0)):=(k1.1.block _ hl2 hne).trans HR2.out
 have hne3:w.heap.size ∉ fl y' X++F':=fun hq=>by
  rcases k1.2 _ hq with h1 | h1
  ·exact hne h1
  ·omega
 have HFN:Hid (JW (Co.laidW w3 w.heap.size k' e' v' g') base (.pointer (some ⟨M,0,none⟩)) c r L' F' X j' y'∧Next (fl y X++F) (fl y' X++F') w (Co.laidW w3 w.heap.size k' e' v' g')):=⟨q1.other (Co.keepWB k' e' v' g') hne3,((Keep.of_below HB2.out _).trans k1.1 (fun b hb=>Or.inl hb)).trans (Co.keepWB k' e' v' g') (fun b hb=>Or.inr (by simp at hb; omega)),fun q hq=>(k1.2 q hq).imp id (fun h=>Nat.le_trans HB2.out.size h)⟩
 have HR3:Hid (w3.heap[w.heap.size]? = some (.cells #[.int .i64 0,.int .i64 0,.int .i64 0,.bool false] 51 (0,0))):=hr3
 obtain ⟨s0,s1,s2,s3⟩:=an_cells hr3
 have fs:=frozen_at hr3
 have hl3:=heap_lt hr3
 clear hr3 q1 k1 hne hne3 HDD HLT
 go_wp2_with fail
 obtain ⟨z1,z2⟩:=HFN.out
 exact ret_ans rfl rfl (Co.ansW_set rfl HR3.out k' e' v' g') rfl rfl ⟨rfl, y', F', z1, z2⟩
end Go.Proofs.YtigfjedohdgjfaaGreatDoor.Pj
namespace Go.Proofs.YtigfjedohdgjfaaGreatDoor.Pj
open Go.ChangeShapes Go.WideShapes Go.ChangeAt Go.RowKit
open Tl (Wn wn0 nth numC Nl)
open Tl.Cd (atS wdC)
theorem at_is {w:World} {code:ByteArray} {pl:Int} {cc:Nat} {o:Int} (hT:Tl.Cd.Tab w) (hs:code.size≤512) (hat:atS code pl=some (cc,o)):AtIs w code pl (cc:Int) o ((1+wdC cc:Nat):Int) 0:=fun w' hb=>by
 have:=Tl.Cd.at_any code (by omega) pl (hT.later hb)
 rw [hat] at this
 exact this
theorem tk_bd : ∀ c:Fin 41,0≤tkC.getD c.val 0∧tkC.getD c.val 0≤99∧0≤ptC.getD c.val 0∧ptC.getD c.val 0≤99:=by decide
theorem dec_cast (c n:Nat):decide ((c:Int)=(n:Int))=decide (c=n):=by
 by_cases h:c=n
 ·simp [h]
 ·have : ¬ (c:Int)=(n:Int):=by omega
  simp [h,this]
theorem faults_low {w : World} {base X : Nat} {j : Jb} {y : Jv} (h : JAt' w base X j y) {cc : Nat} {o : Int} (hc : cc ≤ 32) (hn : j.st.length ≤ 990) : ∀ w', Below w.heap.size w w' → Calls Tryz.prog 45 #[.pointer (some ⟨X, 0, none⟩), .agg #[.int .i64 (cc : Int), .int .i64 o]] w' fun e w'' => e = .returned (.bool (faultsV j cc o)) ∧ Below w'.heap.size w' w'' := fun w' hb => by
 obtain ⟨b1,b2,b3,b4⟩:=tk_bd ⟨cc,by omega⟩
 have hf:=faults_ok (h.ftC.below hb) (cc:Int) o (tkC.getD cc 0) (ptC.getD cc 0) hn ⟨b1,b2⟩ ⟨b3,b4⟩ (fun w2 _=>effect_low w2 _ cc hc o)
 have e:faultsV j cc o=(decide ((j.st.length:Int) < tkC.getD cc 0) || decide (32 < (j.st.length:Int) - tkC.getD cc 0+ptC.getD cc 0) || (decide ((cc:Int)=26) && decide (j.rt.length=8)) || (decide ((cc:Int)=27) && decide (j.rt.length=0)) || (decide ((cc:Int)=29) && decide (j.tl.length=16))):=by
  unfold faultsV effV
  rw [if_pos hc]
  have e1:=dec_cast cc 26
  have e2:=dec_cast cc 27
  have e3:=dec_cast cc 29
  rw [show ((26:Nat):Int)=26 from rfl] at e1
  rw [show ((27:Nat):Int)=27 from rfl] at e2
  rw [show ((29:Nat):Int)=29 from rfl] at e3
  rw [e1,e2,e3]
 rw [e]
 exact hf
def preJ (cc:Nat) (j:Jb):Jb:={ j with nx:=wrap64 (j.pl+((1+wdC cc:Nat):Int)),wt:=wn0 }
def moveV (cc:Nat) (o:Int) (j:Jb):Jb:={ opV cc o (preJ cc j) with pl:=(opV cc o (preJ cc j)).nx }
structure Lv (c r:Nat) (j:Jb) (L:List Ac):Prop where
 ov:j.ov=false
 go:overV j c r=true
 ph:j.tx.phase=2
 ak:j.ak=none
 pb:j.pub=false
 st:j.st.length≤32
 rt:j.rt.length≤8
 tl:j.tl.length≤16
 cd:j.code.size≤512
 xs:r=j.tx.s
 xr:j.tx.tb.R = []
 xe:j.tx.ev.length≤100
 xo:XOk j.tx
 ll:L.length≤100
 wd:Wd L
 cc:c≤1024
theorem loc_le {cc:Nat} (h:isLoc cc=true):1≤cc∧cc≤29∧cc≠28:=by simp [isLoc] at h; omega
theorem op_ok {c r:Nat} {j:Jb} {L:List Ac} (h:Lv c r j L) {cc:Nat} {o:Int} (hc:isLoc cc=true) (hf:faultsV j cc o=false) (ho : -9223372036854775808≤o∧o≤9223372036854775807):OpOk cc o (preJ cc j):=by
 obtain ⟨h1,h2,h3⟩:=loc_le hc
 unfold faultsV effV at hf
 rw [if_pos (by omega)] at hf
 simp only [Bool.or_eq_false_iff,Bool.and_eq_false_iff,decide_eq_false_iff_not] at hf
 obtain ⟨⟨⟨⟨f1,f2⟩,f3⟩,f4⟩,f5⟩:=hf
 refine ⟨?_, ?_, ?_, ?_, ?_,ho⟩
 ·show tkC.getD cc 0≤(j.st.length:Int)
  omega
 ·have:=h.st; show j.st.length≤900; omega
 ·have:=h.rt; show j.rt.length≤900; omega
 ·have:=h.tl; show j.tl.length≤900; omega
 ·intro e
  show 1≤j.rt.length
  rcases f4 with f4 | f4
  ·exact absurd e f4
  ·omega
theorem op_idle {j:Jb} {o:Int} : ∀ {cc:Nat},isLoc cc=true→(opV cc o j).ak=j.ak∧(opV cc o j).wt=j.wt
 | 1,_=>⟨rfl,rfl⟩
 | 2,_=>⟨rfl,rfl⟩
 | 3,_=>⟨rfl,rfl⟩
 | 4,_=>⟨rfl,rfl⟩
 | 5,_=>⟨rfl,rfl⟩
 | 6,_=>⟨rfl,rfl⟩
 | 7,_=>⟨rfl,rfl⟩
 | 8,_=>⟨rfl,rfl⟩
 | 9,_=>⟨rfl,rfl⟩
 | 10,_=>⟨rfl,rfl⟩
 | 11,_=>⟨rfl,rfl⟩
 | 12,_=>⟨rfl,rfl⟩
 | 13,_=>⟨rfl,rfl⟩
 | 14,_=>⟨rfl,rfl⟩
 | 15,_=>⟨rfl,rfl⟩
 | 16,_=>⟨rfl,rfl⟩
 | 17,_=>⟨rfl,rfl⟩
 | 18,_=>⟨rfl,rfl⟩
 | 19,_=>⟨rfl,rfl⟩
 | 20,_=>⟨rfl,rfl⟩
 | 21,_=>⟨rfl,rfl⟩
 | 22,_=>⟨rfl,rfl⟩
 | 23,_=>⟨rfl,rfl⟩
 | 24,_=>⟨rfl,rfl⟩
 | 25,_=>⟨rfl,rfl⟩
 | 26,_=>⟨rfl,rfl⟩
 | 27,_=>⟨rfl,rfl⟩
 | 29,_=>⟨rfl,rfl⟩
 | 0,h=>by simp [isLoc] at h
 | 28,h=>by simp [isLoc] at h
 | n+30,h=>by simp [isLoc] at h
theorem next_app {A B F:List Nat} {w w':World} (h:Next A B w w'):Next (A++F) (B++F) w w':=⟨h.1.mono (fun b hb=>List.mem_append.2 (Or.inl hb)),fun q hq=>by
  rcases List.mem_append.1 hq with h1 | h1
  · exact (h.2 q h1).imp (fun h=>List.mem_append.2 (Or.inl h)) id
  · exact Or.inl (List.mem_append.2 (Or.inr h1))⟩
theorem step_move {w:World} {base:Nat} {p:Value} {c r:Nat} {L:List Ac} {F:List Nat} {X:Nat} {j:Jb} {y:Jv} (h:JW w base p c r L F X j y) (hb:base≤w.heap.size) (hT:Tl.Cd.Tab w) (hl:Lv c r j L) {cc:Nat} {o:Int} (hat:atS j.code j.pl=some (cc,o)) (hc:isLoc cc=true) (hf:faultsV j cc o=false) (ho : -9223372036854775808≤o∧o≤9223372036854775807) (t:Int) :
  Calls Tryz.prog 14 #[.pointer (some ⟨X, 0, none⟩), p, .int .i64 t] w fun e w' => e = .returned (anV 2 0 0 false) ∧ ∃ y' F', JW w' base p c r L F' X (moveV cc o j) y' ∧ Next (fl y X ++ F) (fl y' X ++ F') w w' := by
 obtain ⟨c1,c2,c3⟩:=loc_le hc
 have hop:=op_loc cc hc
 refine step_live h hl.ov hl.go hl.ph hl.ak t 2 0 0 false (fun w1 h1 hs => ?_)
 have hff:=faults_low h1.job (cc:=cc) (o:=o) (by omega) (by have:=hl.st; omega)
 rw [hf] at hff
 have hm:=perform_move (p:=p) (t:=.int .i64 t) (j2:=opV cc o (preJ cc j)) h1.job (Nat.le_trans hb hs.size) (at_is (hT.later hs) hl.cd hat) hff rfl ⟨_,_,fun w=>ins_at cc (by omega) w⟩ (fun w2 h2 hb2=>hop.2 h2 hb2 (op_ok hl hc hf ho)) hop.1 (by rw [(op_idle hc).1]; exact hl.ak) (by rw [(op_idle hc).2]; rfl)
 refine hm.mono ?_
 rintro e w' ⟨rfl, y', q1, q2⟩
 exact ⟨rfl, y', F, h1.onJob q1 q2, next_app q2⟩
def commJ (j:Jb):Jb:={ pubJ { j with wt:=⟨4,0,0,0⟩,tx:=j.tx.finis 0 } with ov:=true,err:=0 }
theorem do_commit {w:World} {base:Nat} {p:Value} {c r:Nat} {L:List Ac} {F:List Nat} {X:Nat} {j:Jb} {y:Jv} (h:JW w base p c r L F X j y) (hb:base≤w.heap.size) (hl:Lv c r j L) (t:Int) :
  Calls Tryz.prog 26 #[.pointer (some ⟨X, 0, none⟩), p, .int .i64 t, wnV ⟨4, 0, 0, 0⟩] w fun e w' => e = .returned (anV 3 0 0 false) ∧ ∃ y' F', JW w' base p c r L F' X (commJ j) y' ∧ Next (fl y X ++ F) (fl y' X ++ F') w w' := by
 have e:doX c r j.tx L t (waOf ⟨4,0,0,0⟩)=⟨j.tx.finis 0,L,3,0,0,false⟩:=by
  have ht:takesX c r j.tx ⟨4,0,0,0⟩=true:=by simp [takesX,hl.xs,hl.ph]
  show doX c r j.tx L t ⟨4,0,0,0⟩=_
  unfold doX
  rw [if_pos ht]
  simp [hl.xr]
 have hr:=do_run (a:=⟨4,0,0,0⟩) (j':=commJ j) h hb (by have:=hl.ll; omega) (by have:=hl.xe; omega) hl.xo hl.wd hl.cc t 3 0 0 false (by
    rw [e]
    intro w1 G hj _
    exact heed_done (j2:=commJ j) hj hl.pb 0 0 false (fun w3 h3 _=>by
      refine (fin_comm h3 rfl 0).mono ?_
      rintro e w4 ⟨rfl,q1,q2⟩
      exact ⟨rfl,_,q1,q2.mono X_fl,fun _ hq=>Or.inl hq⟩))
 rw [e] at hr
 exact hr
end Go.Proofs.YtigfjedohdgjfaaGreatDoor.Pj
namespace Go.Proofs.YtigfjedohdgjfaaGreatDoor.Pj
open Go.ChangeShapes Go.WideShapes Go.ChangeAt Go.RowKit
open Tl (Wn wn0 nth numC Nl)
open Tl.Cd (atS wdC)
theorem op_0:OpIs 64 0:=⟨Tl.Ch.ent Tryz.func64 rfl rfl,fun {w base X j y o} h _ _=>by
  refine (commit_any h _ o).mono ?_
  rintro e w' ⟨rfl,q1,q2⟩
  exact dz_keep q1 q2⟩
theorem Lv.wt {c r:Nat} {j:Jb} {L:List Ac} (h:Lv c r j L) (a b:Int) (v:Wn):Lv c r { j with nx:=a,pl:=b,wt:=v } L:=⟨h.ov,h.go,h.ph,h.ak,h.pb,h.st,h.rt,h.tl,h.cd,h.xs,h.xr,h.xe,h.xo,h.ll,h.wd,h.cc⟩
def endJ (o:Int) (j:Jb):Jb:=commJ (opV 0 o (preJ 0 j))
theorem step_commit {w:World} {base:Nat} {p:Value} {c r:Nat} {L:List Ac} {F:List Nat} {X:Nat} {j:Jb} {y:Jv} (h:JW w base p c r L F X j y) (hb:base≤w.heap.size) (hT:Tl.Cd.Tab w) (hl:Lv c r j L) {o:Int} (hat:atS j.code j.pl=some (0,o)) (hf:faultsV j 0 o=false) (ho : -9223372036854775808≤o∧o≤9223372036854775807) (t:Int) :
  Calls Tryz.prog 14 #[.pointer (some ⟨X, 0, none⟩), p, .int .i64 t] w fun e w' => e = .returned (anV 3 0 0 false) ∧ ∃ y' F', JW w' base p c r L F' X (endJ o j) y' ∧ Next (fl y X ++ F) (fl y' X ++ F') w w' := by
 refine step_live h hl.ov hl.go hl.ph hl.ak t 3 0 0 false (fun w1 h1 hs => ?_)
 have hff:=faults_low h1.job (cc:=0) (o:=o) (by omega) (by have:=hl.st; omega)
 rw [hf] at hff
 exact perform_want (p:=p) (tt:=t) (j2:=opV 0 o (preJ 0 j)) (j':=endJ o j) (k':=3) (e':=0) (v':=0) (g':=false) h1 (Nat.le_trans hb hs.size) (at_is (cc:=0) (hT.later hs) hl.cd hat) hff rfl ⟨_,_,fun w=>ins_at 0 (by omega) w⟩ (fun w2 h2 hb2=>op_0.2 h2 hb2 ⟨by simp [tkC],by have:=hl.st; show j.st.length≤900; omega,by have:=hl.rt; show j.rt.length≤900; omega,by have:=hl.tl; show j.tl.length≤900; omega,fun e=>absurd e (by decide),ho⟩) op_0.1 hl.ak (by show (4:Int)≠0; decide) (fun w2 y1 h2 hb2=>do_commit h2 hb2 (hl.wt _ _ _) t)
def bgnJ (cf:Tl.Pc.Cf) (code:ByteArray) (l:List Int) (x:Tx):Jb:=pubJ { newJ cf code l with wt:=⟨1,0,0,0⟩,tx:=x }
theorem step_first {w:World} {base:Nat} {p:Value} {c r:Nat} {F:List Nat} {X:Nat} {cf:Tl.Pc.Cf} {code:ByteArray} {l:List Int} {y:Jv} (h:JW w base p c r [] F X (newJ cf code l) y) (hb:base≤w.heap.size) (hc:c≤1024) (hg:overV (newJ cf code l) c r=true) (hx:XOk (newTx cf)) (t:Int) {x1:Tx} {L1:List Ac} {e1 v1:Int} (hd:doX c r (newTx cf) [] t ⟨1,0,0,0⟩=⟨x1,L1,3,e1,v1,true⟩) :
  Calls Tryz.prog 14 #[.pointer (some ⟨X, 0, none⟩), p, .int .i64 t] w fun e w' => e = .returned (anV 2 0 0 true) ∧ ∃ y' F', JW w' base p c r L1 F' X (bgnJ cf code l x1) y' ∧ Next (fl y X ++ F) (fl y' X ++ F') w w' := by
 refine step_begin (L':=L1) (j':=bgnJ cf code l x1) h rfl hg rfl t 2 0 0 true (fun w1 h1 hs => ?_)
 have e:doX c r (newJ cf code l).tx [] t (waOf ⟨1,0,0,0⟩)=⟨x1,L1,3,e1,v1,true⟩:=hd
 have hr:=do_run (a:=⟨1,0,0,0⟩) (j':=bgnJ cf code l x1) h1 (Nat.le_trans hb hs) (by simp) (by simp [newJ,newTx,newX]) hx (mem_word _ rfl) hc t 2 0 0 true (by
    rw [e]
    intro w2 G hj _
    exact heed_done (j2:=bgnJ cf code l x1) hj rfl e1 v1 true (fun w3 h3 _=>by
      refine (fin_idle h3 (Or.inl rfl) _).mono ?_
      rintro e w4 ⟨rfl,rfl⟩
      exact ⟨rfl,_,h3,Next.refl _ _⟩))
 rw [e] at hr
 exact hr
theorem tab_next {A B:List Nat} {w w':World} {base:Nat} (hT:Tl.Cd.Tab w) (hgk:1 < base) (hgo:0 < base) (n:Next A B w w') (hA : ∀ q ∈ A,base≤q):Tl.Cd.Tab w':=by
 obtain ⟨p1,p2⟩:=hT.pos
 have k1:=n.1.block 1 p1 (fun h=>absurd (hA _ h) (by have:=hgk; omega))
 have k2:=n.1.block 0 p2 (fun h=>absurd (hA _ h) (by have:=hgo; omega))
 exact ⟨fun i hi=>(World.cell?_of_block (w:=w) k1).trans (hT.1 i hi),fun i hi=>(World.cell?_of_block (w:=w) k2).trans (hT.2 i hi)⟩
theorem JW.ge {w:World} {base:Nat} {p:Value} {c r:Nat} {L:List Ac} {F:List Nat} {X:Nat} {j:Jb} {y:Jv} (h:JW w base p c r L F X j y) : ∀ q ∈ fl y X++F,base≤q:=fun q hq=>by
 rcases List.mem_append.1 hq with h1 | h1
 ·obtain ⟨s,hs,h2⟩:=mem_fl.1 h1
  exact (h.job.lt s hs q h2).1
 ·exact (h.mem.lt q h1).1
end Go.Proofs.YtigfjedohdgjfaaGreatDoor.Pj
namespace Go.Proofs.YtigfjedohdgjfaaGreatDoor.Pj
open Go.ChangeShapes Go.WideShapes Go.ChangeAt Go.RowKit
open Tl (Wn wn0 nth numC Nl)
attribute [local go_sem ↓] Go.wp_at_zero Go.wp_at_succ
theorem outcome_off {w:World} {base X:Nat} {j:Jb} {y:Jv} (h:JAt' w base X j y) (ho:j.ov=false):Calls Tryz.prog 15 #[.pointer (some ⟨X,0,none⟩)] w fun e w' => e = .returned (.tuple #[.agg #[.int .i64 0,.int .i64 0,.slice none 0 0],.bool false])∧Below w.heap.size w w':=by
 have c26:w.cell? ⟨X,26,none⟩=some (.bool false):=by rw [← ho]; exact (cell_at h.raw 26).trans rfl
 have hX:=heap_lt h.raw
 clear h ho
 go_enter Tryz.func15,Tryz.ntmps15
 go_wp2_with fail
 exact ret_o2 rfl rfl (heap_alloc_new _ _) rfl rfl ⟨rfl,below_a1 _ _⟩
theorem outcome_bad {w:World} {base X:Nat} {j:Jb} {y:Jv} (h:JAt' w base X j y) (ho:j.ov=true) (he:j.err≠0):Calls Tryz.prog 15 #[.pointer (some ⟨X,0,none⟩)] w fun e w' => e = .returned (.tuple #[.agg #[.int .i64 j.nr,.int .i64 j.err,.slice none 0 0],.bool true])∧Below w.heap.size w w':=by
 have c26:w.cell? ⟨X,26,none⟩=some (.bool true):=by rw [← ho]; exact (cell_at h.raw 26).trans rfl
 have c11:w.cell? ⟨X,11,none⟩=some (.int .i64 j.nr):=(cell_at h.raw 11).trans rfl
 have c27:w.cell? ⟨X,27,none⟩=some (.int .i64 j.err):=(cell_at h.raw 27).trans rfl
 have hX:=heap_lt h.raw
 have he2:(j.err == 0)=false:=by simpa using he
 clear h ho
 generalize j.nr=nr at *
 generalize j.err=er at *
 go_enter Tryz.func15,Tryz.ntmps15
 go_wp2_with fail
 go_region
 go_wp2_with fail
 exact ret_o2 rfl rfl (row_on (heap_alloc_new w _) (below_a1 _ _).drew) rfl rfl ⟨rfl,(below_then (below_a1 _ _) (below_a1 _ _)).drew⟩
theorem outcome_good {w:World} {base X:Nat} {j:Jb} {y:Jv} (h:JAt' w base X j y) (ho:j.ov=true) (he:j.err=0) (hn:j.tl.length≤1000) (hs : ∀ x ∈ j.tl,Tl.Sx x):Calls Tryz.prog 15 #[.pointer (some ⟨X,0,none⟩)] w fun e w' => ∃ u,e = .returned (.tuple #[.agg #[.int .i64 j.nr,.int .i64 0,u],.bool true])∧w'.ownsRow w.heap.size 2 1 u j.tl.length (numC j.tl)∧Below w.heap.size w w':=by
 have c26:w.cell? ⟨X,26,none⟩=some (.bool true):=by rw [← ho]; exact (cell_at h.raw 26).trans rfl
 have c11:w.cell? ⟨X,11,none⟩=some (.int .i64 j.nr):=(cell_at h.raw 11).trans rfl
 have c27:w.cell? ⟨X,27,none⟩=some (.int .i64 0):=by rw [← he]; exact (cell_at h.raw 27).trans rfl
 have c18:w.cell? ⟨X,18,none⟩=some y.tlv:=(cell_at h.raw 18).trans rfl
 have hX:=heap_lt h.raw
 have HCP : Hid (∀ w', Below w.heap.size w w' → Calls Tryz.prog 20 #[y.tlv] w' fun e w'' => ∃ u, e = .returned u ∧ w''.ownsRow w'.heap.size 2 1 u j.tl.length (numC j.tl) ∧ Below w'.heap.size w' w'') := fun w' hb => Tl.Pg.copi_any (Tl.Nl.of_own (h.keep (Keep.of_below hb []) (by simp)).tl (by omega) hs)
 clear h ho he hs hn
 generalize j.nr=nr at *
 generalize y.tlv=tv at *
 generalize j.tl=l at *
 go_enter Tryz.func15,Tryz.ntmps15
 go_wp2_with fail
 go_region
 go_upto_region 5 with fail
 obtain ⟨W,hW⟩ : ∃ W,W=((w.alloc (.cells #[.int .i64 0,.int .i64 0,.slice none 0 0] 27)).alloc (.cells #[.int .i64 nr,.int .i64 0,.slice none 0 0] 27)).drew:=⟨_,rfl⟩
 have HR:Hid (W.heap[w.heap.size]? = some (.cells #[.int .i64 0,.int .i64 0,.slice none 0 0] 27 (0,0))∧W.heap[w.heap.size+1]? = some (.cells #[.int .i64 nr,.int .i64 0,.slice none 0 0] 27 (0,0))∧Below w.heap.size w W):=by
  unfold Hid
  rw [hW]
  exact ⟨row_on (heap_alloc_new w _) (below_a1 _ _).drew,heap_alloc2_new w _ _,(below_then (below_a1 _ _) (below_a1 _ _)).drew⟩
 rw [← hW]
 clear hW
 have d18:W.cell? ⟨X,18,none⟩=some tv:=(HR.out.2.2.cell hX).trans c18
 have hXW:=Nat.lt_of_lt_of_le hX HR.out.2.2.size
 clear c26 c11 c27 c18
 go_wp2_with fail
 refine (HCP.out _ HR.out.2.2).mono ?_
 rintro e w1 ⟨u,rfl,ho1,hb1⟩
 have hr1:=row_on HR.out.1 hb1
 have hr2:=row_on HR.out.2.1 hb1
 have HB:Hid (Below w.heap.size w w1):=below_then HR.out.2.2 hb1
 have HO:Hid (w1.ownsRow W.heap.size 2 1 u l.length (numC l)):=ho1
 obtain ⟨sa,sc,hu⟩:=own_slice ho1
 have HL:Hid (w.heap.size+1+1≤W.heap.size):=heap_lt HR.out.2.1
 have p0:w1.cell? ⟨w.heap.size+1,0,none⟩=some (.int .i64 nr):=(cell_at hr2 0).trans rfl
 have p1:w1.cell? ⟨w.heap.size+1,1,none⟩=some (.int .i64 0):=(cell_at hr2 1).trans rfl
 have p2:w1.cell? ⟨w.heap.size+1,2,none⟩=some (.slice none 0 0):=(cell_at hr2 2).trans rfl
 have z0:w1.cell? ⟨w.heap.size,0,none⟩=some (.int .i64 0):=(cell_at hr1 0).trans rfl
 have z1:w1.cell? ⟨w.heap.size,1,none⟩=some (.int .i64 0):=(cell_at hr1 1).trans rfl
 have z2:w1.cell? ⟨w.heap.size,2,none⟩=some (.slice none 0 0):=(cell_at hr1 2).trans rfl
 have f1:=frozen_at hr1
 have f2:=frozen_at hr2
 have l1:=heap_lt hr1
 have l2:=heap_lt hr2
 have HRR:Hid (w1.heap[w.heap.size]? = some (.cells #[.int .i64 0,.int .i64 0,.slice none 0 0] 27 (0,0))):=hr1
 subst hu
 clear hb1 ho1 hr1 hr2 HCP d18 HR
 go_wp2_with fail
 obtain ⟨u,hu⟩ : ∃ u,u=Value.slice sa l.length sc:=⟨_,rfl⟩
 rw [← hu] at HO ⊢
 have r0:(w1.setCell ⟨w.heap.size+1,2,none⟩ u).heap[w.heap.size]? = some (.cells #[.int .i64 0,.int .i64 0,.slice none 0 0] 27 (0,0)):=(heap_set_other _ _ (by simp)).trans HRR.out
 have r1:=heap_set (heap_set (heap_set r0 0 (.int .i64 nr)) 1 (.int .i64 0)) 2 u
 have k:Keep [w.heap.size,w.heap.size+1] w1 ((((w1.setCell ⟨w.heap.size+1,2,none⟩ u).setCell ⟨w.heap.size,0,none⟩ (.int .i64 nr)).setCell ⟨w.heap.size,1,none⟩ (.int .i64 0)).setCell ⟨w.heap.size,2,none⟩ u):=((((Keep.refl _ w1).setCell _ _ (Or.inl (by simp))).setCell _ _ (Or.inl (by simp))).setCell _ _ (Or.inl (by simp))).setCell _ _ (Or.inl (by simp))
 have ho:=Tl.own_base (base':=w.heap.size) (own_keep HO.out k (fun b hb hm=>by
    have h1:=(HO.out.lt b hb).1
    have h2:=HL.out
    simp at hm
    omega)) (by have:=HL.out; omega)
 exact ret_o2 (cs:=#[.int .i64 nr,.int .i64 0,u]) rfl rfl (by simpa using r1) rfl rfl ⟨u,rfl,ho,Tl.Cd.below_set (Tl.Cd.below_set (Tl.Cd.below_set (Tl.Cd.below_set HB.out _ _ _ (Nat.le_succ _)) _ _ _ (Nat.le_refl _)) _ _ _ (Nat.le_refl _)) _ _ _ (Nat.le_refl _)⟩
end Go.Proofs.YtigfjedohdgjfaaGreatDoor.Pj
