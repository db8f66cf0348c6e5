/- The law's own words: a number pushed, its configuration; not and conv of the document. -/
import Derived.Test.YtigfjedohdgjfaaGreatDoorJPjLbPjLe
import Derived.Lib.AppendStr
import Derived.WalkKit
import Derived.Deep.DeepCutAuto
namespace Go.Proofs.YtigfjedohdgjfaaGreatDoor.Pj
open Go.ChangeShapes Go.WideShapes Go.ChangeAt Go.RowKit
open Tl (Wn wn0 nth numC Nl)
open Tl.Cd (bytesI layN xb)
attribute [local go_sem ↓] Go.wp_at_zero Go.wp_at_succ
theorem conv_own (w:World) (base:Nat) (v:Value) (n:Nat) (xs:List Int) (hown:w.ownsRow base 5 1 v n (xs.map (Value.int .u8))) :
  (convert 23 9 v).run Tryz.prog w = .ok (.string (strOfNums xs)) w:=by
 obtain ⟨hl,h⟩:=hown
 have hl':xs.length=n:=by simpa using hl
 rcases h with ⟨rfl,rfl⟩ | ⟨g,cap,cur,rfl,_,hb,hn,_,hc,ht⟩
 ·have:xs = []:=List.length_eq_zero_iff.1 hl'
  subst this
  rw [run_convert_bytes_nil w 23 5 Tryz.underlying23 Tryz.underlying5 0 0 9 Tryz.underlying9]
  rfl
 ·refine run_convert_bytes_arg _ 23 5 Tryz.underlying23 Tryz.underlying5 g 0 n cap xs hl' (fun i hi => ?_) 9 Tryz.underlying9
  have hi':i < xs.length:=by omega
  have e1:(cur.toList.take (n * 1))[i]? = some (Value.int .u8 (xs.getD i 0)):=by
   rw [ht]
   simp [List.getElem?_eq_getElem hi', List.getD]
  rw [List.getElem?_take] at e1
  split at e1
  ·simp only [World.cell?,hb,Nat.zero_add]
   simpa using e1
  ·cases e1
theorem conv_lit (l:List Int) {W:World} {B:Nat} (h:W.heap[B]? = some (.cells (l.map (Value.int .u8)).toArray 5 (0,0))) (hl:l.length≤100):(convert 23 9 (.slice (some ⟨B,0,none⟩) l.length l.length)).run Tryz.prog W = .ok (.string (strOfNums l)) W:=by
 refine conv_own W 0 _ _ l ⟨by simp,Or.inr ⟨B,l.length,(l.map (Value.int .u8)).toArray,rfl,Nat.zero_le _,h,Nat.le_refl _,by unfold maxLen; omega,by simp,by simp [List.take_of_length_le]⟩⟩
theorem ret_cf {fn:Func} {p:Tmp} {R:Ending→World→Prop} {a:Act} {w:World} {g:Nat} {cs:Array Value} (h:fn.results = #[.cell p 32]) (hp:a.tmps.getD p undef = .pointer (some ⟨g,0,none⟩))
  (hg:w.heap[g]? = some (.cells cs 32 (0,0))) (hz:cs.size=7) (hd:a.defers = []) (hR:R (.returned (.agg cs)) w):bodyPost Tryz.prog fn R .ret a w:=by
 refine bodyPost_ret (v:=.agg cs) ?_ hd hR
 have hp':a.tmps[p]?.getD undef = .pointer (some ⟨g,0,none⟩):=by simpa using hp
 have hl:=run_loadVar_row (P:=Tryz.prog) w g 32 32 cs (0,0) _ hg Tryz.underlying32 rfl (by rw [hz]; kernel_rfl)
 simp [results, h, hp', asAddr, hl]
theorem small_any (w:World):Calls Tryz.prog 8 #[] w fun e w' => e = .returned (.agg #[.int .i64 1,.int .i64 2,.int .i64 4,.int .i64 9,.bool false,.int .i64 2,.slice none 0 0])∧Below w.heap.size w w':=by
 go_enter Tryz.func8,Tryz.ntmps8
 go_wp2_with fail
 exact ret_cf rfl rfl (heap_alloc_new _ _) rfl rfl ⟨rfl,below_a1 _ _⟩
end Go.Proofs.YtigfjedohdgjfaaGreatDoor.Pj
namespace Go.Proofs.YtigfjedohdgjfaaGreatDoor.Pj
open Go.RowKit (wrap64)
open Tl (Wn wn0 nth)
open Tl.Cd (atS wdC byt bytesI okI fr atV layN)
structure SeqN (code:ByteArray) (P:List (Nat × Int)) (N:Nat):Prop where
 bs:Bs code (bytesP P++bytesI 0 0)
 cd:code.size≤512
 le:N≤P.length
 oi : ∀ (n:Nat) (q:Nat × Int),P[n]? = some q→okI q.1 q.2
 ok : ∀ (n:Nat) (q:Nat × Int),n < N→P[n]? = some q→isLoc q.1=true∧q.1≠24∧q.1≠25∧q.1≠27∧(q.1=26→q.2=(posL P (n+1):Int))∧faultsV (stJ code P (n+1)) q.1 q.2=false
theorem posN_le {code:ByteArray} {P:List (Nat × Int)} {N:Nat} (h:SeqN code P N) {n:Nat}:posL P n≤512:=by
 have h1:=h.bs.1
 have h2:=h.cd
 have h3:bytesP P=bytesP (P.take n)++bytesP (P.drop n):=by unfold bytesP; rw [← List.flatMap_append,List.take_append_drop]
 rw [h3,List.length_append,List.length_append] at h1
 unfold posL
 omega
theorem at_seqN {code:ByteArray} {P:List (Nat × Int)} {N:Nat} (h:SeqN code P N) {n:Nat} {q:Nat × Int} (hq:P[n]? = some q):atS code (posL P n:Int)=some (q.1,q.2):=by
 obtain ⟨h1,h2⟩:=List.getElem?_eq_some_iff.1 hq
 have e:P=P.take n ++ [q] ++ P.drop (n+1):=by
  rw [List.append_assoc]
  have:=(List.take_append_drop n P).symm
  rw [List.drop_eq_getElem_cons h1,h2] at this
  exact this
 refine at_bs h.bs (bytesP (P.take n)) (bytesP (P.drop (n+1))++bytesI 0 0) q.1 q.2 ?_ (h.oi n q hq)
 have:bytesP P=bytesP (P.take n)++bytesI q.1 q.2++bytesP (P.drop (n+1)):=by
  conv=>lhs; rw [e]
  unfold bytesP
  rw [List.flatMap_append,List.flatMap_append]
  simp
 rw [this]
 simp [List.append_assoc]
theorem seqN_inv {code:ByteArray} {P:List (Nat × Int)} {N:Nat} (h:SeqN code P N) : ∀ n,n≤N→Lv 1 2 (stJ code P (n+1)) L1∧(stJ code P (n+1)).pl=(posL P n:Int)∧(stJ code P (n+1)).code=code∧(stJ code P (n+1)).nr=1
 | 0,_=>⟨bgn_lv h.cd,rfl,rfl,rfl⟩
 | n+1,hn=>by
  obtain ⟨i1,i2,i3,i4⟩:=seqN_inv h n (by omega)
  obtain ⟨q,hq⟩ : ∃ q,P[n]? = some q:=⟨_,List.getElem?_eq_getElem (by have:=h.le; omega)⟩
  obtain ⟨o1,o3,o4,o5,o6,o7⟩:=h.ok n q (by omega) hq
  have e:stJ code P (n+1+1)=moveV q.1 q.2 (stJ code P (n+1)):=by simp only [stJ,hq]
  rw [e]
  obtain ⟨_,_,_,_,r5,r6,_⟩:=op_rest (j:=preJ q.1 (stJ code P (n+1))) (o:=q.2) o1
  refine ⟨move_lv i1 o1 o7, ?_,r5.trans i3,r6.trans i4⟩
  show (opV q.1 q.2 (preJ q.1 (stJ code P (n+1)))).nx=_
  rw [op_next o1 o3 o4 o5]
  by_cases hc:q.1=26
  ·rw [if_pos hc]; exact o6 hc
  ·rw [if_neg hc]
   show wrap64 ((stJ code P (n+1)).pl+((1+wdC q.1:Nat):Int))=_
   rw [i2,pos_next hq]
   have:=posN_le h (n:=n+1)
   rw [pos_next hq] at this
   unfold wrap64
   omega
def stF (code:ByteArray) (P:List (Nat × Int)) (N:Nat):Nat→Jb:=fun i=>if i≤N+1 then stJ code P i else failJ (stJ code P (N+1)) 7
theorem stF_low (code:ByteArray) (P:List (Nat × Int)) {N i:Nat} (h:i≤N+1):stF code P N i=stJ code P i:=if_pos h
theorem stF_top (code:ByteArray) (P:List (Nat × Int)) (N:Nat):stF code P N (N+2)=failJ (stJ code P (N+1)) 7:=if_neg (by omega)
theorem bad_run {code:ByteArray} {P:List (Nat × Int)} {N:Nat} (h:SeqN code P N) {q:Nat × Int} (hq:P[N]? = some q) (hc:q.1≤32) (hf:faultsV (stJ code P (N+1)) q.1 q.2=true):RunD code (N+2) (stF code P N) stL:=by
 refine ⟨stF_low code P (by omega),rfl,fun i hi => ?_,fun i hi => ?_⟩
 ·intro w base X p F y hj hb hT
  match i,hi,hj with
  | 0,_,hj =>
   rw [stF_low code P (by omega)] at hj
   rw [stF_low code P (show 0+1≤N+1 by omega)]
   have hd:doX 1 2 (newTx smallC) [] 0 ⟨1,0,0,0⟩=⟨x1,L1,3,x0.e,x0.v,true⟩:=x0_is
   refine (step_first (c:=1) (r:=2) hj hb (by omega) (small_over code) new_ok 0 hd).mono ?_
   rintro e w' ⟨rfl,q⟩
   exact ⟨_,rfl,q⟩
  | n+1,hi,hj =>
   rw [stF_low code P (by omega)] at hj
   obtain ⟨i1,i2,i3,i4⟩:=seqN_inv h n (by omega)
   by_cases hn:n < N
   ·obtain ⟨q,hq⟩ : ∃ q,P[n]? = some q:=⟨_,List.getElem?_eq_getElem (by have:=h.le; omega)⟩
    obtain ⟨o1,o3,o4,o5,o6,o7⟩:=h.ok n q hn hq
    have e:stJ code P (n+1+1)=moveV q.1 q.2 (stJ code P (n+1)):=by simp only [stJ,hq]
    rw [stF_low code P (by omega),e]
    have hat:atS (stJ code P (n+1)).code (stJ code P (n+1)).pl=some (q.1,q.2):=by rw [i3,i2]; exact at_seqN h hq
    refine (step_move hj hb hT i1 hat o1 o7 (oki_bd (h.oi n q hq)) 0).mono ?_
    rintro e w' ⟨rfl,q⟩
    exact ⟨_,rfl,q⟩
   ·have hn2:n=N:=by omega
    rw [hn2] at hj i1 i2 i3
    have hat:atS (stJ code P (N+1)).code (stJ code P (N+1)).pl=some (q.1,q.2):=by rw [i3,i2]; exact at_seqN h hq
    rw [show n+1+1=N+2 by omega,stF_top]
    refine (step_bad hj hb hT i1 (Or.inr ⟨q.1,q.2,hc,hat,hf⟩) 0).mono ?_
    rintro e w' ⟨rfl,q⟩
    exact ⟨_,rfl,q⟩
 ·by_cases hn:i < N+1
  ·rw [stF_low code P (by omega),decide_eq_false (by omega)]
   exact (seqN_inv h i (by omega)).1.ov
  ·have hn2:i=N+1:=by omega
   subst hn2
   rw [stF_top,decide_eq_true rfl]
   rfl
def fI (C T:Nat) (n:Nat):Nat × Int:=if n < C then (26,3 * ((n:Int)+1)) else if n < C+2 * T then (if (n - C) % 2=0 then (1,(((n - C) / 2:Nat):Int)) else (29,0)) else (1,1)
def fP (C T Q:Nat):List (Nat × Int):=(List.range (C+2 * T+Q)).map (fI C T)
def fBy (C T n:Nat):List Int:=(List.range n).flatMap fun i=>bytesI (fI C T i).1 (fI C T i).2
theorem fBy_next (C T n:Nat):fBy C T (n+1)=fBy C T n++bytesI (fI C T n).1 (fI C T n).2:=by simp [fBy,List.range_succ]
theorem fI_call {C T n:Nat} (h:n < C):fI C T n=(26,3 * ((n:Int)+1)):=if_pos h
theorem fI_push {C T k:Nat} (h:k < T):fI C T (C+2 * k)=(1,(k:Int)):=by
 unfold fI
 rw [if_neg (by omega),if_pos (by omega),if_pos (by omega),show (C+2 * k - C) / 2=k by omega]
theorem fI_tell {C T k:Nat} (h:k < T):fI C T (C+2 * k+1)=(29,0):=by
 unfold fI
 rw [if_neg (by omega),if_pos (by omega),if_neg (by omega)]
theorem fI_one {C T k:Nat}:fI C T (C+2 * T+k)=(1,1):=by
 unfold fI
 rw [if_neg (by omega),if_neg (by omega)]
theorem b26 (x:Int):bytesI 26 x = [26,x % 256,x / 256 % 256]:=by
 show (26:Int) :: layN x 2=_
 rw [(Tl.Cd.layn x).2.1]
theorem b1 (x:Int):bytesI 1 x = [1,x % 256]:=by
 show (1:Int) :: layN x 1=_
 rw [(Tl.Cd.layn x).1]
theorem b29:bytesI 29 0 = [29]:=rfl
theorem b0:bytesI 0 0 = [0]:=rfl
theorem fBy_call {C T:Nat} : ∀ n,n≤C→(fBy C T n).length=3 * n
 | 0,_=>rfl
 | n+1,h=>by
  rw [fBy_next,List.length_append,fBy_call n (by omega),fI_call (by omega),b26]
  simp; omega
theorem fBy_tell {C T:Nat} : ∀ k,k≤T→(fBy C T (C+2 * k)).length=3 * C+3 * k
 | 0,_=>by rw [show C+2 * 0=C by omega,fBy_call C (by omega)]; omega
 | k+1,h=>by
  rw [show C+2 * (k+1)=C+2 * k+1+1 by omega,fBy_next,fBy_next,List.length_append,List.length_append,fBy_tell k (by omega),fI_push (by omega),fI_tell (by omega),b1,b29]
  simp; omega
theorem fBy_one {C T:Nat} : ∀ k,(fBy C T (C+2 * T+k)).length=3 * C+3 * T+2 * k
 | 0=>by rw [show C+2 * T+0=C+2 * T by omega,fBy_tell T (by omega)]; omega
 | k+1=>by
  rw [show C+2 * T+(k+1)=C+2 * T+k+1 by omega,fBy_next,List.length_append,fBy_one k,fI_one,b1]
  simp; omega
theorem fP_get {C T Q n:Nat} (h:n < C+2 * T+Q):(fP C T Q)[n]? = some (fI C T n):=by simp [fP,h]
theorem fP_len (C T Q:Nat):(fP C T Q).length=C+2 * T+Q:=by simp [fP]
theorem fP_bytes (C T Q:Nat):bytesP (fP C T Q)=fBy C T (C+2 * T+Q):=by simp [bytesP,fP,fBy,List.flatMap_map]
theorem fP_pos {C T Q n:Nat} (h:n≤C+2 * T+Q):posL (fP C T Q) n=(fBy C T n).length:=by
 unfold posL
 have:(fP C T Q).take n=(List.range n).map (fI C T):=by
  unfold fP
  rw [← List.map_take,List.take_range,Nat.min_eq_left h]
 rw [this]
 simp [bytesP,fBy,List.flatMap_map]
theorem fP_ok {C T Q:Nat} (hC:C≤20) (hT:T≤40) (n:Nat) (q:Nat × Int) (hq:(fP C T Q)[n]? = some q):okI q.1 q.2:=by
 have hn:n < C+2 * T+Q:=by
  have:=(List.getElem?_eq_some_iff.1 hq).1
  rwa [fP_len] at this
 rw [fP_get hn] at hq
 obtain rfl:=Option.some.inj hq
 unfold fI
 split
 ·refine ⟨by dsimp only; omega,by dsimp only; omega, ?_, ?_⟩
  ·show (0:Int)≤_; dsimp only; omega
  ·show _≤(65535:Int); dsimp only; omega
 ·split
  ·split
   ·refine ⟨by dsimp only; omega,by dsimp only; omega, ?_, ?_⟩
    ·show (-128:Int)≤_; dsimp only; omega
    ·show _≤(127:Int); dsimp only; omega
   ·decide
  ·decide
def stN (C T n:Nat):Nat:=if n < C then 0 else if n < C+2 * T then (n - C) % 2 else n - C - 2 * T
structure Ln (C T n:Nat) (j:Jb):Prop where
 st:j.st.length=stN C T n
 rt:j.rt.length=min n C
 tl:j.tl.length=min ((n - C) / 2) T
 s1 : ∀ x ∈ j.st,Tl.Sx x
 s2 : ∀ x ∈ j.tl,Tl.Sx x
theorem nth_sx {l:List Int} (h : ∀ x ∈ l,Tl.Sx x) (i:Nat):Tl.Sx (nth l i):=by
 unfold nth
 by_cases hi:i < l.length
 ·rw [List.getD_eq_getElem?_getD,List.getElem?_eq_getElem hi]
  exact h _ (List.getElem_mem hi)
 ·rw [List.getD_eq_getElem?_getD,List.getElem?_eq_none (by omega)]
  show Tl.Sx 0
  unfold Tl.Sx; omega
theorem ln_next {C T n:Nat} {j:Jb} (hT:T≤40) (h:Ln C T n j):Ln C T (n+1) (moveV (fI C T n).1 (fI C T n).2 j):=by
 obtain ⟨h1,h2,h3,h4,h5⟩:=h
 by_cases c1:n < C
 ·rw [fI_call c1]
  refine ⟨?_, ?_, ?_,h4,h5⟩
  ·show j.st.length=_
   rw [h1]
   unfold stN
   rw [if_pos c1]
   by_cases c2:n+1 < C
   ·rw [if_pos c2]
   ·rw [if_neg c2]
    split <;> omega
  ·show (j.rt ++ [_]).length=_
   rw [List.length_append,h2]; simp; omega
  ·show j.tl.length=_
   rw [h3]; congr 1; omega
 ·by_cases c2:n < C+2 * T
  ·by_cases c3:(n - C) % 2=0
   ·have e:fI C T n=(1,(((n - C) / 2:Nat):Int)):=by unfold fI; rw [if_neg c1,if_pos c2,if_pos c3]
    rw [e]
    refine ⟨?_, ?_, ?_, ?_,h5⟩
    ·show (j.st ++ [_]).length=_
     rw [List.length_append,h1]
     unfold stN
     rw [if_neg c1,if_pos c2,if_neg (by omega)]
     simp
     split <;> omega
    ·show j.rt.length=_
     rw [h2]; omega
    ·show j.tl.length=_
     rw [h3]; omega
    ·intro x hx
     rcases List.mem_append.1 (show x ∈ j.st ++ [(((n - C) / 2:Nat):Int)] from hx) with hx | hx
     ·exact h4 x hx
     ·simp at hx; subst hx; unfold Tl.Sx; omega
   ·have e:fI C T n=(29,0):=by unfold fI; rw [if_neg c1,if_pos c2,if_neg c3]
    rw [e]
    have hs:j.st.length=1:=by rw [h1]; unfold stN; rw [if_neg c1,if_pos c2]; omega
    refine ⟨?_, ?_, ?_, ?_, ?_⟩
    ·show (j.st.take (j.st.length - 1)).length=_
     rw [hs]
     unfold stN
     rw [if_neg (by omega)]
     simp
     split <;> omega
    ·show j.rt.length=_
     rw [h2]; omega
    ·show (j.tl ++ [_]).length=_
     rw [List.length_append,h3]; simp; omega
    ·intro x hx
     exact h4 x (List.mem_of_mem_take (show x ∈ j.st.take (j.st.length - 1) from hx))
    ·intro x hx
     rcases List.mem_append.1 (show x ∈ j.tl ++ [nth j.st (j.st.length - 1)] from hx) with hx | hx
     ·exact h5 x hx
     ·simp only [List.mem_singleton] at hx; subst hx; exact nth_sx h4 _
  ·have e:fI C T n=(1,1):=by unfold fI; rw [if_neg c1,if_neg c2]
   rw [e]
   refine ⟨?_, ?_, ?_, ?_,h5⟩
   ·show (j.st ++ [_]).length=_
    rw [List.length_append,h1]
    unfold stN
    rw [if_neg c1,if_neg c2,if_neg (by omega),if_neg (by omega)]
    simp; omega
   ·show j.rt.length=_
    rw [h2]; omega
   ·show j.tl.length=_
    rw [h3]; omega
   ·intro x hx
    rcases List.mem_append.1 (show x ∈ j.st ++ [(1:Int)] from hx) with hx | hx
    ·exact h4 x hx
    ·simp at hx; subst hx; unfold Tl.Sx; omega
theorem flt26 (j:Jb) (o:Int) (h:j.st.length≤32):faultsV j 26 o=decide (j.rt.length=8):=by
 simp [faultsV,effV,tkC,ptC]; omega
theorem flt1 (j:Jb) (o:Int):faultsV j 1 o=decide (32 < j.st.length+1):=by
 have e:decide ((32:Int) < (j.st.length:Int)+1)=decide (32 < j.st.length+1):=decide_eq_decide.2 (by omega)
 have e2:decide ((j.st.length:Int) < 0)=false:=decide_eq_false (by omega)
 simp [faultsV,effV,tkC,ptC,e,e2]
theorem flt29 (j:Jb) (o:Int) (h:j.st.length=1):faultsV j 29 o=decide (j.tl.length=16):=by
 simp [faultsV,effV,tkC,ptC,h]
theorem f_flt {C T n:Nat} {j:Jb} (h:Ln C T n j) (hC:n < C→n < 8) (hT:C≤n→n < C+2 * T→n < C+33) (hQ:C+2 * T≤n→n < C+2 * T+32):faultsV j (fI C T n).1 (fI C T n).2=false:=by
 obtain ⟨h1,h2,h3,_,_⟩:=h
 unfold stN at h1
 by_cases c1:n < C
 ·rw [fI_call c1]
  rw [if_pos c1] at h1
  have:=hC c1
  exact (flt26 j _ (by omega)).trans (decide_eq_false (by omega))
 ·rw [if_neg c1] at h1
  by_cases c2:n < C+2 * T
  ·rw [if_pos c2] at h1
   have:=hT (by omega) c2
   by_cases c3:(n - C) % 2=0
   ·have e:fI C T n=(1,(((n - C) / 2:Nat):Int)):=by unfold fI; rw [if_neg c1,if_pos c2,if_pos c3]
    rw [e]
    exact (flt1 j _).trans (decide_eq_false (by omega))
   ·have e:fI C T n=(29,0):=by unfold fI; rw [if_neg c1,if_pos c2,if_neg c3]
    rw [e]
    exact (flt29 j _ (by omega)).trans (decide_eq_false (by omega))
  ·rw [if_neg c2] at h1
   have:=hQ (by omega)
   have e:fI C T n=(1,1):=by unfold fI; rw [if_neg c1,if_neg c2]
   rw [e]
   exact (flt1 j _).trans (decide_eq_false (by omega))
def fN (C T Q:Nat):Nat:=if 8 < C then 8 else if 16 < T then C+33 else if 32 < Q then C+2 * T+32 else C+2 * T+Q
theorem f_bad {C T Q:Nat} {j:Jb} (hb:8 < C∨16 < T∨32 < Q) (h:Ln C T (fN C T Q) j):fN C T Q < C+2 * T+Q∧faultsV j (fI C T (fN C T Q)).1 (fI C T (fN C T Q)).2=true:=by
 obtain ⟨h1,h2,h3,_,_⟩:=h
 unfold stN at h1
 unfold fN at *
 by_cases c1:8 < C
 ·rw [if_pos c1] at *
  rw [if_pos c1] at h1
  rw [fI_call c1]
  exact ⟨by omega,(flt26 j _ (by omega)).trans (decide_eq_true (by omega))⟩
 ·rw [if_neg c1] at *
  by_cases c2:16 < T
  ·rw [if_pos c2] at *
   rw [if_neg (by omega),if_pos (by omega)] at h1
   rw [show C+33=C+2 * 16+1 by omega,fI_tell c2]
   exact ⟨by omega,(flt29 j _ (by omega)).trans (decide_eq_true (by omega))⟩
  ·rw [if_neg c2] at *
   have c3:32 < Q:=by omega
   rw [if_pos c3] at *
   rw [if_neg (by omega),if_neg (by omega)] at h1
   rw [fI_one]
   exact ⟨by omega,(flt1 j _).trans (decide_eq_true (by omega))⟩
theorem fN_le {C T Q:Nat}:fN C T Q≤C+2 * T+Q:=by unfold fN; split; omega; split; omega; split <;> omega
theorem fN_low {C T Q n:Nat} (h:n < fN C T Q):(n < C→n < 8)∧(C≤n→n < C+2 * T→n < C+33)∧(C+2 * T≤n→n < C+2 * T+32):=by
 unfold fN at h
 split at h
 ·omega
 split at h
 ·omega
 split at h
 ·omega
 ·omega
theorem ln_st {C T Q:Nat} (code:ByteArray) (hT:T≤40) : ∀ n,n≤C+2 * T+Q→Ln C T n (stJ code (fP C T Q) (n+1))
 | 0,_=>by
  refine ⟨?_, ?_, ?_, ?_, ?_⟩
  ·show 0=stN C T 0
   unfold stN
   split
   ·rfl
   split <;> omega
  ·show 0=_; omega
  ·show 0=_; omega
  ·intro x hx; exact absurd (show x ∈ ([] : List Int) from hx) (by simp)
  ·intro x hx; exact absurd (show x ∈ ([] : List Int) from hx) (by simp)
 | n+1,h=>by
  have e:stJ code (fP C T Q) (n+1+1)=moveV (fI C T n).1 (fI C T n).2 (stJ code (fP C T Q) (n+1)):=by
   show (match (fP C T Q)[n]? with | some q=>moveV q.1 q.2 (stJ code (fP C T Q) (n+1)) | none=>endJ 0 (stJ code (fP C T Q) (n+1)))=_
   rw [fP_get (by omega)]
  rw [e]
  exact ln_next hT (ln_st code hT n (by omega))
theorem fI_loc (C T n:Nat):isLoc (fI C T n).1=true∧(fI C T n).1≠24∧(fI C T n).1≠25∧(fI C T n).1≠27∧(fI C T n).1≤32:=by
 unfold fI
 split
 ·exact ⟨rfl,by simp,by simp,by simp,by simp⟩
 ·split
  ·split <;> exact ⟨rfl,by simp,by simp,by simp,by simp⟩
  ·exact ⟨rfl,by simp,by simp,by simp,by simp⟩
theorem fI_to {C T Q n:Nat} (h:n < C+2 * T+Q) (h26:(fI C T n).1=26):(fI C T n).2=(posL (fP C T Q) (n+1):Int):=by
 by_cases c1:n < C
 ·rw [fI_call c1,fP_pos (by omega),fBy_call (n+1) (by omega)]
  dsimp only; omega
 ·exfalso
  unfold fI at h26
  rw [if_neg c1] at h26
  split at h26
  ·split at h26 <;> cases h26
  ·cases h26
theorem f_seq {code:ByteArray} {C T Q:Nat} (hb:Bs code (fBy C T (C+2 * T+Q) ++ [0])) (hC:C≤20) (hT:T≤40) (hQ:Q≤60):SeqN code (fP C T Q) (fN C T Q):=by
 have hb2:Bs code (bytesP (fP C T Q)++bytesI 0 0):=by rw [fP_bytes,b0]; exact hb
 refine ⟨hb2, ?_,by rw [fP_len]; exact fN_le,fP_ok hC hT,fun n q hn hq => ?_⟩
 ·rw [hb.1,List.length_append,fBy_one]
  simp; omega
 ·have hn2:n < C+2 * T+Q:=by have:=@fN_le C T Q; omega
  rw [fP_get hn2] at hq
  obtain rfl:=Option.some.inj hq
  obtain ⟨l1,l2,l3,l4,l5⟩:=fI_loc C T n
  obtain ⟨m1,m2,m3⟩:=fN_low hn
  exact ⟨l1,l2,l3,l4,fI_to hn2,f_flt (ln_st code hT n (by omega)) m1 m2 m3⟩
theorem f_good {code:ByteArray} {C T Q:Nat} (hb:Bs code (fBy C T (C+2 * T+Q) ++ [0])) (hC:C≤8) (hT:T≤16) (hQ:Q≤32):Seq code (fP C T Q):=by
 have h:=f_seq hb (by omega) (by omega) (by omega)
 refine ⟨h.bs,h.cd,fun n q hq => ?_⟩
 have hn:n < fN C T Q:=by
  have:=(List.getElem?_eq_some_iff.1 hq).1
  rw [fP_len] at this
  unfold fN
  rw [if_neg (by omega),if_neg (by omega),if_neg (by omega)]
  exact this
 obtain ⟨o1,o3,o4,o5,o6,o7⟩:=h.ok n q hn hq
 exact ⟨o1,h.oi n q hq,o3,o4,o5,o6,o7⟩
end Go.Proofs.YtigfjedohdgjfaaGreatDoor.Pj
namespace Go.Proofs.YtigfjedohdgjfaaGreatDoor.Pj
open Go.ChangeShapes Go.WideShapes Go.ChangeAt Go.RowKit
open Tl (Wn wn0 nth numC Nl)
open Tl.Cd (bytesI layN xb okI wdC)
attribute [local go_sem ↓] Go.wp_at_zero Go.wp_at_succ
theorem fault_ends {w:World} (hT:Tl.Cd.Tab w) {code:ByteArray} {C T Q:Nat} (hb:Bs code (fBy C T (C+2 * T+Q) ++ [0])) (hC:C≤20) (hTt:T≤40) (hQ:Q≤60) :
  Calls Tryz.prog 7 #[.agg #[.int .i64 1,.int .i64 2,.int .i64 4,.int .i64 9,.bool false,.int .i64 2,.slice none 0 0],.string code,.slice none 0 0,.int .i64 300] w fun e w' => ∃ u er,e = .returned (.tuple #[.agg #[.int .i64 1,.int .i64 er,u],.bool true])∧((8 < C∨16 < T∨32 < Q)→er=7∧u = .slice none 0 0)∧(¬ (8 < C∨16 < T∨32 < Q)→er=0 ∧ ∃ ua uc,u = .slice ua T uc)∧Below w.heap.size w w':=by
 by_cases hbad:8 < C∨16 < T∨32 < Q
 ·have hs:=f_seq hb hC hTt hQ
  have hl:=ln_st (Q:=Q) code hTt (fN C T Q) fN_le
  obtain ⟨b1,b2⟩:=f_bad hbad hl
  have hr:=bad_run hs (fP_get b1) (fI_loc C T _).2.2.2.2 b2
  have hi:=(seqN_inv hs (fN C T Q) (Nat.le_refl _))
  have h:=ends_any hT code hs.cd hr (by omega) 300 (by omega) (by omega) (by
      rw [stF_top]
      exact ⟨by show (stJ code (fP C T Q) (fN C T Q+1)).tl.length≤1000; have:=hi.1.tl; omega,hl.s2⟩)
  rw [stF_top] at h
  refine h.mono ?_
  rintro e w' ⟨u,rfl,_,h2,hb2⟩
  refine ⟨u,7, ?_,fun _=>⟨rfl,h2 (by show (7:Int)≠0; decide)⟩,fun h9=>absurd hbad h9,hb2⟩
  have e1:(failJ (stJ code (fP C T Q) (fN C T Q+1)) 7).nr=1:=hi.2.2.2
  have e2:(failJ (stJ code (fP C T Q) (fN C T Q+1)) 7).err=7:=rfl
  rw [e1,e2]
 ·have hs:=f_good hb (by omega) (by omega) (by omega)
  have hr:=seq_run hs
  have hl:=ln_st (Q:=Q) code hTt (C+2 * T+Q) (Nat.le_refl _)
  have hi:=seq_inv hs (C+2 * T+Q) (by rw [fP_len]; exact Nat.le_refl _)
  have ee:stJ code (fP C T Q) ((fP C T Q).length+2)=endJ 0 (stJ code (fP C T Q) (C+2 * T+Q+1)):=by
   rw [fP_len]
   show (match (fP C T Q)[C+2 * T+Q]? with | some q=>moveV q.1 q.2 (stJ code (fP C T Q) (C+2 * T+Q+1)) | none=>endJ 0 (stJ code (fP C T Q) (C+2 * T+Q+1)))=_
   rw [List.getElem?_eq_none (by rw [fP_len]; omega)]
  have etl:(endJ 0 (stJ code (fP C T Q) (C+2 * T+Q+1))).tl=(stJ code (fP C T Q) (C+2 * T+Q+1)).tl:=rfl
  have htl:(stJ code (fP C T Q) (C+2 * T+Q+1)).tl.length=T:=by rw [hl.tl]; omega
  have h:=ends_any hT code hs.cd hr (by omega) 300 (by rw [fP_len]; omega) (by omega) (by
      rw [ee,etl]
      exact ⟨by omega,hl.s2⟩)
  rw [ee] at h
  refine h.mono ?_
  rintro e w' ⟨u,rfl,h1,_,hb2⟩
  have e1:(endJ 0 (stJ code (fP C T Q) (C+2 * T+Q+1))).nr=1:=hi.2.2.2
  have e2:(endJ 0 (stJ code (fP C T Q) (C+2 * T+Q+1))).err=0:=rfl
  rw [e1,e2]
  refine ⟨u,0,rfl,fun h9=>absurd h9 hbad,fun _=>⟨rfl, ?_⟩,hb2⟩
  have ho:=h1 e2
  rw [etl,htl] at ho
  obtain ⟨a,cp,rfl⟩:=own_slice ho
  exact ⟨a,cp,rfl⟩
theorem bs_nil:Bs ByteArray.empty []:=⟨rfl,fun i x h=>by simp at h⟩
theorem bs_lit {s:ByteArray} {l m:List Int} (h:Bs s l) (hm : ∀ x ∈ m,0≤x∧x < 256):Bs (s++strOfNums m) (l++m):=bs_app h (bs_str m hm)
theorem faults_none (p c t:Int) {w:World} (h:p < 0∨60 < p∨c < 0∨20 < c∨t < 0∨40 < t) :
  Calls Tryz.prog 5 #[.int .i64 p,.int .i64 c,.int .i64 t] w fun e w' => e = .returned (.bool true)∧Below w.heap.size w w':=by
 by_cases h1:p < 0
 ·go_enter Tryz.func5,Tryz.ntmps5
  go_wp2_with fail
  go_ret
  exact ⟨rfl,Below.refl _ _⟩
 by_cases h2:60 < p
 ·go_enter Tryz.func5,Tryz.ntmps5
  go_wp2_with fail
  go_ret
  exact ⟨rfl,Below.refl _ _⟩
 by_cases h3:c < 0
 ·go_enter Tryz.func5,Tryz.ntmps5
  go_wp2_with fail
  go_ret
  exact ⟨rfl,Below.refl _ _⟩
 by_cases h4:20 < c
 ·go_enter Tryz.func5,Tryz.ntmps5
  go_wp2_with fail
  go_ret
  exact ⟨rfl,Below.refl _ _⟩
 by_cases h5:t < 0
 ·go_enter Tryz.func5,Tryz.ntmps5
  go_wp2_with fail
  go_ret
  exact ⟨rfl,Below.refl _ _⟩
 have h6:40 < t:=by omega
 clear h
 go_enter Tryz.func5,Tryz.ntmps5
 go_wp2_with fail
 go_ret
 exact ⟨rfl,Below.refl _ _⟩
set_option maxRecDepth 10000 in
set_option maxHeartbeats 4000000 in
theorem faults_some (Q C T:Nat) (hQ:Q≤60) (hC:C≤20) (hTt:T≤40) {w:World} (hT:Tl.Cd.Tab w) :
  Calls Tryz.prog 5 #[.int .i64 (Q:Int),.int .i64 (C:Int),.int .i64 (T:Int)] w fun e w' => e = .returned (.bool true)∧Below w.heap.size w w':=by
 have HC3:Hid (∀ (x y z:Int) (W:World) (B:Nat),W.heap[B]? = some (.cells #[.int .u8 x,.int .u8 y,.int .u8 z] 5 (0,0))→(convert 23 9 (.slice (some ⟨B,0,none⟩) 3 3)).run Tryz.prog W = .ok (.string (strOfNums [x,y,z])) W):=fun x y z W B h=>conv_lit [x,y,z] h (by simp)
 have HC2:Hid (∀ (x y:Int) (W:World) (B:Nat),W.heap[B]? = some (.cells #[.int .u8 x,.int .u8 y] 5 (0,0))→(convert 23 9 (.slice (some ⟨B,0,none⟩) 2 2)).run Tryz.prog W = .ok (.string (strOfNums [x,y])) W):=fun x y W B h=>conv_lit [x,y] h (by simp)
 have HC1:Hid (∀ (x:Int) (W:World) (B:Nat),W.heap[B]? = some (.cells #[.int .u8 x] 5 (0,0))→(convert 23 9 (.slice (some ⟨B,0,none⟩) 1 1)).run Tryz.prog W = .ok (.string (strOfNums [x])) W):=fun x W B h=>conv_lit [x] h (by simp)
 have HAD:Hid (∀ (B:ByteArray) (l m:List Int) (w:World),Bs B l→l.length≤1000→m.length≤10→(Op.stringOp .add B (strOfNums m)).run Tryz.prog w = .ok (.string (B++strOfNums m)) w):=fun B l m w hb h1 h2=>run_string_add_sum (P:=Tryz.prog) w _ _ (by rw [hb.1,strOfNums_size]; omega)
 have HSM:Hid (∀ w':World,Calls Tryz.prog 8 #[] w' fun e w'' => e = .returned (.agg #[.int .i64 1,.int .i64 2,.int .i64 4,.int .i64 9,.bool false,.int .i64 2,.slice none 0 0])∧Below w'.heap.size w' w''):=small_any
 have HEN:Hid (∀ (code:ByteArray) (w':World),Bs code (fBy C T (C+2 * T+Q) ++ [0])→Below w.heap.size w w'→Calls Tryz.prog 7 #[.agg #[.int .i64 1,.int .i64 2,.int .i64 4,.int .i64 9,.bool false,.int .i64 2,.slice none 0 0],.string code,.slice none 0 0,.int .i64 300] w' fun e w'' => ∃ u er,e = .returned (.tuple #[.agg #[.int .i64 1,.int .i64 er,u],.bool true])∧((8 < C∨16 < T∨32 < Q)→er=7∧u = .slice none 0 0)∧(¬ (8 < C∨16 < T∨32 < Q)→er=0 ∧ ∃ ua uc,u = .slice ua T uc)∧Below w'.heap.size w' w''):=fun code w' hb h2=>fault_ends (hT.later h2) hb hC hTt hQ
 have HN:Hid (Q≤60∧C≤20∧T≤40):=⟨hQ,hC,hTt⟩
 have g1 : ¬ (Q:Int) < 0:=by omega
 have g2 : ¬ (60:Int) < (Q:Int):=by omega
 have g3 : ¬ (C:Int) < 0:=by omega
 have g4 : ¬ (20:Int) < (C:Int):=by omega
 have g5 : ¬ (T:Int) < 0:=by omega
 have g6 : ¬ (40:Int) < (T:Int):=by omega
 have HL1:Hid (∀ i B,i < C→Bs B (fBy C T i)→B.size=3 * i ∧ ∀ z:Int,z=3 * ((i:Int)+1)→Bs (B++strOfNums [26,z % 256,wrap64 (z.tdiv 256) % 256]) (fBy C T (i+1))):=fun i B h hb=>by
  refine ⟨by rw [hb.1,fBy_call i (by omega)],fun z hz => ?_⟩
  have e2:wrap64 (z.tdiv 256)=z / 256:=by rw [Int.tdiv_eq_ediv_of_nonneg (by omega)]; unfold wrap64; omega
  have e:fBy C T (i+1)=fBy C T i ++ [26,z % 256,wrap64 (z.tdiv 256) % 256]:=by rw [fBy_next,fI_call h,b26,e2,hz]
  rw [e]
  exact bs_lit hb (fun x hx=>by
      simp at hx
      omega)
 have HL2:Hid (∀ k B,k < T→Bs B (fBy C T (C+2 * k))→Bs (B++strOfNums [1,(k:Int),29]) (fBy C T (C+2 * (k+1)))):=fun k B h hb=>by
  have e:fBy C T (C+2 * (k+1))=fBy C T (C+2 * k) ++ [1,(k:Int),29]:=by
   have hk:(k:Int) % 256=(k:Int):=by have:=HN.out; omega
   rw [show C+2 * (k+1)=C+2 * k+1+1 by omega,fBy_next,fBy_next,fI_push h,fI_tell h,b1,b29,hk]
   simp
  rw [e]
  exact bs_lit hb (fun x hx=>by
      have:=HN.out
      simp at hx
      omega)
 have HL3:Hid (∀ k B,Bs B (fBy C T (C+2 * T+k))→Bs (B++strOfNums [1,1]) (fBy C T (C+2 * T+(k+1)))):=fun k B hb=>by
  have e:fBy C T (C+2 * T+(k+1))=fBy C T (C+2 * T+k) ++ [1,1]:=by
   rw [show C+2 * T+(k+1)=C+2 * T+k+1 by omega,fBy_next,fI_one,b1]
   rfl
  rw [e]
  exact bs_lit hb (fun x hx=>by simp at hx; omega)
 have HL4:Hid (∀ B l,Bs B l→Bs (B++strOfNums [0]) (l ++ [0])):=fun B l hb=>bs_lit hb (fun x hx=>by simp at hx; omega)
 have HLN:Hid (∀ n,n≤C+2 * T+Q→(fBy C T n).length≤1000):=fun n hn=>by
  have e:fBy C T (C+2 * T+Q)=fBy C T n++((List.range (C+2 * T+Q)).drop n).flatMap (fun i=>bytesI (fI C T i).1 (fI C T i).2):=by
   unfold fBy
   have h1:(List.range (C+2 * T+Q))=List.range n++(List.range (C+2 * T+Q)).drop n:=by
    have:=(List.take_append_drop n (List.range (C+2 * T+Q))).symm
    rwa [List.take_range,Nat.min_eq_left hn] at this
   conv=>lhs; rw [h1]
   rw [List.flatMap_append]
  have h2:=fBy_one (C:=C) (T:=T) Q
  rw [e,List.length_append] at h2
  omega
 clear hT hQ hC hTt
 go_enter Tryz.func5,Tryz.ntmps5
 go_wp2_with fail
 go_loopw [7,8] (fun sv iv wr => ∃ (i:Nat) (B:ByteArray),i≤C∧iv = .int .i64 (i:Int)∧sv = .string B∧Bs B (fBy C T i)∧Below w.heap.size w wr) (fun _ iv _=>C - (intOf iv).toNat)
 case atStart=>exact ⟨0,ByteArray.empty,by omega,rfl,rfl,bs_nil,Below.refl _ _⟩
 case round =>
  obtain ⟨i,B,hi,rfl,rfl,hbs,hb⟩:=hrel
  have HB:Hid (Below w.heap.size w wr):=hb
  have HBS:Hid (Bs B (fBy C T i)):=hbs
  clear hb hbs
  by_cases hic:i < C
  ·have hx:(i:Int) < (C:Int):=by omega
   have hnn:=HN.out
   obtain ⟨hsz,hnx⟩:=HL1.out i B hic HBS.out
   obtain ⟨z,hz⟩ : ∃ z:Int,z=3 * ((i:Int)+1):=⟨_,rfl⟩
   have HNX:Hid (Bs (B++strOfNums [26,z % 256,wrap64 (z.tdiv 256) % 256]) (fBy C T (i+1))):=hnx z hz
   have HZ:Hid (wrap64 ((B.size:Int)+3)=z):=by rw [Hid,hsz,hz]; unfold wrap64; have:=HN.out; omega
   have hwi:wrap64 ((i:Int)+1)=(i:Int)+1:=by unfold wrap64; have:=HN.out; omega
   have hc0:=HC3.out 26 (z % 256) (wrap64 (z.tdiv 256) % 256) (wr.alloc (.cells #[.int .u8 26,.int .u8 (z % 256),.int .u8 (wrap64 (z.tdiv 256) % 256)] 5)) wr.heap.size (heap_alloc_new _ _)
   have hA:=fun w' => HAD.out B _ [26,z % 256,wrap64 (z.tdiv 256) % 256] w' HBS.out (HLN.out i (by omega)) (by simp)
   clear hsz hnx hz
   go_upto_region 8 with fail
   rw [HZ.out]
   go_wp2_with fail
   go_roundw
   case rel=>exact ⟨i+1,_,hic,by first | go_num | (rw [hwi]; go_num),rfl,HNX.out,below_then HB.out (below_a1 _ _)⟩
   case measure=>first | (simp [intOf]; omega) | (rw [hwi]; simp [intOf]; omega)
  ·obtain rfl:i=C:=by omega
   have hx : ¬ (i:Int) < (i:Int):=by omega
   clear hi hic
   go_wp2_with fail
   go_loopw [7,10] (fun sv iv wx => ∃ (k:Nat) (B:ByteArray),k≤T∧iv = .int .i64 (k:Int)∧sv = .string B∧Bs B (fBy i T (i+2 * k))∧Below w.heap.size w wx) (fun _ iv _=>T - (intOf iv).toNat)
   case atStart=>exact ⟨0,B,by omega,rfl,rfl,HBS.out,HB.out⟩
   case round =>
    obtain ⟨k,B2,hk,rfl,rfl,hbs,hb⟩:=hrel
    clear HB HBS
    have HB:Hid (Below w.heap.size w wr):=hb
    have HBS:Hid (Bs B2 (fBy i T (i+2 * k))):=hbs
    clear hb hbs
    by_cases hkt:k < T
    ·have hx2:(k:Int) < (T:Int):=by omega
     have hnn:=HN.out
     have HNX:Hid (Bs (B2++strOfNums [1,(k:Int),29]) (fBy i T (i+2 * (k+1)))):=HL2.out k B2 hkt HBS.out
     have hwi:wrap64 ((k:Int)+1)=(k:Int)+1:=by unfold wrap64; have:=HN.out; omega
     have hc0:=HC3.out 1 ((k:Int)) 29 (wr.alloc (.cells #[.int .u8 1,.int .u8 ((k:Int)),.int .u8 29] 5)) wr.heap.size (heap_alloc_new _ _)
     have hA:=fun w' => HAD.out B2 _ [1,(k:Int),29] w' HBS.out (HLN.out (i+2 * k) (by omega)) (by simp)
     go_wp2_with fail
     go_roundw
     case rel=>exact ⟨k+1,_,hkt,by first | go_num | (rw [hwi]; go_num),rfl,HNX.out,below_then HB.out (below_a1 _ _)⟩
     case measure=>first | (simp [intOf]; omega) | (rw [hwi]; simp [intOf]; omega)
    ·obtain rfl:k=T:=by omega
     have hx2 : ¬ (k:Int) < (k:Int):=by omega
     clear hk hkt
     go_wp2_with fail
     go_loopw [7,11] (fun sv iv wx => ∃ (m:Nat) (B:ByteArray),m≤Q∧iv = .int .i64 (m:Int)∧sv = .string B∧Bs B (fBy i k (i+2 * k+m))∧Below w.heap.size w wx) (fun _ iv _=>Q - (intOf iv).toNat)
     case atStart=>exact ⟨0,B2,by omega,rfl,rfl,HBS.out,HB.out⟩
     case round =>
      obtain ⟨m,B3,hm,rfl,rfl,hbs,hb⟩:=hrel
      clear HB HBS
      have HB:Hid (Below w.heap.size w wr):=hb
      have HBS:Hid (Bs B3 (fBy i k (i+2 * k+m))):=hbs
      clear hb hbs
      by_cases hmq:m < Q
      ·have hx3:(m:Int) < (Q:Int):=by omega
       have hnn:=HN.out
       have HNX:Hid (Bs (B3++strOfNums [1,1]) (fBy i k (i+2 * k+(m+1)))):=HL3.out m B3 HBS.out
       have hwi:wrap64 ((m:Int)+1)=(m:Int)+1:=by unfold wrap64; have:=HN.out; omega
       have hc0:=HC2.out 1 1 (wr.alloc (.cells #[.int .u8 1,.int .u8 1] 5)) wr.heap.size (heap_alloc_new _ _)
       have hA:=fun w' => HAD.out B3 _ [1,1] w' HBS.out (HLN.out (i+2 * k+m) (by omega)) (by simp)
       go_wp2_with fail
       go_roundw
       case rel=>exact ⟨m+1,_,hmq,by first | go_num | (rw [hwi]; go_num),rfl,HNX.out,below_then HB.out (below_a1 _ _)⟩
       case measure=>first | (simp [intOf]; omega) | (rw [hwi]; simp [intOf]; omega)
      ·obtain rfl:m=Q:=by omega
       have hx3 : ¬ (m:Int) < (m:Int):=by omega
       have HNX:Hid (Bs (B3++strOfNums [0]) (fBy i k (i+2 * k+m) ++ [0])):=HL4.out B3 _ HBS.out
       have hc0:=HC1.out 0 (wr.alloc (.cells #[.int .u8 0] 5)) wr.heap.size (heap_alloc_new _ _)
       have hA:=fun w' => HAD.out B3 _ [0] w' HBS.out (HLN.out (i+2 * k+m) (by omega)) (by simp)
       have HB4:Hid (Below w.heap.size w (wr.alloc (.cells #[.int .u8 0] 5))):=below_then HB.out (below_a1 _ _)
       clear hm hmq
       go_wp2_with fail
       refine (HSM.out _).mono ?_
       rintro e w4 ⟨rfl,hb4⟩
       have HB5:Hid (Below w.heap.size w w4):=below_then HB4.out hb4
       clear hb4 hc0 hA
       go_wp2_with fail
       refine (HEN.out _ _ HNX.out HB5.out).mono ?_
       rintro e w5 ⟨u,er,rfl,hbad,hgood,hb5⟩
       have HB6:Hid (Below w.heap.size w w5):=below_then HB5.out hb5
       clear hb5
       by_cases h1:(32:Int) < (m:Int)
       ·obtain ⟨rfl,rfl⟩:=hbad (by omega)
        clear hbad hgood
        go_wp2_with fail
        go_ret
        exact ⟨rfl,below_then HB6.out (below_a1 _ _)⟩
       by_cases h2:(8:Int) < (i:Int)
       ·obtain ⟨rfl,rfl⟩:=hbad (by omega)
        clear hbad hgood
        go_wp2_with fail
        go_ret
        exact ⟨rfl,below_then HB6.out (below_a1 _ _)⟩
       by_cases h3:(16:Int) < (k:Int)
       ·obtain ⟨rfl,rfl⟩:=hbad (by omega)
        clear hbad hgood
        go_wp2_with fail
        go_ret
        exact ⟨rfl,below_then HB6.out (below_a1 _ _)⟩
       obtain ⟨rfl,ua,uc,rfl⟩:=hgood (by omega)
       clear hbad
       go_wp2_with fail
       go_ret
       exact ⟨rfl,below_then HB6.out (below_a1 _ _)⟩
theorem faults_walk (p:Int) (_wp:(Lit.int .i64 p).wf=true) (c:Int) (_wc:(Lit.int .i64 c).wf=true) (t:Int) (_wt:(Lit.int .i64 t).wf=true) {w:World} (hT:Tl.Cd.Tab w) :
  Calls Tryz.prog 5 #[.int .i64 p,.int .i64 c,.int .i64 t] w fun e w' => e = .returned (.bool true)∧Below w.heap.size w w':=by
 by_cases h:p < 0∨60 < p∨c < 0∨20 < c∨t < 0∨40 < t
 ·exact faults_none p c t h
 ·obtain ⟨Q,rfl⟩ : ∃ n:Nat,p=(n:Int):=⟨p.toNat,by omega⟩
  obtain ⟨C,rfl⟩ : ∃ n:Nat,c=(n:Int):=⟨c.toNat,by omega⟩
  obtain ⟨T,rfl⟩ : ∃ n:Nat,t=(n:Int):=⟨t.toNat,by omega⟩
  exact faults_some Q C T (by omega) (by omega) (by omega) hT
end Go.Proofs.YtigfjedohdgjfaaGreatDoor.Pj
