/- Programs as texts of bytes: what stands at a place. -/
import Derived.Test.YtigfjedohdgjfaaGreatDoorJPjAPjOu
import Derived.Test.YtigfjedohdgjfaaGreatDoorCodP
import Derived.Test.YtigfjedohdgjfaaGreatDoorJPjOPjEn
import Derived.Test.YtigfjedohdgjfaaGreatDoorJTxQTxP
namespace Go.Proofs.YtigfjedohdgjfaaGreatDoor.Pj
open Go.RowKit (wrap64)
open Tl (Wn wn0 nth)
open Tl.Cd (atS wdC byt bytesI okI fr atV)
theorem byt_app (a b:ByteArray) (i:Nat):byt (a++b) i=if i < a.size then byt a i else byt b (i - a.size):=by
 unfold byt
 by_cases h:i < a.size
 ·rw [if_pos h]
  have h1:(a++b)[i]? = a[i]?:=by
   rw [getElem?_pos (a++b) i (by rw [ByteArray.size_append]; omega),getElem?_pos a i h,ByteArray.getElem_append_left h]
  rw [h1]
 ·rw [if_neg h]
  by_cases h2:i - a.size < b.size
  ·have h1:(a++b)[i]? = b[i - a.size]?:=by
    rw [getElem?_pos (a++b) i (by rw [ByteArray.size_append]; omega),getElem?_pos b _ h2,ByteArray.getElem_append_right (by omega)]
   rw [h1]
  ·rw [getElem?_neg (a++b) i (by rw [ByteArray.size_append]; omega),getElem?_neg b _ h2]
set_option maxHeartbeats 2000000 in
def Bs (s:ByteArray) (l:List Int):Prop:=s.size=l.length ∧ ∀ i x,l[i]? = some x→(byt s i:Int)=x
theorem bs_app {a b:ByteArray} {l m:List Int} (ha:Bs a l) (hb:Bs b m):Bs (a++b) (l++m):=by
 refine ⟨by rw [ByteArray.size_append,ha.1,hb.1,List.length_append],fun i x hi => ?_⟩
 rw [byt_app]
 by_cases h:i < a.size
 ·rw [if_pos h]
  rw [List.getElem?_append_left (by rw [← ha.1]; exact h)] at hi
  exact ha.2 i x hi
 ·rw [if_neg h]
  rw [List.getElem?_append_right (by rw [← ha.1]; omega),← ha.1] at hi
  exact hb.2 _ x hi
theorem at_bs {s:ByteArray} {l:List Int} (h:Bs s l) (pre post:List Int) (c:Nat) (x:Int) (hl:l=pre++bytesI c x++post) (hok:okI c x):atS s (pre.length:Int)=some (c,x):=by
 have hsz:s.size=pre.length+(1+wdC c)+post.length:=by rw [h.1,hl]; simp [Tl.Cd.bytesI_len]; omega
 unfold atS
 rw [if_neg (by omega)]
 refine Tl.Cd.at_bytes hok (by simp; omega) (fun i hi => ?_)
 have hb:i < (bytesI c x).length:=by rw [Tl.Cd.bytesI_len]; exact hi
 have h1:l[pre.length+i]? = (bytesI c x)[i]?:=by
  rw [hl,List.append_assoc,List.getElem?_append_right (by omega),Nat.add_sub_cancel_left,List.getElem?_append_left hb]
 obtain ⟨z,hz⟩ : ∃ z,(bytesI c x)[i]? = some z:=⟨_,List.getElem?_eq_getElem hb⟩
 rw [hz] at h1 ⊢
 have:=h.2 _ _ h1
 unfold fr
 rw [show ((pre.length:Int)).toNat=pre.length by simp,this]
theorem bs_str (l:List Int) (h : ∀ x ∈ l,0≤x∧x < 256):Bs (strOfNums l) l:=⟨strOfNums_size l,fun i x hi=>Tl.Cd.byt_str l h i x hi⟩
end Go.Proofs.YtigfjedohdgjfaaGreatDoor.Pj
namespace Go.Proofs.YtigfjedohdgjfaaGreatDoor.Pj
open Go.RowKit (wrap64)
open Tl (Wn wn0 nth)
open Tl.Cd (atS wdC byt bytesI okI fr atV)
theorem op_len {j:Jb} {o:Int} : ∀ {cc:Nat},isLoc cc=true→tkC.getD cc 0≤(j.st.length:Int)→(((opV cc o j).st.length:Int)=(j.st.length:Int) - tkC.getD cc 0+ptC.getD cc 0)∧(opV cc o j).rt.length≤j.rt.length+(if cc=26 then 1 else 0)∧(opV cc o j).tl.length=j.tl.length+(if cc=29 then 1 else 0)
 | 1,_,h=>by simp [tkC] at h; simp [opV,tkC,ptC]; try omega
 | 2,_,h=>by simp [tkC] at h; simp [opV,tkC,ptC]; try omega
 | 3,_,h=>by simp [tkC] at h; simp [opV,tkC,ptC]; try omega
 | 4,_,h=>by simp [tkC] at h; simp [opV,tkC,ptC]; try omega
 | 5,_,h=>by simp [tkC] at h; simp [opV,tkC,ptC]; try omega
 | 6,_,h=>by simp [tkC] at h; simp [opV,tkC,ptC]; try omega
 | 7,_,h=>by simp [tkC] at h; simp [opV,tkC,ptC]; try omega
 | 8,_,h=>by simp [tkC] at h; simp [opV,isTwo,tkC,ptC]; try omega
 | 9,_,h=>by simp [tkC] at h; simp [opV,isTwo,tkC,ptC]; try omega
 | 10,_,h=>by simp [tkC] at h; simp [opV,isTwo,tkC,ptC]; try omega
 | 11,_,h=>by simp [tkC] at h; simp [opV,isTwo,tkC,ptC]; try omega
 | 12,_,h=>by simp [tkC] at h; simp [opV,isTwo,tkC,ptC]; try omega
 | 13,_,h=>by simp [tkC] at h; simp [opV,isTwo,tkC,ptC]; try omega
 | 14,_,h=>by simp [tkC] at h; simp [opV,isTwo,tkC,ptC]; try omega
 | 15,_,h=>by simp [tkC] at h; simp [opV,isTwo,tkC,ptC]; try omega
 | 16,_,h=>by simp [tkC] at h; simp [opV,isTwo,tkC,ptC]; try omega
 | 17,_,h=>by simp [tkC] at h; simp [opV,isTwo,tkC,ptC]; try omega
 | 18,_,h=>by simp [tkC] at h; simp [opV,isTwo,tkC,ptC]; try omega
 | 19,_,h=>by simp [tkC] at h; simp [opV,isTwo,tkC,ptC]; try omega
 | 20,_,h=>by simp [tkC] at h; simp [opV,isTwo,tkC,ptC]; try omega
 | 21,_,h=>by simp [tkC] at h; simp [opV,isTwo,tkC,ptC]; try omega
 | 22,_,h=>by simp [tkC] at h; simp [opV,isTwo,tkC,ptC]; try omega
 | 23,_,h=>by simp [tkC] at h; simp [opV,isTwo,tkC,ptC]; try omega
 | 24,_,h=>by simp [tkC] at h; simp [opV,isTwo,tkC,ptC]; try omega
 | 25,_,h=>by simp [tkC] at h; simp [opV,isTwo,tkC,ptC]; try omega
 | 26,_,h=>by simp [tkC] at h; simp [opV,isTwo,tkC,ptC]; try omega
 | 27,_,h=>by simp [tkC] at h; simp [opV,isTwo,tkC,ptC]; try omega
 | 29,_,h=>by simp [tkC] at h; simp [opV,isTwo,tkC,ptC]; try omega
 | 0,h,_=>by simp [isLoc] at h
 | 28,h,_=>by simp [isLoc] at h
 | n+30,h,_=>by simp [isLoc] at h
theorem op_rest {j:Jb} {o:Int} : ∀ {cc:Nat},isLoc cc=true→(opV cc o j).ov=j.ov∧(opV cc o j).cf=j.cf∧(opV cc o j).tx=j.tx∧(opV cc o j).pub=j.pub∧(opV cc o j).code=j.code∧(opV cc o j).nr=j.nr∧(opV cc o j).err=j.err
 | 1,_=>⟨rfl,rfl,rfl,rfl,rfl,rfl,rfl⟩
 | 2,_=>⟨rfl,rfl,rfl,rfl,rfl,rfl,rfl⟩
 | 3,_=>⟨rfl,rfl,rfl,rfl,rfl,rfl,rfl⟩
 | 4,_=>⟨rfl,rfl,rfl,rfl,rfl,rfl,rfl⟩
 | 5,_=>⟨rfl,rfl,rfl,rfl,rfl,rfl,rfl⟩
 | 6,_=>⟨rfl,rfl,rfl,rfl,rfl,rfl,rfl⟩
 | 7,_=>⟨rfl,rfl,rfl,rfl,rfl,rfl,rfl⟩
 | 8,_=>⟨rfl,rfl,rfl,rfl,rfl,rfl,rfl⟩
 | 9,_=>⟨rfl,rfl,rfl,rfl,rfl,rfl,rfl⟩
 | 10,_=>⟨rfl,rfl,rfl,rfl,rfl,rfl,rfl⟩
 | 11,_=>⟨rfl,rfl,rfl,rfl,rfl,rfl,rfl⟩
 | 12,_=>⟨rfl,rfl,rfl,rfl,rfl,rfl,rfl⟩
 | 13,_=>⟨rfl,rfl,rfl,rfl,rfl,rfl,rfl⟩
 | 14,_=>⟨rfl,rfl,rfl,rfl,rfl,rfl,rfl⟩
 | 15,_=>⟨rfl,rfl,rfl,rfl,rfl,rfl,rfl⟩
 | 16,_=>⟨rfl,rfl,rfl,rfl,rfl,rfl,rfl⟩
 | 17,_=>⟨rfl,rfl,rfl,rfl,rfl,rfl,rfl⟩
 | 18,_=>⟨rfl,rfl,rfl,rfl,rfl,rfl,rfl⟩
 | 19,_=>⟨rfl,rfl,rfl,rfl,rfl,rfl,rfl⟩
 | 20,_=>⟨rfl,rfl,rfl,rfl,rfl,rfl,rfl⟩
 | 21,_=>⟨rfl,rfl,rfl,rfl,rfl,rfl,rfl⟩
 | 22,_=>⟨rfl,rfl,rfl,rfl,rfl,rfl,rfl⟩
 | 23,_=>⟨rfl,rfl,rfl,rfl,rfl,rfl,rfl⟩
 | 24,_=>⟨rfl,rfl,rfl,rfl,rfl,rfl,rfl⟩
 | 25,_=>⟨rfl,rfl,rfl,rfl,rfl,rfl,rfl⟩
 | 26,_=>⟨rfl,rfl,rfl,rfl,rfl,rfl,rfl⟩
 | 27,_=>⟨rfl,rfl,rfl,rfl,rfl,rfl,rfl⟩
 | 29,_=>⟨rfl,rfl,rfl,rfl,rfl,rfl,rfl⟩
 | 0,h=>by simp [isLoc] at h
 | 28,h=>by simp [isLoc] at h
 | n+30,h=>by simp [isLoc] at h
theorem op_next {j:Jb} {o:Int} : ∀ {cc:Nat},isLoc cc=true→cc≠24→cc≠25→cc≠27→(opV cc o j).nx=if cc=26 then o else j.nx
 | 1,_,_,_,_=>rfl
 | 2,_,_,_,_=>rfl
 | 3,_,_,_,_=>rfl
 | 4,_,_,_,_=>rfl
 | 5,_,_,_,_=>rfl
 | 6,_,_,_,_=>rfl
 | 7,_,_,_,_=>rfl
 | 8,_,_,_,_=>rfl
 | 9,_,_,_,_=>rfl
 | 10,_,_,_,_=>rfl
 | 11,_,_,_,_=>rfl
 | 12,_,_,_,_=>rfl
 | 13,_,_,_,_=>rfl
 | 14,_,_,_,_=>rfl
 | 15,_,_,_,_=>rfl
 | 16,_,_,_,_=>rfl
 | 17,_,_,_,_=>rfl
 | 18,_,_,_,_=>rfl
 | 19,_,_,_,_=>rfl
 | 20,_,_,_,_=>rfl
 | 21,_,_,_,_=>rfl
 | 22,_,_,_,_=>rfl
 | 23,_,_,_,_=>rfl
 | 24,_,_,_,_=>by contradiction
 | 25,_,_,_,_=>by contradiction
 | 26,_,_,_,_=>rfl
 | 27,_,_,_,_=>by contradiction
 | 29,_,_,_,_=>rfl
 | 0,h,_,_,_=>by simp [isLoc] at h
 | 28,h,_,_,_=>by simp [isLoc] at h
 | n+30,h,_,_,_=>by simp [isLoc] at h
theorem flt_parts {j:Jb} {cc:Nat} {o:Int} (hc:isLoc cc=true) (hf:faultsV j cc o=false):tkC.getD cc 0≤(j.st.length:Int)∧(j.st.length:Int) - tkC.getD cc 0+ptC.getD cc 0≤32∧(cc=26→j.rt.length≠8)∧(cc=29→j.tl.length≠16):=by
 obtain ⟨h1,h2,h3⟩:=loc_le hc
 unfold faultsV effV at hf
 rw [if_pos (by omega)] at hf
 simp only [Bool.or_eq_false_iff,Bool.and_eq_false_iff,decide_eq_false_iff_not] at hf
 obtain ⟨⟨⟨⟨f1,f2⟩,f3⟩,f4⟩,f5⟩:=hf
 exact ⟨by omega,by omega,fun e=>f3.elim (fun h=>absurd e h) id,fun e=>f5.elim (fun h=>absurd e h) id⟩
theorem move_lv {c r:Nat} {j:Jb} {L:List Ac} (h:Lv c r j L) {cc:Nat} {o:Int} (hc:isLoc cc=true) (hf:faultsV j cc o=false):Lv c r (moveV cc o j) L:=by
 obtain ⟨f1,f2,f3,f4⟩:=flt_parts hc hf
 obtain ⟨l1,l2,l3⟩:=op_len (j:=preJ cc j) (o:=o) hc f1
 obtain ⟨r1,r2,r3,r4,r5,_,_⟩:=op_rest (j:=preJ cc j) (o:=o) hc
 have r6:=(op_idle (j:=preJ cc j) (o:=o) hc).1
 have hst:(preJ cc j).st=j.st:=rfl
 have hrt:(preJ cc j).rt=j.rt:=rfl
 have htl:(preJ cc j).tl=j.tl:=rfl
 rw [hst] at l1
 rw [hrt] at l2
 rw [htl] at l3
 refine ⟨r1.trans h.ov, ?_, ?_,r6.trans h.ak,r4.trans h.pb, ?_, ?_, ?_, ?_, ?_, ?_, ?_, ?_,h.ll,h.wd,h.cc⟩
 ·have:=h.go
  unfold overV at this ⊢
  rw [show (moveV cc o j).cf=j.cf from r2]
  exact this
 ·show (opV cc o (preJ cc j)).tx.phase=2
  rw [r3]; exact h.ph
 ·show (opV cc o (preJ cc j)).st.length≤32
  omega
 ·show (opV cc o (preJ cc j)).rt.length≤8
  have:=h.rt
  by_cases e:cc=26
  ·have:=f3 e; rw [if_pos e] at l2; omega
  ·rw [if_neg e] at l2; omega
 ·show (opV cc o (preJ cc j)).tl.length≤16
  have:=h.tl
  by_cases e:cc=29
  ·have:=f4 e; rw [if_pos e] at l3; omega
  ·rw [if_neg e] at l3; omega
 ·show (opV cc o (preJ cc j)).code.size≤512
  rw [r5]; exact h.cd
 ·show r=(opV cc o (preJ cc j)).tx.s
  rw [r3]; exact h.xs
 ·show (opV cc o (preJ cc j)).tx.tb.R = []
  rw [r3]; exact h.xr
 ·show (opV cc o (preJ cc j)).tx.ev.length≤100
  rw [r3]; exact h.xe
 ·show XOk (opV cc o (preJ cc j)).tx
  rw [r3]; exact h.xo
def x0:Out:=doX 1 2 (newTx smallC) [] 0 ⟨1,0,0,0⟩
def x1:Tx:=x0.x
def L1:List Ac:=x0.L
theorem x0_is:x0=⟨x1,L1,3,x0.e,x0.v,true⟩:=by
 have h1:x0.k=3:=by decide
 have h2:x0.y=true:=by decide
 show x0=⟨x0.x,x0.L,3,x0.e,x0.v,true⟩
 rw [← h1,← h2]
theorem new_ok:XOk (newTx smallC):=xok_new (by decide) (by decide) (by decide) (by decide) (by decide) (by decide)
theorem x1_ok:XOk x1∧Wd L1∧L1.length≤1:=by
 obtain ⟨a,b,c,_⟩:=xok_do (c:=1) (r:=2) (t:=0) (a:=⟨1,0,0,0⟩) new_ok (mem_word [] rfl) (by decide) (by unfold W64; decide)
 exact ⟨a,b,c⟩
theorem x1_is:x1.phase=2∧x1.s=2∧x1.tb.R = [] ∧ x1.ev.length≤2:=by decide
end Go.Proofs.YtigfjedohdgjfaaGreatDoor.Pj
namespace Go.Proofs.YtigfjedohdgjfaaGreatDoor.Pj
open Go.RowKit (wrap64)
open Tl (Wn wn0 nth)
open Tl.Cd (atS wdC byt bytesI okI fr atV)
def bytesP (P:List (Nat × Int)):List Int:=P.flatMap fun q=>bytesI q.1 q.2
def posL (P:List (Nat × Int)) (n:Nat):Nat:=(bytesP (P.take n)).length
def stJ (code:ByteArray) (P:List (Nat × Int)):Nat→Jb
 | 0=>newJ smallC code []
 | 1=>bgnJ smallC code [] x1
 | n+2=>match P[n]? with
  | some q=>moveV q.1 q.2 (stJ code P (n+1))
  | none=>endJ 0 (stJ code P (n+1))
def stL:Nat→List Ac
 | 0 => []
 | _+1=>L1
structure Seq (code:ByteArray) (P:List (Nat × Int)):Prop where
 bs:Bs code (bytesP P++bytesI 0 0)
 cd:code.size≤512
 ok : ∀ n q,P[n]? = some q→isLoc q.1=true∧okI q.1 q.2∧q.1≠24∧q.1≠25∧q.1≠27∧(q.1=26→q.2=(posL P (n+1):Int))∧faultsV (stJ code P (n+1)) q.1 q.2=false
theorem ok_bd : ∀ c:Fin 41,-9223372036854775808≤Tl.Cd.loC c.val∧Tl.Cd.hiC c.val≤9223372036854775807:=by decide
theorem oki_bd {c:Nat} {x:Int} (h:okI c x) : -9223372036854775808≤x∧x≤9223372036854775807:=by
 obtain ⟨h1,h2,h3,h4⟩:=h
 have hc:c≤40:=by omega
 have hb:=ok_bd ⟨c,by omega⟩
 have e:((c:Int)).toNat=c:=by simp
 rw [e] at h3 h4
 exact ⟨Int.le_trans hb.1 h3,Int.le_trans h4 hb.2⟩
theorem pos_next {P:List (Nat × Int)} {n:Nat} {q:Nat × Int} (h:P[n]? = some q):posL P (n+1)=posL P n+(1+wdC q.1):=by
 have hn:=(List.getElem?_eq_some_iff.1 h)
 obtain ⟨h1,h2⟩:=hn
 unfold posL bytesP
 rw [List.take_succ_eq_append_getElem h1,List.flatMap_append,List.length_append,h2]
 simp [Tl.Cd.bytesI_len]
theorem pos_le {code:ByteArray} {P:List (Nat × Int)} (h:Seq code P) {n:Nat}:posL P n≤512:=by
 have h1:=h.bs.1
 have h2:=h.cd
 have h3:bytesP P=bytesP (P.take n)++bytesP (P.drop n):=by unfold bytesP; rw [← List.flatMap_append,List.take_append_drop]
 rw [h3,List.length_append,List.length_append] at h1
 unfold posL
 omega
theorem at_seq {code:ByteArray} {P:List (Nat × Int)} (h:Seq code P) {n:Nat} {q:Nat × Int} (hq:P[n]? = some q):atS code (posL P n:Int)=some (q.1,q.2):=by
 obtain ⟨h1,h2⟩:=List.getElem?_eq_some_iff.1 hq
 have e:P=P.take n ++ [q] ++ P.drop (n+1):=by
  rw [List.append_assoc]
  have:=(List.take_append_drop n P).symm
  rw [List.drop_eq_getElem_cons h1,h2] at this
  exact this
 refine at_bs h.bs (bytesP (P.take n)) (bytesP (P.drop (n+1))++bytesI 0 0) q.1 q.2 ?_ (h.ok n q hq).2.1
 have:bytesP P=bytesP (P.take n)++bytesI q.1 q.2++bytesP (P.drop (n+1)):=by
  conv=>lhs; rw [e]
  unfold bytesP
  rw [List.flatMap_append,List.flatMap_append]
  simp
 rw [this]
 simp [List.append_assoc]
theorem at_end {code:ByteArray} {P:List (Nat × Int)} (h:Seq code P):atS code (posL P P.length:Int)=some (0,0):=by
 refine at_bs h.bs (bytesP (P.take P.length)) [] 0 0 ?_ (by decide)
 rw [List.take_length]
 simp
theorem small_over (code:ByteArray):overV (newJ smallC code []) 1 2=true:=by
 unfold overV
 show (decide ((2:Int)=smallC.ring) && decide ((Tl.Pc.cellsV smallC).1≤(1:Int)))=true
 decide
theorem bgn_lv {code:ByteArray} (hc:code.size≤512):Lv 1 2 (bgnJ smallC code [] x1) L1:=by
 obtain ⟨p1,p2,p3,p4⟩:=x1_is
 obtain ⟨q1,q2,q3⟩:=x1_ok
 have hp:(bgnJ smallC code [] x1).pub=false:=by
  show (false || decide (x1.phase=5))=false
  rw [p1]; decide
 exact ⟨rfl,small_over code,p1,rfl,hp,by show 0≤32; omega,by show 0≤8; omega,by show 0≤16; omega,hc,p2.symm,p3,by show x1.ev.length≤100; omega,q1,by omega,q2,by omega⟩
theorem seq_inv {code:ByteArray} {P:List (Nat × Int)} (h:Seq code P) : ∀ n,n≤P.length→Lv 1 2 (stJ code P (n+1)) L1∧(stJ code P (n+1)).pl=(posL P n:Int)∧(stJ code P (n+1)).code=code∧(stJ code P (n+1)).nr=1
 | 0,_=>⟨bgn_lv h.cd,rfl,rfl,rfl⟩
 | n+1,hn=>by
  obtain ⟨i1,i2,i3,i4⟩:=seq_inv h n (by omega)
  obtain ⟨q,hq⟩ : ∃ q,P[n]? = some q:=⟨_,List.getElem?_eq_getElem (by omega)⟩
  obtain ⟨o1,o2,o3,o4,o5,o6,o7⟩:=h.ok n q hq
  have e:stJ code P (n+1+1)=moveV q.1 q.2 (stJ code P (n+1)):=by simp only [stJ,hq]
  rw [e]
  obtain ⟨_,_,_,_,r5,r6,_⟩:=op_rest (j:=preJ q.1 (stJ code P (n+1))) (o:=q.2) o1
  refine ⟨move_lv i1 o1 o7, ?_,r5.trans i3,r6.trans i4⟩
  show (opV q.1 q.2 (preJ q.1 (stJ code P (n+1)))).nx=_
  rw [op_next o1 o3 o4 o5]
  by_cases hc:q.1=26
  ·rw [if_pos hc]; exact o6 hc
  ·rw [if_neg hc]
   show wrap64 ((stJ code P (n+1)).pl+((1+wdC q.1:Nat):Int))=_
   rw [i2,pos_next hq]
   have:=pos_le h (n:=n+1)
   rw [pos_next hq] at this
   unfold wrap64
   omega
theorem flt_commit {c r:Nat} {j:Jb} {L:List Ac} (h:Lv c r j L):faultsV j 0 0=false:=by
 have:=h.st
 simp [faultsV,effV,tkC,ptC]
 omega
theorem seq_run {code:ByteArray} {P:List (Nat × Int)} (h:Seq code P):RunD code (P.length+2) (stJ code P) stL:=by
 refine ⟨rfl,rfl,fun i hi => ?_,fun i hi => ?_⟩
 ·intro w base X p F y hj hb hT
  match i,hi,hj with
  | 0,_,hj =>
   have hd:doX 1 2 (newTx smallC) [] 0 ⟨1,0,0,0⟩=⟨x1,L1,3,x0.e,x0.v,true⟩:=x0_is
   refine (step_first (c:=1) (r:=2) hj hb (by omega) (small_over code) new_ok 0 hd).mono ?_
   rintro e w' ⟨rfl,q⟩
   exact ⟨_,rfl,q⟩
  | n+1,hi,hj =>
   obtain ⟨i1,i2,i3,i4⟩:=seq_inv h n (by omega)
   by_cases hn:n < P.length
   ·obtain ⟨q,hq⟩ : ∃ q,P[n]? = some q:=⟨_,List.getElem?_eq_getElem hn⟩
    obtain ⟨o1,o2,o3,o4,o5,o6,o7⟩:=h.ok n q hq
    have e:stJ code P (n+1+1)=moveV q.1 q.2 (stJ code P (n+1)):=by simp only [stJ,hq]
    rw [e]
    have hat:atS (stJ code P (n+1)).code (stJ code P (n+1)).pl=some (q.1,q.2):=by rw [i3,i2]; exact at_seq h hq
    refine (step_move hj hb hT i1 hat o1 o7 (oki_bd o2) 0).mono ?_
    rintro e w' ⟨rfl,q⟩
    exact ⟨_,rfl,q⟩
   ·have hn2:n=P.length:=by omega
    subst hn2
    have e:stJ code P (P.length+1+1)=endJ 0 (stJ code P (P.length+1)):=by simp [stJ]
    rw [e]
    have hat:atS (stJ code P (P.length+1)).code (stJ code P (P.length+1)).pl=some (0,0):=by rw [i3,i2]; exact at_end h
    refine (step_commit hj hb hT i1 hat (flt_commit i1) (by decide) 0).mono ?_
    rintro e w' ⟨rfl,q⟩
    exact ⟨_,rfl,q⟩
 ·match i,hi with
  | 0,_ =>
   rw [decide_eq_false (by omega)]
   exact (seq_inv h 0 (by omega)).1.ov
  | n+1,hi =>
   by_cases hn:n < P.length
   ·rw [decide_eq_false (by omega)]
    exact (seq_inv h (n+1) (by omega)).1.ov
   ·have hn2:n=P.length:=by omega
    subst hn2
    rw [decide_eq_true rfl]
    have e:stJ code P (P.length+1+1)=endJ 0 (stJ code P (P.length+1)):=by simp [stJ]
    rw [e]
    rfl
end Go.Proofs.YtigfjedohdgjfaaGreatDoor.Pj
