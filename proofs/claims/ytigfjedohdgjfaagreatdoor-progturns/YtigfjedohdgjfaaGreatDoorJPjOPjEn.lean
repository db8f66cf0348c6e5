/- What ProgNil calls: a memory that may be or not, a job over it. -/
import Derived.Test.YtigfjedohdgjfaaGreatDoorJPjAPjOu
import Derived.Test.YtigfjedohdgjfaaGreatDoorJCoMPgR
import Derived.Test.YtigfjedohdgjfaaGreatDoorPcE
import Derived.Test.YtigfjedohdgjfaaGreatDoorJMemCAns
namespace Go.Proofs.YtigfjedohdgjfaaGreatDoor.Pj
open Go.ChangeShapes Go.WideShapes Go.ChangeAt Go.RowKit
open Tl (Wn wn0 nth numC Nl)
attribute [local go_sem ↓] Go.wp_at_zero Go.wp_at_succ
theorem pnew_on {w:World} {base:Nat} (hbase:base≤w.heap.size) {v:Value} {c:Tl.Pc.Cf} (h:Tl.Pc.CfV w v c) (code:ByteArray) {va:Value} {l:List Int} (ha:Nl w va l) (hn:Tl.Pc.okC c=true) (hc:code.size≤512) (hl:l.length≤4) :
  Calls Tryz.prog 11 #[v,.string code,va] w fun e w' => ∃ X y,e = .returned (.tuple #[.pointer (some ⟨X,0,none⟩),.int .i64 0])∧JAt' w' base X (newJ c code l) y∧(∀ q ∈ fl y X,w.heap.size≤q)∧Below w.heap.size w w':=by
 refine (Tl.Pg.new_yes (T:=fun X w' => ∃ y,JAt' w' base X (newJ c code l) y∧(∀ q ∈ fl y X,w.heap.size≤q)∧Below w.heap.size w w') h code ha hn hc hl ?_).mono ?_
 ·intro w1 X rv av hX hrv hav hd1 hd2 hx hsz hb
  refine (newTry_raw (base:=base) (Nat.le_trans hbase hb.size) hx hn (by omega)).mono ?_
  rintro e w2 ⟨T,G,rfl,hr,hT,hG,hk⟩
  have hrl : ∀ q ∈ bl rv,q < X:=fun q hq=>(hd1 q (by simpa using hq)).1
  have hal : ∀ q ∈ bl av,q < X:=fun q hq=>hd2 q (by simpa using hq)
  have hrb : ∀ q ∈ bl rv,w.heap.size≤q:=fun q hq=>(own_lt hrv q hq).1
  have hab : ∀ q ∈ bl av,w.heap.size≤q:=fun q hq=>(own_lt hav q hq).1
  refine ⟨rfl,⟨T,rv,av,.slice none 0 0,.slice none 0 0,.slice none 0 0,.slice none 0 0,.nilIface,[],G⟩,⟨hr,own_kp (own_base hrv hbase) hk (fun q hq => ?_),own_kp (own_base hav hbase) hk (fun q hq => ?_),World.ownsRow_nil _ _ _ _,World.ownsRow_nil _ _ _ _,World.ownsRow_nil _ _ _ _,World.ownsRow_nil _ _ _ _,⟨rfl,rfl⟩,hT, ?_,Nat.le_trans hbase hX⟩, ?_,hb.trans (hk.below hb.size (by simpa using hX))⟩
  ·have:=hrl q hq; simp; omega
  ·have:=hal q hq; simp; omega
  ·have g1 : ∀ q ∈ G,X < q:=fun q hq=>by have:=hG q hq; omega
   have g2 : ∀ q ∈ bl rv,q ∉ bl av:=fun q hq hq2=>(hd1 q (by simpa using hq)).2 (by simpa using hq2)
   have e0:bl (.slice none 0 0) = []:=rfl
   simp only [Jv.segs,e0]
   clear hrb hab
   generalize bl rv=A at *
   generalize bl av=B at *
   have hXA:X ∉ A:=fun h=>by have:=hrl X h; omega
   have hXB:X ∉ B:=fun h=>by have:=hal X h; omega
   have hXG:X ∉ G:=fun h=>by have:=g1 X h; omega
   have hAG : ∀ q ∈ A,q ∉ G:=fun q h1 h2=>by have:=hrl q h1; have:=g1 q h2; omega
   have hBG : ∀ q ∈ B,q ∉ G:=fun q h1 h2=>by have:=hal q h1; have:=g1 q h2; omega
   clear hrl hal g1 hr hT hG hk hrv hav hd1 hd2 hx
   simp [Dj,hXA,hXB,hXG]
   exact ⟨⟨g2,hAG⟩,hBG⟩
  ·intro q hq
   obtain ⟨s,hs,hqs⟩:=mem_fl.1 hq
   simp only [Jv.segs,List.mem_cons,List.not_mem_nil,or_false] at hs
   rcases hs with rfl | rfl | rfl | rfl | rfl | rfl | rfl | rfl | rfl
   ·simp at hqs; omega
   ·exact hrb q hqs
   ·exact hab q hqs
   ·simp [Value.ownBlock] at hqs
   ·simp [Value.ownBlock] at hqs
   ·simp [Value.ownBlock] at hqs
   ·simp [Value.ownBlock] at hqs
   ·simp at hqs
   ·have:=hG q hqs; have:=hb.size; omega
 ·rintro e w' ⟨X,rfl,y,h1,h2,h3⟩
  exact ⟨X,y,rfl,h1,h2,h3⟩
def rightV (cf:Tl.Pc.Cf) (cs ri:Int):Bool:=takes cs ri && (decide (ri=cf.ring) && decide ((Tl.Pc.cellsV cf).1≤cs))
end Go.Proofs.YtigfjedohdgjfaaGreatDoor.Pj
namespace Go.Proofs.YtigfjedohdgjfaaGreatDoor.Pj
open Go.ChangeShapes Go.WideShapes Go.ChangeAt Go.RowKit
open Tl (Wn wn0 nth numC Nl)
attribute [local go_sem ↓] Go.wp_at_zero Go.wp_at_succ
def smallC:Tl.Pc.Cf:=⟨1,2,4,9,false,2,[]⟩
structure RunD (code:ByteArray) (k:Nat) (js:Nat→Jb) (Ls:Nat→List Ac):Prop where
 j0:js 0=newJ smallC code []
 l0:Ls 0 = []
 st : ∀ i, i < k → ∀ {w : World} {base X : Nat} {p : Value} {F : List Nat} {y : Jv}, JW w base p 1 2 (Ls i) F X (js i) y → base ≤ w.heap.size → Tl.Cd.Tab w → Calls Tryz.prog 14 #[.pointer (some ⟨X, 0, none⟩), p, .int .i64 0] w fun e w' => ∃ a, e = .returned a ∧ ∃ y' F', JW w' base p 1 2 (Ls (i + 1)) F' X (js (i + 1)) y' ∧ Next (fl y X ++ F) (fl y' X ++ F') w w'
 ov : ∀ i,i < k→(js (i+1)).ov=decide (i+1=k)
set_option maxRecDepth 10000 in
set_option maxHeartbeats 2000000 in
theorem ends_any {w:World} (hT:Tl.Cd.Tab w) (code:ByteArray) (hc:code.size≤512) {k:Nat} {js:Nat→Jb} {Ls:Nat→List Ac} (hr:RunD code k js Ls) (hk:1≤k) (steps:Nat) (hs:k≤steps) (hs2:steps≤1000) (hg:(js k).tl.length≤1000 ∧ ∀ x ∈ (js k).tl,Tl.Sx x) :
  Calls Tryz.prog 7 #[.agg #[.int .i64 1,.int .i64 2,.int .i64 4,.int .i64 9,.bool false,.int .i64 2,.slice none 0 0],.string code,.slice none 0 0,.int .i64 (steps:Int)] w fun e w' => ∃ u,e = .returned (.tuple #[.agg #[.int .i64 (js k).nr,.int .i64 (js k).err,u],.bool true])∧((js k).err=0→w'.ownsRow w.heap.size 2 1 u (js k).tl.length (numC (js k).tl))∧((js k).err≠0→u = .slice none 0 0)∧Below w.heap.size w w':=by
 have hcf:Tl.Pc.CfV w (.agg #[.int .i64 1,.int .i64 2,.int .i64 4,.int .i64 9,.bool false,.int .i64 2,.slice none 0 0]) smallC:=⟨.slice none 0 0,rfl,none,0,rfl,by simp [smallC],by simp [smallC],by simp,Or.inl rfl⟩
 have hok:Tl.Pc.okC smallC=true:=by decide
 have HNW:Hid (∀ w':World,Below w.heap.size w w'→Calls Tryz.prog 11 #[.agg #[.int .i64 1,.int .i64 2,.int .i64 4,.int .i64 9,.bool false,.int .i64 2,.slice none 0 0],.string code,.slice none 0 0] w' fun e w'' => ∃ X y,e = .returned (.tuple #[.pointer (some ⟨X,0,none⟩),.int .i64 0])∧JAt' w'' w.heap.size X (js 0) y∧(∀ q ∈ fl y X,w'.heap.size≤q)∧Below w'.heap.size w' w''):=fun w' hb=>by
  rw [hr.j0]
  exact pnew_on hb.size (hcf.later hb (Nat.le_refl _)) code Nl.nil hok hc (by simp)
 have HRC:Hid (∀ w':World,Below w.heap.size w w'→Calls Tryz.prog 12 #[.agg #[.int .i64 1,.int .i64 2,.int .i64 4,.int .i64 9,.bool false,.int .i64 2,.slice none 0 0]] w' fun e w'' => e = .returned (.tuple #[.int .i64 1,.int .i64 0])∧Below w'.heap.size w' w''):=fun w' hb=>by
  have:=Tl.Pc.rcells_any (hcf.later hb (Nat.le_refl _))
  rw [show Tl.Pc.cellsV smallC=(1,0) by decide] at this
  exact this
 have HMN:Hid (∀ w':World,Below w.heap.size w w'→Calls Tryz.prog 13 #[.int .i64 1,.int .i64 2] w' fun e w'' => ∃ M F,e = .returned (.tuple #[.pointer (some ⟨M,0,none⟩),.int .i64 0])∧MemAt w'' w.heap.size (.pointer (some ⟨M,0,none⟩)) 1 2 [] F∧(∀ q ∈ F,w'.heap.size≤q)∧Below w'.heap.size w' w''):=fun w' hb=>by
  refine (new_yes w' 1 2 (by decide) (by decide)).mono ?_
  rintro e w'' ⟨p,F,rfl,_,hm,hb2⟩
  have hm2:=hm
  obtain ⟨M,_,_,_,_,hm'⟩:=hm2
  have hp:=hm'.p
  subst hp
  exact ⟨M,F,rfl,Co.memAt_low hm hb.size,fun q hq=>(hm.lt q hq).1,hb2⟩
 have HST:Hid (RunD code k js Ls):=hr
 have HG:Hid ((js k).tl.length≤1000 ∧ ∀ x ∈ (js k).tl,Tl.Sx x):=hg
 have HT:Hid (Tl.Cd.Tab w):=hT
 have HP:Hid (1 < w.heap.size∧0 < w.heap.size):=hT.pos
 clear hcf hok hr hg hT
 go_enter Tryz.func7,Tryz.ntmps7
 go_wp2_with fail
 refine (HNW.out _ (below_then (below_a1 _ _) (below_a1 _ _))).mono ?_
 rintro e w1 ⟨X,y,rfl,hJ,hy,hb1⟩
 have HJ1:Hid (JAt' w1 w.heap.size X (js 0) y):=hJ
 have HY:Hid (∀ q ∈ fl y X,w.heap.size+1+1≤q):=fun q hq=>by have h9:=hy q hq; simpa using h9
 have hR1:w1.heap[w.heap.size]? = some (.cells #[.int .i64 1,.int .i64 2,.int .i64 4,.int .i64 9,.bool false,.int .i64 2,.slice none 0 0] 32 (0,0)):=row_on (Tl.row_next1 (Below.refl _ _)) hb1
 have hO1:w1.heap[w.heap.size+1]? = some (.cells #[.int .i64 0,.int .i64 0,.slice none 0 0] 27 (0,0)):=row_on (heap_alloc2_new _ _ _) hb1
 have HB1:Hid (Below w.heap.size w w1):=below_then (below_then (below_a1 _ _) (below_a1 _ _)) hb1
 have HR1:Hid (w1.heap[w.heap.size]? = some (.cells #[.int .i64 1,.int .i64 2,.int .i64 4,.int .i64 9,.bool false,.int .i64 2,.slice none 0 0] 32 (0,0))):=hR1
 have HO1:Hid (w1.heap[w.heap.size+1]? = some (.cells #[.int .i64 0,.int .i64 0,.slice none 0 0] 27 (0,0))):=hO1
 obtain ⟨k0,k1,k2,k3,k4,k5,k6⟩:=Tl.Pg.cf7 hR1
 have lc:=heap_lt hR1
 clear hJ hy hb1 hR1 hO1 HNW
 go_wp2_with fail
 refine (HRC.out _ HB1.out).mono ?_
 rintro e w2 ⟨rfl,hb2⟩
 have HJ2:Hid (JAt' w2 w.heap.size X (js 0) y):=HJ1.out.blw hb2
 have hR2:=row_on HR1.out hb2
 have HO2:Hid (w2.heap[w.heap.size+1]? = some (.cells #[.int .i64 0,.int .i64 0,.slice none 0 0] 27 (0,0))):=row_on HO1.out hb2
 have HB2:Hid (Below w.heap.size w w2):=below_then HB1.out hb2
 have hle:w1.heap.size≤w2.heap.size:=hb2.size
 clear hb2 k0 k1 k2 k3 k4 k5 k6 lc HR1 HO1 HRC
 obtain ⟨k0,k1,k2,k3,k4,k5,k6⟩:=Tl.Pg.cf7 hR2
 have lc:=heap_lt hR2
 clear hR2
 go_wp2_with fail
 refine (HMN.out _ HB2.out).mono ?_
 rintro e w3 ⟨M,F,rfl,hm,hF,hb3⟩
 have HW3:Hid (JW w3 w.heap.size (.pointer (some ⟨M,0,none⟩)) 1 2 (Ls 0) F X (js 0) y):=by
  unfold Hid
  rw [HST.out.l0]
  refine ⟨hm,HJ2.out.blw hb3,fun q hq hq2 => ?_⟩
  obtain ⟨s,hs1,h2⟩:=mem_fl.1 hq
  have h3:=(HJ2.out.lt s hs1 q h2).2
  have h4:=hF q hq2
  omega
 have HO3:Hid (w3.heap[w.heap.size+1]? = some (.cells #[.int .i64 0,.int .i64 0,.slice none 0 0] 27 (0,0))):=row_on HO2.out hb3
 have HB3:Hid (Below w.heap.size w w3):=below_then HB2.out hb3
 have HN3:Hid (∀ q ∈ fl y X++F,w.heap.size+1+1≤q):=fun q hq=>by
  rcases List.mem_append.1 hq with h1 | h1
  ·exact HY.out q h1
  ·have:=hF q h1
   have:=heap_lt HO2.out
   omega
 clear hm hF hb3 k0 k1 k2 k3 k4 k5 k6 lc HJ1 HJ2 HB1 HB2 HO2 HMN hle
 have HT3:Hid (Tl.Cd.Tab w3):=HT.out.later HB3.out
 clear HT HY
 go_wp2_with fail
 go_loopw [16] (fun iv wr => ∃ (i : Nat) (y' : Jv) (F' : List Nat), i < k ∧ iv = .int .i64 (i : Int) ∧ JW wr w.heap.size (.pointer (some ⟨M, 0, none⟩)) 1 2 (Ls i) F' X (js i) y' ∧ Tl.Cd.Tab wr ∧ (∀ q ∈ fl y' X ++ F', w.heap.size + 1 + 1 ≤ q) ∧ wr.heap[w.heap.size + 1]? = some (.cells #[.int .i64 0, .int .i64 0, .slice none 0 0] 27 (0, 0)) ∧ Below w.heap.size w wr) (fun iv _ => k - (intOf iv).toNat)
 case atStart=>exact ⟨0,y,F,by omega,rfl,HW3.out,HT3.out,HN3.out,HO3.out,HB3.out⟩
 case round =>
  obtain ⟨i,y1,F1,hi,rfl,hjw,ht,hn,ho,hb⟩:=hrel
  clear HW3 HT3 HN3 HO3 HB3
  have hx1:(i:Int) < (steps:Int):=by omega
  have HSTEP : Hid (Calls Tryz.prog 14 #[.pointer (some ⟨X, 0, none⟩), .pointer (some ⟨M, 0, none⟩), .int .i64 0] wr fun e w' => ∃ a, e = .returned a ∧ ∃ y' F', JW w' w.heap.size (.pointer (some ⟨M, 0, none⟩)) 1 2 (Ls (i + 1)) F' X (js (i + 1)) y' ∧ Next (fl y1 X ++ F1) (fl y' X ++ F') wr w') := HST.out.st i hi hjw hb.size ht
  have HOV:Hid ((js (i+1)).ov=decide (i+1=k)):=HST.out.ov i hi
  have HI:Hid (JW wr w.heap.size (.pointer (some ⟨M,0,none⟩)) 1 2 (Ls i) F1 X (js i) y1∧Tl.Cd.Tab wr∧(∀ q ∈ fl y1 X++F1,w.heap.size+1+1≤q)∧wr.heap[w.heap.size+1]? = some (.cells #[.int .i64 0,.int .i64 0,.slice none 0 0] 27 (0,0))∧Below w.heap.size w wr):=⟨hjw,ht,hn,ho,hb⟩
  clear hjw ht hn ho hb
  go_wp2_with fail
  refine HSTEP.out.mono ?_
  rintro e w4 ⟨a,rfl,y2,F2,q1,n1⟩
  obtain ⟨i1,i2,i3,i4,i5⟩:=HI.out
  have hT4:Tl.Cd.Tab w4:=tab_next i2 HP.out.1 HP.out.2 n1 i1.ge
  have hO4:=(n1.1.block _ (heap_lt i4) (fun hq=>by have:=i3 _ hq; omega)).trans i4
  have hN4 : ∀ q ∈ fl y2 X++F2,w.heap.size+1+1≤q:=fun q hq=>by
   rcases n1.2 q hq with h1 | h1
   ·exact i3 q h1
   ·have:=heap_lt i4; omega
  have hB4:Below w.heap.size w w4:=i5.trans (n1.1.below i5.size (fun b hb=>by have:=i3 b hb; omega))
  have HI4:Hid (JW w4 w.heap.size (.pointer (some ⟨M,0,none⟩)) 1 2 (Ls (i+1)) F2 X (js (i+1)) y2∧Tl.Cd.Tab w4∧(∀ q ∈ fl y2 X++F2,w.heap.size+1+1≤q)∧w4.heap[w.heap.size+1]? = some (.cells #[.int .i64 0,.int .i64 0,.slice none 0 0] 27 (0,0))∧Below w.heap.size w w4):=⟨q1,hT4,hN4,hO4,hB4⟩
  clear q1 n1 i1 i2 i3 i4 i5 hT4 hO4 hN4 hB4 HI HSTEP
  by_cases hik:i+1=k
  ·have hov:(js k).ov=true:=by rw [← hik,HOV.out,decide_eq_true hik]
   have hjk:JAt' w4 w.heap.size X (js k) y2:=by rw [← hik]; exact HI4.out.1.job
   have HOUT:Hid (Calls Tryz.prog 15 #[.pointer (some ⟨X,0,none⟩)] w4 fun e w' => ∃ ua un uc,e = .returned (.tuple #[.agg #[.int .i64 (js k).nr,.int .i64 (js k).err,.slice ua un uc],.bool true])∧((js k).err=0→w'.ownsRow w4.heap.size 2 1 (.slice ua un uc) (js k).tl.length (numC (js k).tl))∧((js k).err≠0→Value.slice ua un uc = .slice none 0 0)∧Below w4.heap.size w4 w'):=by
    by_cases he:(js k).err=0
    ·refine (outcome_good hjk hov he HG.out.1 HG.out.2).mono ?_
     rintro e w' ⟨u,rfl,ho,hb⟩
     obtain ⟨ua,uc,rfl⟩:=own_slice ho
     exact ⟨_,_,_,by rw [he],fun _=>ho,fun h=>absurd he h,hb⟩
    ·refine (outcome_bad hjk hov he).mono ?_
     rintro e w' ⟨rfl,hb⟩
     exact ⟨_,_,_,rfl,fun h=>absurd h he,fun _=>rfl,hb⟩
   clear hov hjk HOV HG HST
   go_wp2_with fail
   refine HOUT.out.mono ?_
   rintro e w5 ⟨ua,un,uc,rfl,hu1,hu2,hb5⟩
   have hO5:=row_on HI4.out.2.2.2.1 hb5
   have HO5:Hid (w5.heap[w.heap.size+1]? = some (.cells #[.int .i64 0,.int .i64 0,.slice none 0 0] 27 (0,0))):=hO5
   have HU:Hid (((js k).err=0→w5.ownsRow w4.heap.size 2 1 (.slice ua un uc) (js k).tl.length (numC (js k).tl))∧((js k).err≠0→Value.slice ua un uc = .slice none 0 0)∧Below w.heap.size w w5∧w.heap.size+1 < w4.heap.size):=⟨hu1,hu2,below_then HI4.out.2.2.2.2 hb5,heap_lt HI4.out.2.2.2.1⟩
   have z0:w5.cell? ⟨w.heap.size+1,0,none⟩=some (.int .i64 0):=(cell_at hO5 0).trans rfl
   have z1:w5.cell? ⟨w.heap.size+1,1,none⟩=some (.int .i64 0):=(cell_at hO5 1).trans rfl
   have z2:w5.cell? ⟨w.heap.size+1,2,none⟩=some (.slice none 0 0):=(cell_at hO5 2).trans rfl
   have fz:=frozen_at hO5
   have lz:=heap_lt hO5
   clear hO5 hu1 hu2 hb5 HI4 HOUT
   go_wp2_with fail
   obtain ⟨u1,u2,u3,u4⟩:=HU.out
   have r1:=heap_set (heap_set (heap_set HO5.out 0 (.int .i64 (js k).nr)) 1 (.int .i64 (js k).err)) 2 (.slice ua un uc)
   have kk:Keep [w.heap.size+1] w5 (((w5.setCell ⟨w.heap.size+1,0,none⟩ (.int .i64 (js k).nr)).setCell ⟨w.heap.size+1,1,none⟩ (.int .i64 (js k).err)).setCell ⟨w.heap.size+1,2,none⟩ (.slice ua un uc)):=(((Keep.refl _ w5).setCell _ _ (Or.inl (by simp))).setCell _ _ (Or.inl (by simp))).setCell _ _ (Or.inl (by simp))
   have hbb:=Tl.Cd.below_set (Tl.Cd.below_set (Tl.Cd.below_set u3 (w.heap.size+1) 0 (.int .i64 (js k).nr) (Nat.le_succ _)) (w.heap.size+1) 1 (.int .i64 (js k).err) (Nat.le_succ _)) (w.heap.size+1) 2 (.slice ua un uc) (Nat.le_succ _)
   have hrow:(((w5.setCell ⟨w.heap.size+1,0,none⟩ (.int .i64 (js k).nr)).setCell ⟨w.heap.size+1,1,none⟩ (.int .i64 (js k).err)).setCell ⟨w.heap.size+1,2,none⟩ (.slice ua un uc)).heap[w.heap.size+1]? = some (.cells #[.int .i64 (js k).nr,.int .i64 (js k).err,.slice ua un uc] 27 (0,0)):=by simpa using r1
   generalize (((w5.setCell ⟨w.heap.size+1,0,none⟩ (.int .i64 (js k).nr)).setCell ⟨w.heap.size+1,1,none⟩ (.int .i64 (js k).err)).setCell ⟨w.heap.size+1,2,none⟩ (.slice ua un uc))=W at *
   refine ret_o2 (cs:=#[.int .i64 (js k).nr,.int .i64 (js k).err,.slice ua un uc]) rfl rfl (row_on hrow (below_a1 _ _)) rfl rfl ⟨_,rfl,fun h => ?_,u2,below_then hbb (below_a1 _ _)⟩
   refine (Tl.own_base (base':=w.heap.size) (own_keep (u1 h) kk (fun b hb hm => ?_)) (by omega)).alloc _
   have h1:=((u1 h).lt b hb).1
   simp at hm
   omega
  ·have hov:(js (i+1)).ov=false:=by rw [HOV.out,decide_eq_false hik]
   have HOUT:Hid (Calls Tryz.prog 15 #[.pointer (some ⟨X,0,none⟩)] w4 fun e w' => e = .returned (.tuple #[.agg #[.int .i64 0,.int .i64 0,.slice none 0 0],.bool false])∧Below w4.heap.size w4 w'):=outcome_off HI4.out.1.job hov
   clear hov HOV
   go_wp2_with fail
   refine HOUT.out.mono ?_
   rintro e w5 ⟨rfl,hb5⟩
   have HB5:Hid (Below w4.heap.size w4 w5):=hb5
   clear hb5 HOUT
   go_wp2_with fail
   go_roundw
   case rel =>
    obtain ⟨i1,i2,i3,i4,i5⟩:=HI4.out
    have hb6:=below_then HB5.out (below_a1 w5 (.cells #[.int .i64 0,.int .i64 0,.slice none 0 0] 27))
    exact ⟨i+1,y2,F2,by omega,by go_num,i1.below hb6,i2.later hb6,i3,row_on i4 hb6,below_then i5 hb6⟩
   case measure=>simp [intOf]; omega
end Go.Proofs.YtigfjedohdgjfaaGreatDoor.Pj
