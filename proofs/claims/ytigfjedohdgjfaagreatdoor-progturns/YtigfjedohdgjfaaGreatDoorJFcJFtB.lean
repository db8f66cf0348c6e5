/- The program's machine of layer 8 beside a memory, whatever the ring's size; above what was there, beside rows that are kept. -/
import Derived.Test.YtigfjedohdgjfaaGreatDoorJFcCFcD
import Derived.Test.YtigfjedohdgjfaaGreatDoorJMemFMemN
import Derived.Test.YtigfjedohdgjfaaGreatDoorJSigPSigU
import Derived.RegionTactic
import Derived.BigRegion
namespace Go.Proofs.YtigfjedohdgjfaaGreatDoor.Fe
open Go.ChangeShapes Go.WideShapes Go.ChangeAt Go.RowKit
attribute [local go_sem ↓] Go.wp_at_zero Go.wp_at_succ
def Gd (L:List Ac):Prop:=∀ a,W64 (wordOf L a)
def nextK (r:Nat) (P:Cp) (b:Ck) (L:List Ac):Ck:=if goesK r P b then stepK P b (wordOf L (adK P b)) else b
def nextKL (c r:Nat) (P:Cp) (b:Ck) (L:List Ac) (t:Int):List Ac:=if goesK r P b then loadL c r L t (adK P b) else L
def ansKK (r:Nat) (P:Cp) (b:Ck) (L:List Ac):Int:=if goesK r P b then kindK P b (wordOf L (adK P b)) else 0
def errKK (r:Nat) (P:Cp) (b:Ck) (L:List Ac):Int:=if goesK r P b then errK P b (wordOf L (adK P b)) else 0
theorem goesK_iff {r:Nat} {P:Cp} {b:Ck}:goesK r P b=true ↔ ¬ thr b∧r=P.s:=by unfold goesK thr; simp
structure KS (w:World) (base:Nat) (p:Value) (c r:Nat) (L:List Ac) (F:List Nat) (X:Nat) (P:Cp) (b:Ck):Prop where
 mem:MemAt w base p c r L F
 at_:KAt w X P b
 out:X ∉ F
 lo:base≤X
theorem KS.lt {w:World} {base:Nat} {p:Value} {c r:Nat} {L:List Ac} {F:List Nat} {X:Nat} {P:Cp} {b:Ck} (h:KS w base p c r L F X P b) : ∀ q ∈ X :: F,base≤q∧q < w.heap.size:=fun q hq=>by
 rcases List.mem_cons.1 hq with rfl | hq
 ·exact ⟨h.lo,heap_lt h.at_⟩
 ·exact h.mem.lt q hq
theorem KS.keep {w w':World} {base:Nat} {p:Value} {c r:Nat} {L:List Ac} {F G:List Nat} {X:Nat} {P:Cp} {b:Ck} (h:KS w base p c r L F X P b) (k:Keep G w w') (hd : ∀ q ∈ X :: F,q ∉ G):KS w' base p c r L F X P b :=
 ⟨h.mem.keep k (fun q hq=>hd q (by simp [hq])),h.at_.keep k (hd X (by simp)),h.out,h.lo⟩
theorem KS.below {w w':World} {base:Nat} {p:Value} {c r:Nat} {L:List Ac} {F:List Nat} {X:Nat} {P:Cp} {b:Ck} (h:KS w base p c r L F X P b) (hb:Below w.heap.size w w'):KS w' base p c r L F X P b:=h.keep (Keep.of_below hb []) (fun _ _=>by simp)
end Go.Proofs.YtigfjedohdgjfaaGreatDoor.Fe
namespace Go.Proofs.YtigfjedohdgjfaaGreatDoor.Fe
open Go.ChangeShapes Go.WideShapes Go.ChangeAt Go.RowKit
attribute [local go_sem ↓] Go.wp_at_zero Go.wp_at_succ
theorem KAt.tail {w:World} {X:Nat} {P:Cp} {b:Ck} (h:KAt w X P b):w.cell? ⟨X,16,none⟩=some (.int .i64 (P.s:Int))∧w.cell? ⟨X,17,none⟩=some (.int .i64 P.cell)∧w.cell? ⟨X,26,none⟩=some (.bool P.read)∧w.cell? ⟨X,27,none⟩=some (.int .i64 P.val) :=
 ⟨by rw [cell_at h]; rfl,by rw [cell_at h]; rfl,by rw [cell_at h]; rfl,by rw [cell_at h]; rfl⟩
theorem KAt.tfz {w:World} {X:Nat} {P:Cp} {b:Ck} (h:KAt w X P b):w.frozen? ⟨X,26,none⟩=false∧w.frozen? ⟨X,27,none⟩=false:=⟨frozen_at h 26,frozen_at h 27⟩
def lookP (P:Cp) (v:Int):Cp:=⟨P.s,P.z,P.rd,P.last,P.cell,true,v⟩
theorem kset_look {w:World} {X:Nat} {P:Cp} {b:Ck} (h:KAt w X P b) (v:Int):KAt ((w.setCell ⟨X,27,none⟩ (.int .i64 v)).setCell ⟨X,26,none⟩ (.bool true)) X (lookP P v) b:=by
 have h1:KAt (w.setCell ⟨X,27,none⟩ (.int .i64 v)) X ⟨P.s,P.z,P.rd,P.last,P.cell,P.read,v⟩ b:=by unfold KAt; rw [heap_set h]; rfl
 unfold KAt
 rw [heap_set h1]
 rfl
theorem pok_look {P:Cp} (h:POk P) (v:Int):POk (lookP P v):=⟨h.s1,h.s16,h.z0,h.z1,h.rd⟩
theorem kmid_look {P:Cp} {b:Ck} (h:KMid P b) (v:Int):KMid (lookP P v) b:=⟨h.lo,h.hi,h.far,h.w,h.c1,h.c2,h.rd,h.e⟩
theorem kok_look {P:Cp} {b:Ck} {n:Nat} (h:KOk P b n) (v:Int):KOk (lookP P v) b n:=by
 refine ⟨pok_look h.p v, ?_⟩
 rcases h.c with c | ⟨c,k,m⟩ | ⟨c,k,m1,m2,m3⟩ | ⟨c,k,m⟩ | c | c
 ·exact Or.inl c
 ·exact Or.inr (Or.inl ⟨c,kmid_look k v,m⟩)
 ·exact Or.inr (Or.inr (Or.inl ⟨c,kmid_look k v,m1,m2,m3⟩))
 ·exact Or.inr (Or.inr (Or.inr (Or.inl ⟨c,kmid_look k v,m⟩)))
 ·exact Or.inr (Or.inr (Or.inr (Or.inr (Or.inl c))))
 ·exact Or.inr (Or.inr (Or.inr (Or.inr (Or.inr c))))
theorem fstart_any {w:World} {X:Nat} {P:Cp} {b:Ck} (h:KAt w X P b):Calls Tryz.prog 128 #[.pointer (some ⟨X,0,none⟩)] w fun e w' => e = .returned (.tuple #[.int .i64 (if b.st=4 then b.comp else 0),.int .i64 (if b.st=4 then b.seen else 0),.bool (decide (b.st=4))])∧Below w.heap.size w w':=by
 have HC:Hid (Calls Tryz.prog 148 #[.pointer (some ⟨X,0,none⟩)] w fun e w' => e = .returned (.tuple #[.int .i64 (if b.st=4 then b.comp else 0),.int .i64 (if b.st=4 then b.seen else 0),.bool (decide (b.st=4))])∧Below w.heap.size w w'):=cstart_any h
 have hx:X < w.heap.size:=heap_lt h
 obtain ⟨x0,x1,x2,x3,x4,x5,x6,x7⟩:=h.cells
 generalize (if b.st=4 then b.comp else 0)=cc at *
 generalize (if b.st=4 then b.seen else 0)=ss at *
 generalize decide (b.st=4)=yy at *
 clear h
 go_enter Tryz.func128,Tryz.ntmps128
 go_wp2_with fail
 refine HC.out.mono ?_
 rintro e w1 ⟨rfl,hb⟩
 have HB:Hid (Below w.heap.size w w1):=hb
 clear hb x0 x1 x2 x3 x4 x5 x6 x7
 go_wp2
 go_ret3
 exact ⟨rfl,HB.out⟩
def goesF (c r:Nat) (P:Cp):Bool:=decide (r=P.s) && decide (P.cell < (c:Int))
theorem fgoes_any {w:World} {base:Nat} {p:Value} {c r:Nat} {L:List Ac} {F:List Nat} {X:Nat} {P:Cp} {b:Ck} (hm:MemAt w base p c r L F) (h:KAt w X P b) :
  Calls Tryz.prog 270 #[.pointer (some ⟨X,0,none⟩),p] w fun e w' => e = .returned (.bool (goesF c r P))∧Below w.heap.size w w':=by
 have HS:Hid (Calls Tryz.prog 40 #[p] w fun e w' => e = .returned (.tuple #[.int .i64 (c:Int),.int .i64 (r:Int)])∧Below w.heap.size w w'):=sizes_any hm
 obtain ⟨M,rfl⟩:=hm.ptr
 have HX:Hid (KAt w X P b):=h
 have hx:X < w.heap.size:=heap_lt h
 have hd:((r:Int) == (P.s:Int))=decide (r=P.s):=by rw [Bool.eq_iff_iff]; simp; try omega
 clear hm h
 unfold goesF
 generalize hdd:decide (r=P.s)=d1 at *
 generalize hde:decide (P.cell < (c:Int))=d2 at *
 go_enter Tryz.func270,Tryz.ntmps270
 go_wp2_with fail
 refine HS.out.mono ?_
 rintro e w1 ⟨rfl,hb⟩
 have hX1:=HX.out.below hb hx
 obtain ⟨t0,t1,t2,t3⟩:=hX1.tail
 have hx1:X < w1.heap.size:=heap_lt hX1
 have HB:Hid (Below w.heap.size w w1):=hb
 clear hb hX1
 cases d1
 ·go_wp2
  first | (go_ret; exact ⟨rfl,HB.out⟩) | (go_quiet (fail); go_wp2; go_ret; exact ⟨rfl,below_drawn HB.out _⟩)
 ·go_wp2
  first | (go_ret; exact ⟨rfl,HB.out⟩) | (go_quiet (fail); go_wp2; go_ret; exact ⟨rfl,below_drawn HB.out _⟩)
theorem ks_load {w w1 w2:World} {base:Nat} {p:Value} {c r:Nat} {L L':List Ac} {F F':List Nat} {X B:Nat} {P:Cp} {b:Ck} {o:Obj} (h:KS w base p c r L F X P b) (hb:Below w.heap.size w w1) (hB:w1.heap[B]? = some o) (hlo:w.heap.size≤B)
  (hm:MemAt w2 base p c r L' F') (hn:Next F F' w1 w2):w2.heap[B]? = some o∧KS w2 base p c r L' F' X P b∧B ∉ X :: F'∧Next (X :: F) (X :: F') w w2:=by
 have hx:X < w.heap.size:=heap_lt h.at_
 have hF : ∀ q ∈ F,q < w.heap.size:=fun q hq=>(h.mem.lt q hq).2
 have hs:=hb.size
 have hB1:=heap_lt hB
 refine ⟨hn.row hB (fun e=>by have:=hF _ e; omega),⟨hm,(h.at_.below hb hx).keep hn.1 h.out, ?_,h.lo⟩, ?_, ?_, ?_⟩
 ·intro e
  rcases hn.2 X e with h1 | h1
  ·exact h.out h1
  ·omega
 ·intro e
  rcases List.mem_cons.1 e with e | e
  ·omega
  ·rcases hn.2 B e with h1 | h1
   ·have:=hF _ h1; omega
   ·omega
 ·exact ((Keep.of_below hb F).trans hn.1 (fun q hq=>Or.inl hq)).mono (fun q hq=>by simp [hq])
 ·intro q hq
  rcases List.mem_cons.1 hq with rfl | hq
  ·exact Or.inl (by simp)
  ·rcases hn.2 q hq with h1 | h1
   ·exact Or.inl (by simp [h1])
   ·exact Or.inr (by omega)
theorem ks_moves {w w2 w3:World} {base:Nat} {p:Value} {c r:Nat} {L:List Ac} {F F':List Nat} {X B:Nat} {P P':Cp} {b b':Ck} {o:Obj} (hB:w2.heap[B]? = some o) (h:KS w2 base p c r L F' X P b) (hBX:B ∉ X :: F') (hn:Next (X :: F) (X :: F') w w2)
  (ha:KAt w3 X P' b') (hk:Keep [X] w2 w3):w3.heap[B]? = some o∧KS w3 base p c r L F' X P' b'∧Next (X :: F) (X :: F') w w3:=by
 refine ⟨by rw [hk.block B (heap_lt hB) (fun e=>hBX (by simp at e; simp [e]))]; exact hB,⟨h.mem.keep hk (fun q hq e=>by simp at e; exact h.out (e ▸ hq)),ha,h.out,h.lo⟩, ?_,hn.2⟩
 exact hn.1.trans hk (fun q hq=>by simp at hq; subst hq; exact Or.inl (by simp))
def ansW (k e v:Int) (y:Bool):Value:=.agg #[.int .i64 k,.int .i64 e,.int .i64 v,.bool y]
def laidW (w:World) (B:Nat) (k e v:Int) (y:Bool):World:=(((w.setCell ⟨B,0,none⟩ (.int .i64 k)).setCell ⟨B,1,none⟩ (.int .i64 e)).setCell ⟨B,2,none⟩ (.int .i64 v)).setCell ⟨B,3,none⟩ (.bool y)
theorem ansW_set {w:World} {B:Nat} {cs:Array Value} (hz:cs.size=4) (h:w.heap[B]? = some (.cells cs 51 (0,0))) (k e v:Int) (y:Bool) :
  (laidW w B k e v y).heap[B]? = some (.cells #[.int .i64 k,.int .i64 e,.int .i64 v,.bool y] 51 (0,0)):=by
 have h1:=heap_set (i:=0) (v:=.int .i64 k) h
 have h2:=heap_set (i:=1) (v:=.int .i64 e) h1
 have h3:=heap_set (i:=2) (v:=.int .i64 v) h2
 have h4:=heap_set (i:=3) (v:=.bool y) h3
 unfold laidW
 rw [h4]
 obtain ⟨l⟩:=cs
 match l,hz with
 | [_,_,_,_],_=>rfl
theorem keepWB {w:World} {B:Nat} (k e v:Int) (y:Bool):Keep [B] w (laidW w B k e v y) :=
 ((((Keep.refl [B] w).setCell _ _ (Or.inl (by simp))).setCell _ _ (Or.inl (by simp))).setCell _ _ (Or.inl (by simp))).setCell _ _ (Or.inl (by simp))
theorem ks_other {w w3 w4:World} {base:Nat} {p:Value} {c r:Nat} {L:List Ac} {F F':List Nat} {X B:Nat} {P:Cp} {b:Ck} (h:KS w3 base p c r L F' X P b) (hB:B ∉ X :: F') (hlo:w.heap.size≤B) (hn:Next (X :: F) (X :: F') w w3) (hk:Keep [B] w3 w4) :
  KS w4 base p c r L F' X P b∧Next (X :: F) (X :: F') w w4 :=
 ⟨h.keep hk (fun q hq e=>by simp at e; exact hB (e ▸ hq)),hn.1.trans hk (fun q hq=>by simp at hq; subst hq; exact Or.inr hlo),hn.2⟩
def cellA (P:Cp):Ad:=⟨4,P.cell,0⟩
theorem cellA_is {c r:Nat} {P:Cp} (h0:0≤P.cell) (h1:P.cell < (c:Int)):isAd c r (cellA P)=true:=by
 unfold isAd cellA
 simp [h0,h1]
set_option maxRecDepth 10000 in
theorem flook_any {w:World} {base:Nat} {p:Value} {c r:Nat} {L:List Ac} {F:List Nat} {X:Nat} {P:Cp} {b:Ck} (h:KS w base p c r L F X P b) (hb:base≤w.heap.size) (hL:L.length < 3298534883328) (h0:0≤P.cell) (h1:P.cell < (c:Int)) (t:Int) :
  Calls Tryz.prog 271 #[.pointer (some ⟨X, 0, none⟩), p, .int .i64 t] w fun e w' => e = .returned (ansE 2 0 true) ∧ ∃ F', KS w' base p c r (loadL c r L t (cellA P)) F' X (lookP P (wordOf L (cellA P))) b ∧ Next (X :: F) (X :: F') w w' := by
 have HL : Hid (∀ (w' : World), Below w.heap.size w w' → Calls Tryz.prog 245 #[p, .int .i64 t, .agg #[.int .i64 4, .int .i64 P.cell, .int .i64 0]] w' fun e w'' => e = .returned (.tuple #[.int .i64 (wordOf L (cellA P)), .int .i64 0]) ∧ ∃ F', MemAt w'' base p c r (loadL c r L t (cellA P)) F' ∧ Next F F' w' w'') := fun w' hb' => by
  have:=load_any (h.mem.below hb') (Nat.le_trans hb hb'.size) hL t (cellA P)
  rw [if_pos (cellA_is h0 h1),if_pos (cellA_is h0 h1)] at this
  exact this
 have hx:X < w.heap.size:=heap_lt h.at_
 have HH:Hid (KS w base p c r L F X P b):=h
 obtain ⟨M,rfl⟩:=h.mem.ptr
 obtain ⟨t0,t1,t2,t3⟩:=h.at_.tail
 obtain ⟨f0,f1⟩:=h.at_.tfz
 clear h h0 h1
 unfold ansE
 generalize wordOf L (cellA P)=v at *
 generalize loadL c r L t (cellA P)=L' at *
 go_enter Tryz.func271,Tryz.ntmps271
 go_wp2_with fail
 refine (HL.out _ (below_a1 _ _)).mono ?_
 rintro e w1 ⟨rfl, F', hm1, hn1⟩
 obtain ⟨r1,k1,o1,n1⟩:=ks_load HH.out (below_a1 _ _) (heap_alloc_new _ _) (Nat.le_refl _) hm1 hn1
 have HR1:Hid (w1.heap[w.heap.size]? = some (.cells #[.int .i64 0,.int .i64 0,.int .i64 0,.bool false] 51 (0,0))):=r1
 have HK1:Hid (KS w1 base (.pointer (some ⟨M,0,none⟩)) c r L' F' X P b∧w.heap.size ∉ X :: F'∧Next (X :: F) (X :: F') w w1):=⟨k1,o1,n1⟩
 obtain ⟨⟨a0,a1,a2,a3⟩,g0,g1,g2,g3⟩:=ans_cells r1
 clear t0 t1 t2 t3 f0 f1
 obtain ⟨t0,t1,t2,t3⟩:=k1.at_.tail
 obtain ⟨f0,f1⟩:=k1.at_.tfz
 have hx1:X < w1.heap.size:=heap_lt k1.at_
 have hB1:w.heap.size < w1.heap.size:=heap_lt r1
 have hne:X≠w.heap.size:=fun e=>o1 (by simp [e])
 have hne2:w.heap.size≠X:=fun e=>o1 (by simp [e])
 clear hm1 hn1 r1 k1 o1 n1
 go_wp2
 obtain ⟨r2,k2,n2⟩:=ks_moves HR1.out HK1.out.1 HK1.out.2.1 HK1.out.2.2 (kset_look HK1.out.1.at_ v) (kkeep (kkeep (Keep.refl _ _) _ _) _ _)
 exact ret_ans rfl rfl (ansE_set rfl r2 2 0 true) rfl rfl ⟨rfl, F', ks_other k2 HK1.out.2.1 (Nat.le_refl _) n2 (keepEB 2 0 true)⟩
def newP (s:Nat) (z:Int) (rd:List Nat) (cell:Int):Cp:=⟨s,z,Sg.put rd (Sg.sigN cell),true,cell,false,0⟩
def laidS (w:World) (B:Nat) (c0 c1 c2 c3 c4 c5 c6 c7:Value):World:=(((((((w.setCell ⟨B,0,none⟩ c0).setCell ⟨B,1,none⟩ c1).setCell ⟨B,2,none⟩ c2).setCell ⟨B,3,none⟩ c3).setCell ⟨B,4,none⟩ c4).setCell ⟨B,5,none⟩ c5).setCell ⟨B,6,none⟩ c6).setCell ⟨B,7,none⟩ c7
theorem belowS {w0 w:World} {A B:Nat} (hk:Below A w0 w) (hB:A≤B) (c0 c1 c2 c3 c4 c5 c6 c7:Value):Below A w0 (laidS w B c0 c1 c2 c3 c4 c5 c6 c7) :=
 (((((((hk.setCell hB _).setCell hB _).setCell hB _).setCell hB _).setCell hB _).setCell hB _).setCell hB _).setCell hB _
theorem laidS_row {w:World} {B:Nat} {d0 d1 d2 d3 d4 d5 d6 d7:Value} (h:w.heap[B]? = some (.cells #[d0,d1,d2,d3,d4,d5,d6,d7] 145 (0,0))) (c0 c1 c2 c3 c4 c5 c6 c7:Value) :
  (laidS w B c0 c1 c2 c3 c4 c5 c6 c7).heap[B]? = some (.cells #[c0,c1,c2,c3,c4,c5,c6,c7] 145 (0,0)):=by
 have h0:(w.setCell ⟨B,0,none⟩ c0).heap[B]? = some (.cells #[c0,d1,d2,d3,d4,d5,d6,d7] 145 (0,0)):=by rw [heap_set h]; rfl
 have h1:=heap_set (i:=1) (v:=c1) h0
 have h2:=heap_set (i:=2) (v:=c2) h1
 have h3:=heap_set (i:=3) (v:=c3) h2
 have h4:=heap_set (i:=4) (v:=c4) h3
 have h5:=heap_set (i:=5) (v:=c5) h4
 have h6:=heap_set (i:=6) (v:=c6) h5
 have h7:=heap_set (i:=7) (v:=c7) h6
 unfold laidS
 rw [h7]
 rfl
theorem sig_cells {w:World} {B:Nat} {c0 c1 c2 c3 c4 c5 c6 c7:Value} (h:w.heap[B]? = some (.cells #[c0,c1,c2,c3,c4,c5,c6,c7] 145 (0,0))) :
  (w.cell? ⟨B,0,none⟩=some c0∧w.cell? ⟨B,1,none⟩=some c1∧w.cell? ⟨B,2,none⟩=some c2∧w.cell? ⟨B,3,none⟩=some c3∧w.cell? ⟨B,4,none⟩=some c4∧w.cell? ⟨B,5,none⟩=some c5∧w.cell? ⟨B,6,none⟩=some c6∧w.cell? ⟨B,7,none⟩=some c7) ∧
  (w.frozen? ⟨B,0,none⟩=false∧w.frozen? ⟨B,1,none⟩=false∧w.frozen? ⟨B,2,none⟩=false∧w.frozen? ⟨B,3,none⟩=false∧w.frozen? ⟨B,4,none⟩=false∧w.frozen? ⟨B,5,none⟩=false∧w.frozen? ⟨B,6,none⟩=false∧w.frozen? ⟨B,7,none⟩=false) :=
 ⟨⟨by rw [cell_at h]; rfl,by rw [cell_at h]; rfl,by rw [cell_at h]; rfl,by rw [cell_at h]; rfl,by rw [cell_at h]; rfl,by rw [cell_at h]; rfl,by rw [cell_at h]; rfl,by rw [cell_at h]; rfl⟩,frozen_at h 0,frozen_at h 1,frozen_at h 2,frozen_at h 3,frozen_at h 4,frozen_at h 5,frozen_at h 6,frozen_at h 7⟩
theorem KAt0.cells {w:World} {X:Nat} {P:Cp} {b:Ck} (h:KAt0 w X P b):w.cell? ⟨X,0,none⟩=some (.int .i64 (P.s:Int))∧w.cell? ⟨X,1,none⟩=some (.int .i64 P.z)∧w.cell? ⟨X,2,none⟩=some (rdV P.rd 0)∧w.cell? ⟨X,3,none⟩=some (rdV P.rd 1)∧w.cell? ⟨X,4,none⟩=some (rdV P.rd 2)∧w.cell? ⟨X,5,none⟩=some (rdV P.rd 3)∧w.cell? ⟨X,6,none⟩=some (rdV P.rd 4)∧w.cell? ⟨X,7,none⟩=some (rdV P.rd 5)∧w.cell? ⟨X,8,none⟩=some (rdV P.rd 6)∧w.cell? ⟨X,9,none⟩=some (rdV P.rd 7) ∧
  w.cell? ⟨X,10,none⟩=some (.bool P.last)∧w.cell? ⟨X,11,none⟩=some (.int .i64 b.st)∧w.cell? ⟨X,12,none⟩=some (.int .i64 b.seen)∧w.cell? ⟨X,13,none⟩=some (.int .i64 b.stamp)∧w.cell? ⟨X,14,none⟩=some (.int .i64 b.word)∧w.cell? ⟨X,15,none⟩=some (.int .i64 b.comp) :=
 ⟨by rw [cell_at h]; rfl,by rw [cell_at h]; rfl,by rw [cell_at h]; rfl,by rw [cell_at h]; rfl,by rw [cell_at h]; rfl,by rw [cell_at h]; rfl,by rw [cell_at h]; rfl,by rw [cell_at h]; rfl,by rw [cell_at h]; rfl,by rw [cell_at h]; rfl,by rw [cell_at h]; rfl,by rw [cell_at h]; rfl,by rw [cell_at h]; rfl,by rw [cell_at h]; rfl,by rw [cell_at h]; rfl,by rw [cell_at h]; rfl⟩
set_option maxRecDepth 10000 in
set_option maxHeartbeats 1600000 in
theorem fnew_yes (w:World) {s:Nat} {z:Int} {rd:List Nat} {cell:Int} (hs1:1≤s) (hs:s≤16) (hz:0≤z) (hz1:z≤9223372036854775807) (hr:Sg.Ok rd) (h0:0≤cell) (h1:cell < 1024) :
  Calls Tryz.prog 108 #[.int .i64 (s:Int),.int .i64 z,.agg #[rdV rd 0,rdV rd 1,rdV rd 2,rdV rd 3,rdV rd 4,rdV rd 5,rdV rd 6,rdV rd 7],.int .i64 cell] w fun e w' => ∃ X,e = .returned (.tuple #[.pointer (some ⟨X,0,none⟩),.int .i64 0])∧w.heap.size≤X∧KAt w' X (newP s z rd cell) (ckNew (newP s z rd cell))∧Below w.heap.size w w':=by
 have hok:Sg.Ok (Sg.put rd (Sg.sigN cell)):=Sg.ok_put hr _ (Sg.sigN_lt _)
 have HW:Hid (∀ w,Calls Tryz.prog 137 #[.agg #[rdV rd 0,rdV rd 1,rdV rd 2,rdV rd 3,rdV rd 4,rdV rd 5,rdV rd 6,rdV rd 7],.int .i64 cell] w fun e w' => e = .returned (.agg #[rdV (newP s z rd cell).rd 0,rdV (newP s z rd cell).rd 1,rdV (newP s z rd cell).rd 2,rdV (newP s z rd cell).rd 3,rdV (newP s z rd cell).rd 4,rdV (newP s z rd cell).rd 5,rdV (newP s z rd cell).rd 6,rdV (newP s z rd cell).rd 7])∧Below w.heap.size w w'):=fun w=>by
  rw [rd_cells hr.1,rd_cells (rd:=(newP s z rd cell).rd) hok.1]; exact Sg.with_any rd hr cell w
 have HC:Hid (∀ w,Calls Tryz.prog 138 #[.int .i64 (s:Int),.int .i64 z,.agg #[rdV (newP s z rd cell).rd 0,rdV (newP s z rd cell).rd 1,rdV (newP s z rd cell).rd 2,rdV (newP s z rd cell).rd 3,rdV (newP s z rd cell).rd 4,rdV (newP s z rd cell).rd 5,rdV (newP s z rd cell).rd 6,rdV (newP s z rd cell).rd 7],.bool true] w fun e w' => e = .returned (.tuple #[.pointer (some ⟨w.heap.size+1,0,none⟩),.int .i64 0])∧KAt0 w' (w.heap.size+1) (newP s z rd cell) (ckNew (newP s z rd cell))∧Below w.heap.size w w'):=fun w=>by
  rw [rd_cells (rd:=(newP s z rd cell).rd) hok.1]
  exact cnew_yes w (P:=newP s z rd cell) ⟨hs1,hs,hz,hz1,hok⟩
 have HCC:Hid (∀ w X,KAt0 w X (newP s z rd cell) (ckNew (newP s z rd cell))→w.cell? ⟨X,0,none⟩=some (.int .i64 (s:Int))∧w.cell? ⟨X,1,none⟩=some (.int .i64 z)∧w.cell? ⟨X,2,none⟩=some (rdV (newP s z rd cell).rd 0)∧w.cell? ⟨X,3,none⟩=some (rdV (newP s z rd cell).rd 1)∧w.cell? ⟨X,4,none⟩=some (rdV (newP s z rd cell).rd 2)∧w.cell? ⟨X,5,none⟩=some (rdV (newP s z rd cell).rd 3)∧w.cell? ⟨X,6,none⟩=some (rdV (newP s z rd cell).rd 4)∧w.cell? ⟨X,7,none⟩=some (rdV (newP s z rd cell).rd 5)∧w.cell? ⟨X,8,none⟩=some (rdV (newP s z rd cell).rd 6)∧w.cell? ⟨X,9,none⟩=some (rdV (newP s z rd cell).rd 7) ∧
    w.cell? ⟨X,10,none⟩=some (.bool true)∧w.cell? ⟨X,11,none⟩=some (.int .i64 0)∧w.cell? ⟨X,12,none⟩=some (.int .i64 0)∧w.cell? ⟨X,13,none⟩=some (.int .i64 z)∧w.cell? ⟨X,14,none⟩=some (.int .i64 0)∧w.cell? ⟨X,15,none⟩=some (.int .i64 z)):=fun w X h=>h.cells
 have HKA:Hid (∀ w X,w.heap[X]? = some (.cells #[.int .i64 (s:Int),.int .i64 z,rdV (newP s z rd cell).rd 0,rdV (newP s z rd cell).rd 1,rdV (newP s z rd cell).rd 2,rdV (newP s z rd cell).rd 3,rdV (newP s z rd cell).rd 4,rdV (newP s z rd cell).rd 5,rdV (newP s z rd cell).rd 6,rdV (newP s z rd cell).rd 7,.bool true,.int .i64 0,.int .i64 0,.int .i64 z,.int .i64 0,.int .i64 z,.int .i64 (s:Int),.int .i64 cell,rdV (newP s z rd cell).rd 0,rdV (newP s z rd cell).rd 1,rdV (newP s z rd cell).rd 2,rdV (newP s z rd cell).rd 3,rdV (newP s z rd cell).rd 4,rdV (newP s z rd cell).rd 5,rdV (newP s z rd cell).rd 6,rdV (newP s z rd cell).rd 7,.bool false,.int .i64 0] 197 (0,0))→KAt w X (newP s z rd cell) (ckNew (newP s z rd cell))):=fun w X h=>h
 have d0:decide (cell < 0)=false:=decide_eq_false (by omega)
 have d1:decide (1024≤cell)=false:=decide_eq_false (by omega)
 have d2:decide (cell < 1024)=true:=decide_eq_true h1
 unfold rdV at *
 generalize newP s z rd cell=P at *
 generalize P.rd.getD 0 0=n0 at *
 generalize P.rd.getD 1 0=n1 at *
 generalize P.rd.getD 2 0=n2 at *
 generalize P.rd.getD 3 0=n3 at *
 generalize P.rd.getD 4 0=n4 at *
 generalize P.rd.getD 5 0=n5 at *
 generalize P.rd.getD 6 0=n6 at *
 generalize P.rd.getD 7 0=n7 at *
 generalize rd.getD 0 0=m0 at *
 generalize rd.getD 1 0=m1 at *
 generalize rd.getD 2 0=m2 at *
 generalize rd.getD 3 0=m3 at *
 generalize rd.getD 4 0=m4 at *
 generalize rd.getD 5 0=m5 at *
 generalize rd.getD 6 0=m6 at *
 generalize rd.getD 7 0=m7 at *
 clear hs1 hs hz hz1 hr h0 h1 hok
 go_enter Tryz.func108,Tryz.ntmps108
 go_wp2_with fail
 refine (HW.out _).mono ?_
 rintro e w1 ⟨rfl,hb1⟩
 have HR1:Hid (w1.heap[w.heap.size]? = some (.cells #[.int .u64 ((m0:Nat):Int),.int .u64 ((m1:Nat):Int),.int .u64 ((m2:Nat):Int),.int .u64 ((m3:Nat):Int),.int .u64 ((m4:Nat):Int),.int .u64 ((m5:Nat):Int),.int .u64 ((m6:Nat):Int),.int .u64 ((m7:Nat):Int)] 145 (0,0))):=row_on (heap_alloc_new _ _) hb1
 have HB1:Hid (Below w.heap.size w w1):=below_then (below_a1 _ _) hb1
 obtain ⟨⟨a0,a1,a2,a3,a4,a5,a6,a7⟩,g0,g1,g2,g3,g4,g5,g6,g7⟩:=sig_cells HR1.out
 have hB:w.heap.size < w1.heap.size:=heap_lt HR1.out
 clear hb1
 go_wp2_with fail
 refine (HC.out _).mono ?_
 rintro e w2 ⟨rfl,hx2,hb2⟩
 have HR2:Hid (w2.heap[w.heap.size]? = some (.cells #[.int .u64 ((n0:Nat):Int),.int .u64 ((n1:Nat):Int),.int .u64 ((n2:Nat):Int),.int .u64 ((n3:Nat):Int),.int .u64 ((n4:Nat):Int),.int .u64 ((n5:Nat):Int),.int .u64 ((n6:Nat):Int),.int .u64 ((n7:Nat):Int)] 145 (0,0))):=row_on (laidS_row HR1.out _ _ _ _ _ _ _ _) hb2
 have HB2:Hid (Below w.heap.size w w2):=below_then (belowS HB1.out (Nat.le_refl _) _ _ _ _ _ _ _ _) hb2
 obtain ⟨x0,x1,x2,x3,x4,x5,x6,x7,x8,x9,x10,x11,x12,x13,x14,x15⟩:=HCC.out _ _ hx2
 have hX:(laidS w1 w.heap.size (.int .u64 ((n0:Nat):Int)) (.int .u64 ((n1:Nat):Int)) (.int .u64 ((n2:Nat):Int)) (.int .u64 ((n3:Nat):Int)) (.int .u64 ((n4:Nat):Int)) (.int .u64 ((n5:Nat):Int)) (.int .u64 ((n6:Nat):Int)) (.int .u64 ((n7:Nat):Int))).heap.size+1 < w2.heap.size:=heap_lt hx2
 unfold laidS at hX
 clear hx2 hb2 a0 a1 a2 a3 a4 a5 a6 a7 g0 g1 g2 g3 g4 g5 g6 g7
 generalize ((((((((w1.setCell ⟨w.heap.size,0,none⟩ (.int .u64 ((n0:Nat):Int))).setCell ⟨w.heap.size,1,none⟩ (.int .u64 ((n1:Nat):Int))).setCell ⟨w.heap.size,2,none⟩ (.int .u64 ((n2:Nat):Int))).setCell ⟨w.heap.size,3,none⟩ (.int .u64 ((n3:Nat):Int))).setCell ⟨w.heap.size,4,none⟩ (.int .u64 ((n4:Nat):Int))).setCell ⟨w.heap.size,5,none⟩ (.int .u64 ((n5:Nat):Int))).setCell ⟨w.heap.size,6,none⟩ (.int .u64 ((n6:Nat):Int))).setCell ⟨w.heap.size,7,none⟩ (.int .u64 ((n7:Nat):Int))).heap.size+1=Y at *
 obtain ⟨⟨a0,a1,a2,a3,a4,a5,a6,a7⟩,_⟩:=sig_cells HR2.out
 have hB2:w.heap.size < w2.heap.size:=heap_lt HR2.out
 go_wp2
 go_region
 all_goals
  go_wp2
  go_ret2
  first
   | exact ⟨_,rfl,Nat.le_of_lt hB2,HKA.out _ _ (heap_alloc_new _ _),below_alloc HB2.out _⟩
   | exact ⟨_,rfl,Nat.le_of_lt hB2,HKA.out _ _ (heap_alloc_new _ _),below_drawn (below_alloc HB2.out _) _⟩
end Go.Proofs.YtigfjedohdgjfaaGreatDoor.Fe
namespace Go.Proofs.YtigfjedohdgjfaaGreatDoor.Fe
open Go.ChangeShapes Go.WideShapes Go.ChangeAt Go.RowKit
attribute [local go_sem ↓] Go.wp_at_zero Go.wp_at_succ
def nextFP (c r:Nat) (P:Cp) (L:List Ac):Cp:=if goesF c r P then (if P.read then P else lookP P (wordOf L (cellA P))) else P
def nextFB (c r:Nat) (P:Cp) (b:Ck) (L:List Ac):Ck:=if goesF c r P then (if P.read then nextK r P b L else b) else b
def nextFL (c r:Nat) (P:Cp) (b:Ck) (L:List Ac) (t:Int):List Ac:=if goesF c r P then (if P.read then nextKL c r P b L t else loadL c r L t (cellA P)) else L
def ansF (c r:Nat) (P:Cp) (b:Ck) (L:List Ac):Int:=if goesF c r P then (if P.read then ansKK r P b L else 2) else 0
def errF (c r:Nat) (P:Cp) (b:Ck) (L:List Ac):Int:=if goesF c r P then (if P.read then errKK r P b L else 0) else 0
def valF (c r:Nat) (P:Cp) (b:Ck) (L:List Ac):Int:=if goesF c r P then (if P.read then (if ansKK r P b L=3 then P.val else 0) else 0) else 0
def accF (c r:Nat) (P:Cp) (b:Ck):Bool:=if goesF c r P then (if P.read then goesK r P b else true) else false
theorem kstep_w {w:World} {base:Nat} {p:Value} {c r:Nat} {L:List Ac} {F:List Nat} {X:Nat} {P:Cp} {b:Ck} {n:Nat} (h:KS w base p c r L F X P b) (hb:base≤w.heap.size) (hL:L.length < 3298534883328) (hk:KOk P b n) (hv:goesK r P b=true→W64 (wordOf L (adK P b))) (t:Int) :
  Calls Tryz.prog 272 #[.pointer (some ⟨X, 0, none⟩), p, .int .i64 t] w fun e w' => e = .returned (ansE (ansKK r P b L) (errKK r P b L) (goesK r P b)) ∧ ∃ F', KS w' base p c r (nextKL c r P b L t) F' X P (nextK r P b L) ∧ Next (X :: F) (X :: F') w w' := by
 by_cases hgo:goesK r P b=true
 ·unfold ansKK errKK nextKL nextK
  rw [if_pos hgo,if_pos hgo,if_pos hgo,if_pos hgo,hgo]
  obtain ⟨h2,rfl⟩:=goesK_iff.mp hgo
  refine (cstep_some ⟨h.mem,h.at_,h.out,h.lo⟩ hb hL hk h2 (hv hgo) t).mono ?_
  rintro e w' ⟨rfl, F', h3, h4⟩
  exact ⟨rfl, F', ⟨h3.mem, h3.at_, h3.out, h3.lo⟩, h4⟩
 ·unfold ansKK errKK nextKL nextK
  have hgo':goesK r P b=false:=by simpa using hgo
  rw [if_neg hgo,if_neg hgo,if_neg hgo,if_neg hgo,hgo']
  refine (cstep_none h.mem h.at_ hgo' t).mono ?_
  rintro e w' ⟨rfl,hb'⟩
  exact ⟨rfl, F, h.below hb', Next.of_below hb' _⟩
theorem fstep_none {w:World} {base:Nat} {p:Value} {c r:Nat} {L:List Ac} {F:List Nat} {X:Nat} {P:Cp} {b:Ck} (hm:MemAt w base p c r L F) (h:KAt w X P b) (hn:goesF c r P=false) (t:Int) :
  Calls Tryz.prog 268 #[.pointer (some ⟨X,0,none⟩),p,.int .i64 t] w fun e w' => e = .returned (ansW 0 0 0 false)∧Below w.heap.size w w':=by
 have HG:Hid (∀ o,Calls Tryz.prog 270 #[.pointer (some ⟨X,0,none⟩),p] (w.alloc o) fun e w' => e = .returned (.bool false)∧Below (w.alloc o).heap.size (w.alloc o) w'):=fun o=>by
  rw [← hn]; exact fgoes_any (hm.below (below_a1 _ _)) (h.alloc _)
 obtain ⟨M,rfl⟩:=hm.ptr
 clear hm h hn
 unfold ansW
 go_enter Tryz.func268,Tryz.ntmps268
 go_wp2_with fail
 refine (HG.out _).mono ?_
 rintro e w1 ⟨rfl,hb⟩
 have HR:Hid (w1.heap[w.heap.size]? = some (.cells #[.int .i64 0,.int .i64 0,.int .i64 0,.bool false] 51 (0,0))):=row_on (heap_alloc_new _ _) hb
 obtain ⟨⟨a0,a1,a2,a3⟩,g0,g1,g2,g3⟩:=ans_cells HR.out
 have hB:=heap_lt HR.out
 have HB:Hid (Below w.heap.size w w1):=below_then (below_a1 _ _) hb
 clear hb
 go_wp2
 exact ret_ans rfl rfl (ans_set rfl HR.out 0 false) rfl rfl ⟨rfl,below4 HB.out (Nat.le_refl _) 0 false⟩
theorem fs_row {w w1 w2:World} {F F':List Nat} {X:Nat} {o:Obj} (hlt : ∀ q ∈ X :: F,q < w.heap.size) (hb:Below w.heap.size w w1) (hr:w1.heap[w.heap.size]? = some o) (hn:Next (X :: F) (X :: F') w1 w2):w2.heap[w.heap.size]? = some o∧w.heap.size ∉ X :: F'∧Next (X :: F) (X :: F') w w2:=by
 have h1:=heap_lt hr
 have h2:=hb.size
 have hno:w.heap.size ∉ X :: F:=fun e=>by have:=hlt _ e; omega
 refine ⟨hn.row hr hno,fun e => ?_,(Keep.of_below hb _).trans hn.1 (fun q hq=>Or.inl hq),fun q hq => ?_⟩
 ·rcases hn.2 _ e with h3 | h3
  ·exact hno h3
  ·omega
 ·rcases hn.2 q hq with h3 | h3
  ·exact Or.inl h3
  ·exact Or.inr (by omega)
set_option maxRecDepth 10000 in
theorem fstep_look {w:World} {base:Nat} {p:Value} {c r:Nat} {L:List Ac} {F:List Nat} {X:Nat} {P:Cp} {b:Ck} (h:KS w base p c r L F X P b) (hb:base≤w.heap.size) (hL:L.length < 3298534883328) (h0:0≤P.cell) (hg:goesF c r P=true) (hr:P.read=false) (t:Int) :
  Calls Tryz.prog 268 #[.pointer (some ⟨X, 0, none⟩), p, .int .i64 t] w fun e w' => e = .returned (ansW 2 0 0 true) ∧ ∃ F', KS w' base p c r (loadL c r L t (cellA P)) F' X (lookP P (wordOf L (cellA P))) b ∧ Next (X :: F) (X :: F') w w' := by
 have h1:P.cell < (c:Int):=by unfold goesF at hg; simp at hg; exact hg.2
 have HG:Hid (∀ o,Calls Tryz.prog 270 #[.pointer (some ⟨X,0,none⟩),p] (w.alloc o) fun e w' => e = .returned (.bool true)∧Below (w.alloc o).heap.size (w.alloc o) w'):=fun o=>by
  rw [← hg]; exact fgoes_any (h.mem.below (below_a1 _ _)) (h.at_.alloc _)
 have HK : Hid (∀ w', Below w.heap.size w w' → Calls Tryz.prog 271 #[.pointer (some ⟨X, 0, none⟩), p, .int .i64 t] w' fun e w'' => e = .returned (.agg #[.int .i64 2, .int .i64 0, .int .i64 0, .bool true]) ∧ ∃ F', KS w'' base p c r (loadL c r L t (cellA P)) F' X (lookP P (wordOf L (cellA P))) b ∧ Next (X :: F) (X :: F') w' w'') := fun w' hb' => flook_any (h.below hb') (Nat.le_trans hb hb'.size) hL h0 h1 t
 have HT : Hid (∀ w', Below w.heap.size w w' → w'.cell? ⟨X, 26, none⟩ = some (.bool false)) := fun w' hb' => by
  have:=(h.below hb').at_.tail.2.2.1; rw [hr] at this; exact this
 have HLT:Hid (∀ q ∈ X :: F,q < w.heap.size):=fun q hq=>(h.lt q hq).2
 have hx:X < w.heap.size:=heap_lt h.at_
 obtain ⟨M,rfl⟩:=h.mem.ptr
 clear h hg hr h0 h1
 unfold ansW
 generalize lookP P (wordOf L (cellA P))=P' at *
 generalize loadL c r L t (cellA P)=L' at *
 go_enter Tryz.func268,Tryz.ntmps268
 go_wp2_with fail
 refine (HG.out _).mono ?_
 rintro e w1 ⟨rfl,hb1⟩
 have HR:Hid (w1.heap[w.heap.size]? = some (.cells #[.int .i64 0,.int .i64 0,.int .i64 0,.bool false] 51 (0,0))):=row_on (heap_alloc_new _ _) hb1
 have HB:Hid (Below w.heap.size w w1):=below_then (below_a1 _ _) hb1
 have t2:=HT.out _ HB.out
 have hx1:X < w1.heap.size:=Nat.lt_of_lt_of_le hx HB.out.size
 clear hb1
 go_wp2_with fail
 refine (HK.out _ HB.out).mono ?_
 rintro e w2 ⟨rfl, F', k2, n2⟩
 obtain ⟨r2,o2,nn2⟩:=fs_row HLT.out HB.out HR.out n2
 have HK2:Hid (KS w2 base (.pointer (some ⟨M,0,none⟩)) c r L' F' X P' b∧w.heap.size ∉ X :: F'∧Next (X :: F) (X :: F') w w2):=⟨k2,o2,nn2⟩
 have HR2:Hid (w2.heap[w.heap.size]? = some (.cells #[.int .i64 0,.int .i64 0,.int .i64 0,.bool false] 51 (0,0))):=r2
 obtain ⟨⟨a0,a1,a2,a3⟩,g0,g1,g2,g3⟩:=ans_cells HR2.out
 have hB:=heap_lt HR2.out
 clear k2 n2 r2 o2 nn2 t2
 go_wp2
 exact ret_ans rfl rfl (ansW_set rfl HR2.out 2 0 0 true) rfl rfl ⟨rfl, F', ks_other HK2.out.1 HK2.out.2.1 (Nat.le_refl _) HK2.out.2.2 (keepWB 2 0 0 true)⟩
set_option maxRecDepth 10000 in
theorem fstep_hold {w:World} {base:Nat} {p:Value} {c r:Nat} {L:List Ac} {F:List Nat} {X:Nat} {P:Cp} {b:Ck} {n:Nat} (h:KS w base p c r L F X P b) (hb:base≤w.heap.size) (hL:L.length < 3298534883328) (hk:KOk P b n) (hv:goesK r P b=true→W64 (wordOf L (adK P b))) (hg:goesF c r P=true) (hr:P.read=true) (t:Int) :
  Calls Tryz.prog 268 #[.pointer (some ⟨X, 0, none⟩), p, .int .i64 t] w fun e w' => e = .returned (ansW (ansKK r P b L) (errKK r P b L) (if ansKK r P b L = 3 then P.val else 0) (goesK r P b)) ∧ ∃ F', KS w' base p c r (nextKL c r P b L t) F' X P (nextK r P b L) ∧ Next (X :: F) (X :: F') w w' := by
 have HG:Hid (∀ o,Calls Tryz.prog 270 #[.pointer (some ⟨X,0,none⟩),p] (w.alloc o) fun e w' => e = .returned (.bool true)∧Below (w.alloc o).heap.size (w.alloc o) w'):=fun o=>by
  rw [← hg]; exact fgoes_any (h.mem.below (below_a1 _ _)) (h.at_.alloc _)
 have HK : Hid (∀ w', Below w.heap.size w w' → Calls Tryz.prog 272 #[.pointer (some ⟨X, 0, none⟩), p, .int .i64 t] w' fun e w'' => e = .returned (.agg #[.int .i64 (ansKK r P b L), .int .i64 (errKK r P b L), .int .i64 0, .bool (goesK r P b)]) ∧ ∃ F', KS w'' base p c r (nextKL c r P b L t) F' X P (nextK r P b L) ∧ Next (X :: F) (X :: F') w' w'') := fun w' hb' => kstep_w (h.below hb') (Nat.le_trans hb hb'.size) hL hk hv t
 have HT : Hid (∀ w', Below w.heap.size w w' → w'.cell? ⟨X, 26, none⟩ = some (.bool true)) := fun w' hb' => by
  have:=(h.below hb').at_.tail.2.2.1; rw [hr] at this; exact this
 have HLT:Hid (∀ q ∈ X :: F,q < w.heap.size):=fun q hq=>(h.lt q hq).2
 have hx:X < w.heap.size:=heap_lt h.at_
 obtain ⟨M,rfl⟩:=h.mem.ptr
 clear h hg hr hv hk
 unfold ansW
 generalize nextK r P b L=b' at *
 generalize nextKL c r P b L t=L' at *
 generalize ansKK r P b L=kk at *
 generalize errKK r P b L=ee at *
 generalize goesK r P b=gg at *
 by_cases hk3:kk=3
 ·subst hk3
  rw [if_pos rfl]
  go_enter Tryz.func268,Tryz.ntmps268
  go_wp2_with fail
  refine (HG.out _).mono ?_
  rintro e w1 ⟨rfl,hb1⟩
  have HR:Hid (w1.heap[w.heap.size]? = some (.cells #[.int .i64 0,.int .i64 0,.int .i64 0,.bool false] 51 (0,0))):=row_on (heap_alloc_new _ _) hb1
  have HB:Hid (Below w.heap.size w w1):=below_then (below_a1 _ _) hb1
  have t2:=HT.out _ HB.out
  have hx1:X < w1.heap.size:=Nat.lt_of_lt_of_le hx HB.out.size
  clear hb1
  go_wp2_with fail
  refine (HK.out _ HB.out).mono ?_
  rintro e w2 ⟨rfl, F', k2, n2⟩
  obtain ⟨r2,o2,nn2⟩:=fs_row HLT.out HB.out HR.out n2
  have HK2:Hid (KS w2 base (.pointer (some ⟨M,0,none⟩)) c r L' F' X P b'∧w.heap.size ∉ X :: F'∧Next (X :: F) (X :: F') w w2):=⟨k2,o2,nn2⟩
  have HR2:Hid (w2.heap[w.heap.size]? = some (.cells #[.int .i64 0,.int .i64 0,.int .i64 0,.bool false] 51 (0,0))):=r2
  obtain ⟨⟨a0,a1,a2,a3⟩,g0,g1,g2,g3⟩:=ans_cells HR2.out
  have hB:=heap_lt HR2.out
  have tv:=k2.at_.tail.2.2.2
  have hx2:X < w2.heap.size:=heap_lt k2.at_
  clear k2 n2 r2 o2 nn2 t2
  go_wp2
  have q:=ks_other HK2.out.1 HK2.out.2.1 (Nat.le_refl _) HK2.out.2.2 (keepWB 3 ee P.val gg)
  exact ret_ans rfl rfl (row_on (ansW_set rfl HR2.out 3 ee P.val gg) (below_a1 _ _)) rfl rfl ⟨rfl, F', q.1.below (below_a1 _ _), q.2.trans (Next.of_below (below_a1 _ _) _)⟩
 ·rw [if_neg hk3]
  have hd:(kk == 3)=false:=by simpa using hk3
  go_enter Tryz.func268,Tryz.ntmps268
  go_wp2_with fail
  refine (HG.out _).mono ?_
  rintro e w1 ⟨rfl,hb1⟩
  have HR:Hid (w1.heap[w.heap.size]? = some (.cells #[.int .i64 0,.int .i64 0,.int .i64 0,.bool false] 51 (0,0))):=row_on (heap_alloc_new _ _) hb1
  have HB:Hid (Below w.heap.size w w1):=below_then (below_a1 _ _) hb1
  have t2:=HT.out _ HB.out
  have hx1:X < w1.heap.size:=Nat.lt_of_lt_of_le hx HB.out.size
  clear hb1
  go_wp2_with fail
  refine (HK.out _ HB.out).mono ?_
  rintro e w2 ⟨rfl, F', k2, n2⟩
  obtain ⟨r2,o2,nn2⟩:=fs_row HLT.out HB.out HR.out n2
  have HK2:Hid (KS w2 base (.pointer (some ⟨M,0,none⟩)) c r L' F' X P b'∧w.heap.size ∉ X :: F'∧Next (X :: F) (X :: F') w w2):=⟨k2,o2,nn2⟩
  have HR2:Hid (w2.heap[w.heap.size]? = some (.cells #[.int .i64 0,.int .i64 0,.int .i64 0,.bool false] 51 (0,0))):=r2
  obtain ⟨⟨a0,a1,a2,a3⟩,g0,g1,g2,g3⟩:=ans_cells HR2.out
  have hB:=heap_lt HR2.out
  clear k2 n2 r2 o2 nn2 t2
  go_wp2
  have q:=ks_other HK2.out.1 HK2.out.2.1 (Nat.le_refl _) HK2.out.2.2 (keepWB kk ee 0 gg)
  exact ret_ans rfl rfl (row_on (ansW_set rfl HR2.out kk ee 0 gg) (below_a1 _ _)) rfl rfl ⟨rfl, F', q.1.below (below_a1 _ _), q.2.trans (Next.of_below (below_a1 _ _) _)⟩
theorem fstep {w:World} {base:Nat} {p:Value} {c r:Nat} {L:List Ac} {F:List Nat} {X:Nat} {P:Cp} {b:Ck} {n:Nat} (h:KS w base p c r L F X P b) (hb:base≤w.heap.size) (hL:L.length < 3298534883328) (hk:KOk P b n) (h0:0≤P.cell) (hv:goesF c r P=true→P.read=true→goesK r P b=true→W64 (wordOf L (adK P b))) (t:Int) :
  Calls Tryz.prog 268 #[.pointer (some ⟨X, 0, none⟩), p, .int .i64 t] w fun e w' => e = .returned (ansW (ansF c r P b L) (errF c r P b L) (valF c r P b L) (accF c r P b)) ∧ ∃ F', KS w' base p c r (nextFL c r P b L t) F' X (nextFP c r P L) (nextFB c r P b L) ∧ Next (X :: F) (X :: F') w w' := by
 unfold ansF errF valF accF nextFL nextFP nextFB
 by_cases hg:goesF c r P=true
 ·simp only [if_pos hg]
  by_cases hr:P.read=true
  ·simp only [if_pos hr]
   exact fstep_hold h hb hL hk (hv hg hr) hg hr t
  ·simp only [if_neg hr]
   exact fstep_look h hb hL h0 hg (by simpa using hr) t
 ·simp only [if_neg hg]
  refine (fstep_none h.mem h.at_ (by simpa using hg) t).mono ?_
  rintro e w' ⟨rfl,hb'⟩
  exact ⟨rfl, F, h.below hb', Next.of_below hb' _⟩
end Go.Proofs.YtigfjedohdgjfaaGreatDoor.Fe
