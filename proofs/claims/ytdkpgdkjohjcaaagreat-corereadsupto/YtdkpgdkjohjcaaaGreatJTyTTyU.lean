/- The example at the head of layer 12's statements. -/
import Derived.Test.YtdkpgdkjohjcaaaGreatJTyPTyS
import Derived.Test.YtdkpgdkjohjcaaaGreatJTxVTyL
import Derived.Deep.CutBlock
import Derived.Deep.DeepCutAuto
import Derived.Deep.LoopGhost
import Derived.Deep.MidRow
import Derived.Deep.RegionHeld3
import Derived.Test.YtdkpgdkjohjcaaaGreatJBegABegX
import Derived.Test.YtdkpgdkjohjcaaaGreatJMemMMath
import Derived.Deep.Slices
set_option maxHeartbeats 40000000
set_option maxRecDepth 100000
namespace Go.Proofs.YtdkpgdkjohjcaaaGreat
open Go.ChangeShapes Go.WideShapes Go.ChangeAt Go.RowKit
attribute [local go_sem ↓] Go.wp_at_zero Go.wp_at_succ
set_option linter.unusedVariables false
def SH (w0 wx:World) (M T:Nat) (L:List Ac) (x:Tx) (R:List (Nat × Obj)):Prop:=∃ F G,TM wx w0.heap.size (.pointer (some ⟨M,0,none⟩)) 4 4 L F T x G∧Kept wx (G++F) R∧Below w0.heap.size w0 wx
theorem sh_later {w0 wx w':World} {M T:Nat} {L:List Ac} {x:Tx} {R:List (Nat × Obj)} (h:SH w0 wx M T L x R) (k:Below wx.heap.size wx w'):SH w0 w' M T L x R:=by
 obtain ⟨F,G,a,b,c⟩:=h
 exact ⟨F,G,a.below k,b.later k,below_then c k⟩
theorem sh_ans {w0 wx:World} {M T:Nat} {L:List Ac} {x:Tx} {R:List (Nat × Obj)} (h:SH w0 wx M T L x R) (o:Obj):SH w0 (wx.alloc o) M T L x ((wx.heap.size,o) :: R):=by
 obtain ⟨F,G,a,b,c⟩:=h
 exact ⟨F,G,a.below (below_a1 _ _),b.more (fun q hq=>(a.lt q hq).2) o,below_then c (below_a1 _ _)⟩
theorem sh_do {w0 wx:World} {M T:Nat} {L:List Ac} {x:Tx} {R:List (Nat × Obj)} (h:SH w0 wx M T L x R) (hL:L.length≤100) (hE:x.ev.length≤100) (hx:XOk x) (hd:Wd L) (a:Wa) :
  Calls Tryz.prog 22 #[.pointer (some ⟨T,0,none⟩),.pointer (some ⟨M,0,none⟩),.int .i64 1,.agg #[.int .i64 a.kind,.int .i64 a.cell,.int .i64 a.value,.int .i64 a.code]] wx fun e w' => e = .returned (.agg #[.int .i64 (doX 4 4 x L 1 a).k,.int .i64 (doX 4 4 x L 1 a).e,.int .i64 (doX 4 4 x L 1 a).v,.bool (doX 4 4 x L 1 a).y])∧SH w0 w' M T (doX 4 4 x L 1 a).L (doX 4 4 x L 1 a).x R:=by
 obtain ⟨F,G,tm,kp,bl⟩:=h
 refine (do_any tm bl.size (by omega) (by omega) hx hd (by omega) a 1).mono ?_
 rintro e w' ⟨rfl, F', G', q, n⟩
 exact ⟨rfl, F', G', q, kp.next n, below_keep bl n.1 (fun b hb => (tm.lt b hb).1)⟩
theorem sh_step {w0 wx:World} {M T:Nat} {L:List Ac} {x:Tx} {R:List (Nat × Obj)} (h:SH w0 wx M T L x R) (hL:L.length≤100) (hE:x.ev.length≤100) (hx:XOk x) (hd:Wd L) :
  Calls Tryz.prog 19 #[.pointer (some ⟨T,0,none⟩),.pointer (some ⟨M,0,none⟩),.int .i64 1] wx fun e w' => e = .returned (.agg #[.int .i64 (stepX 4 4 x L 1).k,.int .i64 (stepX 4 4 x L 1).e,.int .i64 (stepX 4 4 x L 1).v,.bool (stepX 4 4 x L 1).y])∧SH w0 w' M T (stepX 4 4 x L 1).L (stepX 4 4 x L 1).x R:=by
 obtain ⟨F,G,tm,kp,bl⟩:=h
 refine (step_any tm bl.size (by omega) (by omega) hx hd 1).mono ?_
 rintro e w' ⟨rfl, F', G', q, n⟩
 exact ⟨rfl, F', G', q, kp.next n, below_keep bl n.1 (fun b hb => (tm.lt b hb).1)⟩
theorem sh_phase {w0 wx:World} {M T:Nat} {L:List Ac} {x:Tx} {R:List (Nat × Obj)} (h:SH w0 wx M T L x R):Calls Tryz.prog 16 #[.pointer (some ⟨T,0,none⟩)] wx fun e w' => e = .returned (.int .i64 x.phase)∧SH w0 w' M T L x R:=by
 have h':=h
 obtain ⟨F,G,tm,kp,bl⟩:=h
 refine (phase_any tm.tx).mono ?_
 rintro e w' ⟨rfl,hb⟩
 exact ⟨rfl,sh_later h' hb⟩
theorem sh_peek {w0 wx:World} {M T:Nat} {L:List Ac} {x:Tx} {R:List (Nat × Obj)} (h:SH w0 wx M T L x R):Calls Tryz.prog 23 #[.pointer (some ⟨M,0,none⟩),.agg #[.int .i64 4,.int .i64 3,.int .i64 0]] wx fun e w' => e = .returned (.tuple #[.int .i64 (wordOf L ⟨4,3,0⟩),.int .i64 0])∧SH w0 w' M T L x R:=by
 have h':=h
 obtain ⟨F,G,tm,kp,bl⟩:=h
 refine (peek_any tm.mem ⟨4,3,0⟩).mono ?_
 rintro e w' ⟨rfl,hb⟩
 exact ⟨rfl,sh_later h' hb⟩
def shO (k e v:Int) (y:Bool):Obj:=.cells #[.int .i64 k,.int .i64 e,.int .i64 v,.bool y] 55 (0,0)
theorem cshown_any (w:World):Calls Tryz.prog 6 #[] w fun e w' => e = .returned (.bool true)∧Below w.heap.size w w':=by
 have HMN:Hid (∀ w:World,Calls Tryz.prog 20 #[.int .i64 4,.int .i64 4] w fun e w' => ∃ p F,e = .returned (.tuple #[p,.int .i64 0])∧p ≠ .pointer none∧MemAt w' w.heap.size p 4 4 [] F∧Below w.heap.size w w'):=fun w=>new_yes w 4 4 (by decide) (by decide)
 have HTN:Hid (∀ (w:World) (base:Nat),base≤w.heap.size→Calls Tryz.prog 21 #[.agg #[.int .i64 0,.int .i64 4,.int .i64 2,.int .i64 9,.bool false,.int .i64 0,.slice none 0 0]] w fun e w' => ∃ T G,e = .returned (.tuple #[.pointer (some ⟨T,0,none⟩),.int .i64 0])∧TxAt w' base T (newX 4 9 false 2) G∧(∀ q ∈ G,w.heap.size≤q)∧Below w.heap.size w w'):=fun w base hb=>newT_yes w base hb 0 4 2 9 false 0 (.slice none 0 0) (by decide) (by decide) (by decide) (by decide) (by decide) (by decide)
 have HTZ:Hid (∀ w:World,Calls Tryz.prog 21 #[.agg #[.int .i64 0,.int .i64 4,.int .i64 0,.int .i64 9,.bool false,.int .i64 0,.slice none 0 0]] w fun e w' => e = .returned (.tuple #[.pointer none,.int .i64 1])∧Below w.heap.size w w'):=fun w=>newT_no w 0 4 0 9 false 0 (.slice none 0 0) (by decide)
 go_enter Tryz.func6,Tryz.ntmps6
 go_wp2_with fail
 refine (HMN.out _).mono ?_
 rintro e y1 ⟨p,F,rfl,hp,hm,hb1⟩
 obtain ⟨M,rfl⟩:=hm.ptr
 go_wp2_with fail
 refine (HTN.out _ w.heap.size hb1.size).mono ?_
 rintro e y2 ⟨T,G,rfl,ht,hG,hb2⟩
 go_wp2_with fail
 refine (HTZ.out _).mono ?_
 rintro e y3 ⟨rfl,hb3⟩
 have HT3:Hid (SH w y3 M T [] (newX 4 9 false 2) []):=⟨F,G,TM.below ⟨hm.below hb2,ht,fun z hz e=>by have:=hG z hz; have:=(hm.lt z e).2; omega⟩ hb3,fun z hz=>by simp at hz,below_then (below_then hb1 hb2) hb3⟩
 clear hp hm hb1 ht hG hb2 hb3 HMN HTN HTZ
 have HDA:Hid (Calls Tryz.prog 22 #[.pointer (some ⟨T,0,none⟩),.pointer (some ⟨M,0,none⟩),.int .i64 1,.agg #[.int .i64 1,.int .i64 0,.int .i64 0,.int .i64 0]] y3 fun e w' => e = .returned (.agg #[.int .i64 3,.int .i64 oA.e,.int .i64 oA.v,.bool oA.y])∧SH w w' M T oA.L oA.x []):=by
  rw [← oA_k]
  exact sh_do HT3.out (by simp) (by simp [newX]) (xok_new (by omega) (by omega) (by omega) (by omega) (by omega) (by omega)) wd_nil ⟨1,0,0,0⟩
 go_wp2_with fail
 refine HDA.out.mono ?_
 rintro e y4 ⟨rfl,h4⟩
 obtain ⟨z4,hz4⟩ : ∃ z4,z4=y4.alloc (shO 3 oA.e oA.v oA.y):=⟨_,rfl⟩
 have HT4:Hid (SH w z4 M T oA.L oA.x [(y4.heap.size,shO 3 oA.e oA.v oA.y)]):=by rw [hz4]; exact sh_ans h4 _
 have HDB:Hid (Calls Tryz.prog 22 #[.pointer (some ⟨T,0,none⟩),.pointer (some ⟨M,0,none⟩),.int .i64 1,.agg #[.int .i64 3,.int .i64 3,.int .i64 7,.int .i64 0]] z4 fun e w' => e = .returned (.agg #[.int .i64 3,.int .i64 oB.e,.int .i64 oB.v,.bool oB.y])∧SH w w' M T oB.L oB.x [(y4.heap.size,shO 3 oA.e oA.v oA.y)]):=by
  rw [← oB_k]
  obtain ⟨s1,s2,s3,s4⟩:=sh_a
  exact sh_do HT4.out (by omega) (by omega) s1 s2 ⟨3,3,7,0⟩
 clear h4 HDA HT3 HT4
 unfold shO at hz4
 go_wp2_with fail
 rw [← hz4]
 refine HDB.out.mono ?_
 rintro e y5 ⟨rfl,h5⟩
 obtain ⟨Pa,hPa⟩ : ∃ Pa,y4.heap.size=Pa:=⟨_,rfl⟩
 rw [hPa] at h5
 rw [hPa]
 clear hz4 HDB hPa
 obtain ⟨z5,hz5⟩ : ∃ z5,z5=y5.alloc (shO 3 oB.e oB.v oB.y):=⟨_,rfl⟩
 have HT5:Hid (SH w z5 M T oB.L oB.x [(y5.heap.size,shO 3 oB.e oB.v oB.y),(Pa,shO 3 oA.e oA.v oA.y)]):=by rw [hz5]; exact sh_ans h5 _
 have HDC:Hid (Calls Tryz.prog 22 #[.pointer (some ⟨T,0,none⟩),.pointer (some ⟨M,0,none⟩),.int .i64 1,.agg #[.int .i64 2,.int .i64 3,.int .i64 0,.int .i64 0]] z5 fun e w' => e = .returned (.agg #[.int .i64 oC.k,.int .i64 oC.e,.int .i64 7,.bool oC.y])∧SH w w' M T oC.L oC.x [(y5.heap.size,shO 3 oB.e oB.v oB.y),(Pa,shO 3 oA.e oA.v oA.y)]):=by
  rw [← oC_v]
  obtain ⟨s1,s2,s3,s4⟩:=sh_b
  exact sh_do HT5.out (by omega) (by omega) s1 s2 ⟨2,3,0,0⟩
 clear h5 HT5
 unfold shO at hz5
 go_wp2_with fail
 rw [← hz5]
 refine HDC.out.mono ?_
 rintro e y6 ⟨rfl,h6⟩
 obtain ⟨Pb,hPb⟩ : ∃ Pb,y5.heap.size=Pb:=⟨_,rfl⟩
 rw [hPb] at h6
 rw [hPb]
 clear hz5 HDC hPb
 obtain ⟨z6,hz6⟩ : ∃ z6,z6=y6.alloc (shO oC.k oC.e 7 oC.y):=⟨_,rfl⟩
 have HT6:Hid (SH w z6 M T oC.L oC.x [(y6.heap.size,shO oC.k oC.e 7 oC.y),(Pb,shO 3 oB.e oB.v oB.y),(Pa,shO 3 oA.e oA.v oA.y)]):=by rw [hz6]; exact sh_ans h6 _
 have HDD:Hid (Calls Tryz.prog 22 #[.pointer (some ⟨T,0,none⟩),.pointer (some ⟨M,0,none⟩),.int .i64 1,.agg #[.int .i64 4,.int .i64 0,.int .i64 0,.int .i64 0]] z6 fun e w' => e = .returned (.agg #[.int .i64 2,.int .i64 oD.e,.int .i64 oD.v,.bool oD.y])∧SH w w' M T oD.L oD.x [(y6.heap.size,shO oC.k oC.e 7 oC.y),(Pb,shO 3 oB.e oB.v oB.y),(Pa,shO 3 oA.e oA.v oA.y)]):=by
  rw [← oD_k]
  obtain ⟨s1,s2,s3,s4⟩:=sh_c
  exact sh_do HT6.out (by omega) (by omega) s1 s2 ⟨4,0,0,0⟩
 clear h6 HT6
 unfold shO at hz6
 go_wp2_with fail
 rw [← hz6]
 refine HDD.out.mono ?_
 rintro e y7 ⟨rfl,h7⟩
 obtain ⟨Pc,hPc⟩ : ∃ Pc,y6.heap.size=Pc:=⟨_,rfl⟩
 rw [hPc] at h7
 rw [hPc]
 clear hz6 HDD hPc
 obtain ⟨z7,hz7⟩ : ∃ z7,z7=y7.alloc (shO 2 oD.e oD.v oD.y):=⟨_,rfl⟩
 have HT7:Hid (SH w z7 M T oD.L oD.x [(y7.heap.size,shO 2 oD.e oD.v oD.y),(Pc,shO oC.k oC.e 7 oC.y),(Pb,shO 3 oB.e oB.v oB.y),(Pa,shO 3 oA.e oA.v oA.y)]):=by rw [hz7]; exact sh_ans h7 _
 have HPH:Hid (Calls Tryz.prog 16 #[.pointer (some ⟨T,0,none⟩)] z7 fun e w' => e = .returned (.int .i64 4)∧SH w w' M T oD.L oD.x [(y7.heap.size,shO 2 oD.e oD.v oD.y),(Pc,shO oC.k oC.e 7 oC.y),(Pb,shO 3 oB.e oB.v oB.y),(Pa,shO 3 oA.e oA.v oA.y)]):=by
  rw [← oD_p]; exact sh_phase HT7.out
 clear h7 HT7
 unfold shO at hz7
 go_wp2_with fail
 rw [← hz7]
 refine HPH.out.mono ?_
 rintro e y8 ⟨rfl,h8⟩
 obtain ⟨Pd,hPd⟩ : ∃ Pd,y7.heap.size=Pd:=⟨_,rfl⟩
 rw [hPd] at h8
 rw [hPd]
 clear hz7 HPH hPd
 obtain ⟨R,hR⟩ : ∃ R:List (Nat × Obj),R = [(Pd,shO 2 oD.e oD.v oD.y),(Pc,shO oC.k oC.e 7 oC.y),(Pb,shO 3 oB.e oB.v oB.y),(Pa,shO 3 oA.e oA.v oA.y)]:=⟨_,rfl⟩
 rw [← hR] at h8
 have HR:Hid (R = [(Pd,shO 2 oD.e oD.v oD.y),(Pc,shO oC.k oC.e 7 oC.y),(Pb,shO 3 oB.e oB.v oB.y),(Pa,shO 3 oA.e oA.v oA.y)]):=hR
 have HH8:Hid (SH w y8 M T (oS 0).L (oS 0).x R):=h8
 clear h8 hR
 go_wp2_with fail
 go_loopw [12] (fun iv wr => ∃ i:Nat,i≤12∧iv = .int .i64 i∧SH w wr M T (oS i).L (oS i).x R) (fun iv _=>12 - (intOf iv).toNat)
 case atStart=>exact ⟨0,by omega,rfl,HH8.out⟩
 case round =>
  obtain ⟨i,hi,rfl,hsh⟩:=hrel
  have HSH:Hid (SH w wr M T (oS i).L (oS i).x R):=hsh
  clear HH8 hsh
  by_cases hlt:i < 12
  ·have hx1:(i:Int) < 12:=by omega
   obtain ⟨s1,s2,s3,s4⟩:=sh_s i
   have HST:Hid (∃ (a b c:Int) (d:Bool),Calls Tryz.prog 19 #[.pointer (some ⟨T,0,none⟩),.pointer (some ⟨M,0,none⟩),.int .i64 1] wr fun e w' => e = .returned (.agg #[.int .i64 a,.int .i64 b,.int .i64 c,.bool d])∧SH w w' M T (oS (i+1)).L (oS (i+1)).x R):=⟨_,_,_,_,sh_step HSH.out (by omega) (by omega) s1 s2⟩
   obtain ⟨a,b,c,d,hst⟩:=HST.out
   have HST:Hid (Calls Tryz.prog 19 #[.pointer (some ⟨T,0,none⟩),.pointer (some ⟨M,0,none⟩),.int .i64 1] wr fun e w' => e = .returned (.agg #[.int .i64 a,.int .i64 b,.int .i64 c,.bool d])∧SH w w' M T (oS (i+1)).L (oS (i+1)).x R):=hst
   clear hst
   clear s1 s2 s3 s4
   go_wp2_with fail
   refine HST.out.mono ?_
   rintro e z ⟨rfl,hz⟩
   clear HST
   go_wp2
   go_roundw
   case rel=>exact ⟨i+1,by omega,by go_num,hz⟩
   case measure=>simp [intOf]; omega
  ·obtain rfl:i=12:=by omega
   have HPH:Hid (Calls Tryz.prog 16 #[.pointer (some ⟨T,0,none⟩)] wr fun e w' => e = .returned (.int .i64 0)∧SH w w' M T (oS 12).L (oS 12).x R):=by rw [← oS_12]; exact sh_phase HSH.out
   go_wp2_with fail
   refine HPH.out.mono ?_
   rintro e z1 ⟨rfl,h1⟩
   have HPK:Hid (Calls Tryz.prog 23 #[.pointer (some ⟨M,0,none⟩),.agg #[.int .i64 4,.int .i64 3,.int .i64 0]] z1 fun e w' => e = .returned (.tuple #[.int .i64 7,.int .i64 0])∧SH w w' M T (oS 12).L (oS 12).x R):=by rw [← oS_w]; exact sh_peek h1
   clear h1 HPH HSH
   go_wp2_with fail
   refine HPK.out.mono ?_
   rintro e z2 ⟨rfl,F9,G9,_,kp,hbel⟩
   rw [HR.out] at kp
   have r1:=(kp (Pd,shO 2 oD.e oD.v oD.y) (by simp)).1
   have r2:=(kp (Pc,shO oC.k oC.e 7 oC.y) (by simp)).1
   have r3:=(kp (Pb,shO 3 oB.e oB.v oB.y) (by simp)).1
   have r4:=(kp (Pa,shO 3 oA.e oA.v oA.y) (by simp)).1
   unfold shO at r1 r2 r3 r4
   simp only at r1 r2 r3 r4
   have d1:z2.cell? ⟨Pd,0,none⟩=some (.int .i64 2):=by rw [cell_at r1]; rfl
   have d2:z2.cell? ⟨Pc,2,none⟩=some (.int .i64 7):=by rw [cell_at r2]; rfl
   have d3:z2.cell? ⟨Pb,0,none⟩=some (.int .i64 3):=by rw [cell_at r3]; rfl
   have d4:z2.cell? ⟨Pa,0,none⟩=some (.int .i64 3):=by rw [cell_at r4]; rfl
   have l1:=heap_lt r1
   have l2:=heap_lt r2
   have l3:=heap_lt r3
   have l4:=heap_lt r4
   clear r1 r2 r3 r4 kp HPK
   go_wp2
   go_ret
   exact ⟨rfl,hbel⟩
theorem wp_reg {P:Program} {c c':Code} {Q:Exit→Act→World→Prop} {a:Act} {w:World} (h:c=c') (hw:Code.wp P c' (Exit.then (fun a w=>Q .normal a w) (fun _ _ _=>False)) a w):Code.wp P c Q a w :=
 wp_code h (Code.wp_mono (fun e a w h9=>by cases e <;> first | exact h9 | exact h9.elim) hw)
theorem reads_walk (w:World) (raw ring writes stamps:Int) (mu:Bool) (tr:Int) (cv lv:Value) {S:List At} (hS:AcL w lv S) (hO:AcOk S) (HSH:Hid (∀ w:World,Calls Tryz.prog 6 #[] w fun e w' => e = .returned (.bool true)∧Below w.heap.size w w')) :
  Calls Tryz.prog 3 #[confT raw ring writes stamps mu tr cv,lv] w fun e w' => e = .returned (.bool true)∧Below w.heap.size w w':=by
 obtain ⟨s1,s2,m1,m2,n1,n2⟩:=fit_bd ring writes stamps mu
 have HF:Hid (∀ w:World,Calls Tryz.prog 8 #[confT raw ring writes stamps mu tr cv] w fun e w' => e = .returned (fcV (fitC ring writes stamps mu))∧Below w.heap.size w w'):=fun w=>fit_any w raw ring writes stamps mu tr cv
 have HPL:Hid (∀ w:World,Calls Tryz.prog 7 #[fcV (fitC ring writes stamps mu)] w fun e w' => ∃ B X R p Tp A cap cur,e = .returned (.pointer (some ⟨B,0,none⟩))∧GG w' w.heap.size p 8 (fitC ring writes stamps mu).s [] Tp (fun _=>newX (fitC ring writes stamps mu).s (fitC ring writes stamps mu).n (fitC ring writes stamps mu).mu (fitC ring writes stamps mu).m) A∧w'.heap[B]? = some (gmO p (.slice (some ⟨X,0,none⟩) 4 cap) (.slice none 0 0) (.slice none 0 0) (.slice (some ⟨R,0,none⟩) 4 4))∧w'.heap[X]? = some (txsO cur)∧Ptrs cur Tp∧w'.heap[R]? = some nilR∧B ∉ A∧X ∉ A∧R ∉ A∧w.heap.size≤B∧w.heap.size≤X∧w.heap.size≤R∧Below w.heap.size w w'):=fun w=>play_any w s1 s2 m1 m2 n1 n2
 generalize fitC ring writes stamps mu=d at *
 obtain ⟨s,m,n,mu'⟩:=d
 simp only at s1 s2 m1 m2 n1 n2 HPL
 have HP4:Hid (∀ x w,Calls Tryz.prog 9 #[.int .i64 x,.int .i64 4] w fun e w' => e = .returned (.int .i64 (x % 4))∧w'=w):=fun x w=>gpick_any x 4 (by decide) (by decide) w
 obtain ⟨la,lcap,rfl,hSl,hSd⟩:=hS
 have HAC:Hid (∀ w' i,Below w.heap.size w w'→i < S.length → ∃ x:Addr,la=some x∧x.block < w.heap.size∧W64 (S.getD i noAt).w.value ∧ ∀ j u,(atC (S.getD i noAt))[j]? = some u→w'.cell? ((x.add (i * 12)).add j)=some u):=fun w' i k hi=>by
  rcases hSd with h | ⟨x,e1,e2,e3⟩
  ·rw [h] at hi; simp at hi
  ·exact ⟨x,e1,e2,hO i hi,fun j u hu=>(k.cell (p:=(x.add (i * 12)).add j) (by rw [add_block,add_block]; exact e2)).trans (e3 i hi j u hu)⟩
 clear hSd hO
 generalize hnS:S.length=nS at *
 clear hnS
 unfold confT fcV at *
 simp only at HF HPL
 go_enter Tryz.func3,Tryz.ntmps3
 go_wp2_with fail
 refine (HSH.out _).mono ?_
 rintro e y1 ⟨rfl,hb1⟩
 have HB1:Hid (Below w.heap.size w y1):=below_then (below_a1 _ _) hb1
 have HC1:Hid (y1.heap[w.heap.size]? = some (.cells #[.int .i64 raw,.int .i64 ring,.int .i64 writes,.int .i64 stamps,.bool mu,.int .i64 tr,cv] 24 (0,0))):=row_on (heap_alloc_new _ _) hb1
 obtain ⟨⟨r0,r1,r2,r3,r4,r5,r6⟩,_⟩:=cfg_cells HC1.out
 have hcl:=heap_lt HC1.out
 clear hb1
 go_wp2_with fail
 refine (HF.out _).mono ?_
 rintro e y2 ⟨rfl,hb2⟩
 have HB2:Hid (Below w.heap.size w y2):=below_then HB1.out hb2
 clear hb2 r0 r1 r2 r3 r4 r5 r6 hcl HB1 HC1 HF HSH
 go_wp2_with fail
 refine (HPL.out _).mono ?_
 rintro e y3 ⟨B,X,Rb,p,Tp,A,cap,cur,rfl,hgg,hgm,htx,hpt,hrd,hBA,hXA,hRA,hB0,hX0,hR0,hb3⟩
 obtain ⟨M,rfl⟩:=hgg.ptr
 have HM0:Hid (∃ base,Y2 w y3 base s m n (.pointer (some ⟨M,0,none⟩)) Tp B X cap Rb cur 0):=by
  have hlt:=hgg.lt
  have hs2:=HB2.out.size
  have hs3:=hb3.size
  refine ⟨_, [], g0 s mu', _, (fun _ => []), A, _, fun i _ => Nat.zero_le _, _, [], [], ⟨wi_first s1 s2 (by omega) (by omega) m1 m2, rfl, ⟨hgg, hgm, htx, hpt, hBA, hXA⟩, by simp, fun k hk => by simp [newX], below_then HB2.out hb3, hs2, hs3⟩, ⟨by simpa [g0, sgsC] using World.ownsRow_nil _ _ _ _, by simp [g0], by simpa [g0] using World.ownsRow_nil _ _ _ _, fun z hz => by simp [Value.ownBlock] at hz, fun z hz => by simp [Value.ownBlock] at hz⟩, ⟨by simpa [g0] using World.ownsRow_nil _ _ _ _, fun i hi => by simp [g0] at hi⟩, fun v hv => by simp at hv, ?_⟩
  refine ⟨_,fun _ => [],hrd,rfl,fun i hi=>⟨.slice none 0 0, ?_,World.ownsRow_nil _ _ _ _,fun b hb=>by simp [Value.ownBlock] at hb⟩,fun i hi=>rfl,hRA⟩
  have h4:i=0∨i=1∨i=2∨i=3:=by omega
  rcases h4 with rfl | rfl | rfl | rfl <;> rfl
 obtain ⟨base,hm0⟩:=HM0.out
 have HM:Hid (Y2 w y3 base s m n (.pointer (some ⟨M,0,none⟩)) Tp B X cap Rb cur 0):=hm0
 have HB0:Hid (w.heap.size≤B):=Nat.le_trans HB2.out.size hB0
 have HR0:Hid (w.heap.size≤Rb):=Nat.le_trans HB2.out.size hR0
 clear HM0 hm0 hgg hgm htx hpt hrd hBA hXA hRA hB0 hX0 hR0 HPL
 go_wp2_with fail
 clear hb3 HB2
 go_loopw [7] (fun iv wr => ∃ q:Nat,q≤nS∧iv = .int .i64 q∧Y2 w wr base s m n (.pointer (some ⟨M,0,none⟩)) Tp B X cap Rb cur q) (fun iv _=>nS - (intOf iv).toNat)
 case atStart=>exact ⟨0,by omega,rfl,HM.out⟩
 case round=>as_aux_lemma =>
  obtain ⟨q,hq,rfl,hy1⟩:=hrel
  clear HM
  by_cases hlt:q < nS
  ·obtain ⟨L, g, T, R, A, wv, hrl, sv, S', ws, mi, hsw, hwl, hwn, hrs⟩ := hy1
   have HRL:Hid (∀ i,i < 4→(R i).length≤q):=hrl
   clear hrl
   have HMI:Hid (MI w wr base s m n (.pointer (some ⟨M,0,none⟩)) Tp B X cap cur sv wv (.slice (some ⟨Rb,0,none⟩) 4 4) q L g T R A):=mi
   have HSW:Hid (SW wr base sv wv A S' ws g.W.length∧WsL wr base wv ws g.W∧RdZ wr base Rb A R∧WsN A ws):=⟨hsw,hwl,hrs,hwn⟩
   obtain ⟨x,rfl,hxb,hval,hcell⟩:=HAC.out wr q mi.bel hlt
   obtain ⟨a,HAE⟩ : ∃ a,Hid (S.getD q noAt=a):=⟨_,rfl⟩
   rw [HAE.out] at hcell hval
   obtain ⟨k,hk,hke⟩:=pick4 a.who
   have c1:wr.cell? ((x.add (q * 12)).add 1)=some (.int .i64 a.who):=hcell 1 _ rfl
   rw [add_pos' _ _ (by decide)] at c1
   have HPK:Hid (∀ w,Calls Tryz.prog 9 #[.int .i64 a.who,.int .i64 4] w fun e w' => e = .returned (.int .i64 (k:Int))∧w'=w):=by rw [← hke]; exact HP4.out a.who
   have hx1:(q:Int) < (nS:Int):=by omega
   have hx0:(0:Int)≤(q:Int):=by omega
   clear mi hsw hwl hrs hwn hcell hke
   go_wp2_with fail
   refine (HPK.out _).mono ?_
   rintro e z1 ⟨rfl,e1⟩
   obtain rfl:wr=z1:=e1.symm
   clear c1 HPK
   have hE:(T k).ev.length < 1073741824:=by have:=HMI.out.evs k hk; omega
   obtain ⟨b0,b1,b2⟩:=HMI.out.gb.cells hk
   have hBl:=heap_lt HMI.out.gb.gm
   have hXl:=heap_lt HMI.out.gb.tx
   have k4:(k:Int) < 4:=by omega
   have k0:(0:Int)≤(k:Int):=by omega
   obtain ⟨Gk,htk⟩:=HMI.out.gb.gg.tx hk
   have HTX:Hid (TxAt wr base (Tp k) (T k) Gk):=htk
   clear htk
   have HTD:Hid (Calls Tryz.prog 10 #[.pointer (some ⟨Tp k,0,none⟩),.int .i64 0] wr fun e w' => ∃ v,e = .returned v∧w'.ownsRow wr.heap.size 58 19 v (T k).ev.length (evsC (T k).ev)∧Below wr.heap.size wr w'):=HMI.out.gb.told hk hE 0
   go_wp2_with fail
   refine HTD.out.mono ?_
   rintro e z3 ⟨v5,rfl,ho5,hb3⟩
   obtain ⟨a5,cap5,rfl⟩:=own_slice ho5
   have HB3':Hid (Below wr.heap.size wr z3):=hb3
   have HZ3:Hid (wr.heap.size≤z3.heap.size):=hb3.size
   clear ho5 hb3 HTD b0 b1 b2 hBl hXl
   go_wp2_with fail
   refine (xwrites_any (HTX.out.below HB3'.out)).mono ?_
   rintro e z4 ⟨vw,rfl,how,hb4⟩
   obtain ⟨aw,capw,rfl⟩:=own_slice how
   obtain ⟨nW,HNW⟩ : ∃ nW,Hid ((T k).tb.R.length=nW):=⟨_,Eq.refl _⟩
   rw [HNW.out] at how ⊢
   have HW4:Hid (z4.ownsRow z3.heap.size 60 2 (.slice aw nW capw) nW (Tl.rowsC (T k).tb.R)):=how
   have HB4':Hid (Below wr.heap.size wr z4):=below_then HB3'.out hb4
   clear hb4 HB3' how
   obtain ⟨rw0,rw1,rw2,rw3,rw4,rw5,rw6,rw7,HRW⟩ : ∃ rw0 rw1 rw2 rw3 rw4 rw5 rw6 rw7:Nat,Hid (swV (T k).rd 0 = .int .u64 ((rw0:Nat):Int)∧swV (T k).rd 1 = .int .u64 ((rw1:Nat):Int)∧swV (T k).rd 2 = .int .u64 ((rw2:Nat):Int)∧swV (T k).rd 3 = .int .u64 ((rw3:Nat):Int)∧swV (T k).rd 4 = .int .u64 ((rw4:Nat):Int)∧swV (T k).rd 5 = .int .u64 ((rw5:Nat):Int)∧swV (T k).rd 6 = .int .u64 ((rw6:Nat):Int)∧swV (T k).rd 7 = .int .u64 ((rw7:Nat):Int)):=⟨_,_,_,_,_,_,_,_,⟨rfl,rfl,rfl,rfl,rfl,rfl,rfl,rfl⟩⟩
   have HRDS:Hid (Calls Tryz.prog 12 #[.pointer (some ⟨Tp k,0,none⟩)] z4 fun e w' => e = .returned (.agg #[.int .u64 ((rw0:Nat):Int),.int .u64 ((rw1:Nat):Int),.int .u64 ((rw2:Nat):Int),.int .u64 ((rw3:Nat):Int),.int .u64 ((rw4:Nat):Int),.int .u64 ((rw5:Nat):Int),.int .u64 ((rw6:Nat):Int),.int .u64 ((rw7:Nat):Int)])∧Below z4.heap.size z4 w'):=by
    have h9:=xreads_any (HTX.out.below HB4'.out)
    rw [sv_eight (HMI.out.wi.ok k hk).rd,HRW.out.1,HRW.out.2.1,HRW.out.2.2.1,HRW.out.2.2.2.1,HRW.out.2.2.2.2.1,HRW.out.2.2.2.2.2.1,HRW.out.2.2.2.2.2.2.1,HRW.out.2.2.2.2.2.2.2] at h9
    exact h9
   go_wp2_with fail
   refine HRDS.out.mono ?_
   rintro e z5 ⟨rfl,hb5⟩
   have HB5':Hid (Below wr.heap.size wr z5):=below_then HB4'.out hb5
   have HW5:Hid (z5.ownsRow z3.heap.size 60 2 (.slice aw nW capw) nW (Tl.rowsC (T k).tb.R)):=own_keep HW4.out (Keep.of_below hb5 []) (by simp)
   clear hb5 HRDS HW4 HB4'
   obtain ⟨Ps,HPS⟩ : ∃ Ps,Hid (z5.heap.size=Ps):=⟨_,Eq.refl _⟩
   obtain ⟨x5,hx5⟩ : ∃ x5,x5=z5.alloc (.cells #[.int .u64 ((rw0:Nat):Int),.int .u64 ((rw1:Nat):Int),.int .u64 ((rw2:Nat):Int),.int .u64 ((rw3:Nat):Int),.int .u64 ((rw4:Nat):Int),.int .u64 ((rw5:Nat):Int),.int .u64 ((rw6:Nat):Int),.int .u64 ((rw7:Nat):Int)] 51):=⟨_,rfl⟩
   have HBX:Hid (Below wr.heap.size wr x5):=by rw [Hid,hx5]; exact below_then HB5'.out (below_a1 _ _)
   have HSX:Hid (x5.heap[Ps]? = some (.cells #[.int .u64 ((rw0:Nat):Int),.int .u64 ((rw1:Nat):Int),.int .u64 ((rw2:Nat):Int),.int .u64 ((rw3:Nat):Int),.int .u64 ((rw4:Nat):Int),.int .u64 ((rw5:Nat):Int),.int .u64 ((rw6:Nat):Int),.int .u64 ((rw7:Nat):Int)] 51 (0,0))):=by rw [Hid,hx5,← HPS.out]; exact heap_alloc_new _ _
   have HWX:Hid (x5.ownsRow z3.heap.size 60 2 (.slice aw nW capw) nW (Tl.rowsC (T k).tb.R)):=by rw [Hid,hx5]; exact own_keep HW5.out (Keep.of_below (below_a1 _ _) []) (by simp)
   have HM5:Hid (MI w x5 base s m n (.pointer (some ⟨M,0,none⟩)) Tp B X cap cur sv wv (.slice (some ⟨Rb,0,none⟩) 4 4) q L g T R A):=HMI.out.below HBX.out
   obtain ⟨x', ex, _, _, hcell⟩ := HAC.out x5 q HM5.out.bel hlt
   obtain rfl:x=x':=Option.some.inj ex
   rw [HAE.out] at hcell
   unfold atC at hcell
   have c0:=hcell 0 _ rfl
   have c1:=hcell 1 _ rfl
   have c2:=hcell 2 _ rfl
   have c3:=hcell 3 _ rfl
   have c4:=hcell 4 _ rfl
   have c5:=hcell 5 _ rfl
   have c6:=hcell 6 _ rfl
   have c7:=hcell 7 _ rfl
   have c8:=hcell 8 _ rfl
   have c9:=hcell 9 _ rfl
   have c10:=hcell 10 _ rfl
   have c11:=hcell 11 _ rfl
   rw [add_pos' _ _ (by decide)] at c1 c2 c3 c4 c5 c6 c7 c8 c9 c10 c11
   have c0':x5.cell? (x.add (q * 12))=some (.int .i64 a.kind):=by have:=c0; rwa [add_zero'] at this
   have hE2:(T k).ev.length+1 < 1073741824:=by have:=HM5.out.evs k hk; omega
   have HACT : Hid (Calls Tryz.prog 13 #[.pointer (some ⟨B, 0, none⟩), .int .i64 (k : Int), .agg #[.int .i64 a.kind, .int .i64 a.who, .int .i64 a.thread, .int .i64 a.w.kind, .int .i64 a.w.cell, .int .i64 a.w.value, .int .i64 a.w.code, .int .i64 a.n, .int .i64 a.ak, .int .i64 a.ai, .int .i64 a.aj, .int .i64 a.v]] x5 fun e w' => ∃ o pre E g' r', o = actX 8 s (T k) L k (wantA a) ∧ e = .returned (.agg #[.int .i64 o.k, .int .i64 o.e, .int .i64 o.v, .bool o.y]) ∧ (pre = [] ∨ pre = [{ kind := 7 }]) ∧ Hap (Why n m g (T k) (wantA a)) 8 n m L g T R k pre o E g' r' ∧ ∃ A', MI w w' base s m n (.pointer (some ⟨M, 0, none⟩)) Tp B X cap cur sv wv (.slice (some ⟨Rb, 0, none⟩) 4 4) (q + 1) o.L g' (setT T k o.x) (setT R k r') A' ∧ Next A A' x5 w') := by
    refine (HM5.out.gb.act hk HM5.out.hi (by have:=HM5.out.len; omega) hE2 (HM5.out.wi.ok k hk) HM5.out.wi.wd a).mono ?_
    rintro e w' ⟨rfl, A', gb, nx⟩
    obtain ⟨pre, E, g', r', hp, hap⟩ := hap_act HM5.out.wi hk (by omega) (wantA a) (want_ok2 hval) (k : Int)
    rw [HM5.out.gs] at hap
    exact ⟨_, pre, E, g', r', rfl, rfl, hp, hap, A', HM5.out.acts hk hp hap gb nx, nx⟩
   have HXK:Hid (XOk (T k)):=HM5.out.wi.ok k hk
   have HTL:Hid (nW≤24):=by have h1:=(HM5.out.wi.ok k hk).inv.len; have h2:=(HM5.out.wi.ok k hk).inv.m24; rw [Hid,← HNW.out]; omega
   have HGN0:Hid (g.n≤100000000):=by
    have h1:=HM5.out.wi.nm
    have:g.n≤100000000:=(by omega)
    exact this
   have hBl:=heap_lt HM5.out.gb.gm
   clear hcell c0 hE2
   go_upto_region 13 with fail
   rw [← hx5,HPS.out]
   clear hx5
   go_wp2_with fail
   refine HACT.out.mono ?_
   rintro e z6 ⟨o, pre, E, g', r', HOX, rfl, hp, hap, A', mi6, nx6⟩
   clear HOX HACT c0' c1 c2 c3 c4 c5 c6 c7 c8 c9 c10 c11
   have HM6 : Hid (Z2 w z6 base s m n (.pointer (some ⟨M, 0, none⟩)) Tp B X cap Rb cur (q + 1) o.L g' (setT T k o.x) (setT R k r') A' wv g.W R) := ⟨sv, S', ws, mi6, (HSW.out.1.below HBX.out).next nx6, ((HSW.out.2.1.below HBX.out).next HSW.out.2.2.2 HSW.out.1.wA nx6).1, ((HSW.out.2.1.below HBX.out).next HSW.out.2.2.2 HSW.out.1.wA nx6).2, (HSW.out.2.2.1.below HBX.out).next nx6⟩
   have HWS:Hid (z6.ownsRow z3.heap.size 60 2 (.slice aw nW capw) nW (Tl.rowsC (T k).tb.R)∧z6.heap[Ps]? = some (.cells #[.int .u64 ((rw0:Nat):Int),.int .u64 ((rw1:Nat):Int),.int .u64 ((rw2:Nat):Int),.int .u64 ((rw3:Nat):Int),.int .u64 ((rw4:Nat):Int),.int .u64 ((rw5:Nat):Int),.int .u64 ((rw6:Nat):Int),.int .u64 ((rw7:Nat):Int)] 51 (0,0))):=by
    have hA:=HMI.out.gb.gg.lt
    have hz3:wr.heap.size≤z3.heap.size:=HZ3.out
    refine ⟨own_keep HWX.out nx6.1 (fun b hb hm => ?_),keep_row nx6.1 HSX.out (fun hm => ?_)⟩
    ·have h1:=(HWX.out.lt b hb).1
     have h2:=(hA b hm).2
     omega
    ·have h2:=(hA _ hm).2
     have h3:=HB5'.out.size
     have h4:=HPS.out
     omega
   have HWA:Hid (∀ b,(Value.slice aw nW capw).ownBlock=some b→b ∉ A'):=fun b hb e=>by
    have h1:=HWX.out.lt b hb
    have h3:=HZ3.out
    rcases nx6.2 b e with e | e
    ·have h2:=(HMI.out.gb.gg.lt b e).2
     omega
    ·omega
   obtain ⟨hre,hre2⟩:=reads_each hap hp
   have hev:=hap.ev
   have hfew:=hap_few2 hap hp
   obtain ⟨Dl,hDl⟩ : ∃ Dl,pre++E=Dl:=⟨_,rfl⟩
   simp only [hDl] at hev hfew hre hre2
   have HRE:Hid ((Dl = [] → g'.W=g.W∧r'=R k) ∧ ∀ j,(hj:j < Dl.length)→((j+1 < Dl.length∧Dl[j].kind=7)∨(j+1=Dl.length∧RdCase g (T k) (R k) Dl[j] g' r'))):=⟨hre,hre2⟩
   have HRB:Hid (∀ i,i < 4→(setT R k r' i).length≤q+1):=fun i hi=>by
    by_cases e:i=k
    ·subst e
     rw [setT_self]
     have h1:=HRL.out i hi
     by_cases hd:Dl = []
     ·rw [(hre hd).2]; omega
     ·have hl:0 < Dl.length:=List.length_pos_iff.2 hd
      rcases hre2 (Dl.length - 1) (by omega) with ⟨h2,_⟩ | ⟨_,h2⟩
      ·omega
      ·rcases h2 with ⟨_,_,h3,_⟩ | ⟨_,_,⟨_,_,_,h3⟩ | ⟨_,_,h3⟩,_⟩ | ⟨_,_,h3⟩ | ⟨_,_,h3,_⟩ | ⟨_,_,h3,_⟩
       ·rw [h3]; simp
       ·rw [h3]; omega
       ·rw [h3]; simp; omega
       ·rw [h3]; omega
       ·rw [h3]; omega
       ·rw [h3]; omega
    ·rw [setT_else R _ e]
     have:=HRL.out i hi
     omega
   have HTD:Hid (Calls Tryz.prog 10 #[.pointer (some ⟨Tp k,0,none⟩),.int .i64 ((T k).ev.length:Int)] z6 fun e w'' => ∃ v,e = .returned v∧w''.ownsRow z6.heap.size 58 19 v Dl.length (evsC Dl)∧Below z6.heap.size z6 w''):=by
    have hE3:(setT T k o.x k).ev.length < 1073741824:=by have:=mi6.evs k hk; omega
    have:=mi6.gb.told hk hE3 ((T k).ev.length:Int)
    rw [setT_self,hev,fromE_app] at this
    exact this
   have HBZ3:Hid (base≤z3.heap.size):=Nat.le_trans HMI.out.hi HZ3.out
   clear mi6 nx6 hap hre hre2 hev hDl hp hE HM5 HWX HSX HW5 HBX HB5' HSW HMI HTX HAE HPS hval hBl HZ3
   go_wp2_with fail
   refine HTD.out.mono ?_
   rintro e z8 ⟨v8,rfl,ho8,hb8⟩
   obtain ⟨a8,cap8,rfl⟩:=own_slice ho8
   obtain ⟨b8,HB8⟩ : ∃ b8,Hid (z6.heap.size=b8):=⟨_,Eq.refl _⟩
   have HO8:Hid (z8.ownsRow b8 58 19 (.slice a8 Dl.length cap8) Dl.length (evsC Dl)):=by rw [Hid,← HB8.out]; exact ho8
   have HM8:Hid (Z2 w z8 base s m n (.pointer (some ⟨M,0,none⟩)) Tp B X cap Rb cur (q+1) o.L g' (setT T k o.x) (setT R k r') A' wv g.W R):=HM6.out.below hb8
   have HW8:Hid (z8.ownsRow z3.heap.size 60 2 (.slice aw nW capw) nW (Tl.rowsC (T k).tb.R)∧z8.heap[Ps]? = some (.cells #[.int .u64 ((rw0:Nat):Int),.int .u64 ((rw1:Nat):Int),.int .u64 ((rw2:Nat):Int),.int .u64 ((rw3:Nat):Int),.int .u64 ((rw4:Nat):Int),.int .u64 ((rw5:Nat):Int),.int .u64 ((rw6:Nat):Int),.int .u64 ((rw7:Nat):Int)] 51 (0,0))):=⟨own_keep HWS.out.1 (Keep.of_below hb8 []) (by simp),row_on HWS.out.2 hb8⟩
   clear ho8 hb8 HTD HM6 HWS
   obtain ⟨nd,hnd⟩ : ∃ nd,Dl.length=nd:=⟨_,rfl⟩
   have HND:Hid (Dl.length=nd):=hnd
   have hnd2:nd≤2:=by rw [← hnd]; exact hfew
   rw [hnd] at HO8
   rw [hnd]
   obtain ⟨bw,HBW⟩ : ∃ bw,Hid (z3.heap.size=bw):=⟨_,Eq.refl _⟩
   rw [HBW.out] at HW8
   have HBWB:Hid (base≤bw):=by rw [Hid,← HBW.out]; exact HBZ3.out
   clear hnd hfew
   go_wp2_with fail
   go_loopw [14] (fun jv wq => ∃ (j:Nat) (wv':Value) (G:List (List Wt)) (rr:List (Int × Int)),j≤nd∧jv = .int .i64 j∧Z2 w wq base s m n (.pointer (some ⟨M,0,none⟩)) Tp B X cap Rb cur (q+1) o.L g' (setT T k o.x) (setT R k r') A' wv' G (setT R k rr)∧(j < nd→G=g.W∧rr=R k∧wq.ownsRow b8 58 19 (.slice a8 nd cap8) nd (evsC Dl)∧wq.ownsRow bw 60 2 (.slice aw nW capw) nW (Tl.rowsC (T k).tb.R)∧wq.heap[Ps]? = some (.cells #[.int .u64 ((rw0:Nat):Int),.int .u64 ((rw1:Nat):Int),.int .u64 ((rw2:Nat):Int),.int .u64 ((rw3:Nat):Int),.int .u64 ((rw4:Nat):Int),.int .u64 ((rw5:Nat):Int),.int .u64 ((rw6:Nat):Int),.int .u64 ((rw7:Nat):Int)] 51 (0,0)))∧(j=nd→G=g'.W∧rr=r')) (fun jv _=>nd - (intOf jv).toNat)
   case atStart =>
    refine ⟨0,_,g.W,R k,by omega,rfl,by rw [setT_id]; exact HM8.out,fun _=>⟨rfl,rfl,HO8.out,HW8.out.1,HW8.out.2⟩,fun e => ?_⟩
    have hn:Dl = []:=List.eq_nil_of_length_eq_zero (by have:=HND.out; omega)
    obtain ⟨s1,s2⟩:=HRE.out.1 hn
    exact ⟨s1.symm,s2.symm⟩
   case round=>as_aux_lemma =>
    obtain ⟨j, wv', G, rr, hj, rfl, hz, h4, h5⟩ := hrel
    have HZ:Hid (Z2 w wr base s m n (.pointer (some ⟨M,0,none⟩)) Tp B X cap Rb cur (q+1) o.L g' (setT T k o.x) (setT R k r') A' wv' G (setT R k rr)):=hz
    clear HM8 HO8 HW8 hz
    by_cases hjn:j < nd
    ·obtain ⟨rfl,rfl,hrow,hww,hss⟩:=h4 hjn
     obtain ⟨gg,rfl⟩:=own_form2 hrow (by omega)
     have hjl:j < Dl.length:=by rw [HND.out]; exact hjn
     have hrow':wr.ownsRow b8 58 19 (.slice (some ⟨gg,0,none⟩) Dl.length cap8) Dl.length (evsC Dl):=by rw [HND.out]; exact hrow
     have hgl:gg < wr.heap.size:=(hrow.lt gg rfl).2
     have hx1:(j:Int) < (nd:Int):=by omega
     have hx0:(0:Int)≤(j:Int):=by omega
     have hcase:=HRE.out.2 j hjl
     obtain ⟨ev,HEV⟩ : ∃ ev,Hid (Dl[j] = ev):=⟨Dl[j],Eq.refl Dl[j]⟩
     rw [HEV.out] at hcase
     obtain ⟨ea,HEA,HRG,HIZ,hsz19⟩:=ev_row hrow' hjl HEV.out
     obtain ⟨z10,hs10,HE10,HB10,hz10⟩:=new_ev (P:=Tryz.prog) (w:=wr) hsz19 (ev_one HEA.out)
     have HOq:Hid (wr.ownsRow b8 58 19 (.slice (some ⟨gg,0,none⟩) nd cap8) nd (evsC Dl)∧wr.ownsRow bw 60 2 (.slice aw nW capw) nW (Tl.rowsC (T k).tb.R)∧wr.heap[Ps]? = some (.cells #[.int .u64 ((rw0:Nat):Int),.int .u64 ((rw1:Nat):Int),.int .u64 ((rw2:Nat):Int),.int .u64 ((rw3:Nat):Int),.int .u64 ((rw4:Nat):Int),.int .u64 ((rw5:Nat):Int),.int .u64 ((rw6:Nat):Int),.int .u64 ((rw7:Nat):Int)] 51 (0,0))):=⟨hrow,hww,hss⟩
     clear hrow h4 h5 hrow' hww hss
     go_upto_region 18 with fail
     go_cut [15] (fun v wx=>v = .pointer (some ⟨wr.heap.size,0,none⟩)∧z10=wx)
     case first=>as_aux_lemma =>
      --<R18
      go_wp2_with (first | (refine wpList_load_mid (by rfl) _ _ (by rfl) gg (j * 19) (by rfl) ea.toList _ HRG.out Tryz.underlying58 (by rfl) HIZ.out ?_) | fail)
      go_meet
      exact ⟨rfl,rfl⟩
      -->
     case rest =>
     obtain ⟨rfl,rfl⟩:=hcut
     obtain ⟨Pe,hPe⟩ : ∃ Pe,wr.heap.size=Pe:=⟨_,rfl⟩
     have HPE:Hid (wr.heap.size=Pe):=hPe
     rw [hPe] at HE10
     rw [hPe]
     have HZz:Hid (Z2 w z10 base s m n (.pointer (some ⟨M,0,none⟩)) Tp B X cap Rb cur (q+1) o.L g' (setT T k o.x) (setT R k r') A' wv' g.W (setT R k (R k))):=HZ.out.below HB10.out
     have HOz:Hid (z10.ownsRow b8 58 19 (.slice (some ⟨gg,0,none⟩) nd cap8) nd (evsC Dl)∧z10.ownsRow bw 60 2 (.slice aw nW capw) nW (Tl.rowsC (T k).tb.R)∧z10.heap[Ps]? = some (.cells #[.int .u64 ((rw0:Nat):Int),.int .u64 ((rw1:Nat):Int),.int .u64 ((rw2:Nat):Int),.int .u64 ((rw3:Nat):Int),.int .u64 ((rw4:Nat):Int),.int .u64 ((rw5:Nat):Int),.int .u64 ((rw6:Nat):Int),.int .u64 ((rw7:Nat):Int)] 51 (0,0))):=⟨own_keep HOq.out.1 (Keep.of_below HB10.out []) (by simp),own_keep HOq.out.2.1 (Keep.of_below HB10.out []) (by simp),row_on HOq.out.2.2 HB10.out⟩
     have q3:z10.cell? ⟨Pe,3,none⟩=some (.int .i64 ev.kind):=by rw [cell_at HE10.out,ev_at HEA.out]; rfl
     have hPl:=heap_lt HE10.out
     clear hPe hgl hs10 hz10 HRG HIZ
     rcases hcase with ⟨jl,j1⟩ | ⟨jl,⟨j1,j2,j3,j4,j5⟩ | ⟨j1,j2,j3,j4⟩ | ⟨⟨j1,j1b,j1c,j1d⟩,j2,j3⟩ | ⟨j1,j2,j3,j4,j5,j6⟩ | ⟨j1,j2,j3,j4⟩⟩
     ·as_aux_lemma =>
      --<OPN
      rw [j1] at q3
      clear j1
      go_wp2
      go_roundw
      case rel=>exact ⟨j+1,_,_,_,by omega,by go_num,HZz.out,fun _=>⟨rfl,rfl,HOz.out⟩,fun e=>by exfalso; have:=HND.out; omega⟩
      case measure=>simp [intOf]; omega
      -->
     ·as_aux_lemma =>
      --<BGN
      rw [j1] at q3
      clear j1
      obtain ⟨va,vcap,rfl,e3,e4,hBz,ra,rc,r0,r1,r2,_⟩:=HZz.out.see hk
      obtain ⟨zn,kn,ktn⟩:=HZz.out.nilk HR0.out hk
      rw [setT_two] at zn
      obtain ⟨z11,hz11⟩ : ∃ z11,z11=z10.setCell ⟨Rb,k,none⟩ (.slice none 0 0):=⟨_,rfl⟩
      rw [← hz11] at zn kn
      have HE11:Hid (z11.heap[Pe]? = some (.cells ea 58 (0,0))):=kt_keep HE10.out kn ktn (by decide)
      have HZn:Hid (Z2 w z11 base s m n (.pointer (some ⟨M,0,none⟩)) Tp B X cap Rb cur (q+1) o.L g' (setT T k o.x) (setT R k r') A' (.slice va g.W.length vcap) g.W (setT R k [])):=zn
      clear zn kn ktn
      go_upto_region 22 with fail
      rw [← hz11]
      clear hz11 e3 e4 r0 r1 r2 hBz q3 hPl HOz HZz HE10
      obtain ⟨va2,vcap2,ew,e3,_,hB11,_⟩:=HZn.out.see hk
      simp only [Value.slice.injEq] at ew
      obtain ⟨rfl,_,rfl⟩:=ew
      have q7:z11.cell? ⟨Pe,7,none⟩=some (.int .i64 ev.start):=by rw [cell_at HE11.out,ev_at HEA.out]; rfl
      have q8:z11.cell? ⟨Pe,8,none⟩=some (.int .i64 ev.seen):=by rw [cell_at HE11.out,ev_at HEA.out]; rfl
      have hPl:=heap_lt HE11.out
      have hs1 : ¬ ev.seen < ev.start:=by omega
      have d1:decide (ev.seen < ev.start)=false:=decide_eq_false hs1
      have j5':ev.seen≤(g.W.length:Int):=j5
      have HGE:Hid (g.W=g'.W ∧ [] = r'):=⟨j2.symm,j3.symm⟩
      clear j2 j3 j4 j5
      generalize g.W.length=gn at *
      generalize ev.seen=es at *
      generalize ev.start=et at *
      by_cases hn:es=(gn:Int)
      ·subst hn
       go_quiet (fail)
       go_wp2_with fail
       go_roundw
       case rel=>exact ⟨j+1,_,_,_,by omega,by go_num,HZn.out.below (below_drawn (Below.refl _ _) _),fun e=>by exfalso; have:=HND.out; omega,fun _=>HGE.out⟩
       case measure=>simp [intOf]; omega
      ·have d2:(es == (gn:Int))=false:=by simpa using hn
       have d3:(es != (gn:Int))=true:=by simp [hn]
       have d4:decide ((gn:Int) < es)=false:=decide_eq_false (by omega)
       have d5 : ¬ (gn:Int) < es:=by omega
       go_quiet (fail)
       go_wp2_with fail
       go_roundw
       case rel=>exact ⟨j+1,_,_,_,by omega,by go_num,HZn.out.below (below_drawn (Below.refl _ _) _),fun e=>by exfalso; have:=HND.out; omega,fun _=>HGE.out⟩
       case measure=>simp [intOf]; omega
      -->
     ·as_aux_lemma =>
      --<RDS
      rw [j1] at q3
      clear j1
      obtain ⟨va,vcap,rfl,_⟩:=HZz.out.see hk
      have HRC:Hid (∃ c,z10.cell? ⟨Rb,k,none⟩=some c∧Rb < z10.heap.size ∧ ∀ b,c.ownBlock=some b→b < Pe):=by
       obtain ⟨sv9,S9,ws9,mi9,sw9,wl9,wn9,cur9,E9,rd9⟩:=HZ.out
       obtain ⟨c,c1,c2,c3⟩:=rd9.row k hk
       refine ⟨c,(HB10.out.cell (p:=⟨Rb,k,none⟩) (heap_lt rd9.blk)).trans ((cell_at rd9.blk k).trans c1),Nat.lt_of_lt_of_le (heap_lt rd9.blk) HB10.out.size,fun b hb => ?_⟩
       have h9:=(c2.lt b hb).2
       rw [HPE.out] at h9
       exact h9
      obtain ⟨W,HWD⟩ : ∃ W,Hid (toW (T k).tb.R=W):=⟨_,Eq.refl _⟩
      have HWL:Hid (W.length=nW∧nW≤24):=⟨by rw [← HWD.out,toW_len,HNW.out],HTL.out⟩
      have HWR:Hid (∀ wx,Below z10.heap.size z10 wx→wx.ownsRow bw 60 2 (.slice aw nW capw) nW (wtC W)∧wx.heap[Pe]? = some (.cells ea 58 (0,0))):=fun wx kb=>⟨by
              have h9:=HOz.out.2.1
              rw [← toW_cells,HWD.out] at h9
              exact own_keep h9 (Keep.of_below kb []) (by simp),row_on HE10.out kb⟩
      have HYV:Hid (ownB ev.cell W=Tl.getY (T k).tb ev.cell∧(Tl.getY (T k).tb ev.cell=true→wrVal ev.cell 0 W=Tl.getV (T k).tb ev.cell)):=⟨by rw [← HWD.out]; exact own_y _ _,fun h=>by rw [← HWD.out]; exact own_v HXK.out.inv h⟩
      have HVA : Hid (∀ p ∈ r', valG p.1 g.W ev.seen = p.2) := fun p hp => (j4 p hp).symm
      have HGE:Hid (g.W=g'.W∧r'=r'):=⟨j2.symm,rfl⟩
      clear j2 j4 HOz
      go_wp2_with fail
      go_loopw [16,17,18] (fun ov vv iv wx => ∃ i:Nat,i≤nW∧iv = .int .i64 (i:Int)∧ov = .bool (ownB ev.cell (W.take i))∧vv = .int .i64 (wrVal ev.cell 0 (W.take i))∧Below z10.heap.size z10 wx) (fun _ _ iv _=>nW - (intOf iv).toNat)
      case atStart=>exact ⟨0,by omega,rfl,rfl,rfl,Below.refl _ _⟩
      case round =>
       obtain ⟨i,hi,rfl,rfl,rfl,hb2⟩:=hrel
       have HB2:Hid (Below z10.heap.size z10 wr):=hb2
       clear hb2
       obtain ⟨hr,he⟩:=HWR.out wr HB2.out
       by_cases hin:i < nW
       ·as_aux_lemma =>
        --<RL3
        obtain ⟨ub,rfl⟩:=own_form2 hr (by omega)
        have hub:=(hr.lt ub rfl).2
        obtain ⟨t0,t1⟩:=wtC_get W i (by rw [HWL.out.1]; exact hin)
        have u0:=own_cells hr _ _ t0
        have u1:=own_cells hr _ _ t1
        have eq4:wr.cell? ⟨Pe,4,none⟩=some (.int .i64 ev.cell):=by rw [cell_at he,ev_at HEA.out]; rfl
        have hPr:=heap_lt he
        have HO1:Hid (ownB ev.cell (W.take (i+1))=if (W.getD i noWt).c=ev.cell then true else ownB ev.cell (W.take i)):=ownB_one _ _ _ (by rw [HWL.out.1]; exact hin)
        have HV1:Hid (wrVal ev.cell 0 (W.take (i+1))=if (W.getD i noWt).c=ev.cell then (W.getD i noWt).v else wrVal ev.cell 0 (W.take i)):=wrValG_one _ _ _ _ (by rw [HWL.out.1]; exact hin)
        have hi1:(i:Int) < (nW:Int):=by omega
        have hi0:(0:Int)≤(i:Int):=by omega
        have hn24:nW≤24:=HWL.out.2
        clear hr he t0 t1
        generalize (W.getD i noWt).c=wc at *
        generalize (W.getD i noWt).v=wv1 at *
        generalize wrVal ev.cell 0 (W.take i)=v1 at *
        generalize ownB ev.cell (W.take i)=o1 at *
        generalize ev.cell=ec at *
        by_cases hc:wc=ec
        ·have dc:(wc == ec)=true:=by simpa using hc
         rw [if_pos hc] at HO1 HV1
         clear hc
         go_wp2_with fail
         go_quiet (fail)
         go_wp2_with fail
         go_roundw
         case rel=>exact ⟨i+1,by omega,by go_num,by rw [HO1.out],by rw [HV1.out],below_then HB2.out (below_drawn (Below.refl _ _) _)⟩
         case measure=>simp [intOf]; omega
        ·have dc:(wc == ec)=false:=by simpa using hc
         rw [if_neg hc] at HO1 HV1
         clear hc
         go_wp2_with fail
         go_quiet (fail)
         go_wp2_with fail
         go_roundw
         case rel=>exact ⟨i+1,by omega,by go_num,by rw [HO1.out],by rw [HV1.out],below_then HB2.out (below_drawn (Below.refl _ _) _)⟩
         case measure=>simp [intOf]; omega
        -->
       ·have hi1 : ¬ (i:Int) < (nW:Int):=by omega
        have HWT:Hid (W.take i=W):=List.take_of_length_le (by rw [HWL.out.1]; omega)
        obtain ⟨zz,hzz⟩ : ∃ zz,zz=wr:=⟨_,rfl⟩
        subst hzz
        have HZQ0:Hid (Z2 w zz base s m n (.pointer (some ⟨M,0,none⟩)) Tp B X cap Rb cur (q+1) o.L g' (setT T k o.x) (setT R k r') A' (.slice va g.W.length vcap) g.W (setT R k (R k))):=HZz.out.below HB2.out
        have HEQ0:Hid (zz.heap[Pe]? = some (.cells ea 58 (0,0))):=he
        have eq5:zz.cell? ⟨Pe,5,none⟩=some (.int .i64 ev.value):=by rw [cell_at he,ev_at HEA.out]; rfl
        have eq6:zz.cell? ⟨Pe,6,none⟩=some (.bool ev.own):=by rw [cell_at he,ev_at HEA.out]; rfl
        have hPr:=heap_lt he
        clear hr he HZz
        rw [HWT.out,HYV.out.1]
        rcases j3 with ⟨a1,a2,a3,a4⟩ | ⟨a1,a2,a4⟩
        ·as_aux_lemma =>
         --<ROWN
         have hvv:=HYV.out.2 a2
         rw [a1] at eq6
         rw [a2,hvv,← a3]
         subst a4
         have HZQ:Hid (Z2 w zz base s m n (.pointer (some ⟨M,0,none⟩)) Tp B X cap Rb cur (q+1) o.L g' (setT T k o.x) (setT R k (R k)) A' (.slice va g.W.length vcap) g.W (setT R k (R k))):=HZQ0.out
         have HEQ:Hid (zz.heap[Pe]? = some (.cells ea 58 (0,0))):=HEQ0.out
         clear HZQ0 HEQ0 hvv a1 a2 a3 HYV HWR HZ
         clear q3 hPl
         have HNQ:Hid (∃ nq:Nat,(R k).length=nq):=⟨_,rfl⟩
         obtain ⟨nq,hnq⟩:=HNQ.out
         have HQN:Hid ((R k).length=nq):=hnq
         have HQB:Hid (nq≤2000000):=by have h9:=HRL.out k hk; have:nq≤2000000:=(by omega); exact this
         clear hnq HNQ
         --<RW1
         go_wp2_with fail
         --<RW2
         go_loopw [19] (fun iv wx => ∃ i:Nat,i≤nq∧iv = .int .i64 (i:Int)∧Below zz.heap.size zz wx) (fun iv _=>nq - (intOf iv).toNat)
         case atStart=>exact ⟨0,by omega,rfl,Below.refl _ _⟩
         case round =>
          --<RW5
          obtain ⟨i,hi,rfl,hb3⟩:=hrel
          have HZr:Hid (Z2 w wr base s m n (.pointer (some ⟨M,0,none⟩)) Tp B X cap Rb cur (q+1) o.L g' (setT T k o.x) (setT R k (R k)) A' (.slice va g.W.length vcap) g.W (setT R k (R k))):=HZQ.out.below hb3
          have HEr:Hid (wr.heap[Pe]? = some (.cells ea 58 (0,0))):=row_on HEQ.out hb3
          have HBr:Hid (Below zz.heap.size zz wr):=hb3
          clear hb3
          obtain ⟨va2,vcap2,ew,e3,e4,hBz,ra,rc,r0,r1,r2,rg⟩:=HZr.out.see hk
          clear ew e3 r1
          rw [setT_self,HQN.out] at r0 rg
          by_cases hin:i < nq
          ·--<RW3
           obtain ⟨gb,rfl,hgb,g4,g5⟩:=rg i hin
           have hi1:(i:Int) < (nq:Int):=by omega
           have hi0:(0:Int)≤(i:Int):=by omega
           have hnq2:nq≤2000000:=HQB.out
           have HVQ:Hid (valG ((R k).getD i (0,0)).1 g.W ev.seen=((R k).getD i (0,0)).2):=HVA.out _ (by
                        rw [List.getD_eq_getElem?_getD,List.getElem?_eq_getElem (by rw [HQN.out]; exact hin)]
                        exact List.getElem_mem _)
           have eq8:wr.cell? ⟨Pe,8,none⟩=some (.int .i64 ev.seen):=by rw [cell_at HEr.out,ev_at HEA.out]; rfl
           have hPr:=heap_lt HEr.out
           generalize ((R k).getD i (0,0)).1=rc1 at *
           generalize ((R k).getD i (0,0)).2=rv1 at *
           have HV:Hid (∀ n0,Calls Tryz.prog 14 #[.pointer (some ⟨B,0,none⟩),.int .i64 rc1,.int .i64 ev.seen] (wr.drewN n0) fun e w' => e = .returned (.int .i64 rv1)∧w'=wr.drewN n0):=fun n0=>by
            have h9:=(HZr.out.below (below_drawn (Below.refl _ _) n0)).value HGN0.out rc1 ev.seen
            rw [HVQ.out] at h9
            exact h9
           clear rg
           clear hi
           go_wp2_with fail
           go_quiet ((go_at_call 14; refine Calls.quiet_of_same (HV.out _)))
           go_wp2_with fail
           go_roundw
           case rel=>exact ⟨i+1,by omega,by go_num,below_then HBr.out (below_drawn (Below.refl _ _) _)⟩
           case measure=>simp [intOf]; omega
           -->
          ·--<RW4
           have hi1 : ¬ (i:Int) < (nq:Int):=by omega
           clear rg
           go_wp2_with fail
           --<RW6
           go_roundw
           case rel=>exact ⟨j+1,_,_,_,by omega,by go_num,HZr.out,fun e=>by exfalso; have:=HND.out; omega,fun _=>⟨HGE.out.1,rfl⟩⟩
           case measure=>simp [intOf]; omega
           -->
           -->
          -->
         -->
         -->
         -->
        ·as_aux_lemma =>
         --<RAPP
         rw [a1] at eq6
         rw [a2]
         obtain ⟨sv9,S9,ws9,mi9,sw9,wl9,wn9,cur9,E9,rd9⟩:=HZQ0.out
         obtain ⟨c,c1,c2,c3⟩:=rd9.row k hk
         have hprE:=rd9.rd k hk
         rw [setT_self] at hprE
         obtain ⟨nn,hnn⟩ : ∃ nn,(E9 k).length=nn:=⟨_,rfl⟩
         have hnk:(R k).length=nn:=by rw [← hprE,List.length_map,hnn]
         rw [hnn] at c2
         obtain ⟨sa,sc,rfl⟩:=own_slice c2
         have r0:zz.cell? ⟨Rb,k,none⟩=some (.slice sa nn sc):=(cell_at rd9.blk k).trans c1
         have r1:zz.frozen? ⟨Rb,k,none⟩=false:=frozen_at rd9.blk k
         have hR12:Rb < zz.heap.size:=heap_lt rd9.blk
         have gm9:=mi9.gb.gm
         have s4:zz.cell? ⟨B,4,none⟩=some (.slice (some ⟨Rb,0,none⟩) 4 4):=gm_c4 gm9
         have hB12:B < zz.heap.size:=heap_lt gm9
         unfold gmO at gm9
         have HRO:Hid (zz.ownsRow base 58 19 (.slice sa nn sc) nn (evsC (E9 k))):=c2
         have hVP:(Value.slice sa nn sc).ownBlock≠some Pe:=fun e=>by
          obtain ⟨c9,d1,d2,d3⟩:=HRC.out
          have h9:zz.cell? ⟨Rb,k,none⟩=some c9:=(HB2.out.cell (p:=⟨Rb,k,none⟩) d2).trans d1
          rw [r0] at h9
          obtain rfl:=Option.some.inj h9
          exact absurd (d3 Pe e) (by omega)
         have HVB:Hid ((Value.slice sa nn sc).ownBlock≠some B∧(Value.slice sa nn sc).ownBlock≠some Rb∧(Value.slice sa nn sc).ownBlock≠some Pe∧Rb≠B∧Rb≠Pe):=⟨own_ne c2 gm9 (by decide),own_ne c2 rd9.blk (by decide),hVP,ne_of_type rd9.blk gm9 (by decide),ne_of_type rd9.blk HEQ0.out (by decide)⟩
         have HNN:Hid (nn≤100000000):=by
          have h9:=HRL.out k hk
          have:nn≤100000000:=(by omega)
          exact this
         have HBB:Hid (base≤zz.heap.size):=mi9.hi
         have HEP:Hid (zz.rangeAt Pe 0 ea.toList∧Pe < zz.heap.size):=⟨fun i v hi=>by rw [Nat.zero_add,cell_at HEQ0.out]; simpa using hi,heap_lt HEQ0.out⟩
         have he19:ea.toList.length=19:=by simpa using hsz19
         have HEO:Hid (∀ u ∈ ea.toList,u.oneCell'=true):=fun u hu=>by
          have h9:=ev_one HEA.out
          rw [← Array.all_toList] at h9
          exact List.all_eq_true.1 h9 u hu
         have HPF:Hid (∀ (Xw z13:World) (g2 c2:Nat),Keep [] zz Xw→z13.ownsRow base 58 19 (.slice (some ⟨g2,0,none⟩) (nn+1) c2) (nn+1) (evsC (E9 k)++ea.toList)→Xw.grownBy z13 (Value.slice sa nn sc).ownBlock→((Value.slice sa nn sc).ownBlock=some g2∨zz.heap.size≤g2)→(fun wx:World=>Z2 w wx base s m n (.pointer (some ⟨M,0,none⟩)) Tp B X cap Rb cur (q+1) o.L g' (setT T k o.x) (setT R k r') A' (.slice va g.W.length vcap) g.W (setT R k r')∧wx.heap[Pe]? = some (.cells ea 58 (0,0))) (z13.setCell ⟨Rb,k,none⟩ (.slice (some ⟨g2,0,none⟩) (nn+1) c2))):=fun Xw z13 g2 c2' kX h1 h2 h3=>by
          rw [HEA.out] at h1
          obtain ⟨p1,p2,p3⟩:=HZQ0.out.push (E0:=E9 k) (e:=ev) HR0.out hk r0 (by rw [setT_self]; exact hnk.symm) (by rw [setT_self]; exact hprE) kX h1 h2 h3
          rw [setT_two,setT_self] at p1
          have e9:R k ++ [prE ev] = r':=a4.symm
          rw [e9] at p1
          refine ⟨p1,keep_row p2 HEQ0.out (fun hm => ?_)⟩
          rcases List.mem_cons.1 hm with e | e
          ·exact HVB.out.2.2.2.2 e.symm
          ·exact HVB.out.2.2.1 (by simpa using e)
         clear a1 a2 HYV HWR HZ c1 c2 c3 rd9 mi9 sw9 wl9 wn9 gm9 hnn hprE hVP HRC a4 hnk
         clear q3 hPl
         go_upto_region 36 with fail
         go_cut [] (fun wx=>Z2 w wx base s m n (.pointer (some ⟨M,0,none⟩)) Tp B X cap Rb cur (q+1) o.L g' (setT T k o.x) (setT R k r') A' (.slice va g.W.length vcap) g.W (setT R k r')∧wx.heap[Pe]? = some (.cells ea 58 (0,0)))
         case first=>as_aux_lemma =>
          --<RPF
          clear eq5 eq6 hPr
          rename_i Jx Kx hRJ hMK
          have HJK : Hid (∀ a' w', Met Jx a' w' → Kx a' w') := hMK
          refine wp_code (c':=reg36) (by kernel_rfl) (Code.wp_mono (Q:=Exit.then Kx (fun _ _ _=>False)) ?_ (rd_reg2 (Rz:=fun wx:World=>Z2 w wx base s m n (.pointer (some ⟨M,0,none⟩)) Tp B X cap Rb cur (q+1) o.L g' (setT T k o.x) (setT R k r') A' (.slice va g.W.length vcap) g.W (setT R k r')∧wx.heap[Pe]? = some (.cells ea 58 (0,0))) _ (by kernel_rfl) (by kernel_rfl) (by kernel_rfl) (by kernel_rfl) (by kernel_rfl) HRO HVB HNN HBB s4 hB12 r0 r1 hR12 k4 k0 HEP he19 HEO HPF ?_))
          ·intro e9 a9 w9 h9
           cases e9 <;> first | exact h9 | exact h9.elim
          ·intro v146 v147 v148 v149 v150 v151 v152 v153 v154 v155 v156 v157 v158 v159 v160 v161 w9 h9
           rw [sets297b]
           refine HJK.out _ _ ?_
           go_meet
           exact h9
          -->
         case rest=>as_aux_lemma =>
          --<RPL
          obtain ⟨hz9,he9⟩:=hcut
          have HZQ:Hid (Z2 w wc base s m n (.pointer (some ⟨M,0,none⟩)) Tp B X cap Rb cur (q+1) o.L g' (setT T k o.x) (setT R k r') A' (.slice va g.W.length vcap) g.W (setT R k r')):=hz9
          have HEQ:Hid (wc.heap[Pe]? = some (.cells ea 58 (0,0))):=he9
          clear hz9 he9 HZQ0 HEQ0 HRO HVB HNN HBB s4 hB12 r0 r1 hR12 HEP he19 HEO HPF eq5 eq6 hPr
          have HNQ:Hid (∃ nq:Nat,r'.length=nq):=⟨_,rfl⟩
          obtain ⟨nq,hnq⟩:=HNQ.out
          have HQN:Hid (r'.length=nq):=hnq
          have HQB:Hid (nq≤2000000):=by have h9:=HRB.out k hk; rw [setT_self] at h9; have:nq≤2000000:=(by omega); exact this
          clear hnq HNQ
          go_wp2_with fail
          go_loopw [19] (fun iv wx => ∃ i:Nat,i≤nq∧iv = .int .i64 (i:Int)∧Below wc.heap.size wc wx) (fun iv _=>nq - (intOf iv).toNat)
          case atStart=>exact ⟨0,by omega,rfl,Below.refl _ _⟩
          case round =>
           obtain ⟨i,hi,rfl,hb3⟩:=hrel
           have HZr:Hid (Z2 w wr base s m n (.pointer (some ⟨M,0,none⟩)) Tp B X cap Rb cur (q+1) o.L g' (setT T k o.x) (setT R k r') A' (.slice va g.W.length vcap) g.W (setT R k r')):=HZQ.out.below hb3
           have HEr:Hid (wr.heap[Pe]? = some (.cells ea 58 (0,0))):=row_on HEQ.out hb3
           have HBr:Hid (Below wc.heap.size wc wr):=hb3
           clear hb3
           obtain ⟨va2,vcap2,ew,e3,e4,hBz,ra,rc,r0,r1,r2,rg⟩:=HZr.out.see hk
           clear ew e3 r1
           rw [setT_self,HQN.out] at r0 rg
           by_cases hin:i < nq
           ·obtain ⟨gb,rfl,hgb,g4,g5⟩:=rg i hin
            have hi1:(i:Int) < (nq:Int):=by omega
            have hi0:(0:Int)≤(i:Int):=by omega
            have hnq2:nq≤2000000:=HQB.out
            have HVQ:Hid (valG (r'.getD i (0,0)).1 g.W ev.seen=(r'.getD i (0,0)).2):=HVA.out _ (by
                          rw [List.getD_eq_getElem?_getD,List.getElem?_eq_getElem (by rw [HQN.out]; exact hin)]
                          exact List.getElem_mem _)
            have eq8:wr.cell? ⟨Pe,8,none⟩=some (.int .i64 ev.seen):=by rw [cell_at HEr.out,ev_at HEA.out]; rfl
            have hPr:=heap_lt HEr.out
            generalize (r'.getD i (0,0)).1=rc1 at *
            generalize (r'.getD i (0,0)).2=rv1 at *
            have HV:Hid (∀ n0,Calls Tryz.prog 14 #[.pointer (some ⟨B,0,none⟩),.int .i64 rc1,.int .i64 ev.seen] (wr.drewN n0) fun e w' => e = .returned (.int .i64 rv1)∧w'=wr.drewN n0):=fun n0=>by
             have h9:=(HZr.out.below (below_drawn (Below.refl _ _) n0)).value HGN0.out rc1 ev.seen
             rw [HVQ.out] at h9
             exact h9
            clear rg
            clear hi
            go_wp2_with fail
            go_quiet ((go_at_call 14; refine Calls.quiet_of_same (HV.out _)))
            go_wp2_with fail
            go_roundw
            case rel=>exact ⟨i+1,by omega,by go_num,below_then HBr.out (below_drawn (Below.refl _ _) _)⟩
            case measure=>simp [intOf]; omega
           ·have hi1 : ¬ (i:Int) < (nq:Int):=by omega
            clear rg
            go_wp2_with fail
            go_roundw
            case rel=>exact ⟨j+1,_,_,_,by omega,by go_num,HZr.out,fun e=>by exfalso; have:=HND.out; omega,fun _=>⟨HGE.out.1,rfl⟩⟩
            case measure=>simp [intOf]; omega
          -->
         -->
      -->
     ·as_aux_lemma =>
      --<OTH
      have d1:(ev.kind == 1)=false:=by simpa using j1
      have d2:(ev.kind == 2)=false:=by simpa using j1b
      have d3:(ev.kind == 4)=false:=by simpa using j1c
      have d4:(ev.kind == 6)=false:=by simpa using j1d
      clear j1 j1b j1c j1d
      go_wp2
      go_roundw
      case rel=>exact ⟨j+1,_,_,_,by omega,by go_num,HZz.out,fun e=>by exfalso; have:=HND.out; omega,fun _=>⟨j2.symm,j3.symm⟩⟩
      case measure=>simp [intOf]; omega
      -->
     ·as_aux_lemma =>
      --<PUB
      rw [j1] at q3
      clear j1
      subst j3
      obtain ⟨va,vcap,rfl,e3,e4,hBz,ra0,rc0,r0,r1,r2,_⟩:=HZz.out.see hk
      obtain ⟨W,HWD⟩ : ∃ W,Hid (toW (T k).tb.R=W):=⟨_,Eq.refl _⟩
      have HWL:Hid (W.length=nW∧nW≤24):=⟨by rw [← HWD.out,toW_len,HNW.out],HTL.out⟩
      have hnw0:((nW:Int) == 0)=false:=by
       have:nW≠0:=fun e=>j5 (List.eq_nil_of_length_eq_zero (HNW.out.trans e))
       simpa using this
      have HWR:Hid (∀ wx,Below z10.heap.size z10 wx→wx.ownsRow bw 60 2 (.slice aw nW capw) nW (wtC W)∧wx.heap[Pe]? = some (.cells ea 58 (0,0))):=fun wx kb=>⟨by
              have h9:=HOz.out.2.1
              rw [← toW_cells,HWD.out] at h9
              exact own_keep h9 (Keep.of_below kb []) (by simp),row_on HE10.out kb⟩
      have q9:z10.cell? ⟨Pe,9,none⟩=some (.int .i64 ev.stamp):=by rw [cell_at HE10.out,ev_at HEA.out]; rfl
      have hgl:g.W.length≤100000000:=HGN0.out
      have hgn:g.n=g.W.length:=rfl
      have d1:(ev.stamp == wrap64 ((g.W.length:Int)+1))=true:=by
       rw [j4,hgn,wrap_small2 (by omega) (by omega)]; simp
      have d2:(ev.stamp == (g.W.length:Int)+1)=true:=by rw [j4,hgn]; simp
      have d3:(ev.stamp != (g.W.length:Int)+1)=false:=by rw [j4,hgn]; simp
      have HVA:Hid (∀ p ∈ R k,valG p.1 g.W (wrap64 (ev.stamp - 1))=p.2):=fun p hp=>by
       have h1:=(j6 p hp).symm
       have h2:wrap64 (ev.stamp - 1)=(g.n:Int):=by
        rw [j4,wrap_small2 (by omega) (by omega)]; omega
       rw [h2,valG_val,Int.toNat_natCast]
       exact h1
      clear j4 j5 j6 HOz hgn r1
      go_upto_region 44 with fail
      go_quiet (fail)
      obtain ⟨zz,hzz⟩ : ∃ zz,zz=z10.drewN nq:=⟨_,rfl⟩
      have HZ0:Hid (Below z10.heap.size z10 zz):=by rw [Hid,hzz]; exact below_drawn (Below.refl _ _) _
      rw [← hzz]
      clear hzz q9 q3 e3 e4 r0 r2 hBz d1 d2 d3 hnw0 hPl
      have HZQ:Hid (Z2 w zz base s m n (.pointer (some ⟨M,0,none⟩)) Tp B X cap Rb cur (q+1) o.L g' (setT T k o.x) (setT R k (R k)) A' (.slice va g.W.length vcap) g.W (setT R k (R k))):=HZz.out.below HZ0.out
      have HEQ:Hid (zz.heap[Pe]? = some (.cells ea 58 (0,0))):=row_on HE10.out HZ0.out
      clear HZz HE10
      have HNQ:Hid (∃ nq:Nat,(R k).length=nq):=⟨_,rfl⟩
      obtain ⟨nq,hnq⟩:=HNQ.out
      have HQN:Hid ((R k).length=nq):=hnq
      have HQB:Hid (nq≤2000000):=by have h9:=HRL.out k hk; have:nq≤2000000:=(by omega); exact this
      clear hnq HNQ
      go_wp2_with fail
      go_loopw [21] (fun iv wx => ∃ i:Nat,i≤nq∧iv = .int .i64 (i:Int)∧Below zz.heap.size zz wx) (fun iv _=>nq - (intOf iv).toNat)
      case atStart=>exact ⟨0,by omega,rfl,Below.refl _ _⟩
      case round =>
       obtain ⟨i,hi,rfl,hb3⟩:=hrel
       have HZr:Hid (Z2 w wr base s m n (.pointer (some ⟨M,0,none⟩)) Tp B X cap Rb cur (q+1) o.L g' (setT T k o.x) (setT R k (R k)) A' (.slice va g.W.length vcap) g.W (setT R k (R k))):=HZQ.out.below hb3
       have HEr:Hid (wr.heap[Pe]? = some (.cells ea 58 (0,0))):=row_on HEQ.out hb3
       have HBr:Hid (Below zz.heap.size zz wr):=hb3
       clear hb3
       obtain ⟨va2,vcap2,ew,e3,e4,hBz,ra,rc,r0,r1,r2,rg⟩:=HZr.out.see hk
       clear ew e3 r1
       rw [setT_self,HQN.out] at r0 rg
       by_cases hin:i < nq
       ·obtain ⟨gb,rfl,hgb,g4,g5⟩:=rg i hin
        have hi1:(i:Int) < (nq:Int):=by omega
        have hi0:(0:Int)≤(i:Int):=by omega
        have hnq2:nq≤2000000:=HQB.out
        have HVQ:Hid (valG ((R k).getD i (0,0)).1 g.W (wrap64 (ev.stamp - 1))=((R k).getD i (0,0)).2):=HVA.out _ (by
                  rw [List.getD_eq_getElem?_getD,List.getElem?_eq_getElem (by rw [HQN.out]; exact hin)]
                  exact List.getElem_mem _)
        have eq8:wr.cell? ⟨Pe,9,none⟩=some (.int .i64 ev.stamp):=by rw [cell_at HEr.out,ev_at HEA.out]; rfl
        have hPr:=heap_lt HEr.out
        generalize ((R k).getD i (0,0)).1=rc1 at *
        generalize ((R k).getD i (0,0)).2=rv1 at *
        have HV:Hid (∀ n0,Calls Tryz.prog 14 #[.pointer (some ⟨B,0,none⟩),.int .i64 rc1,.int .i64 (wrap64 (ev.stamp - 1))] (wr.drewN n0) fun e w' => e = .returned (.int .i64 rv1)∧w'=wr.drewN n0):=fun n0=>by
         have h9:=(HZr.out.below (below_drawn (Below.refl _ _) n0)).value HGN0.out rc1 (wrap64 (ev.stamp - 1))
         rw [HVQ.out] at h9
         exact h9
        clear rg
        clear hi
        go_wp2_with fail
        go_quiet ((go_at_call 14; refine Calls.quiet_of_same (HV.out _)))
        go_wp2_with fail
        go_roundw
        case rel=>exact ⟨i+1,by omega,by go_num,below_then HBr.out (below_drawn (Below.refl _ _) _)⟩
        case measure=>simp [intOf]; omega
       ·have hi1 : ¬ (i:Int) < (nq:Int):=by omega
        clear rg
        obtain ⟨sv9,S9,ws9,mi9,sw9,wl9,wn9,rd9⟩:=HZr.out
        obtain ⟨hr9,_⟩:=HWR.out wr (below_then (by exact HZ0.out) HBr.out)
        obtain ⟨iw,hiw,wz0,wz1,wz2⟩:=info_parts info_wrs2
        have HWW:Hid (wr.ownsRow base 47 1 (.slice va g.W.length vcap) g.W.length ws9):=sw9.ww
        have hbz:base≤wr.heap.size:=mi9.hi
        have gm9:=mi9.gb.gm
        have b3:=gm_c3 gm9
        have hBw9:=heap_lt gm9
        have hgl9:g.W.length≤100000000:=HGN0.out
        unfold gmO at gm9
        have hBw:(Value.slice va g.W.length vcap).ownBlock≠some B:=own_ne sw9.ww gm9 (by decide)
        have z3f:=frozen_at gm9 3
        go_wp2_with (at_builtin; refine list_lies_wide _ rfl _ _ 41 rfl base 47 iw _ 1 24 Tryz.underlying41 hiw wz0 wz1 wz2 rfl (by decide) _ _ _ rfl (HWW.out.alloc _) ⟨wr.heap.size,0,none⟩ 1 1 [.slice aw nW capw] rfl rfl (World.news_of_block (cs:=#[.slice aw nW capw]) (t:=47) (fr:=(0,0)) (heap_alloc_new _ _)) (by intro u hu; simp at hu; subst hu; rfl) (by decide) (by unfold maxLen; omega) (by omega) (by simp; omega) _ rfl ?_)
        intro g1 c1 z11 hown11 hgrow hat _
        obtain ⟨z3s,K12,kt12,s3,f3,hB11⟩:=Z2.pubw mi9 sw9 wl9 wn9 rd9 HB0.out ((Keep.refl [] wr).alloc _) (by rw [HWL.out.1]; exact hr9) HBWB.out (by rw [HWL.out.1]; exact HWL.out.2) HWA.out hown11 hgrow (by rcases hat with e | e; exact Or.inl e; exact Or.inr (by omega))
        obtain ⟨z12,hz12⟩ : ∃ z12,z12=z11.setCell ⟨B,3,none⟩ (.slice (some ⟨g1,0,none⟩) (g.W.length+1) c1):=⟨_,rfl⟩
        rw [← hz12] at z3s K12
        have HE12:Hid (z12.heap[Pe]? = some (.cells ea 58 (0,0))):=kt_keep HEr.out K12 kt12 (by decide)
        have HZ3:Hid (Z3 w z12 base s m n (.pointer (some ⟨M,0,none⟩)) Tp B X cap Rb cur (q+1) o.L g' (setT T k o.x) (setT R k (R k)) A' (.slice (some ⟨g1,0,none⟩) (g.W.length+1) c1) (g.W ++ [W]) (setT R k (R k)) sv9 S9 (ws9 ++ [.slice aw nW capw]) g.W.length):=z3s
        clear z3s K12 kt12 hown11 hgrow hat mi9 sw9 wl9 wn9 rd9 hr9 gm9 hBw z3f b3 HWW e4 r0 r2 hBz hBw9 hbz
        obtain ⟨sa,sc,rfl⟩:=own_slice HZ3.out.sg
        have gm12:=HZ3.out.mi.gb.gm
        have hB12:B < z12.heap.size:=heap_lt gm12
        have hP12:Pe < z12.heap.size:=heap_lt HE12.out
        have s2:z12.cell? ⟨B,2,none⟩=some (.slice sa g.W.length sc):=gm_c2 gm12
        unfold gmO at gm12
        have f2:z12.frozen? ⟨B,2,none⟩=false:=frozen_at gm12 2
        have HSG:Hid (z12.ownsRow base 51 8 (.slice sa g.W.length sc) g.W.length (sgsC S9)):=HZ3.out.sg
        have HVB:Hid ((Value.slice sa g.W.length sc).ownBlock≠some B):=own_ne HZ3.out.sg gm12 (by decide)
        have HNN:Hid (g.W.length≤1099511627776):=Nat.le_trans hgl9 (by decide)
        have HBB:Hid (base≤z12.heap.size):=HZ3.out.mi.hi
        obtain ⟨n0, n1', n2', n3, n4, n5, n6, n7, HNS, t0, t1, t2, t3, t4, t5, t6, t7⟩ := ev_sig8 HE12.out HEA.out
        have HPF:Hid (∀ (Xw z13:World) (g2 c2:Nat),Keep [] z12 Xw→z13.ownsRow base 51 8 (.slice (some ⟨g2,0,none⟩) (g.W.length+1) c2) (g.W.length+1) (sgsC S9 ++ [.int .u64 ((n0:Nat):Int),.int .u64 ((n1':Nat):Int),.int .u64 ((n2':Nat):Int),.int .u64 ((n3:Nat):Int),.int .u64 ((n4:Nat):Int),.int .u64 ((n5:Nat):Int),.int .u64 ((n6:Nat):Int),.int .u64 ((n7:Nat):Int)])→Xw.grownBy z13 (Value.slice sa g.W.length sc).ownBlock→((Value.slice sa g.W.length sc).ownBlock=some g2∨z12.heap.size≤g2)→(fun wx:World=>Z2 w wx base s m n (.pointer (some ⟨M,0,none⟩)) Tp B X cap Rb cur (q+1) o.L g' (setT T k o.x) (setT R k (R k)) A' (.slice (some ⟨g1,0,none⟩) (g.W.length+1) c1) (g.W ++ [W]) (setT R k (R k))) (z13.setCell ⟨B,2,none⟩ (.slice (some ⟨g2,0,none⟩) (g.W.length+1) c2))):=fun Xw z13 g2 c2 kX h1 h2 h3=>HZ3.out.pubs HB0.out kX HNS.out h1 h2 h3
        clear gm12
        go_upto_region 53 with fail
        rw [show z11.setCell ⟨B,3,none⟩ (.slice (some ⟨g1,0,none⟩) (g.W.length+1) c1)=z12 from hz12.symm]
        clear hz12 s3 f3 hB11
        --<PPF
        refine wp_reg (by kernel_rfl) (sig_reg2 (Rz:=fun wx:World=>Z2 w wx base s m n (.pointer (some ⟨M,0,none⟩)) Tp B X cap Rb cur (q+1) o.L g' (setT T k o.x) (setT R k (R k)) A' (.slice (some ⟨g1,0,none⟩) (g.W.length+1) c1) (g.W ++ [W]) (setT R k (R k))) _ (by kernel_rfl) (by kernel_rfl) (by kernel_rfl) (by kernel_rfl) HSG HVB HNN HBB s2 f2 hB12 hP12 t0 t1 t2 t3 t4 t5 t6 t7 HPF ?_)
        intro v269 v270 v271 v272 v273 v274 v275 v276 v277 v278 v279 w9 h9
        rw [sets297]
        have HZc:Hid (Z2 w w9 base s m n (.pointer (some ⟨M,0,none⟩)) Tp B X cap Rb cur (q+1) o.L g' (setT T k o.x) (setT R k (R k)) A' (.slice (some ⟨g1,0,none⟩) (g.W.length+1) c1) (g.W ++ [W]) (setT R k (R k))):=h9
        clear h9 HPF HSG HVB HNN HBB s2 f2 hB12 hP12 t0 t1 t2 t3 t4 t5 t6 t7 HNS HE12 HZ3
        try simp only [Exit.inBlock,Exit.then]
        go_wp2_with fail
        go_roundw
        case rel=>exact ⟨j+1,_,_,_,by omega,by go_num,HZc.out,fun e=>by exfalso; have:=HND.out; omega,fun _=>⟨by rw [j2,HWD.out],rfl⟩⟩
        case measure=>simp [intOf]; omega
        -->
      -->
     ·as_aux_lemma =>
      --<END
      rw [j1] at q3
      clear j1
      have q18:z10.cell? ⟨Pe,18,none⟩=some (.int .i64 ev.err):=by rw [cell_at HE10.out,ev_at HEA.out]; rfl
      by_cases h0:ev.err=0
      ·obtain ⟨k1,k2⟩:=j4 h0
       rw [h0] at q18
       have hw0:nW=0:=by rw [← HNW.out,k1]; rfl
       subst hw0
       have hss:=HOz.out.2.2
       have hn8:([.int .u64 ((rw0:Nat):Int),.int .u64 ((rw1:Nat):Int),.int .u64 ((rw2:Nat):Int),.int .u64 ((rw3:Nat):Int),.int .u64 ((rw4:Nat):Int),.int .u64 ((rw5:Nat):Int),.int .u64 ((rw6:Nat):Int),.int .u64 ((rw7:Nat):Int)] : List Value)=sg8 ev.sig:=by
        rw [k2]
        unfold sg8
        rw [HRW.out.1,HRW.out.2.1,HRW.out.2.2.1,HRW.out.2.2.2.1,HRW.out.2.2.2.2.1,HRW.out.2.2.2.2.2.1,HRW.out.2.2.2.2.2.2.1,HRW.out.2.2.2.2.2.2.2]
       have hsg:z10.rangeAt Pe 10 (sg8 ev.sig):=ev_sig HE10.out HEA.out
       have hneq:=neq_same ev.sig
       rw [show (#[.int .u64 ((rw0:Nat):Int),.int .u64 ((rw1:Nat):Int),.int .u64 ((rw2:Nat):Int),.int .u64 ((rw3:Nat):Int),.int .u64 ((rw4:Nat):Int),.int .u64 ((rw5:Nat):Int),.int .u64 ((rw6:Nat):Int),.int .u64 ((rw7:Nat):Int)] : Array Value)=(sg8 ev.sig).toArray from congrArg List.toArray hn8] at hss
       have hl8:(sg8 ev.sig).length=8:=rfl
       clear hn8
       generalize sg8 ev.sig=sl at *
       obtain ⟨isg,hisg,sz0,sz1,sz2⟩:=info_parts info_sig2
       have HI8:Hid ((Tryz.prog.info? 51).map (·.size)=some sl.length):=by rw [Hid,hisg]; simp [sz1,hl8]
       have HI9:Hid ((Tryz.prog.info? 51).map (·.size)=some sl.toArray.size):=by rw [Hid,hisg]; simp [sz1,hl8]
       have HRG8:Hid (z10.rangeAt Pe 10 sl):=hsg
       have HSS8:Hid (z10.heap[Ps]? = some (.cells sl.toArray 51 (0,0))):=hss
       clear hsg hl8 hisg sz0 sz1 sz2
       have HGE:Hid (g.W=g'.W∧R k=r'):=⟨j2.symm,j3.symm⟩
       clear j2 j3 j4 k1 k2 hss h0
       --<E0
       go_wp2_with (first | (refine wl_mid 51 (.tmp 290) (by rfl) Pe 10 (by kernel_rfl) sl _ HRG8.out Tryz.underlying51 (by rfl) HI8.out (by kernel_rfl) ?_) | (refine wl_row 51 (.tmp 12) (by rfl) Ps (by kernel_rfl) 51 sl.toArray (0,0) _ HSS8.out Tryz.underlying51 (by rfl) HI9.out (by kernel_rfl) ?_) | fail)
       go_roundw
       case rel=>exact ⟨j+1,_,_,_,by omega,by go_num,HZz.out,fun e=>by exfalso; have:=HND.out; omega,fun _=>HGE.out⟩
       case measure=>simp [intOf]; omega
       -->
      ·have d0:(ev.err == 0)=false:=by simpa using h0
       have HGE:Hid (g.W=g'.W∧R k=r'):=⟨j2.symm,j3.symm⟩
       clear j2 j3 j4
       --<E1
       go_wp2_with fail
       go_roundw
       case rel=>exact ⟨j+1,_,_,_,by omega,by go_num,HZz.out,fun e=>by exfalso; have:=HND.out; omega,fun _=>HGE.out⟩
       case measure=>simp [intOf]; omega
       -->
      -->
    ·obtain ⟨o1,o2⟩:=h5 (by omega)
     have hx1 : ¬ (j:Int) < (nd:Int):=by omega
     clear h4 h5
     subst o1 o2
     go_wp2
     go_roundw
     case rel=>exact ⟨q+1,by omega,by go_num,_,_,_,_,_,_,HRB.out,HZ.out⟩
     case measure=>simp [intOf]; omega
  ·have hx1 : ¬ (q:Int) < (nS:Int):=by omega
   have hbel : Below w.heap.size w wr := by obtain ⟨L, g, T, R, A, wv, _, sv, S', ws, mi, _⟩ := hy1; exact mi.bel
   clear hy1
   go_wp2
   go_ret
   exact ⟨rfl,hbel⟩
end Go.Proofs.YtdkpgdkjohjcaaaGreat
namespace Go.Proofs.YtdkpgdkjohjcaaaGreat
open Go.ChangeShapes Go.WideShapes Go.ChangeAt Go.RowKit
theorem cbulk_one {H:Type} (d:DataW H):1≤Rows.uptoBulk d:=by
 cases d with
 | lit l=>cases l <;> simp [Rows.uptoBulk]
 | nil=>simp [Rows.uptoBulk]
 | ptr d=>simp [Rows.uptoBulk]
 | slice elems spare=>simp [Rows.uptoBulk]
 | agg parts=>simp [Rows.uptoBulk]
 | iface t d=>simp [Rows.uptoBulk]
 | map entries=>simp [Rows.uptoBulk]
 | held h=>simp [Rows.uptoBulk]
theorem cbulk_len {H:Type} (l:List (DataW H)):l.length≤Rows.uptoBulkAll l:=by
 induction l with
 | nil=>simp [Rows.uptoBulkAll]
 | cons x r ih=>have:=cbulk_one x; simp only [Rows.uptoBulkAll,List.length_cons]; omega
theorem cells_act12:Tryz.prog.cellsOf 36=12:=by kernel_rfl
theorem cells_want12:Tryz.prog.cellsOf 32=4:=by kernel_rfl
theorem cells_addr12:Tryz.prog.cellsOf 34=3:=by kernel_rfl
theorem cells_int12:Tryz.prog.cellsOf 3=1:=by kernel_rfl
theorem cells_i6412:Tryz.prog.cellsOf 2=1:=by kernel_rfl
theorem len12' {α:Type} {l:List α} (h:l.length=12) : ∃ a b c d e f g h i j k m,l = [a,b,c,d,e,f,g,h,i,j,k,m]:=by
 match l,h with
 | [a,b,c,d,e,f,g,h,i,j,k,m],_=>exact ⟨a,b,c,d,e,f,g,h,i,j,k,m,rfl⟩
theorem len7' {α:Type} {l:List α} (h:l.length=7) : ∃ a b c d e f g,l = [a,b,c,d,e,f,g]:=by
 match l,h with
 | [a,b,c,d,e,f,g],_=>exact ⟨a,b,c,d,e,f,g,rfl⟩
theorem len4c {α:Type} {l:List α} (h:l.length=4) : ∃ a b c d,l = [a,b,c,d]:=by
 match l,h with
 | [a,b,c,d],_=>exact ⟨a,b,c,d,rfl⟩
theorem want_of_cells {H:Type} {enc:TypeId × Value→H} {W:World} {fuel:Nat} {cs:List Value} {x:DataW H × List MemPlace}
  (hf:DataW.trod enc Tryz.prog W 0 (fun _=>true) true fuel 32 cs=some x) : ∃ s:Wa,cs = [.int .i64 s.kind,.int .i64 s.cell,.int .i64 s.value,.int .i64 s.code] ∧ W64 s.value:=by
 obtain ⟨xs,m,_,hx,hl,hlen,hfd⟩:=DataW.trod_struct Tryz.underlying32 hf
 have hl4:cs.length=4:=by rw [hl,cells_want12]
 obtain ⟨c0,c1,c2,c3,rfl⟩:=len4c hl4
 obtain ⟨y0,y1,y2,y3,rfl⟩:=len4c hlen
 have g0:=hfd 0 _ rfl
 have g1:=hfd 1 _ rfl
 have g2:=hfd 2 _ rfl
 have g3:=hfd 3 _ rfl
 simp [cells_int12,cells_i6412] at g0 g1 g2 g3
 obtain ⟨a0,z0,_,_⟩:=DataW.trod_int Tryz.underlying3 g0
 obtain ⟨a1,z1,_,_⟩:=DataW.trod_int Tryz.underlying3 g1
 obtain ⟨a2,z2,_,hwf⟩:=DataW.trod_int Tryz.underlying2 g2
 obtain ⟨a3,z3,_,_⟩:=DataW.trod_int Tryz.underlying3 g3
 simp only [List.cons.injEq,and_true] at z0 z1 z2 z3
 subst z0 z1 z2 z3
 exact ⟨⟨a0,a1,a2,a3⟩,rfl,bd_i64 _ hwf⟩
theorem act12_of_cells {H:Type} {enc:TypeId × Value→H} {W:World} {fuel:Nat} {cs:List Value} {x:DataW H × List MemPlace}
  (hf:DataW.trod enc Tryz.prog W 0 (fun _=>true) true fuel 36 cs=some x) : ∃ s:At,cs=atC s∧W64 s.w.value:=by
 obtain ⟨xs,m,_,hx,hl,hlen,hfd⟩:=DataW.trod_struct Tryz.underlying36 hf
 have hl12:cs.length=12:=by rw [hl,cells_act12]
 obtain ⟨c0,c1,c2,c3,c4,c5,c6,c7,c8,c9,c10,c11,rfl⟩:=len12' hl12
 obtain ⟨y0,y1,y2,y3,y4,y5,y6,rfl⟩:=len7' hlen
 have g0:=hfd 0 _ rfl
 have g1:=hfd 1 _ rfl
 have g2:=hfd 2 _ rfl
 have g3:=hfd 3 _ rfl
 have g4:=hfd 4 _ rfl
 have g5:=hfd 5 _ rfl
 have g6:=hfd 6 _ rfl
 simp [cells_int12,cells_i6412,cells_want12,cells_addr12] at g0 g1 g2 g3 g4 g5 g6
 obtain ⟨a0,z0,_,_⟩:=DataW.trod_int Tryz.underlying3 g0
 obtain ⟨a1,z1,_,_⟩:=DataW.trod_int Tryz.underlying3 g1
 obtain ⟨a2,z2,_,_⟩:=DataW.trod_int Tryz.underlying3 g2
 obtain ⟨a3,z3,hwf⟩:=want_of_cells g3
 obtain ⟨a4,z4,_,_⟩:=DataW.trod_int Tryz.underlying3 g4
 obtain ⟨a5,z5⟩:=addr_of_cells g5
 obtain ⟨a6,z6,_,_⟩:=DataW.trod_int Tryz.underlying2 g6
 simp only [adC,List.cons.injEq,and_true] at z0 z1 z2 z3 z4 z5 z6
 obtain ⟨rfl,rfl,rfl,rfl⟩:=z3
 obtain ⟨rfl,rfl,rfl⟩:=z5
 subst z0 z1 z2 z4 z6
 exact ⟨⟨a0,a1,a2,a3,a4,a5.k,a5.i,a5.j,a6⟩,rfl,hwf⟩
theorem open_acts12 {H:Type} {enc:TypeId × Value→H} {W:World} {fuel:Nat} {cs:List Value} {x:DataW H × List MemPlace} (hb:Rows.uptoBulk x.1≤1048576)
  (hf:DataW.trod enc Tryz.prog W 0 (fun _=>true) true fuel 25 cs=some x) : ∃ v S,cs = [v] ∧ AcL W v S∧AcOk S:=by
 rcases Go.Deep.open_slice Tryz.underlying25 hf with ⟨hcs, hx⟩ | ⟨x0, n, c, m, n', D, Pl, hcs, _, hl, hm, hmm, hx, hcell⟩
 ·exact ⟨_,[],hcs,⟨none,_,rfl,by simp,Or.inl rfl⟩,fun i hi=>absurd hi (by simp)⟩
 ·have hmc:m=c:=by simpa using hmm
  subst hmc
  have hn:n≤1048576:=by
   have:=cbulk_len ((List.range n).map D)
   rw [hx] at hb
   simp only [Rows.uptoBulk] at hb
   simp at this
   omega
  have hrow : ∀ i,i < n → ∃ s:At,(∀ j u,(atC s)[j]? = some u→W.cell? ((x0.add (i * 12)).add j)=some u)∧W64 s.w.value∧x0.block < W.heap.size:=fun i hi=>by
   obtain ⟨cs', hc, ht⟩ := hcell i (by omega)
   obtain ⟨s,rfl,hfit⟩:=act12_of_cells ht
   rw [cells_act12] at hc
   have hj : ∀ j,j < 12→W.cell? ((x0.add (i * 12)).add j)=(atC s)[j]?:=fun j hj=>(World.cells?_some hc).2.2 j hj
   refine ⟨s,fun j u hu => ?_,hfit, ?_⟩
   ·have hj12:j < 12:=by
     have:=List.getElem?_eq_some_iff.1 hu
     obtain ⟨h,_⟩:=this
     simpa [atC] using h
    rw [hj j hj12]; exact hu
   ·have:=World.block_lt_of_cell? _ _ ((hj 0 (by decide)).trans (show _=some (Value.int .i64 s.kind) from rfl))
    rwa [add_block,add_block] at this
  obtain ⟨S,hSl,hS⟩:=list_choose noAt _ n hrow
  refine ⟨_,S,hcs,⟨some x0,m,by rw [hSl],by omega, ?_⟩,fun i hi=>(hS i (by omega)).2.1⟩
  by_cases h0:n=0
  ·exact Or.inl (List.length_eq_zero_iff.1 (by omega))
  ·exact Or.inr ⟨x0,rfl,(hS 0 (by omega)).2.2,fun i hi=>(hS i (by omega)).1⟩
end Go.Proofs.YtdkpgdkjohjcaaaGreat
