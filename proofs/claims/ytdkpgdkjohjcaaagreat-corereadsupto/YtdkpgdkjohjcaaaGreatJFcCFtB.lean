/- The program's machine of layer 8: addr, see, look, hold, seeAgain. -/
import Derived.Test.YtdkpgdkjohjcaaaGreatJFcAFcB
import Derived.Test.YtdkpgdkjohjcaaaGreatJSigPSigU
import Derived.Test.YtdkpgdkjohjcaaaGreatJBegABegX
import Derived.RegionTactic
import Derived.BigRegion
set_option maxHeartbeats 1600000
set_option maxRecDepth 10000
namespace Go.Proofs.YtdkpgdkjohjcaaaGreat.Fe
open Go.ChangeShapes Go.WideShapes Go.ChangeAt Go.RowKit
attribute [local go_sem ↓] Go.wp_at_zero Go.wp_at_succ
theorem stampOn_err (P:Cp) (b:Ck):(stampOn P b).err=b.err:=by
 unfold stampOn
 split
 ·rfl
 ·split <;> rfl
theorem wordOn_err (P:Cp) (b:Ck):(wordOn P b).err=b.err:=by
 unfold wordOn
 split
 ·rfl
 ·rw [stampOn_err]
theorem onV_err (P:Cp) (b:Ck):(onV P b).err=b.err:=by
 unfold onV
 repeat' split
 ·rw [wordOn_err]
 ·rw [wordOn_err]
 ·rw [stampOn_err]
 ·rfl
structure Ret1 (w w1:World) (X:Nat) (P:Cp) (b:Ck):Prop where
 r0:w1.heap[w.heap.size]? = some (.cells #[.int .i64 0,.int .i64 0,.int .i64 0,.bool false] 55 (0,0))
 a:KAt w1 X P b
 k:Keep [X] w w1
 x:X < w.heap.size
theorem Ret1.call {w w0 w1:World} {X:Nat} {P:Cp} {b b':Ck} (r:Ret1 w w0 X P b) (ha:KAt w1 X P b') (hk:Keep [X] w0 w1):Ret1 w w1 X P b':=by
 have hx:=r.x
 refine ⟨?_,ha,r.k.trans hk (fun q hq=>Or.inl hq),hx⟩
 rw [hk.block _ (heap_lt r.r0) (by simp; omega)]; exact r.r0
theorem Ret1.on {w w0 w1:World} {X:Nat} {P:Cp} {b:Ck} (r:Ret1 w w0 X P b) (hb:Below w0.heap.size w0 w1):Ret1 w w1 X P b :=
 r.call (r.a.below hb (heap_lt r.a)) (Keep.of_below hb [X])
theorem Ret1.drew {w w1:World} {X:Nat} {P:Cp} {b:Ck} (r:Ret1 w w1 X P b) (n:Nat):Ret1 w (w1.drewN n) X P b:=⟨r.r0,r.a,r.k.drewN n,r.x⟩
theorem ret1_start {w:World} {X:Nat} {P:Cp} {b:Ck} (h:KAt w X P b):Ret1 w (w.alloc (.cells #[.int .i64 0,.int .i64 0,.int .i64 0,.bool false] 55)) X P b :=
 ⟨heap_alloc_new _ _,h.alloc _,(Keep.refl _ _).alloc _,heap_lt h⟩
theorem Ret1.done {w w1:World} {X:Nat} {P:Cp} {b:Ck} (r:Ret1 w w1 X P b) (k e:Int) (y:Bool):KAt (laidE w1 w.heap.size k e y) X P b∧Keep [X] w (laidE w1 w.heap.size k e y) :=
 ⟨r.a.keep (keepEB k e y) (by have:=r.x; simp; omega),keepE r.k (Nat.le_refl _) k e y⟩
theorem KAt.reads {w:World} {X:Nat} {P:Cp} {b:Ck} (h:KAt w X P b):w.cell? ⟨X,2,none⟩=some (rdV P.rd 0)∧w.cell? ⟨X,3,none⟩=some (rdV P.rd 1)∧w.cell? ⟨X,4,none⟩=some (rdV P.rd 2)∧w.cell? ⟨X,5,none⟩=some (rdV P.rd 3)∧w.cell? ⟨X,6,none⟩=some (rdV P.rd 4)∧w.cell? ⟨X,7,none⟩=some (rdV P.rd 5)∧w.cell? ⟨X,8,none⟩=some (rdV P.rd 6)∧w.cell? ⟨X,9,none⟩=some (rdV P.rd 7) :=
 ⟨h.read 0 (by omega),h.read 1 (by omega),h.read 2 (by omega),h.read 3 (by omega),h.read 4 (by omega),h.read 5 (by omega),h.read 6 (by omega),h.read 7 (by omega)⟩
theorem ret_addr {fn:Func} {p:Tmp} {R:Ending→World→Prop} {a:Act} {w:World} {g:Nat} {cs:Array Value} (h:fn.results = #[.cell p 34]) (hp:a.tmps.getD p undef = .pointer (some ⟨g,0,none⟩))
  (hg:w.heap[g]? = some (.cells cs 34 (0,0))) (hz:cs.size=3) (hd:a.defers = []) (hR:R (.returned (.agg cs)) w):bodyPost Tryz.prog fn R .ret a w :=
 bodyPost_ret (results_cell_row h _ _ g 34 cs (0,0) _ hp hg Tryz.underlying34 rfl (by rw [hz]; kernel_rfl)) hd hR
def laid3 (w:World) (B:Nat) (c0 c1 c2:Value):World:=((w.setCell ⟨B,0,none⟩ c0).setCell ⟨B,1,none⟩ c1).setCell ⟨B,2,none⟩ c2
theorem addr_set {w:World} {B:Nat} {v0 v1 v2:Value} (h:w.heap[B]? = some (.cells #[v0,v1,v2] 34 (0,0))) (c0 c1 c2:Value):(laid3 w B c0 c1 c2).heap[B]? = some (.cells #[c0,c1,c2] 34 (0,0)):=by
 have h1:=heap_set (i:=0) (v:=c0) h
 have h2:=heap_set (i:=1) (v:=c1) h1
 have h3:=heap_set (i:=2) (v:=c2) h2
 unfold laid3
 rw [h3]
 rfl
theorem below3 {w0 w:World} {A B:Nat} (hk:Below A w0 w) (hB:A≤B) (c0 c1 c2:Value):Below A w0 (laid3 w B c0 c1 c2):=((hk.setCell hB _).setCell hB _).setCell hB _
theorem caddr_any {w:World} {X:Nat} {P:Cp} {b:Ck} (h:KAt w X P b) :
  Calls Tryz.prog 138 #[.pointer (some ⟨X,0,none⟩)] w fun en w' => en = .returned (.agg (adC (adK P b)))∧Below w.heap.size w w':=by
 obtain ⟨x0,x1,x2,x3,x4,x5,x6,x7⟩:=h.cells
 have hx:X < w.heap.size:=heap_lt h
 have HSL:Hid (∀ w,Calls Tryz.prog 91 #[.int .i64 b.stamp,.int .i64 (P.s:Int)] w fun e w' => e = .returned (.int .i64 (slotV b.stamp P.s))∧w'=w):=slot_any b.stamp P.s
 clear h
 unfold adK
 by_cases e1:b.st=1
 ·rw [if_pos e1]
  rw [e1] at x3
  generalize slotV b.stamp P.s=k at *
  clear e1
  unfold adC
  go_enter Tryz.func138,Tryz.ntmps138
  go_wp2_with fail
  go_quiet ((go_at_call 91; refine (HSL.out _).mono ?_; rintro e x0 ⟨rfl,rfl⟩; exact ⟨rfl,_,rfl⟩))
  go_wp2
  exact ret_addr rfl rfl (addr_set (w:=World.drewN _ nq) (heap_alloc_new w _) _ _ _) rfl rfl ⟨rfl,below3 (below_drawn (below_a1 _ _) _) (Nat.le_refl _) _ _ _⟩
 ·rw [if_neg e1]
  have q1:(b.st == 1)=false:=by simpa using e1
  by_cases e2:b.st=2
  ·rw [if_pos e2]
   rw [e2] at x3
   generalize slotV b.stamp P.s=k at *
   clear e1 e2 q1
   unfold adC
   go_enter Tryz.func138,Tryz.ntmps138
   go_wp2_with fail
   go_quiet ((go_at_call 91; refine (HSL.out _).mono ?_; rintro e x0 ⟨rfl,rfl⟩; exact ⟨rfl,_,rfl⟩))
   go_wp2
   exact ret_addr rfl rfl (addr_set (w:=World.drewN _ nq) (heap_alloc_new w _) _ _ _) rfl rfl ⟨rfl,below3 (below_drawn (below_a1 _ _) _) (Nat.le_refl _) _ _ _⟩
  ·rw [if_neg e2]
   have q2:(b.st == 2)=false:=by simpa using e2
   generalize slotV b.stamp P.s=k at *
   unfold adC
   go_enter Tryz.func138,Tryz.ntmps138
   go_wp2_with fail
   go_quiet ((go_at_call 91; refine (HSL.out _).mono ?_; rintro e x0 ⟨rfl,rfl⟩; exact ⟨rfl,_,rfl⟩))
   go_wp2
   exact ret_addr rfl rfl (addr_set (w:=World.drewN _ nq) (heap_alloc_new w _) _ _ _) rfl rfl ⟨rfl,below3 (below_drawn (below_a1 _ _) _) (Nat.le_refl _) _ _ _⟩
theorem cagain_any {w:World} {X:Nat} {P:Cp} {b:Ck} (h:KAt w X P b) (hp:POk P) {v:Int} (hv:W64 v) (h3:b.st=3) (he:b.err=0) :
  Calls Tryz.prog 142 #[.pointer (some ⟨X,0,none⟩),.int .i64 v] w fun en w' => en = .returned (ansE (kindV (againK P b v)) (againK P b v).err true)∧KAt w' X P (againK P b v)∧Keep [X] w w':=by
 have HO:Hid (∀ w,KAt w X P b→Calls Tryz.prog 144 #[.pointer (some ⟨X,0,none⟩),.int .i64 v] w fun e w' => e = .returned (.bool (farV P v))∧Below w.heap.size w w'):=fun w h=>overrun_any h hp hv
 have hx:X < w.heap.size:=heap_lt h
 have HX:Hid (KAt w X P b):=h
 unfold againK
 by_cases e:farV P v=true
 ·rw [if_pos e]
  rw [e] at HO
  have HF:Hid (∀ w,KAt w X P b→Calls Tryz.prog 145 #[.pointer (some ⟨X,0,none⟩),.int .i64 4] w fun en w' => en = .returned (.agg #[.int .i64 4,.int .i64 4,.int .i64 0,.bool true])∧KAt w' X P (failV b 4)∧Keep [X] w w'):=fun w h=>cfail_any h 4
  have HK:Hid (kindV (failV b 4)=4∧(failV b 4).err=4):=⟨rfl,rfl⟩
  clear h e
  rw [HK.out.1,HK.out.2]
  generalize failV b 4=bb at *
  unfold ansE
  go_enter Tryz.func142,Tryz.ntmps142
  go_wp2_with fail
  refine (HO.out _ (ret1_start HX.out).a).mono ?_
  rintro e w1 ⟨rfl,hb1⟩
  have R1:Hid (Ret1 w w1 X P b):=(ret1_start HX.out).on hb1
  clear hb1
  go_wp2_with fail
  refine (HF.out _ R1.out.a).mono ?_
  rintro e w2 ⟨rfl,ha2,hk2⟩
  have R2:Hid (Ret1 w w2 X P bb):=R1.out.call ha2 hk2
  clear ha2 hk2
  obtain ⟨⟨a0,a1,a2,a3⟩,g0,g1,g2,g3⟩:=ans_cells R2.out.r0
  have hz:=heap_lt R2.out.r0
  go_wp2
  exact ret_ans rfl rfl (ansE_set rfl R2.out.r0 4 4 true) rfl rfl ⟨rfl,R2.out.done 4 4 true⟩
 ·have e':farV P v=false:=by simpa using e
  rw [if_neg e]
  rw [e'] at HO
  have hon:onV P b=⟨4,b.seen,b.stamp,b.word,b.comp,b.err⟩:=by unfold onV; rw [if_neg (by omega),if_neg (by omega),if_neg (by omega)]
  have HF:Hid (∀ w,KAt w X P b→Calls Tryz.prog 146 #[.pointer (some ⟨X,0,none⟩)] w fun en w' => en = .returned (.agg #[.int .i64 3,.int .i64 0,.int .i64 0,.bool true])∧KAt w' X P (onV P b)∧Keep [X] w w'):=fun w h=>by
   rw [hon]; exact goon_3e h h3
  have HK:Hid (kindV (onV P b)=3∧(onV P b).err=0):=by rw [hon]; exact ⟨rfl,he⟩
  clear h e e' hon
  rw [HK.out.1,HK.out.2]
  generalize onV P b=bb at *
  unfold ansE
  go_enter Tryz.func142,Tryz.ntmps142
  go_wp2_with fail
  refine (HO.out _ (ret1_start HX.out).a).mono ?_
  rintro e w1 ⟨rfl,hb1⟩
  have R1:Hid (Ret1 w w1 X P b):=(ret1_start HX.out).on hb1
  clear hb1
  go_wp2_with fail
  refine (HF.out _ R1.out.a).mono ?_
  rintro e w2 ⟨rfl,ha2,hk2⟩
  have R2:Hid (Ret1 w w2 X P bb):=R1.out.call ha2 hk2
  clear ha2 hk2
  obtain ⟨⟨a0,a1,a2,a3⟩,g0,g1,g2,g3⟩:=ans_cells R2.out.r0
  have hz:=heap_lt R2.out.r0
  go_wp2
  exact ret_ans rfl rfl (ansE_set rfl R2.out.r0 3 0 true) rfl rfl ⟨rfl,R2.out.done 3 0 true⟩
theorem wrapU_bd (v:Int):(IntKind.u64.wrap v).toNat < 18446744073709551616∧((IntKind.u64.wrap v).toNat:Int)=IntKind.u64.wrap v:=by
 have h:0≤IntKind.u64.wrap v∧IntKind.u64.wrap v < 18446744073709551616:=by
  rw [IntKind.wrap_u64]; omega
 omega
--WALKS
theorem csee_e {w:World} {X:Nat} {P:Cp} {b:Ck} (h:KAt w X P b) (hp:POk P) {v:Int} (_hv:W64 v) (h0:b.st=0) (_hst:0≤b.stamp) (hr:P.rd=Sg.nought) :
  Calls Tryz.prog 139 #[.pointer (some ⟨X,0,none⟩),.int .i64 v] w fun en w' => en = .returned (ansE 3 0 true)∧KAt w' X P ⟨4,v,b.stamp,b.word,b.comp,b.err⟩∧Keep [X] w w':=by
  have hx:X < w.heap.size:=heap_lt h
  obtain ⟨x0,x1,x2,x3,x4,x5,x6,x7⟩:=h.cells
  obtain ⟨f3,f4,f5,f6,f7⟩:=h.fz
  obtain ⟨r0,r1,r2,r3,r4,r5,r6,r7⟩:=h.reads
  have HM:Hid (∀ w,Calls Tryz.prog 143 #[.agg #[rdV P.rd 0,rdV P.rd 1,rdV P.rd 2,rdV P.rd 3,rdV P.rd 4,rdV P.rd 5,rdV P.rd 6,rdV P.rd 7]] w fun e w' => e = .returned (.bool true)∧Below w.heap.size w w'):=fun w=>by
   have:=Sg.empty_any P.rd hp.rd w
   rw [show (P.rd == Sg.nought)=true by simpa using hr] at this
   rw [rd_cells hp.rd.1]; exact this
  have HS0:Hid (Ret1 w ((w.setCell ⟨X,12,none⟩ (.int .i64 v)).alloc (.cells #[.int .i64 0,.int .i64 0,.int .i64 0,.bool false] 55)) X P ⟨b.st,v,b.stamp,b.word,b.comp,b.err⟩) :=
   ⟨heap_alloc_set_new _ _ _,(kset h v).2.1.alloc _,(kkeep (Keep.refl _ _) _ _).alloc _,hx⟩
  have hne:w.heap.size≠X:=by omega
  obtain ⟨st,seen,stamp,word,comp,err⟩:=b
  simp only at *
  subst h0
  clear h hr
  unfold ansE
  go_enter Tryz.func139,Tryz.ntmps139
  go_wp2_with fail
  refine (HM.out _).mono ?_
  rintro e w1 ⟨rfl,hb1⟩
  have R1:Hid (Ret1 w w1 X P ⟨0,v,stamp,word,comp,err⟩):=HS0.out.on hb1
  clear hb1 x0 x1 x2 x3 x4 x5 x6 x7 f3 f4 f5 f6 f7 r0 r1 r2 r3 r4 r5 r6 r7
  obtain ⟨⟨a0,a1,a2,a3⟩,g0,g1,g2,g3⟩:=ans_cells R1.out.r0
  obtain ⟨x0,x1,x2,x3,x4,x5,x6,x7⟩:=R1.out.a.cells
  obtain ⟨f3,f4,f5,f6,f7⟩:=R1.out.a.fz
  have hz:=heap_lt R1.out.r0
  go_wp2
  have R2:Ret1 w (w1.setCell ⟨X,11,none⟩ (.int .i64 4)) X P ⟨4,v,stamp,word,comp,err⟩:=R1.out.call (kset R1.out.a 4).1 (kkeep (Keep.refl _ _) _ _)
  exact ret_ans rfl rfl (ansE_set rfl R2.r0 3 0 true) rfl rfl ⟨rfl,R2.done 3 0 true⟩
theorem csee_l {w:World} {X:Nat} {P:Cp} {b:Ck} (h:KAt w X P b) (hp:POk P) {v:Int} (_hv:W64 v) (h0:b.st=0) (_hst:0≤b.stamp) (hr:P.rd≠Sg.nought) (hl:v≤P.z) :
  Calls Tryz.prog 139 #[.pointer (some ⟨X,0,none⟩),.int .i64 v] w fun en w' => en = .returned (ansE 3 0 true)∧KAt w' X P ⟨4,v,b.stamp,b.word,b.comp,b.err⟩∧Keep [X] w w':=by
  have hx:X < w.heap.size:=heap_lt h
  obtain ⟨x0,x1,x2,x3,x4,x5,x6,x7⟩:=h.cells
  obtain ⟨f3,f4,f5,f6,f7⟩:=h.fz
  obtain ⟨r0,r1,r2,r3,r4,r5,r6,r7⟩:=h.reads
  have HM:Hid (∀ w,Calls Tryz.prog 143 #[.agg #[rdV P.rd 0,rdV P.rd 1,rdV P.rd 2,rdV P.rd 3,rdV P.rd 4,rdV P.rd 5,rdV P.rd 6,rdV P.rd 7]] w fun e w' => e = .returned (.bool false)∧Below w.heap.size w w'):=fun w=>by
   have:=Sg.empty_any P.rd hp.rd w
   rw [show (P.rd == Sg.nought)=false by simpa using hr] at this
   rw [rd_cells hp.rd.1]; exact this
  have HS0:Hid (Ret1 w ((w.setCell ⟨X,12,none⟩ (.int .i64 v)).alloc (.cells #[.int .i64 0,.int .i64 0,.int .i64 0,.bool false] 55)) X P ⟨b.st,v,b.stamp,b.word,b.comp,b.err⟩) :=
   ⟨heap_alloc_set_new _ _ _,(kset h v).2.1.alloc _,(kkeep (Keep.refl _ _) _ _).alloc _,hx⟩
  have hne:w.heap.size≠X:=by omega
  obtain ⟨st,seen,stamp,word,comp,err⟩:=b
  simp only at *
  subst h0
  have d1:decide (v≤P.z)=true:=decide_eq_true hl
  clear hl
  clear h hr
  unfold ansE
  go_enter Tryz.func139,Tryz.ntmps139
  go_wp2_with fail
  refine (HM.out _).mono ?_
  rintro e w1 ⟨rfl,hb1⟩
  have R1:Hid (Ret1 w w1 X P ⟨0,v,stamp,word,comp,err⟩):=HS0.out.on hb1
  clear hb1 x0 x1 x2 x3 x4 x5 x6 x7 f3 f4 f5 f6 f7 r0 r1 r2 r3 r4 r5 r6 r7
  obtain ⟨⟨a0,a1,a2,a3⟩,g0,g1,g2,g3⟩:=ans_cells R1.out.r0
  obtain ⟨x0,x1,x2,x3,x4,x5,x6,x7⟩:=R1.out.a.cells
  obtain ⟨f3,f4,f5,f6,f7⟩:=R1.out.a.fz
  have hz:=heap_lt R1.out.r0
  go_wp2
  have R2:Ret1 w (w1.setCell ⟨X,11,none⟩ (.int .i64 4)) X P ⟨4,v,stamp,word,comp,err⟩:=R1.out.call (kset R1.out.a 4).1 (kkeep (Keep.refl _ _) _ _)
  exact ret_ans rfl rfl (ansE_set rfl R2.r0 3 0 true) rfl rfl ⟨rfl,R2.done 3 0 true⟩
theorem csee_f {w:World} {X:Nat} {P:Cp} {b:Ck} (h:KAt w X P b) (hp:POk P) {v:Int} (hv:W64 v) (h0:b.st=0) (_hst:0≤b.stamp) (hr:P.rd≠Sg.nought) (hl : ¬ v≤P.z) (hf:farV P v=true) :
  Calls Tryz.prog 139 #[.pointer (some ⟨X,0,none⟩),.int .i64 v] w fun en w' => en = .returned (ansE 4 4 true)∧KAt w' X P (failV ⟨b.st,v,b.stamp,b.word,b.comp,b.err⟩ 4)∧Keep [X] w w':=by
  have hx:X < w.heap.size:=heap_lt h
  obtain ⟨x0,x1,x2,x3,x4,x5,x6,x7⟩:=h.cells
  obtain ⟨f3,f4,f5,f6,f7⟩:=h.fz
  obtain ⟨r0,r1,r2,r3,r4,r5,r6,r7⟩:=h.reads
  have HM:Hid (∀ w,Calls Tryz.prog 143 #[.agg #[rdV P.rd 0,rdV P.rd 1,rdV P.rd 2,rdV P.rd 3,rdV P.rd 4,rdV P.rd 5,rdV P.rd 6,rdV P.rd 7]] w fun e w' => e = .returned (.bool false)∧Below w.heap.size w w'):=fun w=>by
   have:=Sg.empty_any P.rd hp.rd w
   rw [show (P.rd == Sg.nought)=false by simpa using hr] at this
   rw [rd_cells hp.rd.1]; exact this
  have HS0:Hid (Ret1 w ((w.setCell ⟨X,12,none⟩ (.int .i64 v)).alloc (.cells #[.int .i64 0,.int .i64 0,.int .i64 0,.bool false] 55)) X P ⟨b.st,v,b.stamp,b.word,b.comp,b.err⟩) :=
   ⟨heap_alloc_set_new _ _ _,(kset h v).2.1.alloc _,(kkeep (Keep.refl _ _) _ _).alloc _,hx⟩
  have hne:w.heap.size≠X:=by omega
  obtain ⟨st,seen,stamp,word,comp,err⟩:=b
  simp only at *
  subst h0
  generalize hc0:(⟨0,v,stamp,word,comp,err⟩:Ck)=c0 at *
  have HO:Hid (∀ w,KAt w X P c0→Calls Tryz.prog 144 #[.pointer (some ⟨X,0,none⟩),.int .i64 v] w fun e w' => e = .returned (.bool true)∧Below w.heap.size w w'):=fun w h=>by
   have:=overrun_any h hp hv
   rw [hf] at this; exact this
  have d1:decide (v≤P.z)=false:=decide_eq_false hl
  have HF:Hid (∀ w,KAt w X P c0→Calls Tryz.prog 145 #[.pointer (some ⟨X,0,none⟩),.int .i64 4] w fun en w' => en = .returned (.agg #[.int .i64 4,.int .i64 4,.int .i64 0,.bool true])∧KAt w' X P (failV c0 4)∧Keep [X] w w'):=fun w h=>cfail_any h 4
  generalize failV c0 4=bb at *
  clear h hf hl hr hc0
  unfold ansE
  go_enter Tryz.func139,Tryz.ntmps139
  go_wp2_with fail
  refine (HM.out _).mono ?_
  rintro e w1 ⟨rfl,hb1⟩
  have R1:Hid (Ret1 w w1 X P c0):=HS0.out.on hb1
  clear hb1 x0 x1 x2 x3 x4 x5 x6 x7 f3 f4 f5 f6 f7 r0 r1 r2 r3 r4 r5 r6 r7
  obtain ⟨⟨a0,a1,a2,a3⟩,g0,g1,g2,g3⟩:=ans_cells R1.out.r0
  obtain ⟨x0,x1,x2,x3,x4,x5,x6,x7⟩:=R1.out.a.cells
  obtain ⟨f3,f4,f5,f6,f7⟩:=R1.out.a.fz
  have hz:=heap_lt R1.out.r0
  go_wp2_with fail
  refine (HO.out _ R1.out.a).mono ?_
  rintro e w2 ⟨rfl,hb⟩
  have R2:Hid (Ret1 w w2 X P c0):=R1.out.on hb
  clear hb x0 x1 x2 x3 x4 x5 x6 x7 f3 f4 f5 f6 f7 a0 a1 a2 a3 g0 g1 g2 g3 hz
  obtain ⟨⟨a0,a1,a2,a3⟩,g0,g1,g2,g3⟩:=ans_cells R2.out.r0
  obtain ⟨x0,x1,x2,x3,x4,x5,x6,x7⟩:=R2.out.a.cells
  obtain ⟨f3,f4,f5,f6,f7⟩:=R2.out.a.fz
  have hz:=heap_lt R2.out.r0
  go_wp2_with fail
  refine (HF.out _ R2.out.a).mono ?_
  rintro e w3 ⟨rfl,ha,hk⟩
  have R3:Hid (Ret1 w w3 X P bb):=R2.out.call ha hk
  clear ha hk x0 x1 x2 x3 x4 x5 x6 x7 f3 f4 f5 f6 f7 a0 a1 a2 a3 g0 g1 g2 g3 hz
  obtain ⟨⟨a0,a1,a2,a3⟩,g0,g1,g2,g3⟩:=ans_cells R3.out.r0
  obtain ⟨x0,x1,x2,x3,x4,x5,x6,x7⟩:=R3.out.a.cells
  obtain ⟨f3,f4,f5,f6,f7⟩:=R3.out.a.fz
  have hz:=heap_lt R3.out.r0
  go_wp2
  exact ret_ans rfl rfl (ansE_set rfl R3.out.r0 4 4 true) rfl rfl ⟨rfl,R3.out.done 4 4 true⟩
theorem csee_g {w:World} {X:Nat} {P:Cp} {b:Ck} (h:KAt w X P b) (hp:POk P) {v:Int} (hv:W64 v) (h0:b.st=0) (hst:0≤b.stamp) (hr:P.rd≠Sg.nought) (hl : ¬ v≤P.z) (hf:farV P v=false) :
  Calls Tryz.prog 139 #[.pointer (some ⟨X,0,none⟩),.int .i64 v] w fun en w' => en = .returned (ansE (kindV (onV P ⟨b.st,v,b.stamp,b.word,b.comp,b.err⟩)) 0 true)∧KAt w' X P (onV P ⟨b.st,v,b.stamp,b.word,b.comp,b.err⟩)∧Keep [X] w w':=by
  have hx:X < w.heap.size:=heap_lt h
  obtain ⟨x0,x1,x2,x3,x4,x5,x6,x7⟩:=h.cells
  obtain ⟨f3,f4,f5,f6,f7⟩:=h.fz
  obtain ⟨r0,r1,r2,r3,r4,r5,r6,r7⟩:=h.reads
  have HM:Hid (∀ w,Calls Tryz.prog 143 #[.agg #[rdV P.rd 0,rdV P.rd 1,rdV P.rd 2,rdV P.rd 3,rdV P.rd 4,rdV P.rd 5,rdV P.rd 6,rdV P.rd 7]] w fun e w' => e = .returned (.bool false)∧Below w.heap.size w w'):=fun w=>by
   have:=Sg.empty_any P.rd hp.rd w
   rw [show (P.rd == Sg.nought)=false by simpa using hr] at this
   rw [rd_cells hp.rd.1]; exact this
  have HS0:Hid (Ret1 w ((w.setCell ⟨X,12,none⟩ (.int .i64 v)).alloc (.cells #[.int .i64 0,.int .i64 0,.int .i64 0,.bool false] 55)) X P ⟨b.st,v,b.stamp,b.word,b.comp,b.err⟩) :=
   ⟨heap_alloc_set_new _ _ _,(kset h v).2.1.alloc _,(kkeep (Keep.refl _ _) _ _).alloc _,hx⟩
  have hne:w.heap.size≠X:=by omega
  obtain ⟨st,seen,stamp,word,comp,err⟩:=b
  simp only at *
  subst h0
  generalize hc0:(⟨0,v,stamp,word,comp,err⟩:Ck)=c0 at *
  have HO:Hid (∀ w,KAt w X P c0→Calls Tryz.prog 144 #[.pointer (some ⟨X,0,none⟩),.int .i64 v] w fun e w' => e = .returned (.bool false)∧Below w.heap.size w w'):=fun w h=>by
   have:=overrun_any h hp hv
   rw [hf] at this; exact this
  have d1:decide (v≤P.z)=false:=decide_eq_false hl
  have HG:Hid (∀ w,KAt w X P c0→Calls Tryz.prog 146 #[.pointer (some ⟨X,0,none⟩)] w fun en w' => en = .returned (.agg #[.int .i64 (kindV (onV P c0)),.int .i64 0,.int .i64 0,.bool true])∧KAt w' X P (onV P c0)∧Keep [X] w w'):=fun w h=>goon_any h (Or.inl (by rw [← hc0])) (fun e=>by rw [← hc0] at e; simp at e) (by rw [← hc0]; exact hv.2) (by rw [← hc0]; exact hst)
  generalize onV P c0=bb at *
  generalize kindV bb=kk at *
  clear h hf hl hr hc0
  unfold ansE
  go_enter Tryz.func139,Tryz.ntmps139
  go_wp2_with fail
  refine (HM.out _).mono ?_
  rintro e w1 ⟨rfl,hb1⟩
  have R1:Hid (Ret1 w w1 X P c0):=HS0.out.on hb1
  clear hb1 x0 x1 x2 x3 x4 x5 x6 x7 f3 f4 f5 f6 f7 r0 r1 r2 r3 r4 r5 r6 r7
  obtain ⟨⟨a0,a1,a2,a3⟩,g0,g1,g2,g3⟩:=ans_cells R1.out.r0
  obtain ⟨x0,x1,x2,x3,x4,x5,x6,x7⟩:=R1.out.a.cells
  obtain ⟨f3,f4,f5,f6,f7⟩:=R1.out.a.fz
  have hz:=heap_lt R1.out.r0
  go_wp2_with fail
  refine (HO.out _ R1.out.a).mono ?_
  rintro e w2 ⟨rfl,hb⟩
  have R2:Hid (Ret1 w w2 X P c0):=R1.out.on hb
  clear hb x0 x1 x2 x3 x4 x5 x6 x7 f3 f4 f5 f6 f7 a0 a1 a2 a3 g0 g1 g2 g3 hz
  obtain ⟨⟨a0,a1,a2,a3⟩,g0,g1,g2,g3⟩:=ans_cells R2.out.r0
  obtain ⟨x0,x1,x2,x3,x4,x5,x6,x7⟩:=R2.out.a.cells
  obtain ⟨f3,f4,f5,f6,f7⟩:=R2.out.a.fz
  have hz:=heap_lt R2.out.r0
  go_wp2_with fail
  refine (HG.out _ R2.out.a).mono ?_
  rintro e w3 ⟨rfl,ha,hk⟩
  have R3:Hid (Ret1 w w3 X P bb):=R2.out.call ha hk
  clear ha hk x0 x1 x2 x3 x4 x5 x6 x7 f3 f4 f5 f6 f7 a0 a1 a2 a3 g0 g1 g2 g3 hz
  obtain ⟨⟨a0,a1,a2,a3⟩,g0,g1,g2,g3⟩:=ans_cells R3.out.r0
  obtain ⟨x0,x1,x2,x3,x4,x5,x6,x7⟩:=R3.out.a.cells
  obtain ⟨f3,f4,f5,f6,f7⟩:=R3.out.a.fz
  have hz:=heap_lt R3.out.r0
  go_wp2
  exact ret_ans rfl rfl (ansE_set rfl R3.out.r0 kk 0 true) rfl rfl ⟨rfl,R3.out.done kk 0 true⟩
theorem clook_f {w:World} {X:Nat} {P:Cp} {b:Ck} (h:KAt w X P b) {v:Int} (h1:b.st=1) (hst:1≤b.stamp) (hsm:b.stamp≤9223372036854775807) (hL:laidV v b.stamp=false) (hO:overV v b.stamp=true) :
  Calls Tryz.prog 140 #[.pointer (some ⟨X,0,none⟩),.int .i64 v] w fun en w' => en = .returned (ansE 4 4 true)∧KAt w' X P (failV b 4)∧Keep [X] w w':=by
  have hx:X < w.heap.size:=heap_lt h
  obtain ⟨x0,x1,x2,x3,x4,x5,x6,x7⟩:=h.cells
  obtain ⟨f3,f4,f5,f6,f7⟩:=h.fz
  have hne:w.heap.size≠X:=by omega
  have HX:Hid (KAt w X P b):=h
  obtain ⟨st,seen,stamp,word,comp,err⟩:=b
  simp only at *
  subst h1
  have HLA:Hid (∀ w,Calls Tryz.prog 106 #[.int .i64 v,.int .i64 stamp] w fun e w' => e = .returned (.bool false)∧w'=w):=by rw [← hL]; exact laid_any v stamp
  have HOV:Hid (∀ w,Calls Tryz.prog 102 #[.int .i64 v,.int .i64 stamp] w fun e w' => e = .returned (.bool true)∧w'=w):=by rw [← hO]; exact over_any v stamp
  have hw:wrap64 (stamp - 1)=stamp - 1:=by unfold wrap64; omega
  have HF:Hid (∀ w,KAt w X P ⟨1,seen,stamp,word,comp,err⟩→Calls Tryz.prog 145 #[.pointer (some ⟨X,0,none⟩),.int .i64 4] w fun en w' => en = .returned (.agg #[.int .i64 4,.int .i64 4,.int .i64 0,.bool true])∧KAt w' X P (failV ⟨1,seen,stamp,word,comp,err⟩ 4)∧Keep [X] w w'):=fun w h=>cfail_any h 4
  generalize failV ⟨1,seen,stamp,word,comp,err⟩ 4=bb at *
  clear h hL hO
  unfold ansE
  go_enter Tryz.func140,Tryz.ntmps140
  go_wp2_with fail
  go_quiet ((first | (go_at_call 106; refine (HLA.out _).mono ?_; rintro e x0 ⟨rfl,rfl⟩; exact ⟨rfl,_,rfl⟩) | (go_at_call 102; refine (HOV.out _).mono ?_; rintro e x0 ⟨rfl,rfl⟩; exact ⟨rfl,_,rfl⟩)))
  have R0:Hid (Ret1 w (World.drewN (w.alloc (.cells #[.int .i64 0,.int .i64 0,.int .i64 0,.bool false] 55)) nq) X P ⟨1,seen,stamp,word,comp,err⟩):=(ret1_start HX.out).drew nq
  generalize World.drewN (w.alloc (.cells #[.int .i64 0,.int .i64 0,.int .i64 0,.bool false] 55)) nq=y0 at *
  clear x0 x1 x2 x3 x4 x5 x6 x7 f3 f4 f5 f6 f7
  obtain ⟨⟨a0,a1,a2,a3⟩,g0,g1,g2,g3⟩:=ans_cells R0.out.r0
  obtain ⟨x0,x1,x2,x3,x4,x5,x6,x7⟩:=R0.out.a.cells
  obtain ⟨f3,f4,f5,f6,f7⟩:=R0.out.a.fz
  have hz:=heap_lt R0.out.r0
  simp only at x3 x4 x5 x6 x7
  go_wp2_with fail
  refine (HF.out _ R0.out.a).mono ?_
  rintro e w1 ⟨rfl,ha,hk⟩
  have R1:Hid (Ret1 w w1 X P bb):=R0.out.call ha hk
  clear ha hk x0 x1 x2 x3 x4 x5 x6 x7 f3 f4 f5 f6 f7 a0 a1 a2 a3 g0 g1 g2 g3 hz
  obtain ⟨⟨a0,a1,a2,a3⟩,g0,g1,g2,g3⟩:=ans_cells R1.out.r0
  obtain ⟨x0,x1,x2,x3,x4,x5,x6,x7⟩:=R1.out.a.cells
  obtain ⟨f3,f4,f5,f6,f7⟩:=R1.out.a.fz
  have hz:=heap_lt R1.out.r0
  go_wp2
  exact ret_ans rfl rfl (ansE_set rfl R1.out.r0 4 4 true) rfl rfl ⟨rfl,R1.out.done 4 4 true⟩
theorem clook_w {w:World} {X:Nat} {P:Cp} {b:Ck} (h:KAt w X P b) {v:Int} (h1:b.st=1) (hst:1≤b.stamp) (hsm:b.stamp≤9223372036854775807) (hL:laidV v b.stamp=false) (hO:overV v b.stamp=false) :
  Calls Tryz.prog 140 #[.pointer (some ⟨X,0,none⟩),.int .i64 v] w fun en w' => en = .returned (ansE 1 0 true)∧KAt w' X P b∧Keep [X] w w':=by
  have hx:X < w.heap.size:=heap_lt h
  obtain ⟨x0,x1,x2,x3,x4,x5,x6,x7⟩:=h.cells
  obtain ⟨f3,f4,f5,f6,f7⟩:=h.fz
  have hne:w.heap.size≠X:=by omega
  have HX:Hid (KAt w X P b):=h
  obtain ⟨st,seen,stamp,word,comp,err⟩:=b
  simp only at *
  subst h1
  have HLA:Hid (∀ w,Calls Tryz.prog 106 #[.int .i64 v,.int .i64 stamp] w fun e w' => e = .returned (.bool false)∧w'=w):=by rw [← hL]; exact laid_any v stamp
  have HOV:Hid (∀ w,Calls Tryz.prog 102 #[.int .i64 v,.int .i64 stamp] w fun e w' => e = .returned (.bool false)∧w'=w):=by rw [← hO]; exact over_any v stamp
  have hw:wrap64 (stamp - 1)=stamp - 1:=by unfold wrap64; omega
  clear h hL hO
  unfold ansE
  go_enter Tryz.func140,Tryz.ntmps140
  go_wp2_with fail
  go_quiet ((first | (go_at_call 106; refine (HLA.out _).mono ?_; rintro e x0 ⟨rfl,rfl⟩; exact ⟨rfl,_,rfl⟩) | (go_at_call 102; refine (HOV.out _).mono ?_; rintro e x0 ⟨rfl,rfl⟩; exact ⟨rfl,_,rfl⟩)))
  have R0:Hid (Ret1 w (World.drewN (w.alloc (.cells #[.int .i64 0,.int .i64 0,.int .i64 0,.bool false] 55)) nq) X P ⟨1,seen,stamp,word,comp,err⟩):=(ret1_start HX.out).drew nq
  generalize World.drewN (w.alloc (.cells #[.int .i64 0,.int .i64 0,.int .i64 0,.bool false] 55)) nq=y0 at *
  clear x0 x1 x2 x3 x4 x5 x6 x7 f3 f4 f5 f6 f7
  obtain ⟨⟨a0,a1,a2,a3⟩,g0,g1,g2,g3⟩:=ans_cells R0.out.r0
  obtain ⟨x0,x1,x2,x3,x4,x5,x6,x7⟩:=R0.out.a.cells
  obtain ⟨f3,f4,f5,f6,f7⟩:=R0.out.a.fz
  have hz:=heap_lt R0.out.r0
  simp only at x3 x4 x5 x6 x7
  go_wp2
  exact ret_ans rfl rfl (ansE_set rfl R0.out.r0 1 0 true) rfl rfl ⟨rfl,R0.out.done 1 0 true⟩
theorem clook_c {w:World} {X:Nat} {P:Cp} {b:Ck} (h:KAt w X P b) {v:Int} (h1:b.st=1) (hst:1≤b.stamp) (hsm:b.stamp≤9223372036854775807) (hL:laidV v b.stamp=true) (hO:overV v b.stamp=true) (hq:b.comp=b.stamp - 1) (hse:b.seen≤9223372036854775807) :
  Calls Tryz.prog 140 #[.pointer (some ⟨X,0,none⟩),.int .i64 v] w fun en w' => en = .returned (ansE (kindV (onV P ⟨b.st,b.seen,b.stamp,b.word,b.stamp,b.err⟩)) 0 true)∧KAt w' X P (onV P ⟨b.st,b.seen,b.stamp,b.word,b.stamp,b.err⟩)∧Keep [X] w w':=by
  have hx:X < w.heap.size:=heap_lt h
  obtain ⟨x0,x1,x2,x3,x4,x5,x6,x7⟩:=h.cells
  obtain ⟨f3,f4,f5,f6,f7⟩:=h.fz
  have hne:w.heap.size≠X:=by omega
  have HX:Hid (KAt w X P b):=h
  obtain ⟨st,seen,stamp,word,comp,err⟩:=b
  simp only at *
  subst h1
  have HLA:Hid (∀ w,Calls Tryz.prog 106 #[.int .i64 v,.int .i64 stamp] w fun e w' => e = .returned (.bool true)∧w'=w):=by rw [← hL]; exact laid_any v stamp
  have HOV:Hid (∀ w,Calls Tryz.prog 102 #[.int .i64 v,.int .i64 stamp] w fun e w' => e = .returned (.bool true)∧w'=w):=by rw [← hO]; exact over_any v stamp
  have hw:wrap64 (stamp - 1)=stamp - 1:=by unfold wrap64; omega
  have hqq:(comp == stamp - 1)=true:=by simpa using hq
  clear hq
  have HG:Hid (∀ w,KAt w X P ⟨1,seen,stamp,word,stamp,err⟩→Calls Tryz.prog 146 #[.pointer (some ⟨X,0,none⟩)] w fun en w' => en = .returned (.agg #[.int .i64 (kindV (onV P ⟨1,seen,stamp,word,stamp,err⟩)),.int .i64 0,.int .i64 0,.bool true])∧KAt w' X P (onV P ⟨1,seen,stamp,word,stamp,err⟩)∧Keep [X] w w'):=fun w h=>goon_any h (Or.inr (Or.inl rfl)) (fun e=>by simp at e) hse (by simp only; omega)
  generalize onV P ⟨1,seen,stamp,word,stamp,err⟩=bb at *
  generalize kindV bb=kk at *
  clear h hL hO
  unfold ansE
  go_enter Tryz.func140,Tryz.ntmps140
  go_wp2_with fail
  go_quiet ((first | (go_at_call 106; refine (HLA.out _).mono ?_; rintro e x0 ⟨rfl,rfl⟩; exact ⟨rfl,_,rfl⟩) | (go_at_call 102; refine (HOV.out _).mono ?_; rintro e x0 ⟨rfl,rfl⟩; exact ⟨rfl,_,rfl⟩)))
  have R0:Hid (Ret1 w (World.drewN (w.alloc (.cells #[.int .i64 0,.int .i64 0,.int .i64 0,.bool false] 55)) nq) X P ⟨1,seen,stamp,word,comp,err⟩):=(ret1_start HX.out).drew nq
  generalize World.drewN (w.alloc (.cells #[.int .i64 0,.int .i64 0,.int .i64 0,.bool false] 55)) nq=y0 at *
  clear x0 x1 x2 x3 x4 x5 x6 x7 f3 f4 f5 f6 f7
  obtain ⟨⟨a0,a1,a2,a3⟩,g0,g1,g2,g3⟩:=ans_cells R0.out.r0
  obtain ⟨x0,x1,x2,x3,x4,x5,x6,x7⟩:=R0.out.a.cells
  obtain ⟨f3,f4,f5,f6,f7⟩:=R0.out.a.fz
  have hz:=heap_lt R0.out.r0
  simp only at x3 x4 x5 x6 x7
  go_wp2_with fail
  go_quiet (fail)
  have R1:Hid (Ret1 w (y0.drewN nq) X P ⟨1,seen,stamp,word,comp,err⟩):=R0.out.drew nq
  generalize y0.drewN nq=y1 at *
  clear x0 x1 x2 x3 x4 x5 x6 x7 f3 f4 f5 f6 f7 a0 a1 a2 a3 g0 g1 g2 g3 hz
  obtain ⟨⟨a0,a1,a2,a3⟩,g0,g1,g2,g3⟩:=ans_cells R1.out.r0
  obtain ⟨x0,x1,x2,x3,x4,x5,x6,x7⟩:=R1.out.a.cells
  obtain ⟨f3,f4,f5,f6,f7⟩:=R1.out.a.fz
  have hz:=heap_lt R1.out.r0
  simp only at x3 x4 x5 x6 x7
  go_wp2_with fail
  have R2:Hid (Ret1 w (y1.setCell ⟨X,15,none⟩ (.int .i64 stamp)) X P ⟨1,seen,stamp,word,stamp,err⟩):=R1.out.call (kset R1.out.a stamp).2.2.2.2 (kkeep (Keep.refl _ _) _ _)
  go_wp2_with fail
  refine (HG.out _ R2.out.a).mono ?_
  rintro e w3 ⟨rfl,ha,hk⟩
  have R3:Hid (Ret1 w w3 X P bb):=R2.out.call ha hk
  clear ha hk x0 x1 x2 x3 x4 x5 x6 x7 f3 f4 f5 f6 f7 a0 a1 a2 a3 g0 g1 g2 g3 hz
  obtain ⟨⟨a0,a1,a2,a3⟩,g0,g1,g2,g3⟩:=ans_cells R3.out.r0
  obtain ⟨x0,x1,x2,x3,x4,x5,x6,x7⟩:=R3.out.a.cells
  obtain ⟨f3,f4,f5,f6,f7⟩:=R3.out.a.fz
  have hz:=heap_lt R3.out.r0
  go_wp2
  exact ret_ans rfl rfl (ansE_set rfl R3.out.r0 kk 0 true) rfl rfl ⟨rfl,R3.out.done kk 0 true⟩
theorem clook_d {w:World} {X:Nat} {P:Cp} {b:Ck} (h:KAt w X P b) {v:Int} (h1:b.st=1) (hst:1≤b.stamp) (hsm:b.stamp≤9223372036854775807) (hL:laidV v b.stamp=true) (hO:overV v b.stamp=true) (hq : ¬ b.comp=b.stamp - 1) (hse:b.seen≤9223372036854775807) :
  Calls Tryz.prog 140 #[.pointer (some ⟨X,0,none⟩),.int .i64 v] w fun en w' => en = .returned (ansE (kindV (onV P ⟨b.st,b.seen,b.stamp,b.word,b.comp,b.err⟩)) 0 true)∧KAt w' X P (onV P ⟨b.st,b.seen,b.stamp,b.word,b.comp,b.err⟩)∧Keep [X] w w':=by
  have hx:X < w.heap.size:=heap_lt h
  obtain ⟨x0,x1,x2,x3,x4,x5,x6,x7⟩:=h.cells
  obtain ⟨f3,f4,f5,f6,f7⟩:=h.fz
  have hne:w.heap.size≠X:=by omega
  have HX:Hid (KAt w X P b):=h
  obtain ⟨st,seen,stamp,word,comp,err⟩:=b
  simp only at *
  subst h1
  have HLA:Hid (∀ w,Calls Tryz.prog 106 #[.int .i64 v,.int .i64 stamp] w fun e w' => e = .returned (.bool true)∧w'=w):=by rw [← hL]; exact laid_any v stamp
  have HOV:Hid (∀ w,Calls Tryz.prog 102 #[.int .i64 v,.int .i64 stamp] w fun e w' => e = .returned (.bool true)∧w'=w):=by rw [← hO]; exact over_any v stamp
  have hw:wrap64 (stamp - 1)=stamp - 1:=by unfold wrap64; omega
  have hqq:(comp == stamp - 1)=false:=by simpa using hq
  clear hq
  have HG:Hid (∀ w,KAt w X P ⟨1,seen,stamp,word,comp,err⟩→Calls Tryz.prog 146 #[.pointer (some ⟨X,0,none⟩)] w fun en w' => en = .returned (.agg #[.int .i64 (kindV (onV P ⟨1,seen,stamp,word,comp,err⟩)),.int .i64 0,.int .i64 0,.bool true])∧KAt w' X P (onV P ⟨1,seen,stamp,word,comp,err⟩)∧Keep [X] w w'):=fun w h=>goon_any h (Or.inr (Or.inl rfl)) (fun e=>by simp at e) hse (by simp only; omega)
  generalize onV P ⟨1,seen,stamp,word,comp,err⟩=bb at *
  generalize kindV bb=kk at *
  clear h hL hO
  unfold ansE
  go_enter Tryz.func140,Tryz.ntmps140
  go_wp2_with fail
  go_quiet ((first | (go_at_call 106; refine (HLA.out _).mono ?_; rintro e x0 ⟨rfl,rfl⟩; exact ⟨rfl,_,rfl⟩) | (go_at_call 102; refine (HOV.out _).mono ?_; rintro e x0 ⟨rfl,rfl⟩; exact ⟨rfl,_,rfl⟩)))
  have R0:Hid (Ret1 w (World.drewN (w.alloc (.cells #[.int .i64 0,.int .i64 0,.int .i64 0,.bool false] 55)) nq) X P ⟨1,seen,stamp,word,comp,err⟩):=(ret1_start HX.out).drew nq
  generalize World.drewN (w.alloc (.cells #[.int .i64 0,.int .i64 0,.int .i64 0,.bool false] 55)) nq=y0 at *
  clear x0 x1 x2 x3 x4 x5 x6 x7 f3 f4 f5 f6 f7
  obtain ⟨⟨a0,a1,a2,a3⟩,g0,g1,g2,g3⟩:=ans_cells R0.out.r0
  obtain ⟨x0,x1,x2,x3,x4,x5,x6,x7⟩:=R0.out.a.cells
  obtain ⟨f3,f4,f5,f6,f7⟩:=R0.out.a.fz
  have hz:=heap_lt R0.out.r0
  simp only at x3 x4 x5 x6 x7
  go_wp2_with fail
  go_quiet (fail)
  have R1:Hid (Ret1 w (y0.drewN nq) X P ⟨1,seen,stamp,word,comp,err⟩):=R0.out.drew nq
  generalize y0.drewN nq=y1 at *
  clear x0 x1 x2 x3 x4 x5 x6 x7 f3 f4 f5 f6 f7 a0 a1 a2 a3 g0 g1 g2 g3 hz
  obtain ⟨⟨a0,a1,a2,a3⟩,g0,g1,g2,g3⟩:=ans_cells R1.out.r0
  obtain ⟨x0,x1,x2,x3,x4,x5,x6,x7⟩:=R1.out.a.cells
  obtain ⟨f3,f4,f5,f6,f7⟩:=R1.out.a.fz
  have hz:=heap_lt R1.out.r0
  simp only at x3 x4 x5 x6 x7
  go_wp2_with fail
  refine (HG.out _ R1.out.a).mono ?_
  rintro e w2 ⟨rfl,ha,hk⟩
  have R2:Hid (Ret1 w w2 X P bb):=R1.out.call ha hk
  clear ha hk x0 x1 x2 x3 x4 x5 x6 x7 f3 f4 f5 f6 f7 a0 a1 a2 a3 g0 g1 g2 g3 hz
  obtain ⟨⟨a0,a1,a2,a3⟩,g0,g1,g2,g3⟩:=ans_cells R2.out.r0
  obtain ⟨x0,x1,x2,x3,x4,x5,x6,x7⟩:=R2.out.a.cells
  obtain ⟨f3,f4,f5,f6,f7⟩:=R2.out.a.fz
  have hz:=heap_lt R2.out.r0
  go_wp2
  exact ret_ans rfl rfl (ansE_set rfl R2.out.r0 kk 0 true) rfl rfl ⟨rfl,R2.out.done kk 0 true⟩
theorem clook_n {w:World} {X:Nat} {P:Cp} {b:Ck} (h:KAt w X P b) {v:Int} (h1:b.st=1) (hst:1≤b.stamp) (hsm:b.stamp≤9223372036854775807) (hL:laidV v b.stamp=true) (hO:overV v b.stamp=false) (hse:b.seen≤9223372036854775807) :
  Calls Tryz.prog 140 #[.pointer (some ⟨X,0,none⟩),.int .i64 v] w fun en w' => en = .returned (ansE (kindV (onV P ⟨b.st,b.seen,b.stamp,b.word,b.comp,b.err⟩)) 0 true)∧KAt w' X P (onV P ⟨b.st,b.seen,b.stamp,b.word,b.comp,b.err⟩)∧Keep [X] w w':=by
  have hx:X < w.heap.size:=heap_lt h
  obtain ⟨x0,x1,x2,x3,x4,x5,x6,x7⟩:=h.cells
  obtain ⟨f3,f4,f5,f6,f7⟩:=h.fz
  have hne:w.heap.size≠X:=by omega
  have HX:Hid (KAt w X P b):=h
  obtain ⟨st,seen,stamp,word,comp,err⟩:=b
  simp only at *
  subst h1
  have HLA:Hid (∀ w,Calls Tryz.prog 106 #[.int .i64 v,.int .i64 stamp] w fun e w' => e = .returned (.bool true)∧w'=w):=by rw [← hL]; exact laid_any v stamp
  have HOV:Hid (∀ w,Calls Tryz.prog 102 #[.int .i64 v,.int .i64 stamp] w fun e w' => e = .returned (.bool false)∧w'=w):=by rw [← hO]; exact over_any v stamp
  have hw:wrap64 (stamp - 1)=stamp - 1:=by unfold wrap64; omega
  have HG:Hid (∀ w,KAt w X P ⟨1,seen,stamp,word,comp,err⟩→Calls Tryz.prog 146 #[.pointer (some ⟨X,0,none⟩)] w fun en w' => en = .returned (.agg #[.int .i64 (kindV (onV P ⟨1,seen,stamp,word,comp,err⟩)),.int .i64 0,.int .i64 0,.bool true])∧KAt w' X P (onV P ⟨1,seen,stamp,word,comp,err⟩)∧Keep [X] w w'):=fun w h=>goon_any h (Or.inr (Or.inl rfl)) (fun e=>by simp at e) hse (by simp only; omega)
  generalize onV P ⟨1,seen,stamp,word,comp,err⟩=bb at *
  generalize kindV bb=kk at *
  clear h hL hO
  unfold ansE
  go_enter Tryz.func140,Tryz.ntmps140
  go_wp2_with fail
  go_quiet ((first | (go_at_call 106; refine (HLA.out _).mono ?_; rintro e x0 ⟨rfl,rfl⟩; exact ⟨rfl,_,rfl⟩) | (go_at_call 102; refine (HOV.out _).mono ?_; rintro e x0 ⟨rfl,rfl⟩; exact ⟨rfl,_,rfl⟩)))
  have R0:Hid (Ret1 w (World.drewN (w.alloc (.cells #[.int .i64 0,.int .i64 0,.int .i64 0,.bool false] 55)) nq) X P ⟨1,seen,stamp,word,comp,err⟩):=(ret1_start HX.out).drew nq
  generalize World.drewN (w.alloc (.cells #[.int .i64 0,.int .i64 0,.int .i64 0,.bool false] 55)) nq=y0 at *
  clear x0 x1 x2 x3 x4 x5 x6 x7 f3 f4 f5 f6 f7
  obtain ⟨⟨a0,a1,a2,a3⟩,g0,g1,g2,g3⟩:=ans_cells R0.out.r0
  obtain ⟨x0,x1,x2,x3,x4,x5,x6,x7⟩:=R0.out.a.cells
  obtain ⟨f3,f4,f5,f6,f7⟩:=R0.out.a.fz
  have hz:=heap_lt R0.out.r0
  simp only at x3 x4 x5 x6 x7
  go_wp2_with fail
  go_quiet (fail)
  have R1:Hid (Ret1 w (y0.drewN nq) X P ⟨1,seen,stamp,word,comp,err⟩):=R0.out.drew nq
  generalize y0.drewN nq=y1 at *
  clear x0 x1 x2 x3 x4 x5 x6 x7 f3 f4 f5 f6 f7 a0 a1 a2 a3 g0 g1 g2 g3 hz
  obtain ⟨⟨a0,a1,a2,a3⟩,g0,g1,g2,g3⟩:=ans_cells R1.out.r0
  obtain ⟨x0,x1,x2,x3,x4,x5,x6,x7⟩:=R1.out.a.cells
  obtain ⟨f3,f4,f5,f6,f7⟩:=R1.out.a.fz
  have hz:=heap_lt R1.out.r0
  simp only at x3 x4 x5 x6 x7
  go_wp2_with fail
  refine (HG.out _ R1.out.a).mono ?_
  rintro e w2 ⟨rfl,ha,hk⟩
  have R2:Hid (Ret1 w w2 X P bb):=R1.out.call ha hk
  clear ha hk x0 x1 x2 x3 x4 x5 x6 x7 f3 f4 f5 f6 f7 a0 a1 a2 a3 g0 g1 g2 g3 hz
  obtain ⟨⟨a0,a1,a2,a3⟩,g0,g1,g2,g3⟩:=ans_cells R2.out.r0
  obtain ⟨x0,x1,x2,x3,x4,x5,x6,x7⟩:=R2.out.a.cells
  obtain ⟨f3,f4,f5,f6,f7⟩:=R2.out.a.fz
  have hz:=heap_lt R2.out.r0
  go_wp2
  exact ret_ans rfl rfl (ansE_set rfl R2.out.r0 kk 0 true) rfl rfl ⟨rfl,R2.out.done kk 0 true⟩
theorem chold_h {w:World} {X:Nat} {P:Cp} {b:Ck} (h:KAt w X P b) (hp:POk P) {v:Int} (h2:b.st=2) (hw1:0≤b.word) (hw2:b.word≤7) (hH:hitV P.rd b.word.toNat v=true) :
  Calls Tryz.prog 141 #[.pointer (some ⟨X,0,none⟩),.int .u64 (IntKind.u64.wrap v)] w fun en w' => en = .returned (ansE 4 3 true)∧KAt w' X P (failV b 3)∧Keep [X] w w':=by
  have hx:X < w.heap.size:=heap_lt h
  obtain ⟨x0,x1,x2,x3,x4,x5,x6,x7⟩:=h.cells
  obtain ⟨f3,f4,f5,f6,f7⟩:=h.fz
  have hne:w.heap.size≠X:=by omega
  have HX:Hid (KAt w X P b):=h
  obtain ⟨st,seen,stamp,word,comp,err⟩:=b
  simp only at *
  subst h2
  obtain ⟨j,rfl⟩ : ∃ j:Nat,word=(j:Int):=⟨word.toNat,by omega⟩
  have hj:j < 8:=by omega
  have hj8:(j:Int) < 8:=by omega
  have hrd:=h.read j hj
  unfold rdV at hrd
  rw [show ((j:Int)).toNat=j from rfl] at hH
  have hbt:(IntKind.u64.wrap v).toNat < 18446744073709551616∧((IntKind.u64.wrap v).toNat:Int)=IntKind.u64.wrap v:=wrapU_bd v
  have hrl:=hp.rd.2 j
  unfold hitV at hH
  rw [← hbt.2]
  generalize (IntKind.u64.wrap v).toNat=z at *
  have hbits:bits .and .u64 (z:Int) ((P.rd.getD j 0:Nat):Int)=((z &&& P.rd.getD j 0:Nat):Int):=bits_and_u64_nat _ _ hbt.1 hrl
  generalize P.rd.getD j 0=y at *
  have hnz:(((z &&& y:Nat):Int) != 0)=true:=by
   rw [← hH,Bool.eq_iff_iff]; simp only [bne_iff_ne,ne_eq]; omega
  have HF:Hid (∀ w,KAt w X P ⟨2,seen,stamp,(j:Int),comp,err⟩→Calls Tryz.prog 145 #[.pointer (some ⟨X,0,none⟩),.int .i64 3] w fun en w' => en = .returned (.agg #[.int .i64 4,.int .i64 3,.int .i64 0,.bool true])∧KAt w' X P (failV ⟨2,seen,stamp,(j:Int),comp,err⟩ 3)∧Keep [X] w w'):=fun w h=>cfail_any h 3
  generalize failV ⟨2,seen,stamp,(j:Int),comp,err⟩ 3=bb at *
  generalize (z &&& y:Nat)=q at *
  clear h hH hbt hp hw1 hw2 hrl
  unfold ansE
  go_enter Tryz.func141,Tryz.ntmps141
  go_wp2_with fail
  go_quiet (fail)
  have R0:Hid (Ret1 w (World.drewN (w.alloc (.cells #[.int .i64 0,.int .i64 0,.int .i64 0,.bool false] 55)) nq) X P ⟨2,seen,stamp,(j:Int),comp,err⟩):=(ret1_start HX.out).drew nq
  generalize World.drewN (w.alloc (.cells #[.int .i64 0,.int .i64 0,.int .i64 0,.bool false] 55)) nq=y0 at *
  clear x0 x1 x2 x3 x4 x5 x6 x7 f3 f4 f5 f6 f7
  obtain ⟨⟨a0,a1,a2,a3⟩,g0,g1,g2,g3⟩:=ans_cells R0.out.r0
  obtain ⟨x0,x1,x2,x3,x4,x5,x6,x7⟩:=R0.out.a.cells
  obtain ⟨f3,f4,f5,f6,f7⟩:=R0.out.a.fz
  have hz:=heap_lt R0.out.r0
  simp only at x3 x4 x5 x6 x7
  go_wp2_with fail
  refine (HF.out _ R0.out.a).mono ?_
  rintro e w1 ⟨rfl,ha,hk⟩
  have R1:Hid (Ret1 w w1 X P bb):=R0.out.call ha hk
  clear ha hk x0 x1 x2 x3 x4 x5 x6 x7 f3 f4 f5 f6 f7 a0 a1 a2 a3 g0 g1 g2 g3 hz
  obtain ⟨⟨a0,a1,a2,a3⟩,g0,g1,g2,g3⟩:=ans_cells R1.out.r0
  obtain ⟨x0,x1,x2,x3,x4,x5,x6,x7⟩:=R1.out.a.cells
  obtain ⟨f3,f4,f5,f6,f7⟩:=R1.out.a.fz
  have hz:=heap_lt R1.out.r0
  go_wp2
  exact ret_ans rfl rfl (ansE_set rfl R1.out.r0 4 3 true) rfl rfl ⟨rfl,R1.out.done 4 3 true⟩
theorem chold_n {w:World} {X:Nat} {P:Cp} {b:Ck} (h:KAt w X P b) (hp:POk P) {v:Int} (h2:b.st=2) (hw1:0≤b.word) (hw2:b.word≤7) (hH:hitV P.rd b.word.toNat v=false) (hse:b.seen≤9223372036854775807) (hst:0≤b.stamp) :
  Calls Tryz.prog 141 #[.pointer (some ⟨X,0,none⟩),.int .u64 (IntKind.u64.wrap v)] w fun en w' => en = .returned (ansE (kindV (onV P b)) 0 true)∧KAt w' X P (onV P b)∧Keep [X] w w':=by
  have hx:X < w.heap.size:=heap_lt h
  obtain ⟨x0,x1,x2,x3,x4,x5,x6,x7⟩:=h.cells
  obtain ⟨f3,f4,f5,f6,f7⟩:=h.fz
  have hne:w.heap.size≠X:=by omega
  have HX:Hid (KAt w X P b):=h
  obtain ⟨st,seen,stamp,word,comp,err⟩:=b
  simp only at *
  subst h2
  obtain ⟨j,rfl⟩ : ∃ j:Nat,word=(j:Int):=⟨word.toNat,by omega⟩
  have hj:j < 8:=by omega
  have hj8:(j:Int) < 8:=by omega
  have hrd:=h.read j hj
  unfold rdV at hrd
  rw [show ((j:Int)).toNat=j from rfl] at hH
  have hbt:(IntKind.u64.wrap v).toNat < 18446744073709551616∧((IntKind.u64.wrap v).toNat:Int)=IntKind.u64.wrap v:=wrapU_bd v
  have hrl:=hp.rd.2 j
  unfold hitV at hH
  rw [← hbt.2]
  generalize (IntKind.u64.wrap v).toNat=z at *
  have hbits:bits .and .u64 (z:Int) ((P.rd.getD j 0:Nat):Int)=((z &&& P.rd.getD j 0:Nat):Int):=bits_and_u64_nat _ _ hbt.1 hrl
  generalize P.rd.getD j 0=y at *
  have hnz:(((z &&& y:Nat):Int) != 0)=false:=by
   rw [← hH,Bool.eq_iff_iff]; simp only [bne_iff_ne,ne_eq]; omega
  have HG:Hid (∀ w,KAt w X P ⟨2,seen,stamp,(j:Int),comp,err⟩→Calls Tryz.prog 146 #[.pointer (some ⟨X,0,none⟩)] w fun en w' => en = .returned (.agg #[.int .i64 (kindV (onV P ⟨2,seen,stamp,(j:Int),comp,err⟩)),.int .i64 0,.int .i64 0,.bool true])∧KAt w' X P (onV P ⟨2,seen,stamp,(j:Int),comp,err⟩)∧Keep [X] w w'):=fun w h=>goon_any h (Or.inr (Or.inr (Or.inl rfl))) (fun _=>⟨by simp only; omega,by simp only; omega⟩) hse hst
  generalize onV P ⟨2,seen,stamp,(j:Int),comp,err⟩=bb at *
  generalize kindV bb=kk at *
  generalize (z &&& y:Nat)=q at *
  clear h hH hbt hp hw1 hw2 hrl
  unfold ansE
  go_enter Tryz.func141,Tryz.ntmps141
  go_wp2_with fail
  go_quiet (fail)
  have R0:Hid (Ret1 w (World.drewN (w.alloc (.cells #[.int .i64 0,.int .i64 0,.int .i64 0,.bool false] 55)) nq) X P ⟨2,seen,stamp,(j:Int),comp,err⟩):=(ret1_start HX.out).drew nq
  generalize World.drewN (w.alloc (.cells #[.int .i64 0,.int .i64 0,.int .i64 0,.bool false] 55)) nq=y0 at *
  clear x0 x1 x2 x3 x4 x5 x6 x7 f3 f4 f5 f6 f7
  obtain ⟨⟨a0,a1,a2,a3⟩,g0,g1,g2,g3⟩:=ans_cells R0.out.r0
  obtain ⟨x0,x1,x2,x3,x4,x5,x6,x7⟩:=R0.out.a.cells
  obtain ⟨f3,f4,f5,f6,f7⟩:=R0.out.a.fz
  have hz:=heap_lt R0.out.r0
  simp only at x3 x4 x5 x6 x7
  go_wp2_with fail
  refine (HG.out _ R0.out.a).mono ?_
  rintro e w1 ⟨rfl,ha,hk⟩
  have R1:Hid (Ret1 w w1 X P bb):=R0.out.call ha hk
  clear ha hk x0 x1 x2 x3 x4 x5 x6 x7 f3 f4 f5 f6 f7 a0 a1 a2 a3 g0 g1 g2 g3 hz
  obtain ⟨⟨a0,a1,a2,a3⟩,g0,g1,g2,g3⟩:=ans_cells R1.out.r0
  obtain ⟨x0,x1,x2,x3,x4,x5,x6,x7⟩:=R1.out.a.cells
  obtain ⟨f3,f4,f5,f6,f7⟩:=R1.out.a.fz
  have hz:=heap_lt R1.out.r0
  go_wp2
  exact ret_ans rfl rfl (ansE_set rfl R1.out.r0 kk 0 true) rfl rfl ⟨rfl,R1.out.done kk 0 true⟩
--END WALKS
theorem kok_mid {P:Cp} {b:Ck} {n:Nat} (h:KOk P b n) (hs:b.st=1∨b.st=2∨b.st=3):KMid P b∧(b.st=2→0≤b.word∧b.word≤7):=by
 rcases h.c with ⟨rfl,_⟩ | ⟨c,k,_⟩ | ⟨c,k,w1,w2,_⟩ | ⟨c,k,_⟩ | ⟨c,_⟩ | ⟨c,_⟩
 ·rcases hs with e | e | e <;> simp [ckNew] at e
 ·exact ⟨k,fun e=>by omega⟩
 ·exact ⟨k,fun _=>⟨w1,w2⟩⟩
 ·exact ⟨k,fun e=>by omega⟩
 ·omega
 ·omega
theorem kok_zero {P:Cp} {b:Ck} {n:Nat} (h:KOk P b n) (hs:b.st=0):b=ckNew P:=by
 rcases h.c with ⟨e,_⟩ | ⟨c,_⟩ | ⟨c,_⟩ | ⟨c,_⟩ | ⟨c,_⟩ | ⟨c,_⟩
 ·exact e
 all_goals omega
theorem kindK_of {P:Cp} {b:Ck} {v:Int} (h:waitK b v=false):kindK P b v=kindV (stepK P b v)∧errK P b v=(stepK P b v).err:=by
 unfold kindK errK; rw [h]; exact ⟨rfl,rfl⟩
theorem csee_all {w:World} {X:Nat} {P:Cp} {b:Ck} {n:Nat} (h:KAt w X P b) (hk:KOk P b n) (h0:b.st=0) {v:Int} (hv:W64 v) :
  Calls Tryz.prog 139 #[.pointer (some ⟨X,0,none⟩),.int .i64 v] w fun en w' => en = .returned (ansE (kindK P b v) (errK P b v) true)∧KAt w' X P (stepK P b v)∧Keep [X] w w':=by
 have hp:=hk.p
 have hw:waitK b v=false:=by unfold waitK; simp [h0]
 have hb:=kok_zero hk h0
 have he:b.err=0:=by rw [hb]; rfl
 have hst:0≤b.stamp:=by rw [hb]; exact hp.z0
 have hS:stepK P b v=seeK P b v:=by unfold stepK; rw [if_pos h0]
 rw [(kindK_of hw).1,(kindK_of hw).2,hS]
 by_cases hr:P.rd=Sg.nought
 ·have hS2:seeK P b v=⟨4,v,b.stamp,b.word,b.comp,b.err⟩:=by unfold seeK; rw [if_pos (Or.inl hr)]
  rw [hS2]
  refine (csee_e h hp hv h0 hst hr).mono ?_
  rintro e w' ⟨rfl,g1,g2⟩
  exact ⟨by show Ending.returned (ansE 3 0 true) = .returned (ansE 3 b.err true); rw [he],g1,g2⟩
 ·by_cases hl:v≤P.z
  ·have hS2:seeK P b v=⟨4,v,b.stamp,b.word,b.comp,b.err⟩:=by unfold seeK; rw [if_pos (Or.inr hl)]
   rw [hS2]
   refine (csee_l h hp hv h0 hst hr hl).mono ?_
   rintro e w' ⟨rfl,g1,g2⟩
   exact ⟨by show Ending.returned (ansE 3 0 true) = .returned (ansE 3 b.err true); rw [he],g1,g2⟩
  ·have hno : ¬ (P.rd=Sg.nought∨v≤P.z):=fun e=>e.elim hr hl
   by_cases hf:farV P v=true
   ·have hS2:seeK P b v=failV ⟨b.st,v,b.stamp,b.word,b.comp,b.err⟩ 4:=by unfold seeK; rw [if_neg hno,if_pos hf]
    rw [hS2]
    exact csee_f h hp hv h0 hst hr hl hf
   ·have hS2:seeK P b v=onV P ⟨b.st,v,b.stamp,b.word,b.comp,b.err⟩:=by unfold seeK; rw [if_neg hno,if_neg hf]
    rw [hS2]
    refine (csee_g h hp hv h0 hst hr hl (by simpa using hf)).mono ?_
    rintro e w' ⟨rfl,g1,g2⟩
    exact ⟨by rw [onV_err]; show _=Ending.returned (ansE _ b.err true); rw [he],g1,g2⟩
theorem clook_all {w:World} {X:Nat} {P:Cp} {b:Ck} {n:Nat} (h:KAt w X P b) (hk:KOk P b n) (h1:b.st=1) {v:Int} :
  Calls Tryz.prog 140 #[.pointer (some ⟨X,0,none⟩),.int .i64 v] w fun en w' => en = .returned (ansE (kindK P b v) (errK P b v) true)∧KAt w' X P (stepK P b v)∧Keep [X] w w':=by
 have hp:=hk.p
 obtain ⟨km,_⟩:=kok_mid hk (Or.inl h1)
 have he:=km.e
 have hz:=hp.z0
 have hlo:=km.lo
 have hhi:=km.hi
 have hse:=km.w
 have hst:1≤b.stamp:=by omega
 have hsm:b.stamp≤9223372036854775807:=by omega
 have hS:stepK P b v=lookK P b v:=by unfold stepK; rw [if_neg (by omega),if_pos h1]
 by_cases hL:laidV v b.stamp=true
 ·have hw:waitK b v=false:=by unfold waitK; rw [hL]; simp
  have hS2:lookK P b v=onV P ⟨b.st,b.seen,b.stamp,b.word,compV b v,b.err⟩:=by unfold lookK; rw [if_pos hL]
  rw [(kindK_of hw).1,(kindK_of hw).2,hS,hS2]
  by_cases hO:overV v b.stamp=true
  ·by_cases hq:b.comp=b.stamp - 1
   ·have hc:compV b v=b.stamp:=by unfold compV; rw [if_pos ⟨hO,hq⟩]
    rw [hc]
    refine (clook_c h h1 hst hsm hL hO hq hse).mono ?_
    rintro e w' ⟨rfl,g1,g2⟩
    exact ⟨by rw [onV_err]; show _=Ending.returned (ansE _ b.err true); rw [he],g1,g2⟩
   ·have hc:compV b v=b.comp:=by unfold compV; rw [if_neg (fun e=>hq e.2)]
    rw [hc]
    refine (clook_d h h1 hst hsm hL hO hq hse).mono ?_
    rintro e w' ⟨rfl,g1,g2⟩
    exact ⟨by rw [onV_err]; show _=Ending.returned (ansE _ b.err true); rw [he],g1,g2⟩
  ·have hc:compV b v=b.comp:=by unfold compV; rw [if_neg (fun e=>hO e.1)]
   rw [hc]
   refine (clook_n h h1 hst hsm hL (by simpa using hO) hse).mono ?_
   rintro e w' ⟨rfl,g1,g2⟩
   exact ⟨by rw [onV_err]; show _=Ending.returned (ansE _ b.err true); rw [he],g1,g2⟩
 ·have hL':laidV v b.stamp=false:=by simpa using hL
  by_cases hO:overV v b.stamp=true
  ·have hw:waitK b v=false:=by unfold waitK; rw [hO]; simp
   have hS2:lookK P b v=failV b 4:=by unfold lookK; rw [if_neg hL,if_pos hO]
   rw [(kindK_of hw).1,(kindK_of hw).2,hS,hS2]
   exact clook_f h h1 hst hsm hL' hO
  ·have hO':overV v b.stamp=false:=by simpa using hO
   have hw : waitK b v = true := by unfold waitK; rw [hL', hO']; simp [h1]
   have hS2:lookK P b v=b:=by unfold lookK; rw [if_neg hL,if_neg hO]
   have hkk:kindK P b v=1∧errK P b v=0:=by unfold kindK errK; rw [hw]; exact ⟨rfl,rfl⟩
   rw [hkk.1,hkk.2,hS,hS2]
   exact clook_w h h1 hst hsm hL' hO'
theorem chold_all {w:World} {X:Nat} {P:Cp} {b:Ck} {n:Nat} (h:KAt w X P b) (hk:KOk P b n) (h2:b.st=2) {v:Int} :
  Calls Tryz.prog 141 #[.pointer (some ⟨X,0,none⟩),.int .u64 (IntKind.u64.wrap v)] w fun en w' => en = .returned (ansE (kindK P b v) (errK P b v) true)∧KAt w' X P (stepK P b v)∧Keep [X] w w':=by
 have hp:=hk.p
 obtain ⟨km,hwd⟩:=kok_mid hk (Or.inr (Or.inl h2))
 obtain ⟨w1,w2⟩:=hwd h2
 have he:=km.e
 have hw:waitK b v=false:=by unfold waitK; simp [h2]
 have hS:stepK P b v=holdK P b v:=by unfold stepK; rw [if_neg (by omega),if_neg (by omega),if_pos h2]
 rw [(kindK_of hw).1,(kindK_of hw).2,hS]
 by_cases hH:hitV P.rd b.word.toNat v=true
 ·have hS2:holdK P b v=failV b 3:=by unfold holdK; rw [if_pos hH]
  rw [hS2]
  exact chold_h h hp h2 w1 w2 hH
 ·have hS2:holdK P b v=onV P b:=by unfold holdK; rw [if_neg hH]
  rw [hS2,onV_err,he]
  exact chold_n h hp h2 w1 w2 (by simpa using hH) km.w (by have:=hp.z0; have:=km.lo; omega)
theorem cagain_all {w:World} {X:Nat} {P:Cp} {b:Ck} {n:Nat} (h:KAt w X P b) (hk:KOk P b n) (h3:b.st=3) {v:Int} (hv:W64 v) :
  Calls Tryz.prog 142 #[.pointer (some ⟨X,0,none⟩),.int .i64 v] w fun en w' => en = .returned (ansE (kindK P b v) (errK P b v) true)∧KAt w' X P (stepK P b v)∧Keep [X] w w':=by
 obtain ⟨km,_⟩:=kok_mid hk (Or.inr (Or.inr h3))
 have hw:waitK b v=false:=by unfold waitK; simp [h3]
 have hS:stepK P b v=againK P b v:=by unfold stepK; rw [if_neg (by omega),if_neg (by omega),if_neg (by omega),if_pos h3]
 rw [(kindK_of hw).1,(kindK_of hw).2,hS]
 exact cagain_any h hk.p hv h3 km.e
theorem cstep_none {w:World} {base:Nat} {p:Value} {c r:Nat} {L:List Ac} {F:List Nat} {X:Nat} {P:Cp} {b:Ck} (hm:MemAt w base p c r L F) (h:KAt w X P b) (hn:goesK r P b=false) (t:Int) :
  Calls Tryz.prog 136 #[.pointer (some ⟨X,0,none⟩),p,.int .i64 t] w fun e w' => e = .returned (ansE 0 0 false)∧Below w.heap.size w w':=by
 have HG:Hid (∀ o,Calls Tryz.prog 137 #[.pointer (some ⟨X,0,none⟩),p] (w.alloc o) fun e w' => e = .returned (.bool false)∧Below (w.alloc o).heap.size (w.alloc o) w'):=fun o=>by
  rw [← hn]; exact cgoes_any (hm.below (below_a1 _ _)) (h.alloc _)
 obtain ⟨M,rfl⟩:=hm.ptr
 clear hm h hn
 unfold ansE
 go_enter Tryz.func136,Tryz.ntmps136
 go_wp2_with fail
 refine (HG.out _).mono ?_
 rintro e w1 ⟨rfl,hb⟩
 have HR:Hid (w1.heap[w.heap.size]? = some (.cells #[.int .i64 0,.int .i64 0,.int .i64 0,.bool false] 55 (0,0))):=row_on (heap_alloc_new _ _) hb
 obtain ⟨⟨a0,a1,a2,a3⟩,g0,g1,g2,g3⟩:=ans_cells HR.out
 have hB:=heap_lt HR.out
 have HB:Hid (Below w.heap.size w w1):=below_then (below_a1 _ _) hb
 clear hb
 go_wp2
 exact ret_ans rfl rfl (ans_set rfl HR.out 0 false) rfl rfl ⟨rfl,below4 HB.out (Nat.le_refl _) 0 false⟩
structure KMem (w:World) (base:Nat) (p:Value) (c:Nat) (L:List Ac) (F:List Nat) (X:Nat) (P:Cp) (b:Ck):Prop where
 mem:MemAt w base p c P.s L F
 at_:KAt w X P b
 out:X ∉ F
 lo:base≤X
theorem kstep_load {w w1 w2:World} {base:Nat} {p:Value} {c:Nat} {L L':List Ac} {F F':List Nat} {X B:Nat} {P:Cp} {b:Ck} {o:Obj} (h:KMem w base p c L F X P b) (hb:Below w.heap.size w w1) (hB:w1.heap[B]? = some o) (hlo:w.heap.size≤B)
  (hm:MemAt w2 base p c P.s L' F') (hn:Next F F' w1 w2):w2.heap[B]? = some o∧KMem w2 base p c L' F' X P b∧B ∉ F'∧B≠X∧Next (X :: F) (X :: F') w w2:=by
 have hx:X < w.heap.size:=heap_lt h.at_
 have hF : ∀ q ∈ F,q < w.heap.size:=fun q hq=>(h.mem.lt q hq).2
 have hs:=hb.size
 have hB1:=heap_lt hB
 refine ⟨hn.row hB (fun e=>by have:=hF _ e; omega),⟨hm,(h.at_.below hb hx).keep hn.1 h.out, ?_,h.lo⟩, ?_,by omega, ?_, ?_⟩
 ·intro e
  rcases hn.2 X e with h1 | h1
  ·exact h.out h1
  ·omega
 ·intro e
  rcases hn.2 B e with h1 | h1
  ·have:=hF _ h1; omega
  ·omega
 ·exact ((Keep.of_below hb F).trans hn.1 (fun q hq=>Or.inl hq)).mono (fun q hq=>by simp [hq])
 ·intro q hq
  rcases List.mem_cons.1 hq with rfl | hq
  ·exact Or.inl (by simp)
  ·rcases hn.2 q hq with h1 | h1
   ·exact Or.inl (by simp [h1])
   ·exact Or.inr (by omega)
theorem kstep_moves {w w2 w3:World} {base:Nat} {p:Value} {c:Nat} {L':List Ac} {F F':List Nat} {X B:Nat} {P:Cp} {b b':Ck} {o:Obj} (hB:w2.heap[B]? = some o) (h:KMem w2 base p c L' F' X P b) (hBX:B≠X) (hn:Next (X :: F) (X :: F') w w2)
  (ha:KAt w3 X P b') (hk:Keep [X] w2 w3):w3.heap[B]? = some o∧KMem w3 base p c L' F' X P b'∧Next (X :: F) (X :: F') w w3:=by
 refine ⟨by rw [hk.block B (heap_lt hB) (by simpa using hBX)]; exact hB,⟨h.mem.keep hk (fun q hq e=>by simp at e; exact h.out (e ▸ hq)),ha,h.out,h.lo⟩, ?_,hn.2⟩
 exact hn.1.trans hk (fun q hq=>by simp at hq; subst hq; exact Or.inl (by simp))
theorem kstep_lays {w w3:World} {base:Nat} {p:Value} {c:Nat} {L':List Ac} {F F':List Nat} {X B:Nat} {P:Cp} {b:Ck} (h:KMem w3 base p c L' F' X P b) (hBX:B≠X) (hBF:B ∉ F') (hlo:w.heap.size≤B) (hn:Next (X :: F) (X :: F') w w3) (k e:Int) (y:Bool) :
  KMem (laidE w3 B k e y) base p c L' F' X P b∧Next (X :: F) (X :: F') w (laidE w3 B k e y) :=
 ⟨⟨h.mem.keep (keepEB k e y) (fun q hq e=>by simp at e; exact hBF (e ▸ hq)),h.at_.keep (keepEB k e y) (by simpa using fun e=>hBX e.symm),h.out,h.lo⟩,keepE hn.1 hlo k e y,hn.2⟩
--STEPS
theorem cstep_0 {w:World} {base:Nat} {p:Value} {c:Nat} {L:List Ac} {F:List Nat} {X:Nat} {P:Cp} {b:Ck} {n:Nat} (h:KMem w base p c L F X P b) (hb:base≤w.heap.size) (hL:L.length < 3298534883328) (hk:KOk P b n) (hs:b.st=0) (hv:W64 (wordOf L (adK P b))) (t:Int) :
  Calls Tryz.prog 136 #[.pointer (some ⟨X, 0, none⟩), p, .int .i64 t] w fun e w' => e = .returned (ansE (kindK P b (wordOf L (adK P b))) (errK P b (wordOf L (adK P b))) true) ∧ ∃ F', KMem w' base p c (loadL c P.s L t (adK P b)) F' X P (stepK P b (wordOf L (adK P b))) ∧ Next (X :: F) (X :: F') w w' := by
 have ht : ¬ thr b:=by unfold thr; omega
 have HG:Hid (∀ o,Calls Tryz.prog 137 #[.pointer (some ⟨X,0,none⟩),p] (w.alloc o) fun e w' => e = .returned (.bool true)∧Below (w.alloc o).heap.size (w.alloc o) w'):=fun o=>by
  have hg:goesK P.s P b=true:=by unfold goesK; simp [hs]
  rw [← hg]; exact cgoes_any (h.mem.below (below_a1 _ _)) (h.at_.alloc _)
 have hx:X < w.heap.size:=heap_lt h.at_
 have HH:Hid (KMem w base p c L F X P b):=h
 have HA : Hid (∀ w', KAt w' X P b → Calls Tryz.prog 138 #[.pointer (some ⟨X, 0, none⟩)] w' fun e w'' => e = .returned (.agg (adC (adK P b))) ∧ Below w'.heap.size w' w'') := fun w' h => caddr_any h
 have HL : Hid (∀ (w' : World), Below w.heap.size w w' → Calls Tryz.prog 110 #[p, .int .i64 t, .agg (adC (adK P b))] w' fun e w'' => e = .returned (.tuple #[.int .i64 (wordOf L (adK P b)), .int .i64 0]) ∧ ∃ F', MemAt w'' base p c P.s (loadL c P.s L t (adK P b)) F' ∧ Next F F' w' w'') := fun w' hb' => by
  have:=load_any (h.mem.below hb') (Nat.le_trans hb hb'.size) hL t (adK P b)
  rw [if_pos (adK_is hk ht),if_pos (adK_is hk ht)] at this
  exact this
 obtain ⟨M,rfl⟩:=h.mem.ptr
 have HS:Hid (∀ w2,KAt w2 X P b→Calls Tryz.prog 139 #[.pointer (some ⟨X,0,none⟩),.int .i64 (wordOf L (adK P b))] w2 fun e w' => e = .returned (.agg #[.int .i64 (kindK P b (wordOf L (adK P b))),.int .i64 (errK P b (wordOf L (adK P b))),.int .i64 0,.bool true])∧KAt w' X P (stepK P b (wordOf L (adK P b)))∧Keep [X] w2 w'):=fun w2 h=>csee_all h hk hs hv
 unfold ansE
 unfold adC at HA HL
 clear h
 generalize kindK P b (wordOf L (adK P b))=kk at *
 generalize errK P b (wordOf L (adK P b))=ee at *
 generalize stepK P b (wordOf L (adK P b))=bb at *
 generalize wordOf L (adK P b)=v at *
 generalize loadL c P.s L t (adK P b)=L' at *
 generalize (adK P b).k=ak at *
 generalize (adK P b).i=ai at *
 generalize (adK P b).j=aj at *
 go_enter Tryz.func136,Tryz.ntmps136
 go_wp2_with fail
 refine (HG.out _).mono ?_
 rintro e w1 ⟨rfl,hb1⟩
 have HR:Hid (w1.heap[w.heap.size]? = some (.cells #[.int .i64 0,.int .i64 0,.int .i64 0,.bool false] 55 (0,0))):=row_on (heap_alloc_new _ _) hb1
 have HB:Hid (Below w.heap.size w w1):=below_then (below_a1 _ _) hb1
 clear hb1
 go_wp2_with fail
 refine (HA.out _ (HH.out.at_.below HB.out hx)).mono ?_
 rintro e w2 ⟨rfl,hb2⟩
 have HR2:Hid (w2.heap[w.heap.size]? = some (.cells #[.int .i64 0,.int .i64 0,.int .i64 0,.bool false] 55 (0,0))):=row_on HR.out hb2
 have HB2:Hid (Below w.heap.size w w2):=below_then HB.out hb2
 clear hb2
 go_wp2_with fail
 refine (HL.out _ HB2.out).mono ?_
 rintro e w3 ⟨rfl, F', hm3, hn3⟩
 obtain ⟨r3,m3,o3,n3,nx3⟩:=kstep_load HH.out HB2.out HR2.out (Nat.le_refl _) hm3 hn3
 have HR3:Hid (w3.heap[w.heap.size]? = some (.cells #[.int .i64 0,.int .i64 0,.int .i64 0,.bool false] 55 (0,0))):=r3
 have HM3:Hid (KMem w3 base (.pointer (some ⟨M,0,none⟩)) c L' F' X P b):=m3
 have HN3:Hid (Next (X :: F) (X :: F') w w3):=nx3
 obtain ⟨x0,x1,x2,x3,x4,x5,x6,x7⟩:=m3.at_.cells
 rw [hs] at x3
 clear hm3 hn3 r3 m3 nx3
 go_wp2_with fail
 refine (HS.out _ HM3.out.at_).mono ?_
 rintro e w4 ⟨rfl,ha4,hk4⟩
 obtain ⟨r4,m4,n4⟩:=kstep_moves HR3.out HM3.out n3 HN3.out ha4 hk4
 have HR4:Hid (w4.heap[w.heap.size]? = some (.cells #[.int .i64 0,.int .i64 0,.int .i64 0,.bool false] 55 (0,0))):=r4
 have HM4:Hid (KMem w4 base (.pointer (some ⟨M,0,none⟩)) c L' F' X P bb):=m4
 have HN4:Hid (Next (X :: F) (X :: F') w w4):=n4
 obtain ⟨⟨a0,a1,a2,a3⟩,g0,g1,g2,g3⟩:=ans_cells HR4.out
 have hB:=heap_lt HR4.out
 clear ha4 hk4 r4 m4 n4 x0 x1 x2 x3 x4 x5 x6 x7
 go_wp2
 obtain ⟨f1,f2⟩:=kstep_lays HM4.out n3 o3 (Nat.le_refl _) HN4.out kk ee true
 exact ret_ans rfl rfl (ansE_set rfl HR4.out kk ee true) rfl rfl ⟨rfl, F', f1, f2⟩
theorem cstep_1 {w:World} {base:Nat} {p:Value} {c:Nat} {L:List Ac} {F:List Nat} {X:Nat} {P:Cp} {b:Ck} {n:Nat} (h:KMem w base p c L F X P b) (hb:base≤w.heap.size) (hL:L.length < 3298534883328) (hk:KOk P b n) (hs:b.st=1) (_hv:W64 (wordOf L (adK P b))) (t:Int) :
  Calls Tryz.prog 136 #[.pointer (some ⟨X, 0, none⟩), p, .int .i64 t] w fun e w' => e = .returned (ansE (kindK P b (wordOf L (adK P b))) (errK P b (wordOf L (adK P b))) true) ∧ ∃ F', KMem w' base p c (loadL c P.s L t (adK P b)) F' X P (stepK P b (wordOf L (adK P b))) ∧ Next (X :: F) (X :: F') w w' := by
 have ht : ¬ thr b:=by unfold thr; omega
 have HG:Hid (∀ o,Calls Tryz.prog 137 #[.pointer (some ⟨X,0,none⟩),p] (w.alloc o) fun e w' => e = .returned (.bool true)∧Below (w.alloc o).heap.size (w.alloc o) w'):=fun o=>by
  have hg:goesK P.s P b=true:=by unfold goesK; simp [hs]
  rw [← hg]; exact cgoes_any (h.mem.below (below_a1 _ _)) (h.at_.alloc _)
 have hx:X < w.heap.size:=heap_lt h.at_
 have HH:Hid (KMem w base p c L F X P b):=h
 have HA : Hid (∀ w', KAt w' X P b → Calls Tryz.prog 138 #[.pointer (some ⟨X, 0, none⟩)] w' fun e w'' => e = .returned (.agg (adC (adK P b))) ∧ Below w'.heap.size w' w'') := fun w' h => caddr_any h
 have HL : Hid (∀ (w' : World), Below w.heap.size w w' → Calls Tryz.prog 110 #[p, .int .i64 t, .agg (adC (adK P b))] w' fun e w'' => e = .returned (.tuple #[.int .i64 (wordOf L (adK P b)), .int .i64 0]) ∧ ∃ F', MemAt w'' base p c P.s (loadL c P.s L t (adK P b)) F' ∧ Next F F' w' w'') := fun w' hb' => by
  have:=load_any (h.mem.below hb') (Nat.le_trans hb hb'.size) hL t (adK P b)
  rw [if_pos (adK_is hk ht),if_pos (adK_is hk ht)] at this
  exact this
 obtain ⟨M,rfl⟩:=h.mem.ptr
 have HS:Hid (∀ w2,KAt w2 X P b→Calls Tryz.prog 140 #[.pointer (some ⟨X,0,none⟩),.int .i64 (wordOf L (adK P b))] w2 fun e w' => e = .returned (.agg #[.int .i64 (kindK P b (wordOf L (adK P b))),.int .i64 (errK P b (wordOf L (adK P b))),.int .i64 0,.bool true])∧KAt w' X P (stepK P b (wordOf L (adK P b)))∧Keep [X] w2 w'):=fun w2 h=>clook_all h hk hs
 unfold ansE
 unfold adC at HA HL
 clear h
 generalize kindK P b (wordOf L (adK P b))=kk at *
 generalize errK P b (wordOf L (adK P b))=ee at *
 generalize stepK P b (wordOf L (adK P b))=bb at *
 generalize wordOf L (adK P b)=v at *
 generalize loadL c P.s L t (adK P b)=L' at *
 generalize (adK P b).k=ak at *
 generalize (adK P b).i=ai at *
 generalize (adK P b).j=aj at *
 go_enter Tryz.func136,Tryz.ntmps136
 go_wp2_with fail
 refine (HG.out _).mono ?_
 rintro e w1 ⟨rfl,hb1⟩
 have HR:Hid (w1.heap[w.heap.size]? = some (.cells #[.int .i64 0,.int .i64 0,.int .i64 0,.bool false] 55 (0,0))):=row_on (heap_alloc_new _ _) hb1
 have HB:Hid (Below w.heap.size w w1):=below_then (below_a1 _ _) hb1
 clear hb1
 go_wp2_with fail
 refine (HA.out _ (HH.out.at_.below HB.out hx)).mono ?_
 rintro e w2 ⟨rfl,hb2⟩
 have HR2:Hid (w2.heap[w.heap.size]? = some (.cells #[.int .i64 0,.int .i64 0,.int .i64 0,.bool false] 55 (0,0))):=row_on HR.out hb2
 have HB2:Hid (Below w.heap.size w w2):=below_then HB.out hb2
 clear hb2
 go_wp2_with fail
 refine (HL.out _ HB2.out).mono ?_
 rintro e w3 ⟨rfl, F', hm3, hn3⟩
 obtain ⟨r3,m3,o3,n3,nx3⟩:=kstep_load HH.out HB2.out HR2.out (Nat.le_refl _) hm3 hn3
 have HR3:Hid (w3.heap[w.heap.size]? = some (.cells #[.int .i64 0,.int .i64 0,.int .i64 0,.bool false] 55 (0,0))):=r3
 have HM3:Hid (KMem w3 base (.pointer (some ⟨M,0,none⟩)) c L' F' X P b):=m3
 have HN3:Hid (Next (X :: F) (X :: F') w w3):=nx3
 obtain ⟨x0,x1,x2,x3,x4,x5,x6,x7⟩:=m3.at_.cells
 rw [hs] at x3
 clear hm3 hn3 r3 m3 nx3
 go_wp2_with fail
 refine (HS.out _ HM3.out.at_).mono ?_
 rintro e w4 ⟨rfl,ha4,hk4⟩
 obtain ⟨r4,m4,n4⟩:=kstep_moves HR3.out HM3.out n3 HN3.out ha4 hk4
 have HR4:Hid (w4.heap[w.heap.size]? = some (.cells #[.int .i64 0,.int .i64 0,.int .i64 0,.bool false] 55 (0,0))):=r4
 have HM4:Hid (KMem w4 base (.pointer (some ⟨M,0,none⟩)) c L' F' X P bb):=m4
 have HN4:Hid (Next (X :: F) (X :: F') w w4):=n4
 obtain ⟨⟨a0,a1,a2,a3⟩,g0,g1,g2,g3⟩:=ans_cells HR4.out
 have hB:=heap_lt HR4.out
 clear ha4 hk4 r4 m4 n4 x0 x1 x2 x3 x4 x5 x6 x7
 go_wp2
 obtain ⟨f1,f2⟩:=kstep_lays HM4.out n3 o3 (Nat.le_refl _) HN4.out kk ee true
 exact ret_ans rfl rfl (ansE_set rfl HR4.out kk ee true) rfl rfl ⟨rfl, F', f1, f2⟩
theorem cstep_2 {w:World} {base:Nat} {p:Value} {c:Nat} {L:List Ac} {F:List Nat} {X:Nat} {P:Cp} {b:Ck} {n:Nat} (h:KMem w base p c L F X P b) (hb:base≤w.heap.size) (hL:L.length < 3298534883328) (hk:KOk P b n) (hs:b.st=2) (_hv:W64 (wordOf L (adK P b))) (t:Int) :
  Calls Tryz.prog 136 #[.pointer (some ⟨X, 0, none⟩), p, .int .i64 t] w fun e w' => e = .returned (ansE (kindK P b (wordOf L (adK P b))) (errK P b (wordOf L (adK P b))) true) ∧ ∃ F', KMem w' base p c (loadL c P.s L t (adK P b)) F' X P (stepK P b (wordOf L (adK P b))) ∧ Next (X :: F) (X :: F') w w' := by
 have ht : ¬ thr b:=by unfold thr; omega
 have HG:Hid (∀ o,Calls Tryz.prog 137 #[.pointer (some ⟨X,0,none⟩),p] (w.alloc o) fun e w' => e = .returned (.bool true)∧Below (w.alloc o).heap.size (w.alloc o) w'):=fun o=>by
  have hg:goesK P.s P b=true:=by unfold goesK; simp [hs]
  rw [← hg]; exact cgoes_any (h.mem.below (below_a1 _ _)) (h.at_.alloc _)
 have hx:X < w.heap.size:=heap_lt h.at_
 have HH:Hid (KMem w base p c L F X P b):=h
 have HA : Hid (∀ w', KAt w' X P b → Calls Tryz.prog 138 #[.pointer (some ⟨X, 0, none⟩)] w' fun e w'' => e = .returned (.agg (adC (adK P b))) ∧ Below w'.heap.size w' w'') := fun w' h => caddr_any h
 have HL : Hid (∀ (w' : World), Below w.heap.size w w' → Calls Tryz.prog 110 #[p, .int .i64 t, .agg (adC (adK P b))] w' fun e w'' => e = .returned (.tuple #[.int .i64 (wordOf L (adK P b)), .int .i64 0]) ∧ ∃ F', MemAt w'' base p c P.s (loadL c P.s L t (adK P b)) F' ∧ Next F F' w' w'') := fun w' hb' => by
  have:=load_any (h.mem.below hb') (Nat.le_trans hb hb'.size) hL t (adK P b)
  rw [if_pos (adK_is hk ht),if_pos (adK_is hk ht)] at this
  exact this
 obtain ⟨M,rfl⟩:=h.mem.ptr
 have HS:Hid (∀ w2,KAt w2 X P b→Calls Tryz.prog 141 #[.pointer (some ⟨X,0,none⟩),.int .u64 (IntKind.u64.wrap (wordOf L (adK P b)))] w2 fun e w' => e = .returned (.agg #[.int .i64 (kindK P b (wordOf L (adK P b))),.int .i64 (errK P b (wordOf L (adK P b))),.int .i64 0,.bool true])∧KAt w' X P (stepK P b (wordOf L (adK P b)))∧Keep [X] w2 w'):=fun w2 h=>chold_all h hk hs
 unfold ansE
 unfold adC at HA HL
 clear h
 generalize kindK P b (wordOf L (adK P b))=kk at *
 generalize errK P b (wordOf L (adK P b))=ee at *
 generalize stepK P b (wordOf L (adK P b))=bb at *
 generalize wordOf L (adK P b)=v at *
 generalize loadL c P.s L t (adK P b)=L' at *
 generalize (adK P b).k=ak at *
 generalize (adK P b).i=ai at *
 generalize (adK P b).j=aj at *
 go_enter Tryz.func136,Tryz.ntmps136
 go_wp2_with fail
 refine (HG.out _).mono ?_
 rintro e w1 ⟨rfl,hb1⟩
 have HR:Hid (w1.heap[w.heap.size]? = some (.cells #[.int .i64 0,.int .i64 0,.int .i64 0,.bool false] 55 (0,0))):=row_on (heap_alloc_new _ _) hb1
 have HB:Hid (Below w.heap.size w w1):=below_then (below_a1 _ _) hb1
 clear hb1
 go_wp2_with fail
 refine (HA.out _ (HH.out.at_.below HB.out hx)).mono ?_
 rintro e w2 ⟨rfl,hb2⟩
 have HR2:Hid (w2.heap[w.heap.size]? = some (.cells #[.int .i64 0,.int .i64 0,.int .i64 0,.bool false] 55 (0,0))):=row_on HR.out hb2
 have HB2:Hid (Below w.heap.size w w2):=below_then HB.out hb2
 clear hb2
 go_wp2_with fail
 refine (HL.out _ HB2.out).mono ?_
 rintro e w3 ⟨rfl, F', hm3, hn3⟩
 obtain ⟨r3,m3,o3,n3,nx3⟩:=kstep_load HH.out HB2.out HR2.out (Nat.le_refl _) hm3 hn3
 have HR3:Hid (w3.heap[w.heap.size]? = some (.cells #[.int .i64 0,.int .i64 0,.int .i64 0,.bool false] 55 (0,0))):=r3
 have HM3:Hid (KMem w3 base (.pointer (some ⟨M,0,none⟩)) c L' F' X P b):=m3
 have HN3:Hid (Next (X :: F) (X :: F') w w3):=nx3
 obtain ⟨x0,x1,x2,x3,x4,x5,x6,x7⟩:=m3.at_.cells
 rw [hs] at x3
 clear hm3 hn3 r3 m3 nx3
 go_wp2_with fail
 refine (HS.out _ HM3.out.at_).mono ?_
 rintro e w4 ⟨rfl,ha4,hk4⟩
 obtain ⟨r4,m4,n4⟩:=kstep_moves HR3.out HM3.out n3 HN3.out ha4 hk4
 have HR4:Hid (w4.heap[w.heap.size]? = some (.cells #[.int .i64 0,.int .i64 0,.int .i64 0,.bool false] 55 (0,0))):=r4
 have HM4:Hid (KMem w4 base (.pointer (some ⟨M,0,none⟩)) c L' F' X P bb):=m4
 have HN4:Hid (Next (X :: F) (X :: F') w w4):=n4
 obtain ⟨⟨a0,a1,a2,a3⟩,g0,g1,g2,g3⟩:=ans_cells HR4.out
 have hB:=heap_lt HR4.out
 clear ha4 hk4 r4 m4 n4 x0 x1 x2 x3 x4 x5 x6 x7
 go_wp2
 obtain ⟨f1,f2⟩:=kstep_lays HM4.out n3 o3 (Nat.le_refl _) HN4.out kk ee true
 exact ret_ans rfl rfl (ansE_set rfl HR4.out kk ee true) rfl rfl ⟨rfl, F', f1, f2⟩
theorem cstep_3 {w:World} {base:Nat} {p:Value} {c:Nat} {L:List Ac} {F:List Nat} {X:Nat} {P:Cp} {b:Ck} {n:Nat} (h:KMem w base p c L F X P b) (hb:base≤w.heap.size) (hL:L.length < 3298534883328) (hk:KOk P b n) (hs:b.st=3) (hv:W64 (wordOf L (adK P b))) (t:Int) :
  Calls Tryz.prog 136 #[.pointer (some ⟨X, 0, none⟩), p, .int .i64 t] w fun e w' => e = .returned (ansE (kindK P b (wordOf L (adK P b))) (errK P b (wordOf L (adK P b))) true) ∧ ∃ F', KMem w' base p c (loadL c P.s L t (adK P b)) F' X P (stepK P b (wordOf L (adK P b))) ∧ Next (X :: F) (X :: F') w w' := by
 have ht : ¬ thr b:=by unfold thr; omega
 have HG:Hid (∀ o,Calls Tryz.prog 137 #[.pointer (some ⟨X,0,none⟩),p] (w.alloc o) fun e w' => e = .returned (.bool true)∧Below (w.alloc o).heap.size (w.alloc o) w'):=fun o=>by
  have hg:goesK P.s P b=true:=by unfold goesK; simp [hs]
  rw [← hg]; exact cgoes_any (h.mem.below (below_a1 _ _)) (h.at_.alloc _)
 have hx:X < w.heap.size:=heap_lt h.at_
 have HH:Hid (KMem w base p c L F X P b):=h
 have HA : Hid (∀ w', KAt w' X P b → Calls Tryz.prog 138 #[.pointer (some ⟨X, 0, none⟩)] w' fun e w'' => e = .returned (.agg (adC (adK P b))) ∧ Below w'.heap.size w' w'') := fun w' h => caddr_any h
 have HL : Hid (∀ (w' : World), Below w.heap.size w w' → Calls Tryz.prog 110 #[p, .int .i64 t, .agg (adC (adK P b))] w' fun e w'' => e = .returned (.tuple #[.int .i64 (wordOf L (adK P b)), .int .i64 0]) ∧ ∃ F', MemAt w'' base p c P.s (loadL c P.s L t (adK P b)) F' ∧ Next F F' w' w'') := fun w' hb' => by
  have:=load_any (h.mem.below hb') (Nat.le_trans hb hb'.size) hL t (adK P b)
  rw [if_pos (adK_is hk ht),if_pos (adK_is hk ht)] at this
  exact this
 obtain ⟨M,rfl⟩:=h.mem.ptr
 have HS:Hid (∀ w2,KAt w2 X P b→Calls Tryz.prog 142 #[.pointer (some ⟨X,0,none⟩),.int .i64 (wordOf L (adK P b))] w2 fun e w' => e = .returned (.agg #[.int .i64 (kindK P b (wordOf L (adK P b))),.int .i64 (errK P b (wordOf L (adK P b))),.int .i64 0,.bool true])∧KAt w' X P (stepK P b (wordOf L (adK P b)))∧Keep [X] w2 w'):=fun w2 h=>cagain_all h hk hs hv
 unfold ansE
 unfold adC at HA HL
 clear h
 generalize kindK P b (wordOf L (adK P b))=kk at *
 generalize errK P b (wordOf L (adK P b))=ee at *
 generalize stepK P b (wordOf L (adK P b))=bb at *
 generalize wordOf L (adK P b)=v at *
 generalize loadL c P.s L t (adK P b)=L' at *
 generalize (adK P b).k=ak at *
 generalize (adK P b).i=ai at *
 generalize (adK P b).j=aj at *
 go_enter Tryz.func136,Tryz.ntmps136
 go_wp2_with fail
 refine (HG.out _).mono ?_
 rintro e w1 ⟨rfl,hb1⟩
 have HR:Hid (w1.heap[w.heap.size]? = some (.cells #[.int .i64 0,.int .i64 0,.int .i64 0,.bool false] 55 (0,0))):=row_on (heap_alloc_new _ _) hb1
 have HB:Hid (Below w.heap.size w w1):=below_then (below_a1 _ _) hb1
 clear hb1
 go_wp2_with fail
 refine (HA.out _ (HH.out.at_.below HB.out hx)).mono ?_
 rintro e w2 ⟨rfl,hb2⟩
 have HR2:Hid (w2.heap[w.heap.size]? = some (.cells #[.int .i64 0,.int .i64 0,.int .i64 0,.bool false] 55 (0,0))):=row_on HR.out hb2
 have HB2:Hid (Below w.heap.size w w2):=below_then HB.out hb2
 clear hb2
 go_wp2_with fail
 refine (HL.out _ HB2.out).mono ?_
 rintro e w3 ⟨rfl, F', hm3, hn3⟩
 obtain ⟨r3,m3,o3,n3,nx3⟩:=kstep_load HH.out HB2.out HR2.out (Nat.le_refl _) hm3 hn3
 have HR3:Hid (w3.heap[w.heap.size]? = some (.cells #[.int .i64 0,.int .i64 0,.int .i64 0,.bool false] 55 (0,0))):=r3
 have HM3:Hid (KMem w3 base (.pointer (some ⟨M,0,none⟩)) c L' F' X P b):=m3
 have HN3:Hid (Next (X :: F) (X :: F') w w3):=nx3
 obtain ⟨x0,x1,x2,x3,x4,x5,x6,x7⟩:=m3.at_.cells
 rw [hs] at x3
 clear hm3 hn3 r3 m3 nx3
 go_wp2_with fail
 refine (HS.out _ HM3.out.at_).mono ?_
 rintro e w4 ⟨rfl,ha4,hk4⟩
 obtain ⟨r4,m4,n4⟩:=kstep_moves HR3.out HM3.out n3 HN3.out ha4 hk4
 have HR4:Hid (w4.heap[w.heap.size]? = some (.cells #[.int .i64 0,.int .i64 0,.int .i64 0,.bool false] 55 (0,0))):=r4
 have HM4:Hid (KMem w4 base (.pointer (some ⟨M,0,none⟩)) c L' F' X P bb):=m4
 have HN4:Hid (Next (X :: F) (X :: F') w w4):=n4
 obtain ⟨⟨a0,a1,a2,a3⟩,g0,g1,g2,g3⟩:=ans_cells HR4.out
 have hB:=heap_lt HR4.out
 clear ha4 hk4 r4 m4 n4 x0 x1 x2 x3 x4 x5 x6 x7
 go_wp2
 obtain ⟨f1,f2⟩:=kstep_lays HM4.out n3 o3 (Nat.le_refl _) HN4.out kk ee true
 exact ret_ans rfl rfl (ansE_set rfl HR4.out kk ee true) rfl rfl ⟨rfl, F', f1, f2⟩
theorem cstep_some {w:World} {base:Nat} {p:Value} {c:Nat} {L:List Ac} {F:List Nat} {X:Nat} {P:Cp} {b:Ck} {n:Nat} (h:KMem w base p c L F X P b) (hb:base≤w.heap.size) (hL:L.length < 3298534883328) (hk:KOk P b n) (ht : ¬ thr b) (hv:W64 (wordOf L (adK P b))) (t:Int) :
  Calls Tryz.prog 136 #[.pointer (some ⟨X, 0, none⟩), p, .int .i64 t] w fun e w' => e = .returned (ansE (kindK P b (wordOf L (adK P b))) (errK P b (wordOf L (adK P b))) true) ∧ ∃ F', KMem w' base p c (loadL c P.s L t (adK P b)) F' X P (stepK P b (wordOf L (adK P b))) ∧ Next (X :: F) (X :: F') w w' := by
 rcases kok_st hk with e | e | e | e | e | e
 ·exact cstep_0 h hb hL hk e hv t
 ·exact cstep_1 h hb hL hk e hv t
 ·exact cstep_2 h hb hL hk e hv t
 ·exact cstep_3 h hb hL hk e hv t
 ·exact absurd (Or.inl e) ht
 ·exact absurd (Or.inr e) ht
--END STEPS
def Gd (L:List Ac):Prop:=∀ a,W64 (wordOf L a)
def nextK (r:Nat) (P:Cp) (b:Ck) (L:List Ac):Ck:=if goesK r P b then stepK P b (wordOf L (adK P b)) else b
def nextKL (c r:Nat) (P:Cp) (b:Ck) (L:List Ac) (t:Int):List Ac:=if goesK r P b then loadL c r L t (adK P b) else L
def ansKK (r:Nat) (P:Cp) (b:Ck) (L:List Ac):Int:=if goesK r P b then kindK P b (wordOf L (adK P b)) else 0
def errKK (r:Nat) (P:Cp) (b:Ck) (L:List Ac):Int:=if goesK r P b then errK P b (wordOf L (adK P b)) else 0
theorem goesK_iff {r:Nat} {P:Cp} {b:Ck}:goesK r P b=true ↔ ¬ thr b∧r=P.s:=by unfold goesK thr; simp
structure KS (w:World) (base:Nat) (p:Value) (c r:Nat) (L:List Ac) (F:List Nat) (X:Nat) (P:Cp) (b:Ck):Prop where
 mem:MemAt w base p c r L F
 at_:KAt w X P b
 out:X ∉ F
 lo:base≤X
theorem KS.lt {w:World} {base:Nat} {p:Value} {c r:Nat} {L:List Ac} {F:List Nat} {X:Nat} {P:Cp} {b:Ck} (h:KS w base p c r L F X P b) : ∀ q ∈ X :: F,base≤q∧q < w.heap.size:=fun q hq=>by
 rcases List.mem_cons.1 hq with rfl | hq
 ·exact ⟨h.lo,heap_lt h.at_⟩
 ·exact h.mem.lt q hq
theorem KS.keep {w w':World} {base:Nat} {p:Value} {c r:Nat} {L:List Ac} {F G:List Nat} {X:Nat} {P:Cp} {b:Ck} (h:KS w base p c r L F X P b) (k:Keep G w w') (hd : ∀ q ∈ X :: F,q ∉ G):KS w' base p c r L F X P b :=
 ⟨h.mem.keep k (fun q hq=>hd q (by simp [hq])),h.at_.keep k (hd X (by simp)),h.out,h.lo⟩
theorem KS.below {w w':World} {base:Nat} {p:Value} {c r:Nat} {L:List Ac} {F:List Nat} {X:Nat} {P:Cp} {b:Ck} (h:KS w base p c r L F X P b) (hb:Below w.heap.size w w'):KS w' base p c r L F X P b:=h.keep (Keep.of_below hb []) (fun _ _=>by simp)
theorem KAt.tail {w:World} {X:Nat} {P:Cp} {b:Ck} (h:KAt w X P b):w.cell? ⟨X,16,none⟩=some (.int .i64 (P.s:Int))∧w.cell? ⟨X,17,none⟩=some (.int .i64 P.cell)∧w.cell? ⟨X,26,none⟩=some (.bool P.read)∧w.cell? ⟨X,27,none⟩=some (.int .i64 P.val) :=
 ⟨by rw [cell_at h]; rfl,by rw [cell_at h]; rfl,by rw [cell_at h]; rfl,by rw [cell_at h]; rfl⟩
theorem KAt.tfz {w:World} {X:Nat} {P:Cp} {b:Ck} (h:KAt w X P b):w.frozen? ⟨X,26,none⟩=false∧w.frozen? ⟨X,27,none⟩=false:=⟨frozen_at h 26,frozen_at h 27⟩
def lookP (P:Cp) (v:Int):Cp:=⟨P.s,P.z,P.rd,P.last,P.cell,true,v⟩
theorem kset_look {w:World} {X:Nat} {P:Cp} {b:Ck} (h:KAt w X P b) (v:Int):KAt ((w.setCell ⟨X,27,none⟩ (.int .i64 v)).setCell ⟨X,26,none⟩ (.bool true)) X (lookP P v) b:=by
 have h1:KAt (w.setCell ⟨X,27,none⟩ (.int .i64 v)) X ⟨P.s,P.z,P.rd,P.last,P.cell,P.read,v⟩ b:=by unfold KAt; rw [heap_set h]; rfl
 unfold KAt
 rw [heap_set h1]
 rfl
theorem pok_look {P:Cp} (h:POk P) (v:Int):POk (lookP P v):=⟨h.s1,h.s16,h.z0,h.z1,h.rd⟩
theorem kmid_look {P:Cp} {b:Ck} (h:KMid P b) (v:Int):KMid (lookP P v) b:=⟨h.lo,h.hi,h.far,h.w,h.c1,h.c2,h.rd,h.e⟩
theorem kok_look {P:Cp} {b:Ck} {n:Nat} (h:KOk P b n) (v:Int):KOk (lookP P v) b n:=by
 refine ⟨pok_look h.p v, ?_⟩
 rcases h.c with c | ⟨c,k,m⟩ | ⟨c,k,m1,m2,m3⟩ | ⟨c,k,m⟩ | c | c
 ·exact Or.inl c
 ·exact Or.inr (Or.inl ⟨c,kmid_look k v,m⟩)
 ·exact Or.inr (Or.inr (Or.inl ⟨c,kmid_look k v,m1,m2,m3⟩))
 ·exact Or.inr (Or.inr (Or.inr (Or.inl ⟨c,kmid_look k v,m⟩)))
 ·exact Or.inr (Or.inr (Or.inr (Or.inr (Or.inl c))))
 ·exact Or.inr (Or.inr (Or.inr (Or.inr (Or.inr c))))
theorem fstart_any {w:World} {X:Nat} {P:Cp} {b:Ck} (h:KAt w X P b):Calls Tryz.prog 60 #[.pointer (some ⟨X,0,none⟩)] w fun e w' => e = .returned (.tuple #[.int .i64 (if b.st=4 then b.comp else 0),.int .i64 (if b.st=4 then b.seen else 0),.bool (decide (b.st=4))])∧Below w.heap.size w w':=by
 have HC:Hid (Calls Tryz.prog 70 #[.pointer (some ⟨X,0,none⟩)] w fun e w' => e = .returned (.tuple #[.int .i64 (if b.st=4 then b.comp else 0),.int .i64 (if b.st=4 then b.seen else 0),.bool (decide (b.st=4))])∧Below w.heap.size w w'):=cstart_any h
 have hx:X < w.heap.size:=heap_lt h
 obtain ⟨x0,x1,x2,x3,x4,x5,x6,x7⟩:=h.cells
 generalize (if b.st=4 then b.comp else 0)=cc at *
 generalize (if b.st=4 then b.seen else 0)=ss at *
 generalize decide (b.st=4)=yy at *
 clear h
 go_enter Tryz.func60,Tryz.ntmps60
 go_wp2_with fail
 refine HC.out.mono ?_
 rintro e w1 ⟨rfl,hb⟩
 have HB:Hid (Below w.heap.size w w1):=hb
 clear hb x0 x1 x2 x3 x4 x5 x6 x7
 go_wp2
 go_ret3
 exact ⟨rfl,HB.out⟩
def goesF (c r:Nat) (P:Cp):Bool:=decide (r=P.s) && decide (P.cell < (c:Int))
theorem fgoes_any {w:World} {base:Nat} {p:Value} {c r:Nat} {L:List Ac} {F:List Nat} {X:Nat} {P:Cp} {b:Ck} (hm:MemAt w base p c r L F) (h:KAt w X P b) :
  Calls Tryz.prog 134 #[.pointer (some ⟨X,0,none⟩),p] w fun e w' => e = .returned (.bool (goesF c r P))∧Below w.heap.size w w':=by
 have HS:Hid (Calls Tryz.prog 44 #[p] w fun e w' => e = .returned (.tuple #[.int .i64 (c:Int),.int .i64 (r:Int)])∧Below w.heap.size w w'):=sizes_any hm
 obtain ⟨M,rfl⟩:=hm.ptr
 have HX:Hid (KAt w X P b):=h
 have hx:X < w.heap.size:=heap_lt h
 have hd:((r:Int) == (P.s:Int))=decide (r=P.s):=by rw [Bool.eq_iff_iff]; simp; try omega
 clear hm h
 unfold goesF
 generalize hdd:decide (r=P.s)=d1 at *
 generalize hde:decide (P.cell < (c:Int))=d2 at *
 go_enter Tryz.func134,Tryz.ntmps134
 go_wp2_with fail
 refine HS.out.mono ?_
 rintro e w1 ⟨rfl,hb⟩
 have hX1:=HX.out.below hb hx
 obtain ⟨t0,t1,t2,t3⟩:=hX1.tail
 have hx1:X < w1.heap.size:=heap_lt hX1
 have HB:Hid (Below w.heap.size w w1):=hb
 clear hb hX1
 cases d1
 ·go_wp2
  first | (go_ret; exact ⟨rfl,HB.out⟩) | (go_quiet (fail); go_wp2; go_ret; exact ⟨rfl,below_drawn HB.out _⟩)
 ·go_wp2
  first | (go_ret; exact ⟨rfl,HB.out⟩) | (go_quiet (fail); go_wp2; go_ret; exact ⟨rfl,below_drawn HB.out _⟩)
theorem ks_load {w w1 w2:World} {base:Nat} {p:Value} {c r:Nat} {L L':List Ac} {F F':List Nat} {X B:Nat} {P:Cp} {b:Ck} {o:Obj} (h:KS w base p c r L F X P b) (hb:Below w.heap.size w w1) (hB:w1.heap[B]? = some o) (hlo:w.heap.size≤B)
  (hm:MemAt w2 base p c r L' F') (hn:Next F F' w1 w2):w2.heap[B]? = some o∧KS w2 base p c r L' F' X P b∧B ∉ X :: F'∧Next (X :: F) (X :: F') w w2:=by
 have hx:X < w.heap.size:=heap_lt h.at_
 have hF : ∀ q ∈ F,q < w.heap.size:=fun q hq=>(h.mem.lt q hq).2
 have hs:=hb.size
 have hB1:=heap_lt hB
 refine ⟨hn.row hB (fun e=>by have:=hF _ e; omega),⟨hm,(h.at_.below hb hx).keep hn.1 h.out, ?_,h.lo⟩, ?_, ?_, ?_⟩
 ·intro e
  rcases hn.2 X e with h1 | h1
  ·exact h.out h1
  ·omega
 ·intro e
  rcases List.mem_cons.1 e with e | e
  ·omega
  ·rcases hn.2 B e with h1 | h1
   ·have:=hF _ h1; omega
   ·omega
 ·exact ((Keep.of_below hb F).trans hn.1 (fun q hq=>Or.inl hq)).mono (fun q hq=>by simp [hq])
 ·intro q hq
  rcases List.mem_cons.1 hq with rfl | hq
  ·exact Or.inl (by simp)
  ·rcases hn.2 q hq with h1 | h1
   ·exact Or.inl (by simp [h1])
   ·exact Or.inr (by omega)
theorem ks_moves {w w2 w3:World} {base:Nat} {p:Value} {c r:Nat} {L:List Ac} {F F':List Nat} {X B:Nat} {P P':Cp} {b b':Ck} {o:Obj} (hB:w2.heap[B]? = some o) (h:KS w2 base p c r L F' X P b) (hBX:B ∉ X :: F') (hn:Next (X :: F) (X :: F') w w2)
  (ha:KAt w3 X P' b') (hk:Keep [X] w2 w3):w3.heap[B]? = some o∧KS w3 base p c r L F' X P' b'∧Next (X :: F) (X :: F') w w3:=by
 refine ⟨by rw [hk.block B (heap_lt hB) (fun e=>hBX (by simp at e; simp [e]))]; exact hB,⟨h.mem.keep hk (fun q hq e=>by simp at e; exact h.out (e ▸ hq)),ha,h.out,h.lo⟩, ?_,hn.2⟩
 exact hn.1.trans hk (fun q hq=>by simp at hq; subst hq; exact Or.inl (by simp))
def ansW (k e v:Int) (y:Bool):Value:=.agg #[.int .i64 k,.int .i64 e,.int .i64 v,.bool y]
def laidW (w:World) (B:Nat) (k e v:Int) (y:Bool):World:=(((w.setCell ⟨B,0,none⟩ (.int .i64 k)).setCell ⟨B,1,none⟩ (.int .i64 e)).setCell ⟨B,2,none⟩ (.int .i64 v)).setCell ⟨B,3,none⟩ (.bool y)
theorem ansW_set {w:World} {B:Nat} {cs:Array Value} (hz:cs.size=4) (h:w.heap[B]? = some (.cells cs 55 (0,0))) (k e v:Int) (y:Bool) :
  (laidW w B k e v y).heap[B]? = some (.cells #[.int .i64 k,.int .i64 e,.int .i64 v,.bool y] 55 (0,0)):=by
 have h1:=heap_set (i:=0) (v:=.int .i64 k) h
 have h2:=heap_set (i:=1) (v:=.int .i64 e) h1
 have h3:=heap_set (i:=2) (v:=.int .i64 v) h2
 have h4:=heap_set (i:=3) (v:=.bool y) h3
 unfold laidW
 rw [h4]
 obtain ⟨l⟩:=cs
 match l,hz with
 | [_,_,_,_],_=>rfl
theorem keepWB {w:World} {B:Nat} (k e v:Int) (y:Bool):Keep [B] w (laidW w B k e v y) :=
 ((((Keep.refl [B] w).setCell _ _ (Or.inl (by simp))).setCell _ _ (Or.inl (by simp))).setCell _ _ (Or.inl (by simp))).setCell _ _ (Or.inl (by simp))
theorem ks_other {w w3 w4:World} {base:Nat} {p:Value} {c r:Nat} {L:List Ac} {F F':List Nat} {X B:Nat} {P:Cp} {b:Ck} (h:KS w3 base p c r L F' X P b) (hB:B ∉ X :: F') (hlo:w.heap.size≤B) (hn:Next (X :: F) (X :: F') w w3) (hk:Keep [B] w3 w4) :
  KS w4 base p c r L F' X P b∧Next (X :: F) (X :: F') w w4 :=
 ⟨h.keep hk (fun q hq e=>by simp at e; exact hB (e ▸ hq)),hn.1.trans hk (fun q hq=>by simp at hq; subst hq; exact Or.inr hlo),hn.2⟩
def cellA (P:Cp):Ad:=⟨4,P.cell,0⟩
theorem cellA_is {c r:Nat} {P:Cp} (h0:0≤P.cell) (h1:P.cell < (c:Int)):isAd c r (cellA P)=true:=by
 unfold isAd cellA
 simp [h0,h1]
theorem flook_any {w:World} {base:Nat} {p:Value} {c r:Nat} {L:List Ac} {F:List Nat} {X:Nat} {P:Cp} {b:Ck} (h:KS w base p c r L F X P b) (hb:base≤w.heap.size) (hL:L.length < 3298534883328) (h0:0≤P.cell) (h1:P.cell < (c:Int)) (t:Int) :
  Calls Tryz.prog 135 #[.pointer (some ⟨X, 0, none⟩), p, .int .i64 t] w fun e w' => e = .returned (ansE 2 0 true) ∧ ∃ F', KS w' base p c r (loadL c r L t (cellA P)) F' X (lookP P (wordOf L (cellA P))) b ∧ Next (X :: F) (X :: F') w w' := by
 have HL : Hid (∀ (w' : World), Below w.heap.size w w' → Calls Tryz.prog 110 #[p, .int .i64 t, .agg #[.int .i64 4, .int .i64 P.cell, .int .i64 0]] w' fun e w'' => e = .returned (.tuple #[.int .i64 (wordOf L (cellA P)), .int .i64 0]) ∧ ∃ F', MemAt w'' base p c r (loadL c r L t (cellA P)) F' ∧ Next F F' w' w'') := fun w' hb' => by
  have:=load_any (h.mem.below hb') (Nat.le_trans hb hb'.size) hL t (cellA P)
  rw [if_pos (cellA_is h0 h1),if_pos (cellA_is h0 h1)] at this
  exact this
 have hx:X < w.heap.size:=heap_lt h.at_
 have HH:Hid (KS w base p c r L F X P b):=h
 obtain ⟨M,rfl⟩:=h.mem.ptr
 obtain ⟨t0,t1,t2,t3⟩:=h.at_.tail
 obtain ⟨f0,f1⟩:=h.at_.tfz
 clear h h0 h1
 unfold ansE
 generalize wordOf L (cellA P)=v at *
 generalize loadL c r L t (cellA P)=L' at *
 go_enter Tryz.func135,Tryz.ntmps135
 go_wp2_with fail
 refine (HL.out _ (below_a1 _ _)).mono ?_
 rintro e w1 ⟨rfl, F', hm1, hn1⟩
 obtain ⟨r1,k1,o1,n1⟩:=ks_load HH.out (below_a1 _ _) (heap_alloc_new _ _) (Nat.le_refl _) hm1 hn1
 have HR1:Hid (w1.heap[w.heap.size]? = some (.cells #[.int .i64 0,.int .i64 0,.int .i64 0,.bool false] 55 (0,0))):=r1
 have HK1:Hid (KS w1 base (.pointer (some ⟨M,0,none⟩)) c r L' F' X P b∧w.heap.size ∉ X :: F'∧Next (X :: F) (X :: F') w w1):=⟨k1,o1,n1⟩
 obtain ⟨⟨a0,a1,a2,a3⟩,g0,g1,g2,g3⟩:=ans_cells r1
 clear t0 t1 t2 t3 f0 f1
 obtain ⟨t0,t1,t2,t3⟩:=k1.at_.tail
 obtain ⟨f0,f1⟩:=k1.at_.tfz
 have hx1:X < w1.heap.size:=heap_lt k1.at_
 have hB1:w.heap.size < w1.heap.size:=heap_lt r1
 have hne:X≠w.heap.size:=fun e=>o1 (by simp [e])
 have hne2:w.heap.size≠X:=fun e=>o1 (by simp [e])
 clear hm1 hn1 r1 k1 o1 n1
 go_wp2
 obtain ⟨r2,k2,n2⟩:=ks_moves HR1.out HK1.out.1 HK1.out.2.1 HK1.out.2.2 (kset_look HK1.out.1.at_ v) (kkeep (kkeep (Keep.refl _ _) _ _) _ _)
 exact ret_ans rfl rfl (ansE_set rfl r2 2 0 true) rfl rfl ⟨rfl, F', ks_other k2 HK1.out.2.1 (Nat.le_refl _) n2 (keepEB 2 0 true)⟩
def newP (s:Nat) (z:Int) (rd:List Nat) (cell:Int):Cp:=⟨s,z,Sg.put rd (Sg.sigN cell),true,cell,false,0⟩
def laidS (w:World) (B:Nat) (c0 c1 c2 c3 c4 c5 c6 c7:Value):World:=(((((((w.setCell ⟨B,0,none⟩ c0).setCell ⟨B,1,none⟩ c1).setCell ⟨B,2,none⟩ c2).setCell ⟨B,3,none⟩ c3).setCell ⟨B,4,none⟩ c4).setCell ⟨B,5,none⟩ c5).setCell ⟨B,6,none⟩ c6).setCell ⟨B,7,none⟩ c7
theorem belowS {w0 w:World} {A B:Nat} (hk:Below A w0 w) (hB:A≤B) (c0 c1 c2 c3 c4 c5 c6 c7:Value):Below A w0 (laidS w B c0 c1 c2 c3 c4 c5 c6 c7) :=
 (((((((hk.setCell hB _).setCell hB _).setCell hB _).setCell hB _).setCell hB _).setCell hB _).setCell hB _).setCell hB _
theorem laidS_row {w:World} {B:Nat} {d0 d1 d2 d3 d4 d5 d6 d7:Value} (h:w.heap[B]? = some (.cells #[d0,d1,d2,d3,d4,d5,d6,d7] 51 (0,0))) (c0 c1 c2 c3 c4 c5 c6 c7:Value) :
  (laidS w B c0 c1 c2 c3 c4 c5 c6 c7).heap[B]? = some (.cells #[c0,c1,c2,c3,c4,c5,c6,c7] 51 (0,0)):=by
 have h0:(w.setCell ⟨B,0,none⟩ c0).heap[B]? = some (.cells #[c0,d1,d2,d3,d4,d5,d6,d7] 51 (0,0)):=by rw [heap_set h]; rfl
 have h1:=heap_set (i:=1) (v:=c1) h0
 have h2:=heap_set (i:=2) (v:=c2) h1
 have h3:=heap_set (i:=3) (v:=c3) h2
 have h4:=heap_set (i:=4) (v:=c4) h3
 have h5:=heap_set (i:=5) (v:=c5) h4
 have h6:=heap_set (i:=6) (v:=c6) h5
 have h7:=heap_set (i:=7) (v:=c7) h6
 unfold laidS
 rw [h7]
 rfl
theorem sig_cells {w:World} {B:Nat} {c0 c1 c2 c3 c4 c5 c6 c7:Value} (h:w.heap[B]? = some (.cells #[c0,c1,c2,c3,c4,c5,c6,c7] 51 (0,0))) :
  (w.cell? ⟨B,0,none⟩=some c0∧w.cell? ⟨B,1,none⟩=some c1∧w.cell? ⟨B,2,none⟩=some c2∧w.cell? ⟨B,3,none⟩=some c3∧w.cell? ⟨B,4,none⟩=some c4∧w.cell? ⟨B,5,none⟩=some c5∧w.cell? ⟨B,6,none⟩=some c6∧w.cell? ⟨B,7,none⟩=some c7) ∧
  (w.frozen? ⟨B,0,none⟩=false∧w.frozen? ⟨B,1,none⟩=false∧w.frozen? ⟨B,2,none⟩=false∧w.frozen? ⟨B,3,none⟩=false∧w.frozen? ⟨B,4,none⟩=false∧w.frozen? ⟨B,5,none⟩=false∧w.frozen? ⟨B,6,none⟩=false∧w.frozen? ⟨B,7,none⟩=false) :=
 ⟨⟨by rw [cell_at h]; rfl,by rw [cell_at h]; rfl,by rw [cell_at h]; rfl,by rw [cell_at h]; rfl,by rw [cell_at h]; rfl,by rw [cell_at h]; rfl,by rw [cell_at h]; rfl,by rw [cell_at h]; rfl⟩,frozen_at h 0,frozen_at h 1,frozen_at h 2,frozen_at h 3,frozen_at h 4,frozen_at h 5,frozen_at h 6,frozen_at h 7⟩
theorem KAt0.cells {w:World} {X:Nat} {P:Cp} {b:Ck} (h:KAt0 w X P b):w.cell? ⟨X,0,none⟩=some (.int .i64 (P.s:Int))∧w.cell? ⟨X,1,none⟩=some (.int .i64 P.z)∧w.cell? ⟨X,2,none⟩=some (rdV P.rd 0)∧w.cell? ⟨X,3,none⟩=some (rdV P.rd 1)∧w.cell? ⟨X,4,none⟩=some (rdV P.rd 2)∧w.cell? ⟨X,5,none⟩=some (rdV P.rd 3)∧w.cell? ⟨X,6,none⟩=some (rdV P.rd 4)∧w.cell? ⟨X,7,none⟩=some (rdV P.rd 5)∧w.cell? ⟨X,8,none⟩=some (rdV P.rd 6)∧w.cell? ⟨X,9,none⟩=some (rdV P.rd 7) ∧
  w.cell? ⟨X,10,none⟩=some (.bool P.last)∧w.cell? ⟨X,11,none⟩=some (.int .i64 b.st)∧w.cell? ⟨X,12,none⟩=some (.int .i64 b.seen)∧w.cell? ⟨X,13,none⟩=some (.int .i64 b.stamp)∧w.cell? ⟨X,14,none⟩=some (.int .i64 b.word)∧w.cell? ⟨X,15,none⟩=some (.int .i64 b.comp) :=
 ⟨by rw [cell_at h]; rfl,by rw [cell_at h]; rfl,by rw [cell_at h]; rfl,by rw [cell_at h]; rfl,by rw [cell_at h]; rfl,by rw [cell_at h]; rfl,by rw [cell_at h]; rfl,by rw [cell_at h]; rfl,by rw [cell_at h]; rfl,by rw [cell_at h]; rfl,by rw [cell_at h]; rfl,by rw [cell_at h]; rfl,by rw [cell_at h]; rfl,by rw [cell_at h]; rfl,by rw [cell_at h]; rfl,by rw [cell_at h]; rfl⟩
theorem fnew_yes (w:World) {s:Nat} {z:Int} {rd:List Nat} {cell:Int} (hs1:1≤s) (hs:s≤16) (hz:0≤z) (hz1:z≤9223372036854775807) (hr:Sg.Ok rd) (h0:0≤cell) (h1:cell < 1024) :
  Calls Tryz.prog 49 #[.int .i64 (s:Int),.int .i64 z,.agg #[rdV rd 0,rdV rd 1,rdV rd 2,rdV rd 3,rdV rd 4,rdV rd 5,rdV rd 6,rdV rd 7],.int .i64 cell] w fun e w' => ∃ X,e = .returned (.tuple #[.pointer (some ⟨X,0,none⟩),.int .i64 0])∧w.heap.size≤X∧KAt w' X (newP s z rd cell) (ckNew (newP s z rd cell))∧Below w.heap.size w w':=by
 have hok:Sg.Ok (Sg.put rd (Sg.sigN cell)):=Sg.ok_put hr _ (Sg.sigN_lt _)
 have HW:Hid (∀ w,Calls Tryz.prog 65 #[.agg #[rdV rd 0,rdV rd 1,rdV rd 2,rdV rd 3,rdV rd 4,rdV rd 5,rdV rd 6,rdV rd 7],.int .i64 cell] w fun e w' => e = .returned (.agg #[rdV (newP s z rd cell).rd 0,rdV (newP s z rd cell).rd 1,rdV (newP s z rd cell).rd 2,rdV (newP s z rd cell).rd 3,rdV (newP s z rd cell).rd 4,rdV (newP s z rd cell).rd 5,rdV (newP s z rd cell).rd 6,rdV (newP s z rd cell).rd 7])∧Below w.heap.size w w'):=fun w=>by
  rw [rd_cells hr.1,rd_cells (rd:=(newP s z rd cell).rd) hok.1]; exact Sg.with_any rd hr cell w
 have HC:Hid (∀ w,Calls Tryz.prog 66 #[.int .i64 (s:Int),.int .i64 z,.agg #[rdV (newP s z rd cell).rd 0,rdV (newP s z rd cell).rd 1,rdV (newP s z rd cell).rd 2,rdV (newP s z rd cell).rd 3,rdV (newP s z rd cell).rd 4,rdV (newP s z rd cell).rd 5,rdV (newP s z rd cell).rd 6,rdV (newP s z rd cell).rd 7],.bool true] w fun e w' => e = .returned (.tuple #[.pointer (some ⟨w.heap.size+1,0,none⟩),.int .i64 0])∧KAt0 w' (w.heap.size+1) (newP s z rd cell) (ckNew (newP s z rd cell))∧Below w.heap.size w w'):=fun w=>by
  rw [rd_cells (rd:=(newP s z rd cell).rd) hok.1]
  exact cnew_yes w (P:=newP s z rd cell) ⟨hs1,hs,hz,hz1,hok⟩
 have HCC:Hid (∀ w X,KAt0 w X (newP s z rd cell) (ckNew (newP s z rd cell))→w.cell? ⟨X,0,none⟩=some (.int .i64 (s:Int))∧w.cell? ⟨X,1,none⟩=some (.int .i64 z)∧w.cell? ⟨X,2,none⟩=some (rdV (newP s z rd cell).rd 0)∧w.cell? ⟨X,3,none⟩=some (rdV (newP s z rd cell).rd 1)∧w.cell? ⟨X,4,none⟩=some (rdV (newP s z rd cell).rd 2)∧w.cell? ⟨X,5,none⟩=some (rdV (newP s z rd cell).rd 3)∧w.cell? ⟨X,6,none⟩=some (rdV (newP s z rd cell).rd 4)∧w.cell? ⟨X,7,none⟩=some (rdV (newP s z rd cell).rd 5)∧w.cell? ⟨X,8,none⟩=some (rdV (newP s z rd cell).rd 6)∧w.cell? ⟨X,9,none⟩=some (rdV (newP s z rd cell).rd 7) ∧
    w.cell? ⟨X,10,none⟩=some (.bool true)∧w.cell? ⟨X,11,none⟩=some (.int .i64 0)∧w.cell? ⟨X,12,none⟩=some (.int .i64 0)∧w.cell? ⟨X,13,none⟩=some (.int .i64 z)∧w.cell? ⟨X,14,none⟩=some (.int .i64 0)∧w.cell? ⟨X,15,none⟩=some (.int .i64 z)):=fun w X h=>h.cells
 have HKA:Hid (∀ w X,w.heap[X]? = some (.cells #[.int .i64 (s:Int),.int .i64 z,rdV (newP s z rd cell).rd 0,rdV (newP s z rd cell).rd 1,rdV (newP s z rd cell).rd 2,rdV (newP s z rd cell).rd 3,rdV (newP s z rd cell).rd 4,rdV (newP s z rd cell).rd 5,rdV (newP s z rd cell).rd 6,rdV (newP s z rd cell).rd 7,.bool true,.int .i64 0,.int .i64 0,.int .i64 z,.int .i64 0,.int .i64 z,.int .i64 (s:Int),.int .i64 cell,rdV (newP s z rd cell).rd 0,rdV (newP s z rd cell).rd 1,rdV (newP s z rd cell).rd 2,rdV (newP s z rd cell).rd 3,rdV (newP s z rd cell).rd 4,rdV (newP s z rd cell).rd 5,rdV (newP s z rd cell).rd 6,rdV (newP s z rd cell).rd 7,.bool false,.int .i64 0] 149 (0,0))→KAt w X (newP s z rd cell) (ckNew (newP s z rd cell))):=fun w X h=>h
 have d0:decide (cell < 0)=false:=decide_eq_false (by omega)
 have d1:decide (1024≤cell)=false:=decide_eq_false (by omega)
 have d2:decide (cell < 1024)=true:=decide_eq_true h1
 unfold rdV at *
 generalize newP s z rd cell=P at *
 generalize P.rd.getD 0 0=n0 at *
 generalize P.rd.getD 1 0=n1 at *
 generalize P.rd.getD 2 0=n2 at *
 generalize P.rd.getD 3 0=n3 at *
 generalize P.rd.getD 4 0=n4 at *
 generalize P.rd.getD 5 0=n5 at *
 generalize P.rd.getD 6 0=n6 at *
 generalize P.rd.getD 7 0=n7 at *
 generalize rd.getD 0 0=m0 at *
 generalize rd.getD 1 0=m1 at *
 generalize rd.getD 2 0=m2 at *
 generalize rd.getD 3 0=m3 at *
 generalize rd.getD 4 0=m4 at *
 generalize rd.getD 5 0=m5 at *
 generalize rd.getD 6 0=m6 at *
 generalize rd.getD 7 0=m7 at *
 clear hs1 hs hz hz1 hr h0 h1 hok
 go_enter Tryz.func49,Tryz.ntmps49
 go_wp2_with fail
 refine (HW.out _).mono ?_
 rintro e w1 ⟨rfl,hb1⟩
 have HR1:Hid (w1.heap[w.heap.size]? = some (.cells #[.int .u64 ((m0:Nat):Int),.int .u64 ((m1:Nat):Int),.int .u64 ((m2:Nat):Int),.int .u64 ((m3:Nat):Int),.int .u64 ((m4:Nat):Int),.int .u64 ((m5:Nat):Int),.int .u64 ((m6:Nat):Int),.int .u64 ((m7:Nat):Int)] 51 (0,0))):=row_on (heap_alloc_new _ _) hb1
 have HB1:Hid (Below w.heap.size w w1):=below_then (below_a1 _ _) hb1
 obtain ⟨⟨a0,a1,a2,a3,a4,a5,a6,a7⟩,g0,g1,g2,g3,g4,g5,g6,g7⟩:=sig_cells HR1.out
 have hB:w.heap.size < w1.heap.size:=heap_lt HR1.out
 clear hb1
 go_wp2_with fail
 refine (HC.out _).mono ?_
 rintro e w2 ⟨rfl,hx2,hb2⟩
 have HR2:Hid (w2.heap[w.heap.size]? = some (.cells #[.int .u64 ((n0:Nat):Int),.int .u64 ((n1:Nat):Int),.int .u64 ((n2:Nat):Int),.int .u64 ((n3:Nat):Int),.int .u64 ((n4:Nat):Int),.int .u64 ((n5:Nat):Int),.int .u64 ((n6:Nat):Int),.int .u64 ((n7:Nat):Int)] 51 (0,0))):=row_on (laidS_row HR1.out _ _ _ _ _ _ _ _) hb2
 have HB2:Hid (Below w.heap.size w w2):=below_then (belowS HB1.out (Nat.le_refl _) _ _ _ _ _ _ _ _) hb2
 obtain ⟨x0,x1,x2,x3,x4,x5,x6,x7,x8,x9,x10,x11,x12,x13,x14,x15⟩:=HCC.out _ _ hx2
 have hX:(laidS w1 w.heap.size (.int .u64 ((n0:Nat):Int)) (.int .u64 ((n1:Nat):Int)) (.int .u64 ((n2:Nat):Int)) (.int .u64 ((n3:Nat):Int)) (.int .u64 ((n4:Nat):Int)) (.int .u64 ((n5:Nat):Int)) (.int .u64 ((n6:Nat):Int)) (.int .u64 ((n7:Nat):Int))).heap.size+1 < w2.heap.size:=heap_lt hx2
 unfold laidS at hX
 clear hx2 hb2 a0 a1 a2 a3 a4 a5 a6 a7 g0 g1 g2 g3 g4 g5 g6 g7
 generalize ((((((((w1.setCell ⟨w.heap.size,0,none⟩ (.int .u64 ((n0:Nat):Int))).setCell ⟨w.heap.size,1,none⟩ (.int .u64 ((n1:Nat):Int))).setCell ⟨w.heap.size,2,none⟩ (.int .u64 ((n2:Nat):Int))).setCell ⟨w.heap.size,3,none⟩ (.int .u64 ((n3:Nat):Int))).setCell ⟨w.heap.size,4,none⟩ (.int .u64 ((n4:Nat):Int))).setCell ⟨w.heap.size,5,none⟩ (.int .u64 ((n5:Nat):Int))).setCell ⟨w.heap.size,6,none⟩ (.int .u64 ((n6:Nat):Int))).setCell ⟨w.heap.size,7,none⟩ (.int .u64 ((n7:Nat):Int))).heap.size+1=Y at *
 obtain ⟨⟨a0,a1,a2,a3,a4,a5,a6,a7⟩,_⟩:=sig_cells HR2.out
 have hB2:w.heap.size < w2.heap.size:=heap_lt HR2.out
 go_wp2
 go_region
 all_goals
  go_wp2
  go_ret2
  first
   | exact ⟨_,rfl,Nat.le_of_lt hB2,HKA.out _ _ (heap_alloc_new _ _),below_alloc HB2.out _⟩
   | exact ⟨_,rfl,Nat.le_of_lt hB2,HKA.out _ _ (heap_alloc_new _ _),below_drawn (below_alloc HB2.out _) _⟩
def nextFP (c r:Nat) (P:Cp) (L:List Ac):Cp:=if goesF c r P then (if P.read then P else lookP P (wordOf L (cellA P))) else P
def nextFB (c r:Nat) (P:Cp) (b:Ck) (L:List Ac):Ck:=if goesF c r P then (if P.read then nextK r P b L else b) else b
def nextFL (c r:Nat) (P:Cp) (b:Ck) (L:List Ac) (t:Int):List Ac:=if goesF c r P then (if P.read then nextKL c r P b L t else loadL c r L t (cellA P)) else L
def ansF (c r:Nat) (P:Cp) (b:Ck) (L:List Ac):Int:=if goesF c r P then (if P.read then ansKK r P b L else 2) else 0
def errF (c r:Nat) (P:Cp) (b:Ck) (L:List Ac):Int:=if goesF c r P then (if P.read then errKK r P b L else 0) else 0
def valF (c r:Nat) (P:Cp) (b:Ck) (L:List Ac):Int:=if goesF c r P then (if P.read then (if ansKK r P b L=3 then P.val else 0) else 0) else 0
def accF (c r:Nat) (P:Cp) (b:Ck):Bool:=if goesF c r P then (if P.read then goesK r P b else true) else false
theorem kstep_w {w:World} {base:Nat} {p:Value} {c r:Nat} {L:List Ac} {F:List Nat} {X:Nat} {P:Cp} {b:Ck} {n:Nat} (h:KS w base p c r L F X P b) (hb:base≤w.heap.size) (hL:L.length < 3298534883328) (hk:KOk P b n) (hv:goesK r P b=true→W64 (wordOf L (adK P b))) (t:Int) :
  Calls Tryz.prog 136 #[.pointer (some ⟨X, 0, none⟩), p, .int .i64 t] w fun e w' => e = .returned (ansE (ansKK r P b L) (errKK r P b L) (goesK r P b)) ∧ ∃ F', KS w' base p c r (nextKL c r P b L t) F' X P (nextK r P b L) ∧ Next (X :: F) (X :: F') w w' := by
 by_cases hgo:goesK r P b=true
 ·unfold ansKK errKK nextKL nextK
  rw [if_pos hgo,if_pos hgo,if_pos hgo,if_pos hgo,hgo]
  obtain ⟨h2,rfl⟩:=goesK_iff.mp hgo
  refine (cstep_some ⟨h.mem,h.at_,h.out,h.lo⟩ hb hL hk h2 (hv hgo) t).mono ?_
  rintro e w' ⟨rfl, F', h3, h4⟩
  exact ⟨rfl, F', ⟨h3.mem, h3.at_, h3.out, h3.lo⟩, h4⟩
 ·unfold ansKK errKK nextKL nextK
  have hgo':goesK r P b=false:=by simpa using hgo
  rw [if_neg hgo,if_neg hgo,if_neg hgo,if_neg hgo,hgo']
  refine (cstep_none h.mem h.at_ hgo' t).mono ?_
  rintro e w' ⟨rfl,hb'⟩
  exact ⟨rfl, F, h.below hb', Next.of_below hb' _⟩
theorem fstep_none {w:World} {base:Nat} {p:Value} {c r:Nat} {L:List Ac} {F:List Nat} {X:Nat} {P:Cp} {b:Ck} (hm:MemAt w base p c r L F) (h:KAt w X P b) (hn:goesF c r P=false) (t:Int) :
  Calls Tryz.prog 132 #[.pointer (some ⟨X,0,none⟩),p,.int .i64 t] w fun e w' => e = .returned (ansW 0 0 0 false)∧Below w.heap.size w w':=by
 have HG:Hid (∀ o,Calls Tryz.prog 134 #[.pointer (some ⟨X,0,none⟩),p] (w.alloc o) fun e w' => e = .returned (.bool false)∧Below (w.alloc o).heap.size (w.alloc o) w'):=fun o=>by
  rw [← hn]; exact fgoes_any (hm.below (below_a1 _ _)) (h.alloc _)
 obtain ⟨M,rfl⟩:=hm.ptr
 clear hm h hn
 unfold ansW
 go_enter Tryz.func132,Tryz.ntmps132
 go_wp2_with fail
 refine (HG.out _).mono ?_
 rintro e w1 ⟨rfl,hb⟩
 have HR:Hid (w1.heap[w.heap.size]? = some (.cells #[.int .i64 0,.int .i64 0,.int .i64 0,.bool false] 55 (0,0))):=row_on (heap_alloc_new _ _) hb
 obtain ⟨⟨a0,a1,a2,a3⟩,g0,g1,g2,g3⟩:=ans_cells HR.out
 have hB:=heap_lt HR.out
 have HB:Hid (Below w.heap.size w w1):=below_then (below_a1 _ _) hb
 clear hb
 go_wp2
 exact ret_ans rfl rfl (ans_set rfl HR.out 0 false) rfl rfl ⟨rfl,below4 HB.out (Nat.le_refl _) 0 false⟩
theorem fs_row {w w1 w2:World} {F F':List Nat} {X:Nat} {o:Obj} (hlt : ∀ q ∈ X :: F,q < w.heap.size) (hb:Below w.heap.size w w1) (hr:w1.heap[w.heap.size]? = some o) (hn:Next (X :: F) (X :: F') w1 w2):w2.heap[w.heap.size]? = some o∧w.heap.size ∉ X :: F'∧Next (X :: F) (X :: F') w w2:=by
 have h1:=heap_lt hr
 have h2:=hb.size
 have hno:w.heap.size ∉ X :: F:=fun e=>by have:=hlt _ e; omega
 refine ⟨hn.row hr hno,fun e => ?_,(Keep.of_below hb _).trans hn.1 (fun q hq=>Or.inl hq),fun q hq => ?_⟩
 ·rcases hn.2 _ e with h3 | h3
  ·exact hno h3
  ·omega
 ·rcases hn.2 q hq with h3 | h3
  ·exact Or.inl h3
  ·exact Or.inr (by omega)
theorem fstep_look {w:World} {base:Nat} {p:Value} {c r:Nat} {L:List Ac} {F:List Nat} {X:Nat} {P:Cp} {b:Ck} (h:KS w base p c r L F X P b) (hb:base≤w.heap.size) (hL:L.length < 3298534883328) (h0:0≤P.cell) (hg:goesF c r P=true) (hr:P.read=false) (t:Int) :
  Calls Tryz.prog 132 #[.pointer (some ⟨X, 0, none⟩), p, .int .i64 t] w fun e w' => e = .returned (ansW 2 0 0 true) ∧ ∃ F', KS w' base p c r (loadL c r L t (cellA P)) F' X (lookP P (wordOf L (cellA P))) b ∧ Next (X :: F) (X :: F') w w' := by
 have h1:P.cell < (c:Int):=by unfold goesF at hg; simp at hg; exact hg.2
 have HG:Hid (∀ o,Calls Tryz.prog 134 #[.pointer (some ⟨X,0,none⟩),p] (w.alloc o) fun e w' => e = .returned (.bool true)∧Below (w.alloc o).heap.size (w.alloc o) w'):=fun o=>by
  rw [← hg]; exact fgoes_any (h.mem.below (below_a1 _ _)) (h.at_.alloc _)
 have HK : Hid (∀ w', Below w.heap.size w w' → Calls Tryz.prog 135 #[.pointer (some ⟨X, 0, none⟩), p, .int .i64 t] w' fun e w'' => e = .returned (.agg #[.int .i64 2, .int .i64 0, .int .i64 0, .bool true]) ∧ ∃ F', KS w'' base p c r (loadL c r L t (cellA P)) F' X (lookP P (wordOf L (cellA P))) b ∧ Next (X :: F) (X :: F') w' w'') := fun w' hb' => flook_any (h.below hb') (Nat.le_trans hb hb'.size) hL h0 h1 t
 have HT : Hid (∀ w', Below w.heap.size w w' → w'.cell? ⟨X, 26, none⟩ = some (.bool false)) := fun w' hb' => by
  have:=(h.below hb').at_.tail.2.2.1; rw [hr] at this; exact this
 have HLT:Hid (∀ q ∈ X :: F,q < w.heap.size):=fun q hq=>(h.lt q hq).2
 have hx:X < w.heap.size:=heap_lt h.at_
 obtain ⟨M,rfl⟩:=h.mem.ptr
 clear h hg hr h0 h1
 unfold ansW
 generalize lookP P (wordOf L (cellA P))=P' at *
 generalize loadL c r L t (cellA P)=L' at *
 go_enter Tryz.func132,Tryz.ntmps132
 go_wp2_with fail
 refine (HG.out _).mono ?_
 rintro e w1 ⟨rfl,hb1⟩
 have HR:Hid (w1.heap[w.heap.size]? = some (.cells #[.int .i64 0,.int .i64 0,.int .i64 0,.bool false] 55 (0,0))):=row_on (heap_alloc_new _ _) hb1
 have HB:Hid (Below w.heap.size w w1):=below_then (below_a1 _ _) hb1
 have t2:=HT.out _ HB.out
 have hx1:X < w1.heap.size:=Nat.lt_of_lt_of_le hx HB.out.size
 clear hb1
 go_wp2_with fail
 refine (HK.out _ HB.out).mono ?_
 rintro e w2 ⟨rfl, F', k2, n2⟩
 obtain ⟨r2,o2,nn2⟩:=fs_row HLT.out HB.out HR.out n2
 have HK2:Hid (KS w2 base (.pointer (some ⟨M,0,none⟩)) c r L' F' X P' b∧w.heap.size ∉ X :: F'∧Next (X :: F) (X :: F') w w2):=⟨k2,o2,nn2⟩
 have HR2:Hid (w2.heap[w.heap.size]? = some (.cells #[.int .i64 0,.int .i64 0,.int .i64 0,.bool false] 55 (0,0))):=r2
 obtain ⟨⟨a0,a1,a2,a3⟩,g0,g1,g2,g3⟩:=ans_cells HR2.out
 have hB:=heap_lt HR2.out
 clear k2 n2 r2 o2 nn2 t2
 go_wp2
 exact ret_ans rfl rfl (ansW_set rfl HR2.out 2 0 0 true) rfl rfl ⟨rfl, F', ks_other HK2.out.1 HK2.out.2.1 (Nat.le_refl _) HK2.out.2.2 (keepWB 2 0 0 true)⟩
theorem fstep_hold {w:World} {base:Nat} {p:Value} {c r:Nat} {L:List Ac} {F:List Nat} {X:Nat} {P:Cp} {b:Ck} {n:Nat} (h:KS w base p c r L F X P b) (hb:base≤w.heap.size) (hL:L.length < 3298534883328) (hk:KOk P b n) (hv:goesK r P b=true→W64 (wordOf L (adK P b))) (hg:goesF c r P=true) (hr:P.read=true) (t:Int) :
  Calls Tryz.prog 132 #[.pointer (some ⟨X, 0, none⟩), p, .int .i64 t] w fun e w' => e = .returned (ansW (ansKK r P b L) (errKK r P b L) (if ansKK r P b L = 3 then P.val else 0) (goesK r P b)) ∧ ∃ F', KS w' base p c r (nextKL c r P b L t) F' X P (nextK r P b L) ∧ Next (X :: F) (X :: F') w w' := by
 have HG:Hid (∀ o,Calls Tryz.prog 134 #[.pointer (some ⟨X,0,none⟩),p] (w.alloc o) fun e w' => e = .returned (.bool true)∧Below (w.alloc o).heap.size (w.alloc o) w'):=fun o=>by
  rw [← hg]; exact fgoes_any (h.mem.below (below_a1 _ _)) (h.at_.alloc _)
 have HK : Hid (∀ w', Below w.heap.size w w' → Calls Tryz.prog 136 #[.pointer (some ⟨X, 0, none⟩), p, .int .i64 t] w' fun e w'' => e = .returned (.agg #[.int .i64 (ansKK r P b L), .int .i64 (errKK r P b L), .int .i64 0, .bool (goesK r P b)]) ∧ ∃ F', KS w'' base p c r (nextKL c r P b L t) F' X P (nextK r P b L) ∧ Next (X :: F) (X :: F') w' w'') := fun w' hb' => kstep_w (h.below hb') (Nat.le_trans hb hb'.size) hL hk hv t
 have HT : Hid (∀ w', Below w.heap.size w w' → w'.cell? ⟨X, 26, none⟩ = some (.bool true)) := fun w' hb' => by
  have:=(h.below hb').at_.tail.2.2.1; rw [hr] at this; exact this
 have HLT:Hid (∀ q ∈ X :: F,q < w.heap.size):=fun q hq=>(h.lt q hq).2
 have hx:X < w.heap.size:=heap_lt h.at_
 obtain ⟨M,rfl⟩:=h.mem.ptr
 clear h hg hr hv hk
 unfold ansW
 generalize nextK r P b L=b' at *
 generalize nextKL c r P b L t=L' at *
 generalize ansKK r P b L=kk at *
 generalize errKK r P b L=ee at *
 generalize goesK r P b=gg at *
 by_cases hk3:kk=3
 ·subst hk3
  rw [if_pos rfl]
  go_enter Tryz.func132,Tryz.ntmps132
  go_wp2_with fail
  refine (HG.out _).mono ?_
  rintro e w1 ⟨rfl,hb1⟩
  have HR:Hid (w1.heap[w.heap.size]? = some (.cells #[.int .i64 0,.int .i64 0,.int .i64 0,.bool false] 55 (0,0))):=row_on (heap_alloc_new _ _) hb1
  have HB:Hid (Below w.heap.size w w1):=below_then (below_a1 _ _) hb1
  have t2:=HT.out _ HB.out
  have hx1:X < w1.heap.size:=Nat.lt_of_lt_of_le hx HB.out.size
  clear hb1
  go_wp2_with fail
  refine (HK.out _ HB.out).mono ?_
  rintro e w2 ⟨rfl, F', k2, n2⟩
  obtain ⟨r2,o2,nn2⟩:=fs_row HLT.out HB.out HR.out n2
  have HK2:Hid (KS w2 base (.pointer (some ⟨M,0,none⟩)) c r L' F' X P b'∧w.heap.size ∉ X :: F'∧Next (X :: F) (X :: F') w w2):=⟨k2,o2,nn2⟩
  have HR2:Hid (w2.heap[w.heap.size]? = some (.cells #[.int .i64 0,.int .i64 0,.int .i64 0,.bool false] 55 (0,0))):=r2
  obtain ⟨⟨a0,a1,a2,a3⟩,g0,g1,g2,g3⟩:=ans_cells HR2.out
  have hB:=heap_lt HR2.out
  have tv:=k2.at_.tail.2.2.2
  have hx2:X < w2.heap.size:=heap_lt k2.at_
  clear k2 n2 r2 o2 nn2 t2
  go_wp2
  have q:=ks_other HK2.out.1 HK2.out.2.1 (Nat.le_refl _) HK2.out.2.2 (keepWB 3 ee P.val gg)
  exact ret_ans rfl rfl (row_on (ansW_set rfl HR2.out 3 ee P.val gg) (below_a1 _ _)) rfl rfl ⟨rfl, F', q.1.below (below_a1 _ _), q.2.trans (Next.of_below (below_a1 _ _) _)⟩
 ·rw [if_neg hk3]
  have hd:(kk == 3)=false:=by simpa using hk3
  go_enter Tryz.func132,Tryz.ntmps132
  go_wp2_with fail
  refine (HG.out _).mono ?_
  rintro e w1 ⟨rfl,hb1⟩
  have HR:Hid (w1.heap[w.heap.size]? = some (.cells #[.int .i64 0,.int .i64 0,.int .i64 0,.bool false] 55 (0,0))):=row_on (heap_alloc_new _ _) hb1
  have HB:Hid (Below w.heap.size w w1):=below_then (below_a1 _ _) hb1
  have t2:=HT.out _ HB.out
  have hx1:X < w1.heap.size:=Nat.lt_of_lt_of_le hx HB.out.size
  clear hb1
  go_wp2_with fail
  refine (HK.out _ HB.out).mono ?_
  rintro e w2 ⟨rfl, F', k2, n2⟩
  obtain ⟨r2,o2,nn2⟩:=fs_row HLT.out HB.out HR.out n2
  have HK2:Hid (KS w2 base (.pointer (some ⟨M,0,none⟩)) c r L' F' X P b'∧w.heap.size ∉ X :: F'∧Next (X :: F) (X :: F') w w2):=⟨k2,o2,nn2⟩
  have HR2:Hid (w2.heap[w.heap.size]? = some (.cells #[.int .i64 0,.int .i64 0,.int .i64 0,.bool false] 55 (0,0))):=r2
  obtain ⟨⟨a0,a1,a2,a3⟩,g0,g1,g2,g3⟩:=ans_cells HR2.out
  have hB:=heap_lt HR2.out
  clear k2 n2 r2 o2 nn2 t2
  go_wp2
  have q:=ks_other HK2.out.1 HK2.out.2.1 (Nat.le_refl _) HK2.out.2.2 (keepWB kk ee 0 gg)
  exact ret_ans rfl rfl (row_on (ansW_set rfl HR2.out kk ee 0 gg) (below_a1 _ _)) rfl rfl ⟨rfl, F', q.1.below (below_a1 _ _), q.2.trans (Next.of_below (below_a1 _ _) _)⟩
theorem fstep {w:World} {base:Nat} {p:Value} {c r:Nat} {L:List Ac} {F:List Nat} {X:Nat} {P:Cp} {b:Ck} {n:Nat} (h:KS w base p c r L F X P b) (hb:base≤w.heap.size) (hL:L.length < 3298534883328) (hk:KOk P b n) (h0:0≤P.cell) (hv:goesF c r P=true→P.read=true→goesK r P b=true→W64 (wordOf L (adK P b))) (t:Int) :
  Calls Tryz.prog 132 #[.pointer (some ⟨X, 0, none⟩), p, .int .i64 t] w fun e w' => e = .returned (ansW (ansF c r P b L) (errF c r P b L) (valF c r P b L) (accF c r P b)) ∧ ∃ F', KS w' base p c r (nextFL c r P b L t) F' X (nextFP c r P L) (nextFB c r P b L) ∧ Next (X :: F) (X :: F') w w' := by
 unfold ansF errF valF accF nextFL nextFP nextFB
 by_cases hg:goesF c r P=true
 ·simp only [if_pos hg]
  by_cases hr:P.read=true
  ·simp only [if_pos hr]
   exact fstep_hold h hb hL hk (hv hg hr) hg hr t
  ·simp only [if_neg hr]
   exact fstep_look h hb hL h0 hg (by simpa using hr) t
 ·simp only [if_neg hg]
  refine (fstep_none h.mem h.at_ (by simpa using hg) t).mono ?_
  rintro e w' ⟨rfl,hb'⟩
  exact ⟨rfl, F, h.below hb', Next.of_below hb' _⟩
end Go.Proofs.YtdkpgdkjohjcaaaGreat.Fe
