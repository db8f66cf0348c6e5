/- Collections over cells (layers 15 to 18): what a call under way wants, and lists of numbers as they lie. -/
import Derived.Test.YtigfjedohdgjfaaGreatDoorJBlkTabA
import Derived.Test.YtigfjedohdgjfaaGreatDoorAppW
import Derived.Deep.DeepHandedRow
import Derived.Laws.StructEq
import Derived.Test.YtigfjedohdgjfaaGreatDoorJPcMPcD
import Derived.Laws.AppendOwnNone
namespace Go.Proofs.YtigfjedohdgjfaaGreatDoor.Tl
open Go.ChangeShapes Go.WideShapes Go.ChangeAt Go.RowKit
structure Wn where
 kind:Int
 cell:Int
 val:Int
 code:Int
 deriving DecidableEq
def wn0:Wn:=⟨0,0,0,0⟩
def endW (v c:Int):Wn:=⟨6,0,if c=0 then v else 0,c⟩
def readW (c:Int):Wn:=⟨2,c,0,0⟩
def putW (c v:Int):Wn:=⟨3,c,v,0⟩
def Sx (z:Int):Prop:=-9223372036854775808≤z∧z≤9223372036854775807
def takesV (base most want args:Int):Bool:=decide (0≤most) && decide (most≤16) && decide (0≤base) && decide (base≤1024) && decide (want=args)
def nth (l:List Int) (i:Nat):Int:=l.getD i 0
def numC (l:List Int):List Value:=l.map (Value.int .i64)
theorem numC_len (l:List Int):(numC l).length=l.length:=by simp [numC]
theorem numC_snoc (l:List Int) (x:Int):numC (l ++ [x])=numC l ++ [.int .i64 x]:=by simp [numC]
theorem numC_get (l:List Int) (i:Nat) (hi:i < l.length):(numC l)[i]? = some (.int .i64 (nth l i)):=by simp [numC,nth,hi]
def Nl (w:World) (v:Value) (l:List Int):Prop:=∃ a cap,v = .slice a l.length cap∧l.length≤17592186044416∧l.length≤cap∧(cap≤9223372036854775807∧(a=none→cap=0))∧(∀ x ∈ l,Sx x)∧(l.length=0 ∨ ∃ x,a=some x∧x.block < w.heap.size ∧ ∀ i,i < l.length→w.cell? (x.add i)=some (.int .i64 (nth l i)))
theorem Nl.later {w w':World} {v:Value} {l:List Int} {B:Nat} (h:Nl w v l) (hb:Below B w w') (hB:w.heap.size≤B):Nl w' v l:=by
 obtain ⟨a,cap,hv,hm,hc1,hc2,hr,hl⟩:=h
 refine ⟨a,cap,hv,hm,hc1,hc2,hr, ?_⟩
 rcases hl with h0 | ⟨x,hx,hxb,hc⟩
 ·exact Or.inl h0
 ·exact Or.inr ⟨x,hx,Nat.lt_of_lt_of_le hxb hb.size,fun i hi=>cell_later hb (by rw [add_block]; omega) (hc i hi)⟩
theorem Nl.nil {w:World}:Nl w (.slice none 0 0) []:=⟨none,0,rfl,by simp,by simp,by simp,by simp,Or.inl rfl⟩
theorem Nl.of_own {w:World} {base:Nat} {v:Value} {l:List Int} (h:w.ownsRow base 2 1 v l.length (numC l)) (hn:l.length≤17592186044416) (hr : ∀ x ∈ l,Sx x):Nl w v l:=by
 have hc:=h
 obtain ⟨_,h⟩:=h
 rcases h with ⟨rfl,h0⟩ | ⟨g,cap,cur,rfl,hg,hb,h1,h2,_⟩
 ·exact ⟨none,0,by rw [h0],hn,by omega,⟨by omega,fun _=>rfl⟩,hr,Or.inl h0⟩
 ·refine ⟨some ⟨g,0,none⟩,cap,rfl,hn,h1,⟨by unfold maxLen at h2; omega,fun h=>by cases h⟩,hr, ?_⟩
  by_cases h0:l.length=0
  ·exact Or.inl h0
  ·refine Or.inr ⟨⟨g,0,none⟩,rfl,heap_lt hb,fun i hi => ?_⟩
   have e:(⟨g,0,none⟩:Addr).add i=⟨g,i,none⟩:=by unfold Addr.add; split <;> simp_all
   rw [e]
   exact own_cells hc _ _ (numC_get l i hi)
theorem info_i64:(Tryz.prog.info? 2).map (fun i=>(i.zero,i.size,i.bytes))=some (some (.int .i64 0),1,8):=by kernel_rfl
theorem sx_of_wf {z:Int} (h:(Lit.int .i64 z).wf=true):Sx z:=by
 have : -9223372036854775808≤z∧z≤9223372036854775807:=by simpa [Lit.wf,IntKind.min,IntKind.max,IntKind.signed,IntKind.bits] using h
 exact this
theorem row_next {w w':World} {o:Obj} (hb:Below (w.alloc o).heap.size (w.alloc o) w'):w'.heap[w.heap.size]? = some o:=by
 rw [hb.block _ (by simp)]; exact heap_alloc_new _ _
theorem below_next {w w':World} {o:Obj} (hb:Below (w.alloc o).heap.size (w.alloc o) w'):Below w.heap.size w w':=below_then (below_a1 _ _) hb
theorem row_next2 {w w':World} {o1 o2:Obj} (hb:Below ((w.alloc o1).alloc o2).heap.size ((w.alloc o1).alloc o2) w'):w'.heap[w.heap.size+1]? = some o2:=by
 have:=row_next hb
 simpa using this
theorem row_next1 {w w':World} {o1 o2:Obj} (hb:Below ((w.alloc o1).alloc o2).heap.size ((w.alloc o1).alloc o2) w'):w'.heap[w.heap.size]? = some o1:=by
 rw [hb.block _ (by simp; omega)]
 exact heap_alloc2_old _ _ _
end Go.Proofs.YtigfjedohdgjfaaGreatDoor.Tl
namespace Go.Proofs.YtigfjedohdgjfaaGreatDoor.Tl.Pg
open Go.ChangeShapes Go.WideShapes Go.ChangeAt Go.RowKit
attribute [local go_sem ↓] Go.wp_at_zero Go.wp_at_succ
def rgT (c:Pc.Cf) (i:Nat):List Value:=[.int .i64 (Pc.nthR c.R i).1,.int .i64 (Pc.baseV c (i:Int)).1,.int .i64 (Pc.nthR c.R i).2]
def rgsC (c:Pc.Cf) (n:Nat):List Value:=(List.range n).flatMap (rgT c)
theorem rgsC_snoc (c:Pc.Cf) (n:Nat):rgsC c (n+1)=rgsC c n++rgT c n:=by simp [rgsC,List.range_succ,List.flatMap_append]
theorem info_rgn:(Tryz.prog.info? 86).map (fun i=>(i.zero,i.size,i.bytes))=some (some (.agg #[.int .i64 0,.int .i64 0,.int .i64 0]),3,24):=by kernel_rfl
theorem one_three (a b c:Int) : ∀ u ∈ [Value.int .i64 a,.int .i64 b,.int .i64 c],u.oneCell'=true:=by
 intro u hu
 simp only [List.mem_cons,List.not_mem_nil,or_false] at hu
 rcases hu with rfl | rfl | rfl <;> rfl
theorem wz {j n:Nat} (h:j < n) (h8:n≤8):wrap64 ((j:Int)+1)=(j:Int)+1:=by unfold wrap64; omega
set_option maxRecDepth 10000 in
set_option maxHeartbeats 4000000 in
theorem regs_any {w:World} {v:Value} {c:Pc.Cf} (h:Pc.CfV w v c) (h8:c.R.length≤8):Calls Tryz.prog 19 #[v] w fun e w' => ∃ u,e = .returned u∧w'.ownsRow w.heap.size 86 3 u c.R.length (rgsC c c.R.length)∧Below w.heap.size w w':=by
 have HBA:Hid (∀ (w':World) (i:Nat),Below w.heap.size w w'→Calls Tryz.prog 33 #[v,.int .i64 (i:Int)] w' fun e w'' => e = .returned (.tuple #[.int .i64 (Pc.baseV c (i:Int)).1,.int .i64 (Pc.baseV c (i:Int)).2])∧Below w'.heap.size w' w''):=fun w' i hb=>Pc.base_any (h.later hb (Nat.le_refl _)) (i:Int)
 obtain ⟨vr,rfl,hR⟩:=h
 obtain ⟨ar,cap,rfl,hlen,hcap,hcs,hl⟩:=hR
 have HL:Hid (Pc.Rl w (.slice ar c.R.length cap) c.R):=⟨ar,cap,rfl,hlen,hcap,hcs,hl⟩
 clear hl hcap hcs
 obtain ⟨i0,hi,hz0,hz1,hz2⟩:=info_parts info_rgn
 have HSN:Hid (∀ j,rgsC c (j+1)=rgsC c j ++ [.int .i64 (Pc.nthR c.R j).1,.int .i64 (Pc.baseV c (j:Int)).1,.int .i64 (Pc.nthR c.R j).2]):=fun j=>rgsC_snoc c j
 generalize hC:rgsC c=C at *
 generalize hBV:Pc.baseV c=BV at *
 have hC0:C 0 = []:=by rw [← hC]; rfl
 clear hC hBV
 obtain ⟨rw0,b,d,s,mu,t,R⟩:=c
 unfold Pc.cfA at *
 dsimp only at *
 go_enter Tryz.func19,Tryz.ntmps19
 go_wp2_with fail
 have hr0:=heap_alloc_new w (.cells #[.int .i64 rw0,.int .i64 b,.int .i64 d,.int .i64 s,.bool mu,.int .i64 t,.slice ar R.length cap] 32)
 have hb0:=below_a1 w (.cells #[.int .i64 rw0,.int .i64 b,.int .i64 d,.int .i64 s,.bool mu,.int .i64 t,.slice ar R.length cap] 32)
 generalize w.alloc (.cells #[.int .i64 rw0,.int .i64 b,.int .i64 d,.int .i64 s,.bool mu,.int .i64 t,.slice ar R.length cap] 32)=w0 at *
 have hl0:=heap_lt hr0
 have HR0:Hid (w0.heap[w.heap.size]? = some (.cells #[.int .i64 rw0,.int .i64 b,.int .i64 d,.int .i64 s,.bool mu,.int .i64 t,.slice ar R.length cap] 32 (0,0))):=hr0
 have HB0:Hid (Below w.heap.size w w0):=hb0
 clear hr0 hb0
 go_loopw [3,11] (fun hv iv wr => ∃ j:Nat,j≤R.length∧iv = .int .i64 (j:Int)∧wr.ownsRow w0.heap.size 86 3 hv j (C j)∧Below w0.heap.size w0 wr) (fun _ iv _=>R.length - (intOf iv).toNat)
 case atStart=>exact ⟨0,by omega,rfl,by rw [hC0]; exact World.ownsRow_nil _ _ _ _,Below.refl _ _⟩
 case round =>
  obtain ⟨j,hj,rfl,hown,hbel⟩:=hrel
  have HO:Hid (wr.ownsRow w0.heap.size 86 3 u3 j (C j)):=hown
  have HB:Hid (Below w0.heap.size w0 wr):=hbel
  have hsz:w0.heap.size≤wr.heap.size:=hbel.size
  by_cases hlt:j < R.length
  ·have hjd:decide ((j:Int) < (R.length:Int))=true:=by simp; omega
   have hbw:Below w.heap.size w wr:=HB0.out.trans (hbel.mono HB0.out.size)
   obtain ⟨x,rfl,z1,z2⟩ : ∃ x,ar=some x∧wr.cell? (x.add (j * 2))=some (.int .i64 (Pc.nthR R j).1)∧wr.cell? ⟨(x.add (j * 2)).block,(x.add (j * 2)).off+1,none⟩=some (.int .i64 (Pc.nthR R j).2):=by
    obtain ⟨a', cap', hv, _, _, _, hl⟩ := HL.out.later hbw (Nat.le_refl _)
    injection hv with h1 h2 h3
    subst h1
    obtain ⟨x,hx,_,hc⟩:=hl.resolve_left (by omega)
    exact ⟨x,hx,hc j hlt⟩
   have hw:wrap64 ((j:Int)+1)=(j:Int)+1:=wz hlt h8
   have HM:Hid (R.length - (j+1) < R.length - j):=by show R.length - (j+1) < R.length - j; omega
   have hrr:wr.heap[w.heap.size]? = some (.cells #[.int .i64 rw0,.int .i64 b,.int .i64 d,.int .i64 s,.bool mu,.int .i64 t,.slice (some x) R.length cap] 32 (0,0)):=(hbel.block _ hl0).trans HR0.out
   obtain ⟨k0,k1,k2,k3,k4,k5,k6⟩:wr.cell? ⟨w.heap.size,0,none⟩=some (.int .i64 rw0)∧wr.cell? ⟨w.heap.size,1,none⟩=some (.int .i64 b)∧wr.cell? ⟨w.heap.size,2,none⟩=some (.int .i64 d)∧wr.cell? ⟨w.heap.size,3,none⟩=some (.int .i64 s)∧wr.cell? ⟨w.heap.size,4,none⟩=some (.bool mu)∧wr.cell? ⟨w.heap.size,5,none⟩=some (.int .i64 t)∧wr.cell? ⟨w.heap.size,6,none⟩=some (.slice (some x) R.length cap):=⟨(cell_at hrr 0).trans rfl,(cell_at hrr 1).trans rfl,(cell_at hrr 2).trans rfl,(cell_at hrr 3).trans rfl,(cell_at hrr 4).trans rfl,(cell_at hrr 5).trans rfl,(cell_at hrr 6).trans rfl⟩
   have hlr:w.heap.size < wr.heap.size:=heap_lt hrr
   have HSJ:=HSN.out j
   have HBJ:Hid (∀ (w':World),Below w.heap.size w w'→Calls Tryz.prog 33 #[.agg #[.int .i64 rw0,.int .i64 b,.int .i64 d,.int .i64 s,.bool mu,.int .i64 t,.slice (some x) R.length cap],.int .i64 (j:Int)] w' fun e w'' => e = .returned (.tuple #[.int .i64 (BV (j:Int)).1,.int .i64 (BV (j:Int)).2])∧Below w'.heap.size w' w''):=fun w' hb=>HBA.out w' j hb
   generalize (BV (j:Int)).1=y1 at *
   generalize (BV (j:Int)).2=y2 at *
   generalize (Pc.nthR R j).1=r1 at *
   generalize (Pc.nthR R j).2=r2 at *
   have HSJ':Hid (C (j+1)=C j ++ [.int .i64 r1,.int .i64 y1,.int .i64 r2]):=HSJ
   have HBW:Hid (Below w.heap.size w wr):=hbw
   clear HL HBA HSN HSJ hbel hbw hown hrr HR0
   go_wp2_with fail
   refine (HBJ.out _ (below_alloc HBW.out _)).mono ?_
   rintro e w1 ⟨rfl,hb1⟩
   have hr1:=row_next hb1
   have q0:w1.cell? ⟨wr.heap.size,0,none⟩=some (.int .i64 r1):=(cell_at hr1 0).trans rfl
   have q1:w1.cell? ⟨wr.heap.size,1,none⟩=some (.int .i64 r2):=(cell_at hr1 1).trans rfl
   have hb2:=below_next hb1
   have HO1:Hid (w1.ownsRow w0.heap.size 86 3 u3 j (C j)):=own_keep HO.out (Keep.of_below hb2 []) (by simp)
   have HB1:Hid (Below w0.heap.size w0 w1):=HB.out.trans (hb2.mono hsz)
   have hsz1:w0.heap.size≤w1.heap.size:=HB1.out.size
   obtain ⟨va,vc,rfl⟩:=own_slice HO1.out
   clear hb1 hr1 hb2 HO HB HBW HBJ z1 z2 k0 k1 k2 k3 k4 k5 k6
   go_wp2_with (at_builtin; refine list_lies_wide _ rfl _ _ 57 rfl w0.heap.size 86 i0 _ 3 24 Tryz.underlying57 hi hz0 hz1 hz2 rfl (by decide) _ _ _ rfl (HO1.out.alloc _) ⟨w1.heap.size,0,none⟩ 1 1 [.int .i64 r1,.int .i64 y1,.int .i64 r2] rfl rfl ?c1 ?c2 ?c3 ?c4 ?c5 ?c6 _ rfl ?_)
   case c1=>exact World.news_of_block (cs:=#[.int .i64 r1,.int .i64 y1,.int .i64 r2]) (t:=86) (fr:=(0,0)) (heap_alloc_new _ _)
   case c2=>exact one_three _ _ _
   case c3=>decide
   case c4=>unfold maxLen; omega
   case c5=>omega
   case c6=>simp; omega
   intro g cp w2 hown' hgrow _ _
   have HO2:Hid (w2.ownsRow w0.heap.size 86 3 (.slice (some ⟨g,0,none⟩) (j+1) cp) (j+1) (C (j+1))):=by rw [Hid,HSJ'.out]; exact hown'
   have HB2:Hid (Below w0.heap.size w0 w2):=(HB1.out.trans ((below_a1 w1 _).mono hsz1)).grown hgrow (by simp; omega) (fun b hb=>by have:=own_block HO1.out b hb; omega)
   clear hown' hgrow
   go_wp2
   go_roundw
   case rel=>exact ⟨j+1,hlt,by go_num,HO2.out,HB2.out⟩
   case measure=>simpa [intOf] using HM.out
  ·obtain rfl:j=R.length:=by omega
   clear HL HBA HSN hbel hown HR0
   have HF:Hid (wr.ownsRow w.heap.size 86 3 u3 R.length (C R.length)∧Below w.heap.size w wr):=⟨own_base HO.out HB0.out.size,HB0.out.trans (HB.out.mono HB0.out.size)⟩
   go_wp2_with fail
   go_ret
   exact ⟨_,rfl,HF.out.1,HF.out.2⟩
set_option maxRecDepth 100000 in
theorem wpList_append_nl (w:World) {ops:Array Oper} {rest:List Oper} {o:Oper} {a:Act} {Q:Exit→Act→World→Prop} (hgd:o.guard=none) (s x:Operand)
  (ho:o.op = .call { callee:=.builtin .append,args:=#[s,x],argTypes:=#[25,25] }) (base:Nat) (v:Value) (n:Nat) (xs:List Value) (hs:a.eval s=v) (hown:w.ownsRow base 2 1 v n xs)
  (u:Value) (l:List Int) (hx:a.eval x=u) (hl:Nl w u l) (h63:n+l.length≤maxLen) (hbytes:(n+l.length) * 8≤140737488355328) (hbase:base≤w.heap.size)
  (h : ∀ v' w', w'.ownsRow base 2 1 v' (n + l.length) (xs ++ numC l) → w.grownBy w' v.ownBlock → wpList Tryz.prog ops Q rest (a.put o.dst v') w') : wpList Tryz.prog ops Q (o :: rest) a w := by
 obtain ⟨i0,hi,hz0,hz1,hz2⟩:=info_parts info_i64
 obtain ⟨ad,cap,rfl,hbig,hc1,⟨hc2,hnil⟩,_,hc⟩:=hl
 cases ad with
 | none =>
  have hl0:l.length=0:=by
   rcases hc with h0 | ⟨x, hx', _⟩
   ·exact h0
   ·cases hx'
  obtain rfl:l = []:=List.eq_nil_of_length_eq_zero hl0
  obtain rfl:cap=0:=hnil rfl
  refine wpList_append_own_none hgd s x 25 ho base 2 i0 1 Tryz.underlying25 hi v n xs hs hown hx ?_
  exact h v w (by simpa [numC] using hown) ⟨rfl,rfl,rfl,Nat.le_refl _,fun _ _ _=>rfl⟩
 | some ad =>
  refine wpList_append_own w hgd s x 25 ho base 2 i0 (.int .i64 0) 1 8 Tryz.underlying25 hi hz0 hz1 hz2 rfl (by decide) v n xs hs hown ad l.length cap (numC l) hx (by rw [numC_len]; omega) (fun j u' hu => ?_) (fun u' hu => ?_) h63 hbytes hbase fun v' w' h1 h2 _=>h v' w' h1 h2
  ·have hj:j < l.length:=by
    have:=(List.getElem?_eq_some_iff.1 hu).1
    rwa [numC_len] at this
   rw [numC_get l j hj] at hu
   obtain ⟨x, hx', _, hcell⟩ := hc.resolve_left (by omega)
   injection hx' with hx'
   subst hx'
   injection hu with hu
   rw [← hu]
   exact hcell j hj
  ·simp only [numC,List.mem_map] at hu
   obtain ⟨z,_,rfl⟩:=hu
   rfl
theorem copi_any {w:World} {v:Value} {l:List Int} (h:Nl w v l):Calls Tryz.prog 20 #[v] w fun e w' => ∃ u,e = .returned u∧w'.ownsRow w.heap.size 2 1 u l.length (numC l)∧Below w.heap.size w w':=by
 have HN:Hid (Nl w v l):=h
 obtain ⟨a,cap,rfl,hl,_⟩:=h
 go_enter Tryz.func20,Tryz.ntmps20
 go_wp2_with (at_builtin; refine wpList_append_nl _ rfl _ _ rfl w.heap.size _ 0 [] rfl (World.ownsRow_nil _ _ _ _) _ l rfl HN.out ?c1 ?c2 ?c3 ?_)
 case c1=>unfold maxLen; omega
 case c2=>omega
 case c3=>exact Nat.le_refl _
 intro v' w' h1 h2
 go_wp2_with fail
 go_ret
 refine ⟨_,rfl,by simpa using h1,h2.os,h2.tape,h2.output,h2.size,fun b hb=>h2.block b hb (by simp [Value.ownBlock])⟩
end Go.Proofs.YtigfjedohdgjfaaGreatDoor.Tl.Pg
namespace Go.Proofs.YtigfjedohdgjfaaGreatDoor.Tl.Pg
open Go.ChangeShapes Go.WideShapes Go.ChangeAt Go.RowKit
attribute [local go_sem ↓] Go.wp_at_zero Go.wp_at_succ
def jobR (c:Pc.Cf) (rv:Value) (cells:Int) (code:ByteArray) (av:Value) (nr:Int) (tv:Value) (pub:Bool) (pl nx:Int) (sv rtv tlv:Value) (wt:Wn) (kv:Value) (rd:Int) (ev:Value) (ov:Bool) (er:Int):Array Value :=
 #[.int .i64 c.raw,.int .i64 c.ring,.int .i64 c.wrs,.int .i64 c.st,.bool c.multi,.int .i64 c.tries,.slice none 0 0,rv,.int .i64 cells,.string code,av,.int .i64 nr,tv,.bool pub,.int .i64 pl,.int .i64 nx,sv,rtv,tlv,
    .int .i64 wt.kind,.int .i64 wt.cell,.int .i64 wt.val,.int .i64 wt.code,kv,.int .i64 rd,ev,.bool ov,.int .i64 er]
def jobZ (c:Pc.Cf) (rv:Value) (cells:Int) (code:ByteArray) (av:Value):Array Value:=jobR c rv cells code av 0 (.pointer none) false 0 0 (.slice none 0 0) (.slice none 0 0) (.slice none 0 0) wn0 .nilIface 0 (.slice none 0 0) false 0
theorem cfg_yes {w:World} {v:Value} {c:Pc.Cf} (h:Pc.CfV w v c) (hn:Pc.okC c=true):Hid (∀ w':World,Below w.heap.size w w'→Calls Tryz.prog 18 #[v] w' fun e w'' => e = .returned (.tuple #[.int .i64 (Pc.cellsV c).1,.int .i64 0])∧Below w'.heap.size w' w''):=fun w' hb=>by
 have:=Pc.cells_any (h.later hb (Nat.le_refl _))
 unfold Pc.Two at this
 rw [show (Pc.cellsV c).2=0 by unfold Pc.cellsV; rw [hn]; rfl] at this
 exact this
theorem row_on {w w':World} {b:Nat} {o:Obj} (h:w.heap[b]? = some o) (hb:Below w.heap.size w w'):w'.heap[b]? = some o:=(hb.block _ (heap_lt h)).trans h
theorem cf7 {w:World} {X:Nat} {a b d s t:Int} {mu:Bool} {vr:Value} {ty:TypeId} (hr:w.heap[X]? = some (.cells #[.int .i64 a,.int .i64 b,.int .i64 d,.int .i64 s,.bool mu,.int .i64 t,vr] ty (0,0))) :
  w.cell? ⟨X,0,none⟩=some (.int .i64 a)∧w.cell? ⟨X,1,none⟩=some (.int .i64 b)∧w.cell? ⟨X,2,none⟩=some (.int .i64 d)∧w.cell? ⟨X,3,none⟩=some (.int .i64 s)∧w.cell? ⟨X,4,none⟩=some (.bool mu)∧w.cell? ⟨X,5,none⟩=some (.int .i64 t)∧w.cell? ⟨X,6,none⟩=some vr:=⟨(cell_at hr 0).trans rfl,(cell_at hr 1).trans rfl,(cell_at hr 2).trans rfl,(cell_at hr 3).trans rfl,(cell_at hr 4).trans rfl,(cell_at hr 5).trans rfl,(cell_at hr 6).trans rfl⟩
set_option maxRecDepth 10000 in
set_option maxHeartbeats 4000000 in
theorem new_yes {w:World} {v:Value} {c:Pc.Cf} {T:Nat→World→Prop} (h:Pc.CfV w v c) (code:ByteArray) {va:Value} {l:List Int} (ha:Nl w va l) (hn:Pc.okC c=true) (hc:code.size≤512) (hl:l.length≤4)
  (HT : ∀ (w1:World) (X:Nat) (rv av:Value),w.heap.size≤X→w1.ownsRow w.heap.size 86 3 rv c.R.length (rgsC c c.R.length)→w1.ownsRow w.heap.size 2 1 av l.length (numC l)→(∀ b,rv.ownBlock=some b→b < X∧av.ownBlock≠some b)→(∀ b,av.ownBlock=some b→b < X)→w1.heap[X]? = some (.cells (jobZ c rv (Pc.cellsV c).1 code av) 70 (0,0))→X+1=w1.heap.size→Below w.heap.size w w1 →
      Calls Tryz.prog 21 #[.pointer (some ⟨X,0,none⟩)] w1 fun e w2=>e = .returned (.tuple #[])∧T X w2) :
  Calls Tryz.prog 11 #[v,.string code,va] w fun e w' => ∃ X,e = .returned (.tuple #[.pointer (some ⟨X,0,none⟩),.int .i64 0])∧T X w':=by
 have HC:=cfg_yes h hn
 have h8:=(Pc.okC_raw hn).2.2
 have HRG:Hid (∀ w':World,Below w.heap.size w w'→Calls Tryz.prog 19 #[v] w' fun e w'' => ∃ u,e = .returned u∧w''.ownsRow w'.heap.size 86 3 u c.R.length (rgsC c c.R.length)∧Below w'.heap.size w' w''):=fun w' hb=>regs_any (h.later hb (Nat.le_refl _)) h8
 have HCO:Hid (∀ w':World,Below w.heap.size w w'→Calls Tryz.prog 20 #[va] w' fun e w'' => ∃ u,e = .returned u∧w''.ownsRow w'.heap.size 2 1 u l.length (numC l)∧Below w'.heap.size w' w''):=fun w' hb=>copi_any (ha.later hb (Nat.le_refl _))
 have HTT:Hid (∀ (w1:World) (X:Nat) (rv av:Value),w.heap.size≤X→w1.ownsRow w.heap.size 86 3 rv c.R.length (rgsC c c.R.length)→w1.ownsRow w.heap.size 2 1 av l.length (numC l)→(∀ b,rv.ownBlock=some b→b < X∧av.ownBlock≠some b)→(∀ b,av.ownBlock=some b→b < X)→w1.heap[X]? = some (.cells (jobZ c rv (Pc.cellsV c).1 code av) 70 (0,0))→X+1=w1.heap.size→Below w.heap.size w w1 →
      Calls Tryz.prog 21 #[.pointer (some ⟨X,0,none⟩)] w1 fun e w2=>e = .returned (.tuple #[])∧T X w2):=HT
 obtain ⟨vr,rfl,hR⟩:=h
 obtain ⟨aa, cap, rfl, hl', _⟩ := ha
 generalize hcv:(Pc.cellsV c).1=y at *
 generalize rgsC c c.R.length=RC at *
 generalize numC l=NC at *
 generalize c.R.length=rn at *
 clear hR hn HT hl' h8 hcv
 obtain ⟨a,b,d,s,mu,t,R⟩:=c
 unfold Pc.cfA at *
 unfold jobZ jobR at *
 dsimp only at *
 generalize hln:l.length=n at *
 have hd1:decide ((512:Int) < (code.size:Int))=false:=by simp; omega
 have hd2:decide ((4:Int) < (n:Int))=false:=by simp; omega
 clear hc hl hln
 go_enter Tryz.func11,Tryz.ntmps11
 go_wp2_with fail
 refine (HC.out _ (below_a1 _ _)).mono ?_
 rintro e w1 ⟨rfl,hb⟩
 have hr:=row_next hb
 obtain ⟨k0,k1,k2,k3,k4,k5,k6⟩:w1.cell? ⟨w.heap.size,0,none⟩=some (.int .i64 a)∧w1.cell? ⟨w.heap.size,1,none⟩=some (.int .i64 b)∧w1.cell? ⟨w.heap.size,2,none⟩=some (.int .i64 d)∧w1.cell? ⟨w.heap.size,3,none⟩=some (.int .i64 s)∧w1.cell? ⟨w.heap.size,4,none⟩=some (.bool mu)∧w1.cell? ⟨w.heap.size,5,none⟩=some (.int .i64 t)∧w1.cell? ⟨w.heap.size,6,none⟩=some vr:=⟨(cell_at hr 0).trans rfl,(cell_at hr 1).trans rfl,(cell_at hr 2).trans rfl,(cell_at hr 3).trans rfl,(cell_at hr 4).trans rfl,(cell_at hr 5).trans rfl,(cell_at hr 6).trans rfl⟩
 have hl1:=heap_lt hr
 have HB:Hid (Below w.heap.size w w1):=below_next hb
 have HR1:Hid (w1.heap[w.heap.size]? = some (.cells #[.int .i64 a,.int .i64 b,.int .i64 d,.int .i64 s,.bool mu,.int .i64 t,vr] 32 (0,0))):=hr
 clear hb hr HC
 go_wp2_with fail
 go_region_held3 (fun w' => w'.cell? ⟨w.heap.size,0,none⟩=some (.int .i64 a)∧w'.cell? ⟨w.heap.size,1,none⟩=some (.int .i64 b)∧w'.cell? ⟨w.heap.size,2,none⟩=some (.int .i64 d)∧w'.cell? ⟨w.heap.size,3,none⟩=some (.int .i64 s)∧w'.cell? ⟨w.heap.size,4,none⟩=some (.bool mu)∧w'.cell? ⟨w.heap.size,5,none⟩=some (.int .i64 t)∧w'.cell? ⟨w.heap.size,6,none⟩=some vr) (first | go_keep | exact hS) (first
    | (go_at_call 19; refine (HRG.out _ (by first | exact below_drawn HB.out 1 | exact HB.out)).mono ?_; rintro e w2 ⟨rv,rfl,orv,hb2⟩; have hB2:Below w1.heap.size w1 w2:=(by first | exact below_then (below_drawn (Below.refl _ _) 1) hb2 | exact hb2); obtain ⟨ra,rc,rfl⟩:=own_slice orv; have hS:=cf7 (row_on HR1.out hB2))
    | (go_at_call 20; refine (HCO.out _ (below_then HB.out hB2)).mono ?_; rintro e w3 ⟨av,rfl,oav,hb3⟩; have hB3:Below w1.heap.size w1 w3:=below_then hB2 hb3; have hS:=cf7 (row_on HR1.out hB3); obtain ⟨aa3,ac3,rfl⟩:=own_slice oav))
 have HO1:Hid (w3.ownsRow w.heap.size 86 3 (.slice ra rn rc) rn RC):=own_base (own_keep orv (Keep.of_below hb3 []) (by simp)) (by first | exact HB.out.size | simpa using HB.out.size)
 have HO2:Hid (w3.ownsRow w.heap.size 2 1 (.slice aa3 n ac3) n NC):=own_base oav (Nat.le_trans HB.out.size hB2.size)
 have HN1:Hid (∀ b,(Value.slice ra rn rc).ownBlock=some b→b < w3.heap.size∧(Value.slice aa3 n ac3).ownBlock≠some b):=fun b hb=>⟨Nat.lt_of_lt_of_le (own_block orv b hb).2 hb3.size,fun hc=>by have:=(own_block orv b hb).2; have:=(own_block oav b hc).1; omega⟩
 have HN2:Hid (∀ b,(Value.slice aa3 n ac3).ownBlock=some b→b < w3.heap.size):=fun b hb=>(own_block oav b hb).2
 have HB3:Hid (Below w.heap.size w w3):=below_then HB.out hB3
 clear hS orv oav hb2 hb3 hB2 hB3 HRG HCO k0 k1 k2 k3 k4 k5 k6 HR1 HB
 go_wp2_with fail
 refine (HTT.out _ w3.heap.size _ _ HB3.out.size (own_keep HO1.out (F:=[w3.heap.size]) ?_ (fun b hb => ?_)) (own_keep HO2.out (F:=[w3.heap.size]) ?_ (fun b hb => ?_)) HN1.out HN2.out (heap_alloc_new _ _) (by simp) ?_).mono ?_
 ·exact (Keep.refl _ _).alloc _
 ·have:=(HN1.out b hb).1; simp; omega
 ·exact (Keep.refl _ _).alloc _
 ·have:=HN2.out b hb; simp; omega
 ·exact below_then HB3.out (below_a1 _ _)
 rintro e w4 ⟨rfl,hT4⟩
 go_wp2_with fail
 go_ret2
 exact ⟨_,rfl,hT4⟩
end Go.Proofs.YtigfjedohdgjfaaGreatDoor.Tl.Pg
