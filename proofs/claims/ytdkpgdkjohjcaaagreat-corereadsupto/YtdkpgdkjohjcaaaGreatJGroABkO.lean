/- carouselgrow: Pick and fit. -/
import Derived.Test.YtdkpgdkjohjcaaaGreatGroM
import Derived.Test.YtdkpgdkjohjcaaaGreatJHashSigB
import Derived.Test.YtdkpgdkjohjcaaaGreatJMemCAns
import Derived.Test.YtdkpgdkjohjcaaaGreatJBegABegX
import Derived.Test.YtdkpgdkjohjcaaaGreatJBkMBkJ
import Derived.Test.YtdkpgdkjohjcaaaGreatJSigPSigU
import Derived.Test.YtdkpgdkjohjcaaaGreatSigF
set_option maxRecDepth 10000
namespace Go.Proofs.YtdkpgdkjohjcaaaGreat
open Go.ChangeShapes Go.WideShapes Go.ChangeAt Go.RowKit
attribute [local go_sem ↓] Go.wp_at_zero Go.wp_at_succ
theorem gpick_any (x n:Int) (h0:0 < n) (h1:n≤1024) (w:World):Calls Tryz.prog 9 #[.int .i64 x,.int .i64 n] w fun e w' => e = .returned (.int .i64 (x % n))∧w'=w:=by
 by_cases ht:x.tmod n < 0
 ·have ⟨_,_,e⟩:=tmod_low x n (by omega) ht
  have hm1:=Int.emod_nonneg x (show n≠0 by omega)
  have hm2:=Int.emod_lt_of_pos x (show 0 < n by omega)
  have HE:Hid (wrap64 (x.tmod n+n)=x % n):=by unfold wrap64; rw [Hid,e]; omega
  have hd:decide (x.tmod n < 0)=true:=decide_eq_true ht
  have hz : ¬ n=0:=by omega
  rw [← HE.out]
  clear e hm1 hm2 HE ht h0 h1
  go_enter Tryz.func9,Tryz.ntmps9
  go_wp2
  go_ret
  exact ⟨rfl,rfl⟩
 ·have e:=tmod_high x n (by omega) (by omega)
  have hd:decide (x.tmod n < 0)=false:=decide_eq_false ht
  have hz : ¬ n=0:=by omega
  rw [← e]
  clear e ht h0 h1
  go_enter Tryz.func9,Tryz.ntmps9
  go_wp2
  go_ret
  exact ⟨rfl,rfl⟩
theorem info_wr:(Tryz.prog.info? 60).map (fun i=>(i.zero,i.size,i.bytes))=some (some (.agg #[.int .i64 0,.int .i64 0]),2,16):=by kernel_rfl
end Go.Proofs.YtdkpgdkjohjcaaaGreat
namespace Go.Proofs.YtdkpgdkjohjcaaaGreat.Ba
open Go.ChangeShapes Go.WideShapes Go.ChangeAt Go.RowKit
attribute [local go_sem ↓] Go.wp_at_zero Go.wp_at_succ
def WL (w:World) (v:Value) (W:List Wt):Prop:=∃ a cap,v = .slice a W.length cap∧W.length≤8796093022208∧(W = [] ∨ ∃ x,a=some x∧x.block < w.heap.size ∧ ∀ i,i < W.length→w.cell? (x.add (i * 2))=some (.int .i64 (W.getD i noWt).c)∧w.cell? ((x.add (i * 2)).add 1)=some (.int .i64 (W.getD i noWt).v))
theorem WL.later {w w':World} {v:Value} {W:List Wt} (h:WL w v W) (hb:Below w.heap.size w w'):WL w' v W:=by
 obtain ⟨a,cap,hv,hm,h⟩:=h
 refine ⟨a,cap,hv,hm, ?_⟩
 rcases h with h | ⟨x,h1,h2,h3⟩
 ·exact Or.inl h
 ·exact Or.inr ⟨x,h1,Nat.lt_of_lt_of_le h2 hb.size,fun i hi=>⟨(hb.cell (p:=x.add (i * 2)) (by rw [add_block]; exact h2)).trans (h3 i hi).1,(hb.cell (p:=(x.add (i * 2)).add 1) (by rw [add_block,add_block]; exact h2)).trans (h3 i hi).2⟩⟩
theorem WL.of_own {w:World} {base:Nat} {v:Value} {W:List Wt} (h:w.ownsRow base 60 2 v W.length (wtC W)) (hl:W.length≤8796093022208):WL w v W:=by
 obtain ⟨a,cap,rfl⟩:=own_slice h
 refine ⟨a,cap,rfl,hl, ?_⟩
 by_cases h0:W = []
 ·exact Or.inl h0
 ·have hp:0 < W.length:=List.length_pos_iff.mpr h0
  obtain ⟨g, cap', e, _, hgl⟩ := h.form hp
  simp at e
  obtain ⟨rfl,rfl⟩:=e
  refine Or.inr ⟨⟨g,0,none⟩,rfl,hgl,fun i hi => ?_⟩
  have:=own_wr h i hi
  rw [Sg.add_at,add_pos' _ _ (by decide)]
  exact this
theorem add_add2 (x:Addr) (a b:Nat):(x.add a).add b=x.add (a+b):=by
 by_cases hb:b=0
 ·subst hb; rw [add_zero', Nat.add_zero]
 ·rw [add_pos' _ _ (by omega),add_pos' _ (a+b) (by omega),add_block]
  by_cases ha:a=0
  ·subst ha; rw [add_zero', Nat.zero_add]
  ·rw [add_pos' _ _ (by omega)]
   congr 1
   simp only
   omega
theorem wtC_flat {W:List Wt} {j:Nat} {u:Value} (h:(wtC W)[j]? = some u) : ∃ i,i < W.length∧((j=i * 2∧u = .int .i64 (W.getD i noWt).c)∨(j=i * 2+1∧u = .int .i64 (W.getD i noWt).v)):=by
 have hj:j < W.length * 2:=by rw [← wtC_len]; exact (List.getElem?_eq_some_iff.1 h).1
 refine ⟨j / 2,by omega, ?_⟩
 have:=wtC_get W (j / 2) (by omega)
 by_cases e:j % 2=0
 ·left
  have ej:j / 2 * 2=j:=by omega
  rw [ej,h] at this
  exact ⟨by omega,by simpa using this.1⟩
 ·right
  have ej:j / 2 * 2+1=j:=by omega
  rw [ej,h] at this
  exact ⟨by omega,by simpa using this.2⟩
theorem clone_any {w:World} {v:Value} {W:List Wt} (h:WL w v W) :
  Calls Tryz.prog 78 #[v] w fun e w' => ∃ u,e = .returned u∧w'.ownsRow w.heap.size 60 2 u W.length (wtC W)∧Below w.heap.size w w':=by
 obtain ⟨i0,hi,hz0,hz1,hz2⟩:=info_parts info_wr
 obtain ⟨a,cap,rfl,hbig,hl⟩:=h
 have hs1 : ∀ n cap w,(binOp .eql 47 (.slice none n cap) (.slice none 0 0)).run Tryz.prog w = .ok (.bool true) w:=fun _ _ _=>rfl
 have hs2 : ∀ x n cap w,(binOp .eql 47 (.slice (some x) n cap) (.slice none 0 0)).run Tryz.prog w = .ok (.bool false) w:=fun _ _ _ _=>rfl
 by_cases h0:W = []
 ·subst h0
  have HNIL:Hid (∀ w:World,w.ownsRow w.heap.size 60 2 (.slice none 0 0) ([] : List Wt).length (wtC [])):=fun w=>World.ownsRow_nil _ _ _ _
  clear hl hbig
  cases a with
  | none =>
   go_enter Tryz.func78,Tryz.ntmps78
   go_wp2
   go_ret
   exact ⟨_,rfl,HNIL.out _,Below.refl _ _⟩
  | some x =>
   go_enter Tryz.func78,Tryz.ntmps78
   go_wp2
   go_ret
   exact ⟨_,rfl,⟨rfl,Or.inr ⟨w.heap.size,0,#[],rfl,Nat.le_refl _,heap_alloc_new _ _,Nat.le_refl _,Nat.zero_le _,rfl,rfl⟩⟩,below_a1 _ _⟩
 ·have hp:0 < W.length:=List.length_pos_iff.mpr h0
  obtain ⟨x,rfl,hxb,hcc⟩ : ∃ x,a=some x∧x.block < w.heap.size ∧ ∀ i,i < W.length→w.cell? (x.add (i * 2))=some (.int .i64 (W.getD i noWt).c)∧w.cell? ((x.add (i * 2)).add 1)=some (.int .i64 (W.getD i noWt).v):=by
   rcases hl with h | h
   ·exact absurd h h0
   ·exact h
  have hnews : ∀ j u,(wtC W)[j]? = some u→w.cell? (x.add j)=some u:=fun j u hu=>by
   obtain ⟨i,hi,⟨rfl,rfl⟩ | ⟨rfl,rfl⟩⟩:=wtC_flat hu
   ·exact (hcc i hi).1
   ·rw [← (hcc i hi).2,add_add2]
  have hlen:(wtC W).length=W.length * 2:=wtC_len _
  obtain ⟨v', w', hrun, hown', hgrow⟩ := run_copy_wide0 (P := Tryz.prog) (w.alloc (.cells #[] 60)) 47 47 60 i0 _ 2 16 Tryz.underlying47 hi hz0 hz1 hz2 rfl ⟨w.heap.size, 0, none⟩ x W.length cap (wtC W) hlen (fun j u hu => ((below_a1 w _).cell (p := x.add j) (by rw [add_block]; exact hxb)).trans (hnews j u hu)) hp (by unfold maxLen; omega) (by omega)
  have HO:Hid (w'.ownsRow w.heap.size 60 2 v' W.length (wtC W)):=own_base hown' (by simp)
  have HB:Hid (Below w.heap.size w w'):=below_then (below_a1 _ _) ⟨hgrow.os,hgrow.tape,hgrow.output,hgrow.size,fun b hb=>hgrow.block b hb (by simp)⟩
  obtain ⟨va,vc,rfl⟩:=own_slice HO.out
  generalize wtC W=xs at *
  generalize W.length=n at *
  clear hcc h0 hl hown' hgrow hlen hnews
  go_enter Tryz.func78,Tryz.ntmps78
  go_wp2_with (at_builtin; refine Lib.wpList_append_run_sl _ rfl _ _ 47 rfl _ _ rfl rfl hrun ?_)
  go_wp2
  go_ret
  exact ⟨_,rfl,HO.out,HB.out⟩
def tkB (ring st:Int) (W:List Wt):Bool:=decide (1≤ring) && decide (ring≤16) && decide (1≤st) && decide (st≤1099511627776) && decide (W.length≤24) && W.all fun x=>decide (0≤x.c) && decide (x.c < 1024)
def confB (raw s wr n:Int) (mu:Bool) (tr:Int) (v:Value):Value:=.agg #[.int .i64 raw,.int .i64 s,.int .i64 wr,.int .i64 n,.bool mu,.int .i64 tr,v]
theorem bnew_bad (w:World) (raw s wr n:Int) (mu:Bool) (tr:Int) (v:Value) (st:Int) {lv:Value} {W:List Wt} (hl:WL w lv W) (hno : ¬ (1≤s∧s≤16∧1≤st∧st≤1099511627776∧W.length≤24)) :
  Calls Tryz.prog 71 #[confB raw s wr n mu tr v,.int .i64 st,lv] w fun e w' => e = .returned (.tuple #[.pointer none,.int .i64 1])∧Below w.heap.size w w':=by
 obtain ⟨a,cap,rfl,_,_⟩:=hl
 unfold confB
 generalize W.length=m at *
 have hc:s < 1∨(¬ s < 1∧s > 16)∨(¬ s < 1 ∧ ¬ s > 16∧st < 1)∨(¬ s < 1 ∧ ¬ s > 16 ∧ ¬ st < 1∧st > 1099511627776)∨(¬ s < 1 ∧ ¬ s > 16 ∧ ¬ st < 1 ∧ ¬ st > 1099511627776∧(m:Int) > 24):=by omega
 clear hno
 rcases hc with c0 | ⟨c0,c1⟩ | ⟨c0,c1,c2⟩ | ⟨c0,c1,c2,c3⟩ | ⟨c0,c1,c2,c3,c4⟩
 all_goals
  go_enter Tryz.func71,Tryz.ntmps71
  go_wp2
  first
   | (go_ret2; exact ⟨rfl,below_a1 _ _⟩)
   | (go_quiet (fail); go_wp2; go_ret2; exact ⟨rfl,below_drawn (below_a1 _ _) _⟩)
theorem sv8 {s:List Nat} (hs:Sg.Ok s):Sg.sv s = .agg #[bsV s 0,bsV s 1,bsV s 2,bsV s 3,bsV s 4,bsV s 5,bsV s 6,bsV s 7]:=by
 have h8:=hs.1
 match s,h8 with
 | [_,_,_,_,_,_,_,_],_=>rfl
theorem BRaw.setSig {w:World} {Z:Nat} {s st:Int} {lv:Value} {sg:List Nat} {f:Value} {wd old:Int} {kn:Bool} {wr:Int} (h:BRaw w Z s st lv sg f wd old kn wr) (t:List Nat) :
  BRaw ((((((((w.setCell ⟨Z,3,none⟩ (bsV t 0)).setCell ⟨Z,4,none⟩ (bsV t 1)).setCell ⟨Z,5,none⟩ (bsV t 2)).setCell ⟨Z,6,none⟩ (bsV t 3)).setCell ⟨Z,7,none⟩ (bsV t 4)).setCell ⟨Z,8,none⟩ (bsV t 5)).setCell ⟨Z,9,none⟩ (bsV t 6)).setCell ⟨Z,10,none⟩ (bsV t 7)) Z s st lv t f wd old kn wr:=by
 have h0:w.heap[Z]? = some (.cells #[.int .i64 s,.int .i64 st,lv,bsV sg 0,bsV sg 1,bsV sg 2,bsV sg 3,bsV sg 4,bsV sg 5,bsV sg 6,bsV sg 7,f,.int .i64 wd,.int .i64 old,.bool kn,.int .i64 wr] 163 (0,0)):=h
 have h1:(w.setCell ⟨Z,3,none⟩ (bsV t 0)).heap[Z]? = some (.cells #[.int .i64 s,.int .i64 st,lv,bsV t 0,bsV sg 1,bsV sg 2,bsV sg 3,bsV sg 4,bsV sg 5,bsV sg 6,bsV sg 7,f,.int .i64 wd,.int .i64 old,.bool kn,.int .i64 wr] 163 (0,0)):=by rw [heap_set h0]; rfl
 have h2:((w.setCell ⟨Z,3,none⟩ (bsV t 0)).setCell ⟨Z,4,none⟩ (bsV t 1)).heap[Z]? = some (.cells #[.int .i64 s,.int .i64 st,lv,bsV t 0,bsV t 1,bsV sg 2,bsV sg 3,bsV sg 4,bsV sg 5,bsV sg 6,bsV sg 7,f,.int .i64 wd,.int .i64 old,.bool kn,.int .i64 wr] 163 (0,0)):=by rw [heap_set h1]; rfl
 have h3:(((w.setCell ⟨Z,3,none⟩ (bsV t 0)).setCell ⟨Z,4,none⟩ (bsV t 1)).setCell ⟨Z,5,none⟩ (bsV t 2)).heap[Z]? = some (.cells #[.int .i64 s,.int .i64 st,lv,bsV t 0,bsV t 1,bsV t 2,bsV sg 3,bsV sg 4,bsV sg 5,bsV sg 6,bsV sg 7,f,.int .i64 wd,.int .i64 old,.bool kn,.int .i64 wr] 163 (0,0)):=by rw [heap_set h2]; rfl
 have h4:((((w.setCell ⟨Z,3,none⟩ (bsV t 0)).setCell ⟨Z,4,none⟩ (bsV t 1)).setCell ⟨Z,5,none⟩ (bsV t 2)).setCell ⟨Z,6,none⟩ (bsV t 3)).heap[Z]? = some (.cells #[.int .i64 s,.int .i64 st,lv,bsV t 0,bsV t 1,bsV t 2,bsV t 3,bsV sg 4,bsV sg 5,bsV sg 6,bsV sg 7,f,.int .i64 wd,.int .i64 old,.bool kn,.int .i64 wr] 163 (0,0)):=by rw [heap_set h3]; rfl
 have h5:(((((w.setCell ⟨Z,3,none⟩ (bsV t 0)).setCell ⟨Z,4,none⟩ (bsV t 1)).setCell ⟨Z,5,none⟩ (bsV t 2)).setCell ⟨Z,6,none⟩ (bsV t 3)).setCell ⟨Z,7,none⟩ (bsV t 4)).heap[Z]? = some (.cells #[.int .i64 s,.int .i64 st,lv,bsV t 0,bsV t 1,bsV t 2,bsV t 3,bsV t 4,bsV sg 5,bsV sg 6,bsV sg 7,f,.int .i64 wd,.int .i64 old,.bool kn,.int .i64 wr] 163 (0,0)):=by rw [heap_set h4]; rfl
 have h6:((((((w.setCell ⟨Z,3,none⟩ (bsV t 0)).setCell ⟨Z,4,none⟩ (bsV t 1)).setCell ⟨Z,5,none⟩ (bsV t 2)).setCell ⟨Z,6,none⟩ (bsV t 3)).setCell ⟨Z,7,none⟩ (bsV t 4)).setCell ⟨Z,8,none⟩ (bsV t 5)).heap[Z]? = some (.cells #[.int .i64 s,.int .i64 st,lv,bsV t 0,bsV t 1,bsV t 2,bsV t 3,bsV t 4,bsV t 5,bsV sg 6,bsV sg 7,f,.int .i64 wd,.int .i64 old,.bool kn,.int .i64 wr] 163 (0,0)):=by rw [heap_set h5]; rfl
 have h7:(((((((w.setCell ⟨Z,3,none⟩ (bsV t 0)).setCell ⟨Z,4,none⟩ (bsV t 1)).setCell ⟨Z,5,none⟩ (bsV t 2)).setCell ⟨Z,6,none⟩ (bsV t 3)).setCell ⟨Z,7,none⟩ (bsV t 4)).setCell ⟨Z,8,none⟩ (bsV t 5)).setCell ⟨Z,9,none⟩ (bsV t 6)).heap[Z]? = some (.cells #[.int .i64 s,.int .i64 st,lv,bsV t 0,bsV t 1,bsV t 2,bsV t 3,bsV t 4,bsV t 5,bsV t 6,bsV sg 7,f,.int .i64 wd,.int .i64 old,.bool kn,.int .i64 wr] 163 (0,0)):=by rw [heap_set h6]; rfl
 have h8:((((((((w.setCell ⟨Z,3,none⟩ (bsV t 0)).setCell ⟨Z,4,none⟩ (bsV t 1)).setCell ⟨Z,5,none⟩ (bsV t 2)).setCell ⟨Z,6,none⟩ (bsV t 3)).setCell ⟨Z,7,none⟩ (bsV t 4)).setCell ⟨Z,8,none⟩ (bsV t 5)).setCell ⟨Z,9,none⟩ (bsV t 6)).setCell ⟨Z,10,none⟩ (bsV t 7)).heap[Z]? = some (.cells #[.int .i64 s,.int .i64 st,lv,bsV t 0,bsV t 1,bsV t 2,bsV t 3,bsV t 4,bsV t 5,bsV t 6,bsV t 7,f,.int .i64 wd,.int .i64 old,.bool kn,.int .i64 wr] 163 (0,0)):=by rw [heap_set h7]; rfl
 exact h8
theorem BRaw.set2 {w:World} {Z:Nat} {s st:Int} {lv:Value} {sg:List Nat} {f:Value} {wd old:Int} {kn:Bool} {wr:Int} (h:BRaw w Z s st lv sg f wd old kn wr) (v:Value):BRaw (w.setCell ⟨Z,2,none⟩ v) Z s st v sg f wd old kn wr:=by unfold BRaw; rw [heap_set h]; rfl
theorem sgOf_take (W:List Wt) (q:Nat) (hq:q < W.length):sgOf (W.take (q+1))=Sg.put (sgOf (W.take q)) (Sg.sigN (W.getD q noWt).c):=by
 rw [List.take_add_one,← sgOf_snoc]
 congr 2
 simp [hq]
set_option maxHeartbeats 1600000 in
theorem bnew_any (w:World) (raw wr n:Int) (mu:Bool) (tr:Int) (v:Value) {P:Bp} {lv:Value} (hl:WL w lv P.W) (h1:1≤P.s) (h2:P.s≤16) (h3:1≤P.st) (h4:P.st≤1099511627776) (h5:P.W.length≤24) :
  Calls Tryz.prog 71 #[confB raw (P.s:Int) wr n mu tr v,.int .i64 P.st,lv] w fun e w' => Below w.heap.size w w'∧(if tkB P.s P.st P.W then ∃ Z u,e = .returned (.tuple #[.pointer (some ⟨Z,0,none⟩),.int .i64 0])∧w.heap.size≤Z∧BRow w' Z ⟨P.s,P.st,P.W,sgOf P.W⟩ (bkNew P mu) u∧w'.ownsRow w.heap.size 60 2 u P.W.length (wtC P.W)∧(∀ k,u.ownBlock=some k→k≠Z) else e = .returned (.tuple #[.pointer none,.int .i64 1])):=by
 have HWI:Hid (∀ (s:List Nat),Sg.Ok s → ∀ c w,Calls Tryz.prog 65 #[Sg.sv s,.int .i64 c] w fun e w' => e = .returned (Sg.sv (Sg.put s (Sg.sigN c)))∧Below w.heap.size w w'):=fun s hs c w=>Sg.with_any s hs c w
 have HCL : Hid (∀ w', Below w.heap.size w w' → Calls Tryz.prog 78 #[lv] w' fun e w'' => ∃ u, e = .returned u ∧ w''.ownsRow w'.heap.size 60 2 u P.W.length (wtC P.W) ∧ Below w'.heap.size w' w'') := fun w' k => clone_any (hl.later k)
 obtain ⟨a,cap,rfl,_,hcc⟩:=hl
 have HD:Hid (∀ w' i,Below w.heap.size w w'→i < P.W.length → ∃ x,a=some x∧x.block < w.heap.size∧w'.cell? (x.add (i * 2))=some (.int .i64 (P.W.getD i noWt).c)∧w'.cell? ((x.add (i * 2)).add 1)=some (.int .i64 (P.W.getD i noWt).v)):=fun w' i k hi=>by
  rcases hcc with h | ⟨x,e1,e2,e3⟩
  ·rw [h] at hi; simp at hi
  ·exact ⟨x,e1,e2,(k.cell (p:=x.add (i * 2)) (by rw [add_block]; exact e2)).trans (e3 i hi).1,(k.cell (p:=(x.add (i * 2)).add 1) (by rw [add_block,add_block]; exact e2)).trans (e3 i hi).2⟩
 have d0 : ¬ (P.s:Int) < 1:=by omega
 have d1 : ¬ (P.s:Int) > 16:=by omega
 have d2 : ¬ P.st < 1:=by omega
 have d3 : ¬ P.st > 1099511627776:=by omega
 have d4 : ¬ ((P.W.length:Nat):Int) > 24:=by omega
 unfold confB
 clear hcc
 have HTY:Hid ((∀ i,i < P.W.length→0≤(P.W.getD i noWt).c∧(P.W.getD i noWt).c < 1024)→tkB P.s P.st P.W=true):=fun hh=>by
  unfold tkB
  simp only [Bool.and_eq_true,decide_eq_true_eq,List.all_eq_true]
  refine ⟨⟨⟨⟨⟨by omega,by omega⟩,h3⟩,h4⟩,h5⟩,fun x hx => ?_⟩
  obtain ⟨i,hi,rfl⟩:=List.getElem_of_mem hx
  have:=hh i hi
  rw [List.getD_eq_getElem?_getD,List.getElem?_eq_getElem hi] at this
  exact this
 have HTN:Hid (∀ i,i < P.W.length → ¬ (0≤(P.W.getD i noWt).c∧(P.W.getD i noWt).c < 1024)→tkB P.s P.st P.W=false):=fun i hi hh=>by
  unfold tkB
  rw [Bool.and_eq_false_iff]
  right
  rw [List.all_eq_false]
  exact ⟨P.W.getD i noWt,by rw [List.getD_eq_getElem?_getD,List.getElem?_eq_getElem hi]; simp,by simpa using hh⟩
 have HTK:Hid (∀ q,q < P.W.length→sgOf (P.W.take (q+1))=Sg.put (sgOf (P.W.take q)) (Sg.sigN (P.W.getD q noWt).c)):=fun q hq=>sgOf_take P.W q hq
 have HTL:Hid (sgOf (P.W.take P.W.length)=sgOf P.W):=by rw [Hid,List.take_length]
 obtain ⟨R,HR0⟩ : ∃ R:Ending→World→Prop,Hid (R=fun e w' => Below w.heap.size w w'∧(if tkB P.s P.st P.W then ∃ Z u,e = .returned (.tuple #[.pointer (some ⟨Z,0,none⟩),.int .i64 0])∧w.heap.size≤Z∧BRow w' Z ⟨P.s,P.st,P.W,sgOf P.W⟩ (bkNew P mu) u∧w'.ownsRow w.heap.size 60 2 u P.W.length (wtC P.W)∧(∀ k,u.ownBlock=some k→k≠Z) else e = .returned (.tuple #[.pointer none,.int .i64 1]))):=⟨_,rfl⟩
 rw [← HR0.out]
 generalize hm:P.W.length=m at *
 have HKV:Hid (∀ mu,(bkNew P mu).kn=(!mu || decide (P.s=1) || decide (P.st=1))):=fun _=>rfl
 obtain ⟨e1,k1⟩ : ∃ e1:Bool,decide ((P.s:Int)=1)=e1:=⟨_,rfl⟩
 obtain ⟨e2,k2⟩ : ∃ e2:Bool,decide (P.st=1)=e2:=⟨_,rfl⟩
 have hkn : ∃ kn:Bool,(bkNew P mu).kn=kn∧(!mu || e1 || e2)=kn:=⟨(!mu || e1 || e2),by rw [HKV.out,← k1,← k2]; congr 2; rw [Bool.eq_iff_iff]; simp; omega,rfl⟩
 obtain ⟨kn,hkn1,hkn2⟩:=hkn
 have HKN:Hid ((bkNew P mu).kn=kn):=hkn1
 clear hkn1
 have hc:(mu=false∧kn=true)∨(mu=true∧e1=true∧kn=true)∨(mu=true∧e1=false∧e2=true∧kn=true)∨(mu=true∧e1=false∧e2=false∧kn=false):=by
  cases mu <;> cases e1 <;> cases e2 <;> simp_all
 clear hkn2
 rcases hc with ⟨rfl,rfl⟩ | ⟨rfl,rfl,rfl⟩ | ⟨rfl,rfl,rfl,rfl⟩ | ⟨rfl,rfl,rfl,rfl⟩
 ·clear k1 k2
  go_enter Tryz.func71,Tryz.ntmps71
  go_wp2_with fail
  go_loopw [10,51] (fun _ iv wr => ∃ q:Nat,q≤m∧iv = .int .i64 q∧BRaw wr (w.heap.size+1) (P.s:Int) P.st (.slice none 0 0) (sgOf (P.W.take q)) .nilFunc 0 0 true 0∧Below w.heap.size w wr ∧ ∀ i,i < q→0≤(P.W.getD i noWt).c∧(P.W.getD i noWt).c < 1024) (fun _ iv _=>m - (intOf iv).toNat)
  case atStart=>exact ⟨0,by omega,rfl,heap_alloc2_new w _ _,below_alloc (below_a1 _ _) _,fun i hi=>by omega⟩
  case round =>
   obtain ⟨q,hq,rfl,hr,hb,hno⟩:=hrel
   have HB:Hid (Below w.heap.size w wr):=hb
   have HR:Hid (BRaw wr (w.heap.size+1) (P.s:Int) P.st (.slice none 0 0) (sgOf (P.W.take q)) .nilFunc 0 0 true 0):=hr
   have HNO:Hid (∀ i,i < q→0≤(P.W.getD i noWt).c∧(P.W.getD i noWt).c < 1024):=hno
   clear hb hno hr
   have hzr:w.heap.size+1 < wr.heap.size:=heap_lt HR.out
   by_cases hlt:q < m
   ·have d9:decide ((q:Int) < (m:Int))=true:=decide_eq_true (by omega)
    have hlt':(q:Int) < (m:Int):=by omega
    obtain ⟨x,rfl,hxb,c0,c1⟩:=HD.out _ q HB.out hlt
    rw [add_pos' _ _ (by decide)] at c1
    have HTQ:=HTK.out q hlt
    have HTNQ:=HTN.out q hlt
    have HNX:Hid ((0≤(P.W.getD q noWt).c∧(P.W.getD q noWt).c < 1024) → ∀ i,i < q+1→0≤(P.W.getD i noWt).c∧(P.W.getD i noWt).c < 1024):=fun hh i hi=>by
     by_cases e:i=q
     ·subst e; exact hh
     ·exact HNO.out i (by omega)
    generalize P.W.getD q noWt=y at *
    obtain ⟨yc,yv⟩:=y
    simp only at c0 c1 HTQ HTNQ HNX
    by_cases hyc:0≤yc∧yc < 1024
    ·have HYC:Hid (0≤yc∧yc < 1024):=hyc
     obtain ⟨hy0,hy1⟩:=hyc
     have y0 : ¬ yc < 0:=by omega
     have y1 : ¬ yc ≥ 1024:=by omega
     have HWT : ∀ w,_:=HWI.out (sgOf (P.W.take q)) (sgOf_ok _) yc
     rw [sv8 (sgOf_ok _),sv8 (by rw [← HTQ]; exact sgOf_ok _),← HTQ] at HWT
     have HW2:Hid (∀ w,Calls Tryz.prog 65 #[.agg #[bsV (sgOf (P.W.take q)) 0,bsV (sgOf (P.W.take q)) 1,bsV (sgOf (P.W.take q)) 2,bsV (sgOf (P.W.take q)) 3,bsV (sgOf (P.W.take q)) 4,bsV (sgOf (P.W.take q)) 5,bsV (sgOf (P.W.take q)) 6,bsV (sgOf (P.W.take q)) 7],.int .i64 yc] w fun e w' => e = .returned (.agg #[bsV (sgOf (P.W.take (q+1))) 0,bsV (sgOf (P.W.take (q+1))) 1,bsV (sgOf (P.W.take (q+1))) 2,bsV (sgOf (P.W.take (q+1))) 3,bsV (sgOf (P.W.take (q+1))) 4,bsV (sgOf (P.W.take (q+1))) 5,bsV (sgOf (P.W.take (q+1))) 6,bsV (sgOf (P.W.take (q+1))) 7])∧Below w.heap.size w w'):=HWT
     clear HWT HTQ HTNQ
     obtain ⟨m0,hm0⟩ : ∃ z:Nat,bsV (sgOf (P.W.take (q+1))) 0 = .int .u64 (z:Int):=⟨_,rfl⟩
     obtain ⟨m1,hm1⟩ : ∃ z:Nat,bsV (sgOf (P.W.take (q+1))) 1 = .int .u64 (z:Int):=⟨_,rfl⟩
     obtain ⟨m2,hm2⟩ : ∃ z:Nat,bsV (sgOf (P.W.take (q+1))) 2 = .int .u64 (z:Int):=⟨_,rfl⟩
     obtain ⟨m3,hm3⟩ : ∃ z:Nat,bsV (sgOf (P.W.take (q+1))) 3 = .int .u64 (z:Int):=⟨_,rfl⟩
     obtain ⟨m4,hm4⟩ : ∃ z:Nat,bsV (sgOf (P.W.take (q+1))) 4 = .int .u64 (z:Int):=⟨_,rfl⟩
     obtain ⟨m5,hm5⟩ : ∃ z:Nat,bsV (sgOf (P.W.take (q+1))) 5 = .int .u64 (z:Int):=⟨_,rfl⟩
     obtain ⟨m6,hm6⟩ : ∃ z:Nat,bsV (sgOf (P.W.take (q+1))) 6 = .int .u64 (z:Int):=⟨_,rfl⟩
     obtain ⟨m7,hm7⟩ : ∃ z:Nat,bsV (sgOf (P.W.take (q+1))) 7 = .int .u64 (z:Int):=⟨_,rfl⟩
     have HSS:Hid (∀ wQ,BRaw wQ (w.heap.size+1) (P.s:Int) P.st (.slice none 0 0) (sgOf (P.W.take q)) .nilFunc 0 0 true 0→BRaw ((((((((wQ.setCell ⟨w.heap.size+1,3,none⟩ (.int .u64 (m0:Int))).setCell ⟨w.heap.size+1,4,none⟩ (.int .u64 (m1:Int))).setCell ⟨w.heap.size+1,5,none⟩ (.int .u64 (m2:Int))).setCell ⟨w.heap.size+1,6,none⟩ (.int .u64 (m3:Int))).setCell ⟨w.heap.size+1,7,none⟩ (.int .u64 (m4:Int))).setCell ⟨w.heap.size+1,8,none⟩ (.int .u64 (m5:Int))).setCell ⟨w.heap.size+1,9,none⟩ (.int .u64 (m6:Int))).setCell ⟨w.heap.size+1,10,none⟩ (.int .u64 (m7:Int))) (w.heap.size+1) (P.s:Int) P.st (.slice none 0 0) (sgOf (P.W.take (q+1))) .nilFunc 0 0 true 0):=fun wQ h=>by
      have:=BRaw.setSig h (sgOf (P.W.take (q+1)))
      rw [hm0,hm1,hm2,hm3,hm4,hm5,hm6,hm7] at this
      exact this
     rw [hm0,hm1,hm2,hm3,hm4,hm5,hm6,hm7] at HW2
     clear hm0 hm1 hm2 hm3 hm4 hm5 hm6 hm7
     obtain ⟨s3,s4,s5,s6,s7,s8,s9,s10⟩:=BRaw.sig HR.out
     go_wp2_with fail
     go_region_with ((go_at_call 65; refine (HW2.out _).mono ?_; rintro e wQ ⟨rfl,hbQ⟩; have HQ:Hid (Below wr.heap.size wr wQ):=below_then (below_drawn (below_a1 _ _) 1) hbQ; clear hbQ; have HRQ:Hid (BRaw wQ (w.heap.size+1) (P.s:Int) P.st (.slice none 0 0) (sgOf (P.W.take q)) .nilFunc 0 0 true 0):=BRaw.below HR.out HQ.out hzr; obtain ⟨t3,t4,t5,t6,t7,t8,t9,t10⟩:=BRaw.sig HRQ.out; have z3:=frozen_at HRQ.out 3; have z4:=frozen_at HRQ.out 4; have z5:=frozen_at HRQ.out 5; have z6:=frozen_at HRQ.out 6; have z7:=frozen_at HRQ.out 7; have z8:=frozen_at HRQ.out 8; have z9:=frozen_at HRQ.out 9; have z10:=frozen_at HRQ.out 10))
     all_goals
      have HN2:Hid (BRaw ((((((((wQ.setCell ⟨w.heap.size+1,3,none⟩ (.int .u64 (m0:Int))).setCell ⟨w.heap.size+1,4,none⟩ (.int .u64 (m1:Int))).setCell ⟨w.heap.size+1,5,none⟩ (.int .u64 (m2:Int))).setCell ⟨w.heap.size+1,6,none⟩ (.int .u64 (m3:Int))).setCell ⟨w.heap.size+1,7,none⟩ (.int .u64 (m4:Int))).setCell ⟨w.heap.size+1,8,none⟩ (.int .u64 (m5:Int))).setCell ⟨w.heap.size+1,9,none⟩ (.int .u64 (m6:Int))).setCell ⟨w.heap.size+1,10,none⟩ (.int .u64 (m7:Int))) (w.heap.size+1) (P.s:Int) P.st (.slice none 0 0) (sgOf (P.W.take (q+1))) .nilFunc 0 0 true 0):=HSS.out _ HRQ.out
      have hws:w.heap.size≤wr.heap.size:=HB.out.size
      have HBN:Hid (Below w.heap.size w ((((((((wQ.setCell ⟨w.heap.size+1,3,none⟩ (.int .u64 (m0:Int))).setCell ⟨w.heap.size+1,4,none⟩ (.int .u64 (m1:Int))).setCell ⟨w.heap.size+1,5,none⟩ (.int .u64 (m2:Int))).setCell ⟨w.heap.size+1,6,none⟩ (.int .u64 (m3:Int))).setCell ⟨w.heap.size+1,7,none⟩ (.int .u64 (m4:Int))).setCell ⟨w.heap.size+1,8,none⟩ (.int .u64 (m5:Int))).setCell ⟨w.heap.size+1,9,none⟩ (.int .u64 (m6:Int))).setCell ⟨w.heap.size+1,10,none⟩ (.int .u64 (m7:Int)))):=(((((((((HB.out.trans (HQ.out.mono hws)).setCell (Nat.le_add_right _ 1) _).setCell (Nat.le_add_right _ 1) _).setCell (Nat.le_add_right _ 1) _).setCell (Nat.le_add_right _ 1) _).setCell (Nat.le_add_right _ 1) _).setCell (Nat.le_add_right _ 1) _).setCell (Nat.le_add_right _ 1) _).setCell (Nat.le_add_right _ 1) _)
      clear s3 s4 s5 s6 s7 s8 s9 s10 t3 t4 t5 t6 t7 t8 t9 t10 z3 z4 z5 z6 z7 z8 z9 z10
      go_wp2
      go_roundw
      case rel=>exact ⟨q+1,by omega,by go_num,HN2.out,HBN.out,HNX.out HYC.out⟩
      case measure=>simp [intOf]; omega
    ·have HT0:Hid (tkB P.s P.st P.W=false):=HTNQ hyc
     have hyc2:yc < 0∨(¬ yc < 0∧yc ≥ 1024):=by omega
     clear HTQ HTNQ hyc
     rcases hyc2 with y0 | ⟨y0,y1⟩
     all_goals
      go_wp2
      rw [HR0.out]
      exact ⟨below_alloc HB.out _,by rw [if_neg (by rw [HT0.out]; simp)] <;> rfl⟩
   ·obtain rfl:q=m:=by omega
    have d9:decide ((q:Int) < (q:Int))=false:=by simp
    have HTT:Hid (tkB P.s P.st P.W=true):=HTY.out HNO.out
    have HRL:Hid (BRaw wr (w.heap.size+1) (P.s:Int) P.st (.slice none 0 0) (sgOf P.W) .nilFunc 0 0 true 0):=by
     have:=HR.out
     rw [HTL.out] at this
     exact this
    go_wp2_with fail
    refine (HCL.out _ HB.out).mono ?_
    rintro e w1 ⟨u,rfl,ho1,hb1⟩
    have HO1:Hid (w1.ownsRow wr.heap.size 60 2 u q (wtC P.W)):=ho1
    have HB1:Hid (Below wr.heap.size wr w1):=hb1
    obtain ⟨ua,ucap,rfl⟩:=own_slice ho1
    clear ho1 hb1
    have HR1:Hid (BRaw w1 (w.heap.size+1) (P.s:Int) P.st (.slice none 0 0) (sgOf P.W) .nilFunc 0 0 true 0):=BRaw.below HRL.out HB1.out hzr
    obtain ⟨x0,x1,x2,x11,x12,x13,x14,x15⟩:=BRaw.cells HR1.out
    have f2:=frozen_at HR1.out 2
    have f11:=frozen_at HR1.out 11
    have hz1:w.heap.size+1 < w1.heap.size:=heap_lt HR1.out
    have HF:Hid (R (.returned (.tuple #[.pointer (some ⟨w.heap.size+1,0,none⟩),.int .i64 0])) ((w1.setCell ⟨w.heap.size+1,2,none⟩ (.slice ua q ucap)).setCell ⟨w.heap.size+1,11,none⟩ (.func (.func 79) #[] #[]))):=by
     have hkz:Keep [w.heap.size+1] w1 ((w1.setCell ⟨w.heap.size+1,2,none⟩ (.slice ua q ucap)).setCell ⟨w.heap.size+1,11,none⟩ (.func (.func 79) #[] #[])):=keepZ (keepZ (Keep.refl _ _) _ _) _ _
     have hws:w.heap.size≤wr.heap.size:=HB.out.size
     have hne : ∀ k,(Value.slice ua q ucap).ownBlock=some k→k≠w.heap.size+1:=fun k hk=>by
      have:=(own_block HO1.out k hk).1
      omega
     rw [Hid,HR0.out]
     refine ⟨((HB.out.trans (HB1.out.mono hws)).setCell (Nat.le_add_right _ 1) _).setCell (Nat.le_add_right _ 1) _, ?_⟩
     rw [if_pos HTT.out]
     refine ⟨_,_,rfl,Nat.le_add_right _ 1, ?_,own_base (own_keep HO1.out hkz (fun k hk=>by simpa using hne k hk)) hws,hne⟩
     unfold BRow
     rw [show (bkNew P false).kn=true from HKN.out]
     exact BRaw.set11 (BRaw.set2 HR1.out _) (fnB 1)
    go_wp2
    exact HF.out
 ·have q1:((P.s:Int)=1)=True:=eq_true (of_decide_eq_true k1)
  clear k1 k2
  go_enter Tryz.func71,Tryz.ntmps71
  go_wp2_with fail
  go_loopw [10,51] (fun _ iv wr => ∃ q:Nat,q≤m∧iv = .int .i64 q∧BRaw wr (w.heap.size+1) (P.s:Int) P.st (.slice none 0 0) (sgOf (P.W.take q)) .nilFunc 0 0 true 0∧Below w.heap.size w wr ∧ ∀ i,i < q→0≤(P.W.getD i noWt).c∧(P.W.getD i noWt).c < 1024) (fun _ iv _=>m - (intOf iv).toNat)
  case atStart=>exact ⟨0,by omega,rfl,heap_alloc2_new w _ _,below_alloc (below_a1 _ _) _,fun i hi=>by omega⟩
  case round =>
   obtain ⟨q,hq,rfl,hr,hb,hno⟩:=hrel
   have HB:Hid (Below w.heap.size w wr):=hb
   have HR:Hid (BRaw wr (w.heap.size+1) (P.s:Int) P.st (.slice none 0 0) (sgOf (P.W.take q)) .nilFunc 0 0 true 0):=hr
   have HNO:Hid (∀ i,i < q→0≤(P.W.getD i noWt).c∧(P.W.getD i noWt).c < 1024):=hno
   clear hb hno hr
   have hzr:w.heap.size+1 < wr.heap.size:=heap_lt HR.out
   by_cases hlt:q < m
   ·have d9:decide ((q:Int) < (m:Int))=true:=decide_eq_true (by omega)
    have hlt':(q:Int) < (m:Int):=by omega
    obtain ⟨x,rfl,hxb,c0,c1⟩:=HD.out _ q HB.out hlt
    rw [add_pos' _ _ (by decide)] at c1
    have HTQ:=HTK.out q hlt
    have HTNQ:=HTN.out q hlt
    have HNX:Hid ((0≤(P.W.getD q noWt).c∧(P.W.getD q noWt).c < 1024) → ∀ i,i < q+1→0≤(P.W.getD i noWt).c∧(P.W.getD i noWt).c < 1024):=fun hh i hi=>by
     by_cases e:i=q
     ·subst e; exact hh
     ·exact HNO.out i (by omega)
    generalize P.W.getD q noWt=y at *
    obtain ⟨yc,yv⟩:=y
    simp only at c0 c1 HTQ HTNQ HNX
    by_cases hyc:0≤yc∧yc < 1024
    ·have HYC:Hid (0≤yc∧yc < 1024):=hyc
     obtain ⟨hy0,hy1⟩:=hyc
     have y0 : ¬ yc < 0:=by omega
     have y1 : ¬ yc ≥ 1024:=by omega
     have HWT : ∀ w,_:=HWI.out (sgOf (P.W.take q)) (sgOf_ok _) yc
     rw [sv8 (sgOf_ok _),sv8 (by rw [← HTQ]; exact sgOf_ok _),← HTQ] at HWT
     have HW2:Hid (∀ w,Calls Tryz.prog 65 #[.agg #[bsV (sgOf (P.W.take q)) 0,bsV (sgOf (P.W.take q)) 1,bsV (sgOf (P.W.take q)) 2,bsV (sgOf (P.W.take q)) 3,bsV (sgOf (P.W.take q)) 4,bsV (sgOf (P.W.take q)) 5,bsV (sgOf (P.W.take q)) 6,bsV (sgOf (P.W.take q)) 7],.int .i64 yc] w fun e w' => e = .returned (.agg #[bsV (sgOf (P.W.take (q+1))) 0,bsV (sgOf (P.W.take (q+1))) 1,bsV (sgOf (P.W.take (q+1))) 2,bsV (sgOf (P.W.take (q+1))) 3,bsV (sgOf (P.W.take (q+1))) 4,bsV (sgOf (P.W.take (q+1))) 5,bsV (sgOf (P.W.take (q+1))) 6,bsV (sgOf (P.W.take (q+1))) 7])∧Below w.heap.size w w'):=HWT
     clear HWT HTQ HTNQ
     obtain ⟨m0,hm0⟩ : ∃ z:Nat,bsV (sgOf (P.W.take (q+1))) 0 = .int .u64 (z:Int):=⟨_,rfl⟩
     obtain ⟨m1,hm1⟩ : ∃ z:Nat,bsV (sgOf (P.W.take (q+1))) 1 = .int .u64 (z:Int):=⟨_,rfl⟩
     obtain ⟨m2,hm2⟩ : ∃ z:Nat,bsV (sgOf (P.W.take (q+1))) 2 = .int .u64 (z:Int):=⟨_,rfl⟩
     obtain ⟨m3,hm3⟩ : ∃ z:Nat,bsV (sgOf (P.W.take (q+1))) 3 = .int .u64 (z:Int):=⟨_,rfl⟩
     obtain ⟨m4,hm4⟩ : ∃ z:Nat,bsV (sgOf (P.W.take (q+1))) 4 = .int .u64 (z:Int):=⟨_,rfl⟩
     obtain ⟨m5,hm5⟩ : ∃ z:Nat,bsV (sgOf (P.W.take (q+1))) 5 = .int .u64 (z:Int):=⟨_,rfl⟩
     obtain ⟨m6,hm6⟩ : ∃ z:Nat,bsV (sgOf (P.W.take (q+1))) 6 = .int .u64 (z:Int):=⟨_,rfl⟩
     obtain ⟨m7,hm7⟩ : ∃ z:Nat,bsV (sgOf (P.W.take (q+1))) 7 = .int .u64 (z:Int):=⟨_,rfl⟩
     have HSS:Hid (∀ wQ,BRaw wQ (w.heap.size+1) (P.s:Int) P.st (.slice none 0 0) (sgOf (P.W.take q)) .nilFunc 0 0 true 0→BRaw ((((((((wQ.setCell ⟨w.heap.size+1,3,none⟩ (.int .u64 (m0:Int))).setCell ⟨w.heap.size+1,4,none⟩ (.int .u64 (m1:Int))).setCell ⟨w.heap.size+1,5,none⟩ (.int .u64 (m2:Int))).setCell ⟨w.heap.size+1,6,none⟩ (.int .u64 (m3:Int))).setCell ⟨w.heap.size+1,7,none⟩ (.int .u64 (m4:Int))).setCell ⟨w.heap.size+1,8,none⟩ (.int .u64 (m5:Int))).setCell ⟨w.heap.size+1,9,none⟩ (.int .u64 (m6:Int))).setCell ⟨w.heap.size+1,10,none⟩ (.int .u64 (m7:Int))) (w.heap.size+1) (P.s:Int) P.st (.slice none 0 0) (sgOf (P.W.take (q+1))) .nilFunc 0 0 true 0):=fun wQ h=>by
      have:=BRaw.setSig h (sgOf (P.W.take (q+1)))
      rw [hm0,hm1,hm2,hm3,hm4,hm5,hm6,hm7] at this
      exact this
     rw [hm0,hm1,hm2,hm3,hm4,hm5,hm6,hm7] at HW2
     clear hm0 hm1 hm2 hm3 hm4 hm5 hm6 hm7
     obtain ⟨s3,s4,s5,s6,s7,s8,s9,s10⟩:=BRaw.sig HR.out
     go_wp2_with fail
     go_region_with ((go_at_call 65; refine (HW2.out _).mono ?_; rintro e wQ ⟨rfl,hbQ⟩; have HQ:Hid (Below wr.heap.size wr wQ):=below_then (below_drawn (below_a1 _ _) 1) hbQ; clear hbQ; have HRQ:Hid (BRaw wQ (w.heap.size+1) (P.s:Int) P.st (.slice none 0 0) (sgOf (P.W.take q)) .nilFunc 0 0 true 0):=BRaw.below HR.out HQ.out hzr; obtain ⟨t3,t4,t5,t6,t7,t8,t9,t10⟩:=BRaw.sig HRQ.out; have z3:=frozen_at HRQ.out 3; have z4:=frozen_at HRQ.out 4; have z5:=frozen_at HRQ.out 5; have z6:=frozen_at HRQ.out 6; have z7:=frozen_at HRQ.out 7; have z8:=frozen_at HRQ.out 8; have z9:=frozen_at HRQ.out 9; have z10:=frozen_at HRQ.out 10))
     all_goals
      have HN2:Hid (BRaw ((((((((wQ.setCell ⟨w.heap.size+1,3,none⟩ (.int .u64 (m0:Int))).setCell ⟨w.heap.size+1,4,none⟩ (.int .u64 (m1:Int))).setCell ⟨w.heap.size+1,5,none⟩ (.int .u64 (m2:Int))).setCell ⟨w.heap.size+1,6,none⟩ (.int .u64 (m3:Int))).setCell ⟨w.heap.size+1,7,none⟩ (.int .u64 (m4:Int))).setCell ⟨w.heap.size+1,8,none⟩ (.int .u64 (m5:Int))).setCell ⟨w.heap.size+1,9,none⟩ (.int .u64 (m6:Int))).setCell ⟨w.heap.size+1,10,none⟩ (.int .u64 (m7:Int))) (w.heap.size+1) (P.s:Int) P.st (.slice none 0 0) (sgOf (P.W.take (q+1))) .nilFunc 0 0 true 0):=HSS.out _ HRQ.out
      have hws:w.heap.size≤wr.heap.size:=HB.out.size
      have HBN:Hid (Below w.heap.size w ((((((((wQ.setCell ⟨w.heap.size+1,3,none⟩ (.int .u64 (m0:Int))).setCell ⟨w.heap.size+1,4,none⟩ (.int .u64 (m1:Int))).setCell ⟨w.heap.size+1,5,none⟩ (.int .u64 (m2:Int))).setCell ⟨w.heap.size+1,6,none⟩ (.int .u64 (m3:Int))).setCell ⟨w.heap.size+1,7,none⟩ (.int .u64 (m4:Int))).setCell ⟨w.heap.size+1,8,none⟩ (.int .u64 (m5:Int))).setCell ⟨w.heap.size+1,9,none⟩ (.int .u64 (m6:Int))).setCell ⟨w.heap.size+1,10,none⟩ (.int .u64 (m7:Int)))):=(((((((((HB.out.trans (HQ.out.mono hws)).setCell (Nat.le_add_right _ 1) _).setCell (Nat.le_add_right _ 1) _).setCell (Nat.le_add_right _ 1) _).setCell (Nat.le_add_right _ 1) _).setCell (Nat.le_add_right _ 1) _).setCell (Nat.le_add_right _ 1) _).setCell (Nat.le_add_right _ 1) _).setCell (Nat.le_add_right _ 1) _)
      clear s3 s4 s5 s6 s7 s8 s9 s10 t3 t4 t5 t6 t7 t8 t9 t10 z3 z4 z5 z6 z7 z8 z9 z10
      go_wp2
      go_roundw
      case rel=>exact ⟨q+1,by omega,by go_num,HN2.out,HBN.out,HNX.out HYC.out⟩
      case measure=>simp [intOf]; omega
    ·have HT0:Hid (tkB P.s P.st P.W=false):=HTNQ hyc
     have hyc2:yc < 0∨(¬ yc < 0∧yc ≥ 1024):=by omega
     clear HTQ HTNQ hyc
     rcases hyc2 with y0 | ⟨y0,y1⟩
     all_goals
      go_wp2
      rw [HR0.out]
      exact ⟨below_alloc HB.out _,by rw [if_neg (by rw [HT0.out]; simp)] <;> rfl⟩
   ·obtain rfl:q=m:=by omega
    have d9:decide ((q:Int) < (q:Int))=false:=by simp
    have HTT:Hid (tkB P.s P.st P.W=true):=HTY.out HNO.out
    have HRL:Hid (BRaw wr (w.heap.size+1) (P.s:Int) P.st (.slice none 0 0) (sgOf P.W) .nilFunc 0 0 true 0):=by
     have:=HR.out
     rw [HTL.out] at this
     exact this
    go_wp2_with fail
    refine (HCL.out _ HB.out).mono ?_
    rintro e w1 ⟨u,rfl,ho1,hb1⟩
    have HO1:Hid (w1.ownsRow wr.heap.size 60 2 u q (wtC P.W)):=ho1
    have HB1:Hid (Below wr.heap.size wr w1):=hb1
    obtain ⟨ua,ucap,rfl⟩:=own_slice ho1
    clear ho1 hb1
    have HR1:Hid (BRaw w1 (w.heap.size+1) (P.s:Int) P.st (.slice none 0 0) (sgOf P.W) .nilFunc 0 0 true 0):=BRaw.below HRL.out HB1.out hzr
    obtain ⟨x0,x1,x2,x11,x12,x13,x14,x15⟩:=BRaw.cells HR1.out
    have f2:=frozen_at HR1.out 2
    have f11:=frozen_at HR1.out 11
    have hz1:w.heap.size+1 < w1.heap.size:=heap_lt HR1.out
    have HF:Hid (R (.returned (.tuple #[.pointer (some ⟨w.heap.size+1,0,none⟩),.int .i64 0])) ((w1.setCell ⟨w.heap.size+1,2,none⟩ (.slice ua q ucap)).setCell ⟨w.heap.size+1,11,none⟩ (.func (.func 79) #[] #[]))):=by
     have hkz:Keep [w.heap.size+1] w1 ((w1.setCell ⟨w.heap.size+1,2,none⟩ (.slice ua q ucap)).setCell ⟨w.heap.size+1,11,none⟩ (.func (.func 79) #[] #[])):=keepZ (keepZ (Keep.refl _ _) _ _) _ _
     have hws:w.heap.size≤wr.heap.size:=HB.out.size
     have hne : ∀ k,(Value.slice ua q ucap).ownBlock=some k→k≠w.heap.size+1:=fun k hk=>by
      have:=(own_block HO1.out k hk).1
      omega
     rw [Hid,HR0.out]
     refine ⟨((HB.out.trans (HB1.out.mono hws)).setCell (Nat.le_add_right _ 1) _).setCell (Nat.le_add_right _ 1) _, ?_⟩
     rw [if_pos HTT.out]
     refine ⟨_,_,rfl,Nat.le_add_right _ 1, ?_,own_base (own_keep HO1.out hkz (fun k hk=>by simpa using hne k hk)) hws,hne⟩
     unfold BRow
     rw [show (bkNew P true).kn=true from HKN.out]
     exact BRaw.set11 (BRaw.set2 HR1.out _) (fnB 1)
    go_wp2
    exact HF.out
 ·have q1 : ¬ (P.s:Int)=1:=of_decide_eq_false k1
  have q2:(P.st=1)=True:=eq_true (of_decide_eq_true k2)
  have HKB:Hid (((P.s:Int) == 1 || P.st == 1)=true):=by rw [Hid,Bool.eq_iff_iff]; simp; right; exact of_decide_eq_true k2
  clear k1 k2
  go_enter Tryz.func71,Tryz.ntmps71
  go_wp2_with fail
  go_loopw [10,51] (fun _ iv wr => ∃ q:Nat,q≤m∧iv = .int .i64 q∧BRaw wr (w.heap.size+1) (P.s:Int) P.st (.slice none 0 0) (sgOf (P.W.take q)) .nilFunc 0 0 true 0∧Below w.heap.size w wr ∧ ∀ i,i < q→0≤(P.W.getD i noWt).c∧(P.W.getD i noWt).c < 1024) (fun _ iv _=>m - (intOf iv).toNat)
  case atStart=>exact ⟨0,by omega,rfl,by rw [HKB.out]; exact heap_alloc2_new w _ _,below_alloc (below_a1 _ _) _,fun i hi=>by omega⟩
  case round =>
   obtain ⟨q,hq,rfl,hr,hb,hno⟩:=hrel
   have HB:Hid (Below w.heap.size w wr):=hb
   have HR:Hid (BRaw wr (w.heap.size+1) (P.s:Int) P.st (.slice none 0 0) (sgOf (P.W.take q)) .nilFunc 0 0 true 0):=hr
   have HNO:Hid (∀ i,i < q→0≤(P.W.getD i noWt).c∧(P.W.getD i noWt).c < 1024):=hno
   clear hb hno hr
   have hzr:w.heap.size+1 < wr.heap.size:=heap_lt HR.out
   by_cases hlt:q < m
   ·have d9:decide ((q:Int) < (m:Int))=true:=decide_eq_true (by omega)
    have hlt':(q:Int) < (m:Int):=by omega
    obtain ⟨x,rfl,hxb,c0,c1⟩:=HD.out _ q HB.out hlt
    rw [add_pos' _ _ (by decide)] at c1
    have HTQ:=HTK.out q hlt
    have HTNQ:=HTN.out q hlt
    have HNX:Hid ((0≤(P.W.getD q noWt).c∧(P.W.getD q noWt).c < 1024) → ∀ i,i < q+1→0≤(P.W.getD i noWt).c∧(P.W.getD i noWt).c < 1024):=fun hh i hi=>by
     by_cases e:i=q
     ·subst e; exact hh
     ·exact HNO.out i (by omega)
    generalize P.W.getD q noWt=y at *
    obtain ⟨yc,yv⟩:=y
    simp only at c0 c1 HTQ HTNQ HNX
    by_cases hyc:0≤yc∧yc < 1024
    ·have HYC:Hid (0≤yc∧yc < 1024):=hyc
     obtain ⟨hy0,hy1⟩:=hyc
     have y0 : ¬ yc < 0:=by omega
     have y1 : ¬ yc ≥ 1024:=by omega
     have HWT : ∀ w,_:=HWI.out (sgOf (P.W.take q)) (sgOf_ok _) yc
     rw [sv8 (sgOf_ok _),sv8 (by rw [← HTQ]; exact sgOf_ok _),← HTQ] at HWT
     have HW2:Hid (∀ w,Calls Tryz.prog 65 #[.agg #[bsV (sgOf (P.W.take q)) 0,bsV (sgOf (P.W.take q)) 1,bsV (sgOf (P.W.take q)) 2,bsV (sgOf (P.W.take q)) 3,bsV (sgOf (P.W.take q)) 4,bsV (sgOf (P.W.take q)) 5,bsV (sgOf (P.W.take q)) 6,bsV (sgOf (P.W.take q)) 7],.int .i64 yc] w fun e w' => e = .returned (.agg #[bsV (sgOf (P.W.take (q+1))) 0,bsV (sgOf (P.W.take (q+1))) 1,bsV (sgOf (P.W.take (q+1))) 2,bsV (sgOf (P.W.take (q+1))) 3,bsV (sgOf (P.W.take (q+1))) 4,bsV (sgOf (P.W.take (q+1))) 5,bsV (sgOf (P.W.take (q+1))) 6,bsV (sgOf (P.W.take (q+1))) 7])∧Below w.heap.size w w'):=HWT
     clear HWT HTQ HTNQ
     obtain ⟨m0,hm0⟩ : ∃ z:Nat,bsV (sgOf (P.W.take (q+1))) 0 = .int .u64 (z:Int):=⟨_,rfl⟩
     obtain ⟨m1,hm1⟩ : ∃ z:Nat,bsV (sgOf (P.W.take (q+1))) 1 = .int .u64 (z:Int):=⟨_,rfl⟩
     obtain ⟨m2,hm2⟩ : ∃ z:Nat,bsV (sgOf (P.W.take (q+1))) 2 = .int .u64 (z:Int):=⟨_,rfl⟩
     obtain ⟨m3,hm3⟩ : ∃ z:Nat,bsV (sgOf (P.W.take (q+1))) 3 = .int .u64 (z:Int):=⟨_,rfl⟩
     obtain ⟨m4,hm4⟩ : ∃ z:Nat,bsV (sgOf (P.W.take (q+1))) 4 = .int .u64 (z:Int):=⟨_,rfl⟩
     obtain ⟨m5,hm5⟩ : ∃ z:Nat,bsV (sgOf (P.W.take (q+1))) 5 = .int .u64 (z:Int):=⟨_,rfl⟩
     obtain ⟨m6,hm6⟩ : ∃ z:Nat,bsV (sgOf (P.W.take (q+1))) 6 = .int .u64 (z:Int):=⟨_,rfl⟩
     obtain ⟨m7,hm7⟩ : ∃ z:Nat,bsV (sgOf (P.W.take (q+1))) 7 = .int .u64 (z:Int):=⟨_,rfl⟩
     have HSS:Hid (∀ wQ,BRaw wQ (w.heap.size+1) (P.s:Int) P.st (.slice none 0 0) (sgOf (P.W.take q)) .nilFunc 0 0 true 0→BRaw ((((((((wQ.setCell ⟨w.heap.size+1,3,none⟩ (.int .u64 (m0:Int))).setCell ⟨w.heap.size+1,4,none⟩ (.int .u64 (m1:Int))).setCell ⟨w.heap.size+1,5,none⟩ (.int .u64 (m2:Int))).setCell ⟨w.heap.size+1,6,none⟩ (.int .u64 (m3:Int))).setCell ⟨w.heap.size+1,7,none⟩ (.int .u64 (m4:Int))).setCell ⟨w.heap.size+1,8,none⟩ (.int .u64 (m5:Int))).setCell ⟨w.heap.size+1,9,none⟩ (.int .u64 (m6:Int))).setCell ⟨w.heap.size+1,10,none⟩ (.int .u64 (m7:Int))) (w.heap.size+1) (P.s:Int) P.st (.slice none 0 0) (sgOf (P.W.take (q+1))) .nilFunc 0 0 true 0):=fun wQ h=>by
      have:=BRaw.setSig h (sgOf (P.W.take (q+1)))
      rw [hm0,hm1,hm2,hm3,hm4,hm5,hm6,hm7] at this
      exact this
     rw [hm0,hm1,hm2,hm3,hm4,hm5,hm6,hm7] at HW2
     clear hm0 hm1 hm2 hm3 hm4 hm5 hm6 hm7
     obtain ⟨s3,s4,s5,s6,s7,s8,s9,s10⟩:=BRaw.sig HR.out
     go_wp2_with fail
     go_region_with ((go_at_call 65; refine (HW2.out _).mono ?_; rintro e wQ ⟨rfl,hbQ⟩; have HQ:Hid (Below wr.heap.size wr wQ):=below_then (below_drawn (below_a1 _ _) 1) hbQ; clear hbQ; have HRQ:Hid (BRaw wQ (w.heap.size+1) (P.s:Int) P.st (.slice none 0 0) (sgOf (P.W.take q)) .nilFunc 0 0 true 0):=BRaw.below HR.out HQ.out hzr; obtain ⟨t3,t4,t5,t6,t7,t8,t9,t10⟩:=BRaw.sig HRQ.out; have z3:=frozen_at HRQ.out 3; have z4:=frozen_at HRQ.out 4; have z5:=frozen_at HRQ.out 5; have z6:=frozen_at HRQ.out 6; have z7:=frozen_at HRQ.out 7; have z8:=frozen_at HRQ.out 8; have z9:=frozen_at HRQ.out 9; have z10:=frozen_at HRQ.out 10))
     all_goals
      have HN2:Hid (BRaw ((((((((wQ.setCell ⟨w.heap.size+1,3,none⟩ (.int .u64 (m0:Int))).setCell ⟨w.heap.size+1,4,none⟩ (.int .u64 (m1:Int))).setCell ⟨w.heap.size+1,5,none⟩ (.int .u64 (m2:Int))).setCell ⟨w.heap.size+1,6,none⟩ (.int .u64 (m3:Int))).setCell ⟨w.heap.size+1,7,none⟩ (.int .u64 (m4:Int))).setCell ⟨w.heap.size+1,8,none⟩ (.int .u64 (m5:Int))).setCell ⟨w.heap.size+1,9,none⟩ (.int .u64 (m6:Int))).setCell ⟨w.heap.size+1,10,none⟩ (.int .u64 (m7:Int))) (w.heap.size+1) (P.s:Int) P.st (.slice none 0 0) (sgOf (P.W.take (q+1))) .nilFunc 0 0 true 0):=HSS.out _ HRQ.out
      have hws:w.heap.size≤wr.heap.size:=HB.out.size
      have HBN:Hid (Below w.heap.size w ((((((((wQ.setCell ⟨w.heap.size+1,3,none⟩ (.int .u64 (m0:Int))).setCell ⟨w.heap.size+1,4,none⟩ (.int .u64 (m1:Int))).setCell ⟨w.heap.size+1,5,none⟩ (.int .u64 (m2:Int))).setCell ⟨w.heap.size+1,6,none⟩ (.int .u64 (m3:Int))).setCell ⟨w.heap.size+1,7,none⟩ (.int .u64 (m4:Int))).setCell ⟨w.heap.size+1,8,none⟩ (.int .u64 (m5:Int))).setCell ⟨w.heap.size+1,9,none⟩ (.int .u64 (m6:Int))).setCell ⟨w.heap.size+1,10,none⟩ (.int .u64 (m7:Int)))):=(((((((((HB.out.trans (HQ.out.mono hws)).setCell (Nat.le_add_right _ 1) _).setCell (Nat.le_add_right _ 1) _).setCell (Nat.le_add_right _ 1) _).setCell (Nat.le_add_right _ 1) _).setCell (Nat.le_add_right _ 1) _).setCell (Nat.le_add_right _ 1) _).setCell (Nat.le_add_right _ 1) _).setCell (Nat.le_add_right _ 1) _)
      clear s3 s4 s5 s6 s7 s8 s9 s10 t3 t4 t5 t6 t7 t8 t9 t10 z3 z4 z5 z6 z7 z8 z9 z10
      go_wp2
      go_roundw
      case rel=>exact ⟨q+1,by omega,by go_num,HN2.out,HBN.out,HNX.out HYC.out⟩
      case measure=>simp [intOf]; omega
    ·have HT0:Hid (tkB P.s P.st P.W=false):=HTNQ hyc
     have hyc2:yc < 0∨(¬ yc < 0∧yc ≥ 1024):=by omega
     clear HTQ HTNQ hyc
     rcases hyc2 with y0 | ⟨y0,y1⟩
     all_goals
      go_wp2
      rw [HR0.out]
      exact ⟨below_alloc HB.out _,by rw [if_neg (by rw [HT0.out]; simp)] <;> rfl⟩
   ·obtain rfl:q=m:=by omega
    have d9:decide ((q:Int) < (q:Int))=false:=by simp
    have HTT:Hid (tkB P.s P.st P.W=true):=HTY.out HNO.out
    have HRL:Hid (BRaw wr (w.heap.size+1) (P.s:Int) P.st (.slice none 0 0) (sgOf P.W) .nilFunc 0 0 true 0):=by
     have:=HR.out
     rw [HTL.out] at this
     exact this
    go_wp2_with fail
    refine (HCL.out _ HB.out).mono ?_
    rintro e w1 ⟨u,rfl,ho1,hb1⟩
    have HO1:Hid (w1.ownsRow wr.heap.size 60 2 u q (wtC P.W)):=ho1
    have HB1:Hid (Below wr.heap.size wr w1):=hb1
    obtain ⟨ua,ucap,rfl⟩:=own_slice ho1
    clear ho1 hb1
    have HR1:Hid (BRaw w1 (w.heap.size+1) (P.s:Int) P.st (.slice none 0 0) (sgOf P.W) .nilFunc 0 0 true 0):=BRaw.below HRL.out HB1.out hzr
    obtain ⟨x0,x1,x2,x11,x12,x13,x14,x15⟩:=BRaw.cells HR1.out
    have f2:=frozen_at HR1.out 2
    have f11:=frozen_at HR1.out 11
    have hz1:w.heap.size+1 < w1.heap.size:=heap_lt HR1.out
    have HF:Hid (R (.returned (.tuple #[.pointer (some ⟨w.heap.size+1,0,none⟩),.int .i64 0])) ((w1.setCell ⟨w.heap.size+1,2,none⟩ (.slice ua q ucap)).setCell ⟨w.heap.size+1,11,none⟩ (.func (.func 79) #[] #[]))):=by
     have hkz:Keep [w.heap.size+1] w1 ((w1.setCell ⟨w.heap.size+1,2,none⟩ (.slice ua q ucap)).setCell ⟨w.heap.size+1,11,none⟩ (.func (.func 79) #[] #[])):=keepZ (keepZ (Keep.refl _ _) _ _) _ _
     have hws:w.heap.size≤wr.heap.size:=HB.out.size
     have hne : ∀ k,(Value.slice ua q ucap).ownBlock=some k→k≠w.heap.size+1:=fun k hk=>by
      have:=(own_block HO1.out k hk).1
      omega
     rw [Hid,HR0.out]
     refine ⟨((HB.out.trans (HB1.out.mono hws)).setCell (Nat.le_add_right _ 1) _).setCell (Nat.le_add_right _ 1) _, ?_⟩
     rw [if_pos HTT.out]
     refine ⟨_,_,rfl,Nat.le_add_right _ 1, ?_,own_base (own_keep HO1.out hkz (fun k hk=>by simpa using hne k hk)) hws,hne⟩
     unfold BRow
     rw [show (bkNew P true).kn=true from HKN.out]
     exact BRaw.set11 (BRaw.set2 HR1.out _) (fnB 1)
    go_wp2
    exact HF.out
 ·have q1 : ¬ (P.s:Int)=1:=of_decide_eq_false k1
  have q2 : ¬ P.st=1:=of_decide_eq_false k2
  have HKB:Hid (((P.s:Int) == 1 || P.st == 1)=false):=by rw [Hid,Bool.eq_iff_iff]; simp; exact ⟨by omega,q2⟩
  clear k1 k2
  go_enter Tryz.func71,Tryz.ntmps71
  go_wp2_with fail
  go_loopw [10,51] (fun _ iv wr => ∃ q:Nat,q≤m∧iv = .int .i64 q∧BRaw wr (w.heap.size+1) (P.s:Int) P.st (.slice none 0 0) (sgOf (P.W.take q)) .nilFunc 0 0 false 0∧Below w.heap.size w wr ∧ ∀ i,i < q→0≤(P.W.getD i noWt).c∧(P.W.getD i noWt).c < 1024) (fun _ iv _=>m - (intOf iv).toNat)
  case atStart=>exact ⟨0,by omega,rfl,by rw [HKB.out]; exact heap_alloc2_new w _ _,below_alloc (below_a1 _ _) _,fun i hi=>by omega⟩
  case round =>
   obtain ⟨q,hq,rfl,hr,hb,hno⟩:=hrel
   have HB:Hid (Below w.heap.size w wr):=hb
   have HR:Hid (BRaw wr (w.heap.size+1) (P.s:Int) P.st (.slice none 0 0) (sgOf (P.W.take q)) .nilFunc 0 0 false 0):=hr
   have HNO:Hid (∀ i,i < q→0≤(P.W.getD i noWt).c∧(P.W.getD i noWt).c < 1024):=hno
   clear hb hno hr
   have hzr:w.heap.size+1 < wr.heap.size:=heap_lt HR.out
   by_cases hlt:q < m
   ·have d9:decide ((q:Int) < (m:Int))=true:=decide_eq_true (by omega)
    have hlt':(q:Int) < (m:Int):=by omega
    obtain ⟨x,rfl,hxb,c0,c1⟩:=HD.out _ q HB.out hlt
    rw [add_pos' _ _ (by decide)] at c1
    have HTQ:=HTK.out q hlt
    have HTNQ:=HTN.out q hlt
    have HNX:Hid ((0≤(P.W.getD q noWt).c∧(P.W.getD q noWt).c < 1024) → ∀ i,i < q+1→0≤(P.W.getD i noWt).c∧(P.W.getD i noWt).c < 1024):=fun hh i hi=>by
     by_cases e:i=q
     ·subst e; exact hh
     ·exact HNO.out i (by omega)
    generalize P.W.getD q noWt=y at *
    obtain ⟨yc,yv⟩:=y
    simp only at c0 c1 HTQ HTNQ HNX
    by_cases hyc:0≤yc∧yc < 1024
    ·have HYC:Hid (0≤yc∧yc < 1024):=hyc
     obtain ⟨hy0,hy1⟩:=hyc
     have y0 : ¬ yc < 0:=by omega
     have y1 : ¬ yc ≥ 1024:=by omega
     have HWT : ∀ w,_:=HWI.out (sgOf (P.W.take q)) (sgOf_ok _) yc
     rw [sv8 (sgOf_ok _),sv8 (by rw [← HTQ]; exact sgOf_ok _),← HTQ] at HWT
     have HW2:Hid (∀ w,Calls Tryz.prog 65 #[.agg #[bsV (sgOf (P.W.take q)) 0,bsV (sgOf (P.W.take q)) 1,bsV (sgOf (P.W.take q)) 2,bsV (sgOf (P.W.take q)) 3,bsV (sgOf (P.W.take q)) 4,bsV (sgOf (P.W.take q)) 5,bsV (sgOf (P.W.take q)) 6,bsV (sgOf (P.W.take q)) 7],.int .i64 yc] w fun e w' => e = .returned (.agg #[bsV (sgOf (P.W.take (q+1))) 0,bsV (sgOf (P.W.take (q+1))) 1,bsV (sgOf (P.W.take (q+1))) 2,bsV (sgOf (P.W.take (q+1))) 3,bsV (sgOf (P.W.take (q+1))) 4,bsV (sgOf (P.W.take (q+1))) 5,bsV (sgOf (P.W.take (q+1))) 6,bsV (sgOf (P.W.take (q+1))) 7])∧Below w.heap.size w w'):=HWT
     clear HWT HTQ HTNQ
     obtain ⟨m0,hm0⟩ : ∃ z:Nat,bsV (sgOf (P.W.take (q+1))) 0 = .int .u64 (z:Int):=⟨_,rfl⟩
     obtain ⟨m1,hm1⟩ : ∃ z:Nat,bsV (sgOf (P.W.take (q+1))) 1 = .int .u64 (z:Int):=⟨_,rfl⟩
     obtain ⟨m2,hm2⟩ : ∃ z:Nat,bsV (sgOf (P.W.take (q+1))) 2 = .int .u64 (z:Int):=⟨_,rfl⟩
     obtain ⟨m3,hm3⟩ : ∃ z:Nat,bsV (sgOf (P.W.take (q+1))) 3 = .int .u64 (z:Int):=⟨_,rfl⟩
     obtain ⟨m4,hm4⟩ : ∃ z:Nat,bsV (sgOf (P.W.take (q+1))) 4 = .int .u64 (z:Int):=⟨_,rfl⟩
     obtain ⟨m5,hm5⟩ : ∃ z:Nat,bsV (sgOf (P.W.take (q+1))) 5 = .int .u64 (z:Int):=⟨_,rfl⟩
     obtain ⟨m6,hm6⟩ : ∃ z:Nat,bsV (sgOf (P.W.take (q+1))) 6 = .int .u64 (z:Int):=⟨_,rfl⟩
     obtain ⟨m7,hm7⟩ : ∃ z:Nat,bsV (sgOf (P.W.take (q+1))) 7 = .int .u64 (z:Int):=⟨_,rfl⟩
     have HSS:Hid (∀ wQ,BRaw wQ (w.heap.size+1) (P.s:Int) P.st (.slice none 0 0) (sgOf (P.W.take q)) .nilFunc 0 0 false 0→BRaw ((((((((wQ.setCell ⟨w.heap.size+1,3,none⟩ (.int .u64 (m0:Int))).setCell ⟨w.heap.size+1,4,none⟩ (.int .u64 (m1:Int))).setCell ⟨w.heap.size+1,5,none⟩ (.int .u64 (m2:Int))).setCell ⟨w.heap.size+1,6,none⟩ (.int .u64 (m3:Int))).setCell ⟨w.heap.size+1,7,none⟩ (.int .u64 (m4:Int))).setCell ⟨w.heap.size+1,8,none⟩ (.int .u64 (m5:Int))).setCell ⟨w.heap.size+1,9,none⟩ (.int .u64 (m6:Int))).setCell ⟨w.heap.size+1,10,none⟩ (.int .u64 (m7:Int))) (w.heap.size+1) (P.s:Int) P.st (.slice none 0 0) (sgOf (P.W.take (q+1))) .nilFunc 0 0 false 0):=fun wQ h=>by
      have:=BRaw.setSig h (sgOf (P.W.take (q+1)))
      rw [hm0,hm1,hm2,hm3,hm4,hm5,hm6,hm7] at this
      exact this
     rw [hm0,hm1,hm2,hm3,hm4,hm5,hm6,hm7] at HW2
     clear hm0 hm1 hm2 hm3 hm4 hm5 hm6 hm7
     obtain ⟨s3,s4,s5,s6,s7,s8,s9,s10⟩:=BRaw.sig HR.out
     go_wp2_with fail
     go_region_with ((go_at_call 65; refine (HW2.out _).mono ?_; rintro e wQ ⟨rfl,hbQ⟩; have HQ:Hid (Below wr.heap.size wr wQ):=below_then (below_drawn (below_a1 _ _) 1) hbQ; clear hbQ; have HRQ:Hid (BRaw wQ (w.heap.size+1) (P.s:Int) P.st (.slice none 0 0) (sgOf (P.W.take q)) .nilFunc 0 0 false 0):=BRaw.below HR.out HQ.out hzr; obtain ⟨t3,t4,t5,t6,t7,t8,t9,t10⟩:=BRaw.sig HRQ.out; have z3:=frozen_at HRQ.out 3; have z4:=frozen_at HRQ.out 4; have z5:=frozen_at HRQ.out 5; have z6:=frozen_at HRQ.out 6; have z7:=frozen_at HRQ.out 7; have z8:=frozen_at HRQ.out 8; have z9:=frozen_at HRQ.out 9; have z10:=frozen_at HRQ.out 10))
     all_goals
      have HN2:Hid (BRaw ((((((((wQ.setCell ⟨w.heap.size+1,3,none⟩ (.int .u64 (m0:Int))).setCell ⟨w.heap.size+1,4,none⟩ (.int .u64 (m1:Int))).setCell ⟨w.heap.size+1,5,none⟩ (.int .u64 (m2:Int))).setCell ⟨w.heap.size+1,6,none⟩ (.int .u64 (m3:Int))).setCell ⟨w.heap.size+1,7,none⟩ (.int .u64 (m4:Int))).setCell ⟨w.heap.size+1,8,none⟩ (.int .u64 (m5:Int))).setCell ⟨w.heap.size+1,9,none⟩ (.int .u64 (m6:Int))).setCell ⟨w.heap.size+1,10,none⟩ (.int .u64 (m7:Int))) (w.heap.size+1) (P.s:Int) P.st (.slice none 0 0) (sgOf (P.W.take (q+1))) .nilFunc 0 0 false 0):=HSS.out _ HRQ.out
      have hws:w.heap.size≤wr.heap.size:=HB.out.size
      have HBN:Hid (Below w.heap.size w ((((((((wQ.setCell ⟨w.heap.size+1,3,none⟩ (.int .u64 (m0:Int))).setCell ⟨w.heap.size+1,4,none⟩ (.int .u64 (m1:Int))).setCell ⟨w.heap.size+1,5,none⟩ (.int .u64 (m2:Int))).setCell ⟨w.heap.size+1,6,none⟩ (.int .u64 (m3:Int))).setCell ⟨w.heap.size+1,7,none⟩ (.int .u64 (m4:Int))).setCell ⟨w.heap.size+1,8,none⟩ (.int .u64 (m5:Int))).setCell ⟨w.heap.size+1,9,none⟩ (.int .u64 (m6:Int))).setCell ⟨w.heap.size+1,10,none⟩ (.int .u64 (m7:Int)))):=(((((((((HB.out.trans (HQ.out.mono hws)).setCell (Nat.le_add_right _ 1) _).setCell (Nat.le_add_right _ 1) _).setCell (Nat.le_add_right _ 1) _).setCell (Nat.le_add_right _ 1) _).setCell (Nat.le_add_right _ 1) _).setCell (Nat.le_add_right _ 1) _).setCell (Nat.le_add_right _ 1) _).setCell (Nat.le_add_right _ 1) _)
      clear s3 s4 s5 s6 s7 s8 s9 s10 t3 t4 t5 t6 t7 t8 t9 t10 z3 z4 z5 z6 z7 z8 z9 z10
      go_wp2
      go_roundw
      case rel=>exact ⟨q+1,by omega,by go_num,HN2.out,HBN.out,HNX.out HYC.out⟩
      case measure=>simp [intOf]; omega
    ·have HT0:Hid (tkB P.s P.st P.W=false):=HTNQ hyc
     have hyc2:yc < 0∨(¬ yc < 0∧yc ≥ 1024):=by omega
     clear HTQ HTNQ hyc
     rcases hyc2 with y0 | ⟨y0,y1⟩
     all_goals
      go_wp2
      rw [HR0.out]
      exact ⟨below_alloc HB.out _,by rw [if_neg (by rw [HT0.out]; simp)] <;> rfl⟩
   ·obtain rfl:q=m:=by omega
    have d9:decide ((q:Int) < (q:Int))=false:=by simp
    have HTT:Hid (tkB P.s P.st P.W=true):=HTY.out HNO.out
    have HRL:Hid (BRaw wr (w.heap.size+1) (P.s:Int) P.st (.slice none 0 0) (sgOf P.W) .nilFunc 0 0 false 0):=by
     have:=HR.out
     rw [HTL.out] at this
     exact this
    go_wp2_with fail
    refine (HCL.out _ HB.out).mono ?_
    rintro e w1 ⟨u,rfl,ho1,hb1⟩
    have HO1:Hid (w1.ownsRow wr.heap.size 60 2 u q (wtC P.W)):=ho1
    have HB1:Hid (Below wr.heap.size wr w1):=hb1
    obtain ⟨ua,ucap,rfl⟩:=own_slice ho1
    clear ho1 hb1
    have HR1:Hid (BRaw w1 (w.heap.size+1) (P.s:Int) P.st (.slice none 0 0) (sgOf P.W) .nilFunc 0 0 false 0):=BRaw.below HRL.out HB1.out hzr
    obtain ⟨x0,x1,x2,x11,x12,x13,x14,x15⟩:=BRaw.cells HR1.out
    have f2:=frozen_at HR1.out 2
    have f11:=frozen_at HR1.out 11
    have hz1:w.heap.size+1 < w1.heap.size:=heap_lt HR1.out
    have HF:Hid (R (.returned (.tuple #[.pointer (some ⟨w.heap.size+1,0,none⟩),.int .i64 0])) ((w1.setCell ⟨w.heap.size+1,2,none⟩ (.slice ua q ucap)).setCell ⟨w.heap.size+1,11,none⟩ (.func (.func 79) #[] #[]))):=by
     have hkz:Keep [w.heap.size+1] w1 ((w1.setCell ⟨w.heap.size+1,2,none⟩ (.slice ua q ucap)).setCell ⟨w.heap.size+1,11,none⟩ (.func (.func 79) #[] #[])):=keepZ (keepZ (Keep.refl _ _) _ _) _ _
     have hws:w.heap.size≤wr.heap.size:=HB.out.size
     have hne : ∀ k,(Value.slice ua q ucap).ownBlock=some k→k≠w.heap.size+1:=fun k hk=>by
      have:=(own_block HO1.out k hk).1
      omega
     rw [Hid,HR0.out]
     refine ⟨((HB.out.trans (HB1.out.mono hws)).setCell (Nat.le_add_right _ 1) _).setCell (Nat.le_add_right _ 1) _, ?_⟩
     rw [if_pos HTT.out]
     refine ⟨_,_,rfl,Nat.le_add_right _ 1, ?_,own_base (own_keep HO1.out hkz (fun k hk=>by simpa using hne k hk)) hws,hne⟩
     unfold BRow
     rw [show (bkNew P true).kn=false from HKN.out]
     exact BRaw.set11 (BRaw.set2 HR1.out _) (fnB 1)
    go_wp2
    exact HF.out
end Go.Proofs.YtdkpgdkjohjcaaaGreat.Ba
