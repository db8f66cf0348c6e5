/- The program's At. -/
import Derived.Test.YtigfjedohdgjfaaGreatDoorJCodAShL
import Derived.Test.YtigfjedohdgjfaaGreatDoorJCodAShL
import Derived.BigRegion
namespace Go.Proofs.YtigfjedohdgjfaaGreatDoor.Tl.Cd
open Go.ChangeShapes Go.WideShapes Go.ChangeAt Go.RowKit
theorem and_ones (x:Int) (k:Nat) (hk:k≤32):bits .and .i64 x ((2 ^ k - 1:Nat):Int)=x % ((2 ^ k:Nat):Int):=by
 have hp:2 ^ k≤2 ^ 32:=Nat.pow_le_pow_right (by decide) hk
 have hp0:0 < 2 ^ k:=Nat.pow_pos (by decide)
 show IntKind.i64.wrap ((BitVec.ofInt 64 x &&& BitVec.ofInt 64 ((2 ^ k - 1:Nat):Int)).toNat:Int)=_
 rw [BitVec.toNat_and,BitVec.toNat_ofInt,BitVec.toNat_ofInt]
 have e:(((2 ^ k - 1:Nat):Int) % ((2 ^ 64:Nat):Int)).toNat=2 ^ k - 1:=by omega
 rw [e,Nat.and_two_pow_sub_one_eq_mod,IntKind.wrap_i64]
 have h1:(((x % ((2 ^ 64:Nat):Int)).toNat % 2 ^ k:Nat):Int)=x % ((2 ^ k:Nat):Int):=by
  rw [Int.natCast_emod,Int.toNat_of_nonneg (Int.emod_nonneg _ (by decide))]
  refine Int.emod_emod_of_dvd _ ?_
  exact Int.natCast_dvd_natCast.2 (Nat.pow_dvd_pow 2 (by omega))
 have h2:=Int.emod_lt_of_pos x (show (0:Int) < ((2 ^ k:Nat):Int) by omega)
 have h3:=Int.emod_nonneg x (show ((2 ^ k:Nat):Int)≠0 by omega)
 rw [h1]
 omega
theorem and_le1 {f:Nat→Nat} (hf : ∀ i,f i < 256):bits .and .i64 (takeF f 1) 255=leF f 1:=by
 have:=and_ones (takeF f 1) 8 (by decide)
 have hl:=le_bd hf 1
 simp only [Nat.reducePow,Nat.reduceSub] at this
 rw [show (255:Int)=((255:Nat):Int) from rfl,this]
 unfold takeF
 simp at *
 split <;> omega
theorem and_le2 {f:Nat→Nat} (hf : ∀ i,f i < 256):bits .and .i64 (takeF f 2) 65535=leF f 2:=by
 have:=and_ones (takeF f 2) 16 (by decide)
 have hl:=le_bd hf 2
 simp only [Nat.reducePow,Nat.reduceSub] at this
 rw [show (65535:Int)=((65535:Nat):Int) from rfl,this]
 unfold takeF
 simp at *
 split <;> omega
theorem takem_short (s:ByteArray) (w:World) (n:Nat) (lo hi:Int) (h:(n:Int)=1∨(n:Int)=2∨(n:Int)=4∨(n:Int)=8) (hl:s.size < n):Calls Tryz.prog 62 #[.agg #[.int .i64 (n:Int),.int .i64 lo,.int .i64 hi],.string s] w fun e w' => e = .returned (.tuple #[.int .i64 0,.bool false])∧Below w.heap.size w w':=by
 have HS:Hid (∀ w,Calls Tryz.prog 113 #[.string s,.int .i64 (n:Int)] w fun e w' => e = .returned (.tuple #[.int .i64 0,.int .i64 1])∧w'=w):=fun w=>take_short s n w h (by omega)
 have h0:((n:Int) == 0)=false:=by simp; omega
 clear h
 go_enter Tryz.func62,Tryz.ntmps62
 go_wp2_with fail
 refine (HS.out _).mono ?_
 rintro e w' ⟨rfl,rfl⟩
 go_wp2
 go_ret2
 exact ⟨rfl,below_a1 _ _⟩
theorem row_on {w w':World} {b:Nat} {o:Obj} (h:w.heap[b]? = some o) (hb:Below w.heap.size w w'):w'.heap[b]? = some o:=by
 rw [hb.block b (heap_lt h)]; exact h
theorem takem_s (s:ByteArray) (w:World) (n:Nat) (h0:((n:Int) == 0)=false) (lo hi x:Int) (hlo:(lo == 0)=false) (HS:Hid (∀ w,Calls Tryz.prog 113 #[.string s,.int .i64 (n:Int)] w fun e w' => e = .returned (.tuple #[.int .i64 x,.int .i64 0])∧Below w.heap.size w w')) :
  Calls Tryz.prog 62 #[.agg #[.int .i64 (n:Int),.int .i64 lo,.int .i64 hi],.string s] w fun e w' => e = .returned (.tuple #[.int .i64 x,.bool (decide (lo≤x) && decide (x≤hi))])∧Below w.heap.size w w':=by
 go_enter Tryz.func62,Tryz.ntmps62
 go_wp2_with fail
 refine (HS.out _).mono ?_
 rintro e w1 ⟨rfl,hb1⟩
 have hr:=row_on (heap_alloc_new w _) hb1
 have hb2:=below_then (below_a1 _ _) hb1
 have c0:=cell_at hr 0
 have c1:=cell_at hr 1
 have c2:=cell_at hr 2
 simp only [List.getElem?_toArray,List.getElem?_cons_zero,List.getElem?_cons_succ] at c0 c1 c2
 clear hb1 hr
 go_wp2_with fail
 refine (has_any _ _ _ _ _).mono ?_
 rintro e w2 ⟨rfl,hb3⟩
 go_wp2
 go_ret2
 exact ⟨rfl,below_then hb2 hb3⟩
theorem takem_u (s:ByteArray) (w:World) (n:Nat) (h0:((n:Int) == 0)=false) (hi x y:Int) (hn:n≤2) (hy:Hid (bits .and .i64 x (wrap64 (wrap64 (2 ^ (8 * n)) - 1))=y)) (HS:Hid (∀ w,Calls Tryz.prog 113 #[.string s,.int .i64 (n:Int)] w fun e w' => e = .returned (.tuple #[.int .i64 x,.int .i64 0])∧Below w.heap.size w w')) :
  Calls Tryz.prog 62 #[.agg #[.int .i64 (n:Int),.int .i64 0,.int .i64 hi],.string s] w fun e w' => e = .returned (.tuple #[.int .i64 y,.bool (decide (0≤y) && decide (y≤hi))])∧Below w.heap.size w w':=by
 go_enter Tryz.func62,Tryz.ntmps62
 go_wp2_with fail
 refine (HS.out _).mono ?_
 rintro e w1 ⟨rfl,hb1⟩
 have hr:=row_on (heap_alloc_new w _) hb1
 have hb2:=below_then (below_a1 _ _) hb1
 have c0:=cell_at hr 0
 have c1:=cell_at hr 1
 have c2:=cell_at hr 2
 simp only [List.getElem?_toArray,List.getElem?_cons_zero,List.getElem?_cons_succ] at c0 c1 c2
 clear hb1 hr
 go_wp2_with fail
 rw [hy.out]
 refine (has_any _ _ _ _ _).mono ?_
 rintro e w2 ⟨rfl,hb3⟩
 go_wp2
 go_ret2
 exact ⟨rfl,below_then hb2 hb3⟩
theorem takem_0 (s:ByteArray) (w:World) (lo hi:Int):Calls Tryz.prog 62 #[.agg #[.int .i64 0,.int .i64 lo,.int .i64 hi],.string s] w fun e w' => e = .returned (.tuple #[.int .i64 0,.bool true])∧Below w.heap.size w w':=by
 go_enter Tryz.func62,Tryz.ntmps62
 go_wp2
 go_ret2
 exact ⟨rfl,below_a1 _ _⟩
theorem wr255:wrap64 (wrap64 (2 ^ (8 * 1)) - 1)=255:=by simp [wrap64]
theorem wr65535:wrap64 (wrap64 (2 ^ (8 * 2)) - 1)=65535:=by simp [wrap64]
theorem kinds : ∀ c:Fin 41,(wdC c.val,loC c.val,hiC c.val) ∈ [(0,0,0),(1,-128,127),(2,-32768,32767),(8,-9223372036854775808,9223372036854775807),(1,0,255),(2,0,65535),(1,0,5)]:=by decide
theorem drawn_below {e:Ending} {v:Value} {w w':World} (h:e = .returned v ∧ ∃ n,w'=w.drewN n):e = .returned v∧Below w.heap.size w w':=by
 obtain ⟨he,n,hw⟩:=h
 exact ⟨he,by rw [hw]; exact below_drawn (Below.refl _ _) _⟩
theorem takem_any (c:Nat) (hc:c≤40) (s:ByteArray) (hs:s.size≤maxLen) : ∃ (y:Int) (b:Bool),(∀ w,Calls Tryz.prog 62 #[.agg #[.int .i64 (wdC c:Int),.int .i64 (loC c),.int .i64 (hiC c)],.string s] w fun e w' => e = .returned (.tuple #[.int .i64 y,.bool b])∧Below w.heap.size w w') ∧
  (b=true→wdC c≤s.size∧y=opF c (byt s)∧y≤hiC c)∧(b=false→s.size < wdC c∨hiC c < opF c (byt s)):=by
 have hk:=kinds ⟨c,by omega⟩
 have hlo:=opF_lo (byt_lt s) c
 have hop:opF c (byt s)=if loC c < 0 then takeF (byt s) (wdC c) else leF (byt s) (wdC c):=rfl
 simp only [List.mem_cons,Prod.mk.injEq,List.not_mem_nil,or_false] at hk
 generalize opF c (byt s)=x at *
 generalize wdC c=n at *
 generalize loC c=lo at *
 generalize hiC c=hi at *
 by_cases hsh:s.size < n
 ·refine ⟨0,false,fun w=>takem_short s w n lo hi ?_ hsh,fun h=>(by cases h),fun _=>Or.inl hsh⟩
  rcases hk with ⟨rfl,_⟩ | ⟨rfl,_⟩ | ⟨rfl,_⟩ | ⟨rfl,_⟩ | ⟨rfl,_⟩ | ⟨rfl,_⟩ | ⟨rfl,_⟩ <;> simp at hsh ⊢
 ·have fin : ∀ b:Bool,b=(decide (lo≤x) && decide (x≤hi))→(b=true→n≤s.size∧x=x∧x≤hi)∧(b=false→s.size < n∨hi < x):=fun b hb=>by
   subst hb
   simp only [Bool.and_eq_true,decide_eq_true_eq,Bool.and_eq_false_iff,decide_eq_false_iff_not]
   exact ⟨fun h=>⟨by omega,trivial,h.2⟩,fun h=>Or.inr (by omega)⟩
  rcases hk with ⟨rfl,rfl,rfl⟩ | ⟨rfl,rfl,rfl⟩ | ⟨rfl,rfl,rfl⟩ | ⟨rfl,rfl,rfl⟩ | ⟨rfl,rfl,rfl⟩ | ⟨rfl,rfl,rfl⟩ | ⟨rfl,rfl,rfl⟩
  ·have h0:x=0:=by rw [hop,if_neg (by decide)]; rfl
   exact ⟨0,true,fun w=>takem_0 s w _ _,fun _=>⟨by omega,h0.symm,by decide⟩,fun h=>by cases h⟩
  ·have h0:x=takeF (byt s) 1:=by rw [hop,if_pos (by decide)]
   exact ⟨x,_,fun w=>takem_s s w 1 (by decide) _ _ _ (by decide) (fun w=>(take1 s w hs (by omega)).mono fun e w' h=>by rw [h0]; exact drawn_below h),fin _ rfl⟩
  ·have h0:x=takeF (byt s) 2:=by rw [hop,if_pos (by decide)]
   exact ⟨x,_,fun w=>takem_s s w 2 (by decide) _ _ _ (by decide) (fun w=>(take2 s w hs (by omega)).mono fun e w' h=>by rw [h0]; exact drawn_below h),fin _ rfl⟩
  ·have h0:x=takeF (byt s) 8:=by rw [hop,if_pos (by decide)]
   exact ⟨x,_,fun w=>takem_s s w 8 (by decide) _ _ _ (by decide) (fun w=>(take8 s w hs (by omega)).mono fun e w' h=>by rw [h0]; exact drawn_below h),fin _ rfl⟩
  ·have h0:x=leF (byt s) 1:=by rw [hop,if_neg (by decide)]
   exact ⟨x,_,fun w=>takem_u s w 1 (by decide) _ _ _ (by decide) (by rw [Hid,h0,wr255]; exact and_le1 (byt_lt s)) (fun w=>(take1 s w hs (by omega)).mono fun e w' h=>drawn_below h),fin _ rfl⟩
  ·have h0:x=leF (byt s) 2:=by rw [hop,if_neg (by decide)]
   exact ⟨x,_,fun w=>takem_u s w 2 (by decide) _ _ _ (by decide) (by rw [Hid,h0,wr65535]; exact and_le2 (byt_lt s)) (fun w=>(take2 s w hs (by omega)).mono fun e w' h=>drawn_below h),fin _ rfl⟩
  ·have h0:x=leF (byt s) 1:=by rw [hop,if_neg (by decide)]
   exact ⟨x,_,fun w=>takem_u s w 1 (by decide) _ _ _ (by decide) (by rw [Hid,h0,wr255]; exact and_le1 (byt_lt s)) (fun w=>(take1 s w hs (by omega)).mono fun e w' h=>drawn_below h),fin _ rfl⟩
def ansA:Option (Nat × Int)→Value
 | none=>.tuple #[.agg #[.int .i64 0,.int .i64 0],.int .i64 0,.int .i64 10]
 | some (c,x)=>.tuple #[.agg #[.int .i64 (c:Int),.int .i64 x],.int .i64 ((1+wdC c:Nat):Int),.int .i64 0]
def atS (s:ByteArray) (a:Int):Option (Nat × Int):=if a < 0 then none else atV (fr s a.toNat) (s.size - a.toNat)
theorem ret_o3 {fn:Func} {p q r:Tmp} {R:Ending→World→Prop} {a:Act} {w:World} {g:Nat} {cs:Array Value} (h:fn.results = #[.cell p 38,.tmp q,.tmp r]) (hp:a.tmps.getD p undef = .pointer (some ⟨g,0,none⟩))
  (hg:w.heap[g]? = some (.cells cs 38 (0,0))) (hz:cs.size=2) (hd:a.defers = []) (hR:R (.returned (.tuple #[.agg cs,a.tmps.getD q undef,a.tmps.getD r undef])) w):bodyPost Tryz.prog fn R .ret a w:=by
 refine bodyPost_ret (v:=.tuple #[.agg cs,a.tmps.getD q undef,a.tmps.getD r undef]) ?_ hd hR
 have hp':a.tmps[p]?.getD undef = .pointer (some ⟨g,0,none⟩):=by simpa using hp
 have hl:=run_loadVar_row (P:=Tryz.prog) w g 38 38 cs (0,0) _ hg Tryz.underlying38 rfl (by rw [hz]; kernel_rfl)
 simp [results, h, hp', asAddr, hl]
theorem below_set {w w':World} (h:Below w.heap.size w w') (b i:Nat) (v:Value) (hb:w.heap.size≤b):Below w.heap.size w (w'.setCell ⟨b,i,none⟩ v) :=
 ((Keep.of_below h []).setCell ⟨b,i,none⟩ v (Or.inr hb)).below (Nat.le_refl _) (by simp)
theorem at_x (s:ByteArray) (hs:s.size≤9223372036854775807) (p:Nat) (hp:p < s.size) {w:World} (n:Nat) (lo hi:Int) (y:Int) (hw8:n≤8) (X:ByteArray) (hX:s.extract (p+1) s.size=X)
  (HB:Hid (∀ o,Calls Tryz.prog 61 #[.int .i64 (s[p].toNat:Int)] (w.alloc o) fun e w' => e = .returned (.tuple #[.agg #[.int .i64 (n:Int),.int .i64 lo,.int .i64 hi],.bool true])∧Below (w.alloc o).heap.size (w.alloc o) w'))
  (HY:Hid (∀ w,Calls Tryz.prog 62 #[.agg #[.int .i64 (n:Int),.int .i64 lo,.int .i64 hi],.string X] w fun e w' => e = .returned (.tuple #[.int .i64 y,.bool true])∧Below w.heap.size w w')) :
  Calls Tryz.prog 44 #[.string s,.int .i64 (p:Int)] w fun e w' => e = .returned (.tuple #[.agg #[.int .i64 (s[p].toNat:Int),.int .i64 y],.int .i64 (1+(n:Int)),.int .i64 0])∧Below w.heap.size w w':=by
 have hwr:wrap64 ((p:Int)+1)=(p:Int)+1:=by unfold wrap64; omega
 have hwi:IntKind.i64.wrap ((p:Int)+1)=(p:Int)+1:=by rw [IntKind.wrap_i64]; omega
 have hsl : ∀ w,(Instr.slice 9 (.string s) (some (.int .i64 ((p:Int)+1))) none none).run Tryz.prog w = .ok (.string X) w:=fun w=>by
  rw [run_slice_string_l w 9 s Tryz.underlying9 .i64 ((p:Int)+1) (by omega) (by omega),show ((p:Int)+1).toNat=p+1 by omega,hX]
 clear hX
 have hbb:=byte_bd s p hp
 go_enter Tryz.func44,Tryz.ntmps44
 go_wp2_with fail
 refine (HB.out _).mono ?_
 rintro e w1 ⟨rfl,hb1⟩
 go_wp2_with fail
 have hr0:=row_on (heap_alloc_new w _) (below_then hb1 (below_a1 w1 (.cells #[.int .i64 (n:Int),.int .i64 lo,.int .i64 hi] 127)))
 have hr:=heap_alloc_new w1 (.cells #[.int .i64 (n:Int),.int .i64 lo,.int .i64 hi] 127)
 have hb2:=below_then (below_then (below_a1 _ _) hb1) (below_a1 w1 (.cells #[.int .i64 (n:Int),.int .i64 lo,.int .i64 hi] 127))
 generalize w1.alloc (.cells #[.int .i64 (n:Int),.int .i64 lo,.int .i64 hi] 127)=x1 at *
 have HC:Hid (∀ x2,Below x1.heap.size x1 x2→x2.cell? ⟨w1.heap.size,0,none⟩=some (.int .i64 (n:Int))∧x2.cell? ⟨w1.heap.size,1,none⟩=some (.int .i64 lo)∧x2.cell? ⟨w1.heap.size,2,none⟩=some (.int .i64 hi)):=fun x2 hb=>by
  have h:=row_on hr hb
  exact ⟨by rw [cell_at h]; rfl,by rw [cell_at h]; rfl,by rw [cell_at h]; rfl⟩
 obtain ⟨c0,c1,c2⟩:=HC.out _ (Below.refl _ _)
 have HL:Hid (Below w.heap.size w x1):=hb2
 have HR:Hid (∀ x2,Below x1.heap.size x1 x2→x2.heap[w.heap.size]? = some (.cells #[.int .i64 0,.int .i64 0] 38 (0,0))):=fun x2 hb=>row_on hr0 hb
 have hne:w1.heap.size≠w.heap.size:=ne_of_type hr hr0 (by decide)
 have hne2:w.heap.size≠w1.heap.size:=hne.symm
 generalize w1.heap.size=R at *
 clear hb1 hr hb2 hr0
 go_region_held3 (fun w' => w'.cell? ⟨R,0,none⟩=some (.int .i64 (n:Int))∧w'.cell? ⟨R,1,none⟩=some (.int .i64 lo)∧w'.cell? ⟨R,2,none⟩=some (.int .i64 hi)) (first | go_keep | exact hS) (first
    | (go_at_call 62; refine (HY.out _).mono ?_; rintro e w2 ⟨rfl,hb2⟩; have hS:=HC.out _ (below_then (below_drawn (Below.refl _ _) 1) hb2)))
 obtain ⟨e0,e1,e2⟩:=hS
 have hbx:=below_then (below_drawn (Below.refl _ _) 1) hb2
 have HL2:Hid (Below w.heap.size w w2):=below_then HL.out hbx
 have hr2:=HR.out _ hbx
 have f0:=cell_at hr2 0
 have f1:=cell_at hr2 1
 have g0:=frozen_at hr2 0
 have g1:=frozen_at hr2 1
 simp only [List.getElem?_toArray,List.getElem?_cons_zero,List.getElem?_cons_succ] at f0 f1
 clear HR HC HL HB HY hwi hwr hsl hb2 hbx c0 c1 c2
 have hwn:IntKind.i64.wrap (1+(n:Int))=1+(n:Int):=by rw [IntKind.wrap_i64]; omega
 have hwm:wrap64 (1+(n:Int))=1+(n:Int):=by unfold wrap64; omega
 go_wp2_with fail
 go_region
 all_goals
  go_wp2
  refine ret_o3 rfl rfl (heap_set (heap_set hr2 _ _) _ _) rfl rfl ⟨rfl,below_drawn (below_set (below_set HL2.out _ _ _ (Nat.le_refl _)) _ _ _ (Nat.le_refl _)) 1⟩
theorem at_n (s:ByteArray) (hs:s.size≤9223372036854775807) (p:Nat) (hp:p < s.size) {w:World} (n:Nat) (lo hi:Int) (y:Int) (X:ByteArray) (hX:s.extract (p+1) s.size=X)
  (HB:Hid (∀ o,Calls Tryz.prog 61 #[.int .i64 (s[p].toNat:Int)] (w.alloc o) fun e w' => e = .returned (.tuple #[.agg #[.int .i64 (n:Int),.int .i64 lo,.int .i64 hi],.bool true])∧Below (w.alloc o).heap.size (w.alloc o) w'))
  (HY:Hid (∀ w,Calls Tryz.prog 62 #[.agg #[.int .i64 (n:Int),.int .i64 lo,.int .i64 hi],.string X] w fun e w' => e = .returned (.tuple #[.int .i64 y,.bool false])∧Below w.heap.size w w')) :
  Calls Tryz.prog 44 #[.string s,.int .i64 (p:Int)] w fun e w' => e = .returned (.tuple #[.agg #[.int .i64 0,.int .i64 0],.int .i64 0,.int .i64 10])∧Below w.heap.size w w':=by
 have hwr:wrap64 ((p:Int)+1)=(p:Int)+1:=by unfold wrap64; omega
 have hwi:IntKind.i64.wrap ((p:Int)+1)=(p:Int)+1:=by rw [IntKind.wrap_i64]; omega
 have hsl : ∀ w,(Instr.slice 9 (.string s) (some (.int .i64 ((p:Int)+1))) none none).run Tryz.prog w = .ok (.string X) w:=fun w=>by
  rw [run_slice_string_l w 9 s Tryz.underlying9 .i64 ((p:Int)+1) (by omega) (by omega),show ((p:Int)+1).toNat=p+1 by omega,hX]
 clear hX
 have hbb:=byte_bd s p hp
 go_enter Tryz.func44,Tryz.ntmps44
 go_wp2_with fail
 refine (HB.out _).mono ?_
 rintro e w1 ⟨rfl,hb1⟩
 go_wp2_with fail
 have hr0:=row_on (heap_alloc_new w _) (below_then hb1 (below_a1 w1 (.cells #[.int .i64 (n:Int),.int .i64 lo,.int .i64 hi] 127)))
 have hr:=heap_alloc_new w1 (.cells #[.int .i64 (n:Int),.int .i64 lo,.int .i64 hi] 127)
 have hb2:=below_then (below_then (below_a1 _ _) hb1) (below_a1 w1 (.cells #[.int .i64 (n:Int),.int .i64 lo,.int .i64 hi] 127))
 generalize w1.alloc (.cells #[.int .i64 (n:Int),.int .i64 lo,.int .i64 hi] 127)=x1 at *
 have HC:Hid (∀ x2,Below x1.heap.size x1 x2→x2.cell? ⟨w1.heap.size,0,none⟩=some (.int .i64 (n:Int))∧x2.cell? ⟨w1.heap.size,1,none⟩=some (.int .i64 lo)∧x2.cell? ⟨w1.heap.size,2,none⟩=some (.int .i64 hi)):=fun x2 hb=>by
  have h:=row_on hr hb
  exact ⟨by rw [cell_at h]; rfl,by rw [cell_at h]; rfl,by rw [cell_at h]; rfl⟩
 obtain ⟨c0,c1,c2⟩:=HC.out _ (Below.refl _ _)
 have HL:Hid (Below w.heap.size w x1):=hb2
 have HR:Hid (∀ x2,Below x1.heap.size x1 x2→x2.heap[w.heap.size]? = some (.cells #[.int .i64 0,.int .i64 0] 38 (0,0))):=fun x2 hb=>row_on hr0 hb
 have hne:w1.heap.size≠w.heap.size:=ne_of_type hr hr0 (by decide)
 have hne2:w.heap.size≠w1.heap.size:=hne.symm
 generalize w1.heap.size=R at *
 clear hb1 hr hb2 hr0
 go_region_held3 (fun w' => w'.cell? ⟨R,0,none⟩=some (.int .i64 (n:Int))∧w'.cell? ⟨R,1,none⟩=some (.int .i64 lo)∧w'.cell? ⟨R,2,none⟩=some (.int .i64 hi)) (first | go_keep | exact hS) (first
    | (go_at_call 62; refine (HY.out _).mono ?_; rintro e w2 ⟨rfl,hb2⟩; have hS:=HC.out _ (below_then (below_drawn (Below.refl _ _) 1) hb2)))
 have hbx:=below_then (below_drawn (Below.refl _ _) 1) hb2
 have HL2:Hid (Below w.heap.size w w2):=below_then HL.out hbx
 have hr2:=HR.out _ hbx
 have f0:=cell_at hr2 0
 have f1:=cell_at hr2 1
 have g0:=frozen_at hr2 0
 have g1:=frozen_at hr2 1
 simp only [List.getElem?_toArray,List.getElem?_cons_zero,List.getElem?_cons_succ] at f0 f1
 clear HR HC HL HB HY hwi hwr hsl hb2 hbx c0 c1 c2 hS
 go_wp2
 refine ret_o3 rfl rfl (heap_set (heap_set hr2 _ _) _ _) rfl rfl ⟨rfl,below_set (below_set HL2.out _ _ _ (Nat.le_refl _)) _ _ _ (Nat.le_refl _)⟩
theorem at_b (s:ByteArray) (p:Nat) (hp:p < s.size) {w:World}
  (HB:Hid (∀ o,Calls Tryz.prog 61 #[.int .i64 (s[p].toNat:Int)] (w.alloc o) fun e w' => e = .returned (.tuple #[.agg #[.int .i64 0,.int .i64 0,.int .i64 0],.bool false])∧Below (w.alloc o).heap.size (w.alloc o) w')) :
  Calls Tryz.prog 44 #[.string s,.int .i64 (p:Int)] w fun e w' => e = .returned (.tuple #[.agg #[.int .i64 0,.int .i64 0],.int .i64 0,.int .i64 10])∧Below w.heap.size w w':=by
 have hbb:=byte_bd s p hp
 go_enter Tryz.func44,Tryz.ntmps44
 go_wp2_with fail
 refine (HB.out _).mono ?_
 rintro e w1 ⟨rfl,hb1⟩
 have hr0:=row_on (heap_alloc_new w _) hb1
 have HL2:Hid (Below w.heap.size w w1):=below_then (below_a1 _ _) hb1
 have hr2 : ∀ o,(w1.alloc o).heap[w.heap.size]? = some (.cells #[.int .i64 0,.int .i64 0] 38 (0,0)):=fun o=>row_on hr0 (below_a1 _ _)
 have f0:=fun o=>cell_at (hr2 o) 0
 have f1:=fun o=>cell_at (hr2 o) 1
 have g0:=fun o=>frozen_at (hr2 o) 0
 have g1:=fun o=>frozen_at (hr2 o) 1
 simp only [List.getElem?_toArray,List.getElem?_cons_zero,List.getElem?_cons_succ] at f0 f1
 clear hb1 HB hr0
 go_wp2
 refine ret_o3 rfl rfl (heap_set (heap_set (hr2 _) _ _) _ _) rfl rfl ⟨rfl,below_set (below_set (below_alloc HL2.out _) _ _ _ (Nat.le_refl _)) _ _ _ (Nat.le_refl _)⟩
theorem at_out (s:ByteArray) (hs:s.size≤9223372036854775807) (a:Int) (ha:a < 0∨(s.size:Int)≤a) (w:World) :
  Calls Tryz.prog 44 #[.string s,.int .i64 a] w fun e w' => e = .returned (.tuple #[.agg #[.int .i64 0,.int .i64 0],.int .i64 0,.int .i64 10])∧Below w.heap.size w w':=by
 rcases ha with h | h
 ·go_enter Tryz.func44,Tryz.ntmps44
  go_wp2
  refine ret_o3 rfl rfl (heap_alloc_new _ _) rfl rfl ⟨rfl,below_a1 _ _⟩
 ·have h2:0≤a:=by omega
  go_enter Tryz.func44,Tryz.ntmps44
  go_wp2
  refine ret_o3 rfl rfl (heap_alloc_new _ _) rfl rfl ⟨rfl,below_a1 _ _⟩
theorem byt_extract (s:ByteArray) (p i:Nat) (h:p+i < s.size):byt (s.extract p s.size) i=byt s (p+i):=by
 rw [byt_at _ _ (by rw [ByteArray.size_extract]; omega),byt_at _ _ h,ByteArray.getElem_extract]
theorem at_any (s:ByteArray) (hs:s.size≤9223372036854775807) (a:Int) {w:World} (hT:Tab w):Calls Tryz.prog 44 #[.string s,.int .i64 a] w fun e w' => e = .returned (ansA (atS s a))∧Below w.heap.size w w':=by
 by_cases ha:a < 0∨(s.size:Int)≤a
 ·have e:atS s a=none:=by
   unfold atS
   rcases ha with h | h
   ·rw [if_pos h]
   ·rw [if_neg (by omega)]
    unfold atV
    rw [if_pos (Or.inl (by omega))]
  rw [e]
  exact at_out s hs a ha w
 ·obtain ⟨p,rfl⟩:=Int.eq_ofNat_of_zero_le (show 0≤a by omega)
  have hp:p < s.size:=by omega
  have hb:=byt_at s p hp
  have hf0:fr s p 0=byt s p:=rfl
  have e:atS s (p:Int)=atV (fr s p) (s.size - p):=by
   unfold atS
   rw [if_neg (by omega),Int.toNat_natCast]
  rw [e]
  by_cases hc:byt s p≤40
  ·obtain ⟨y,b,HY,hy1,hy2⟩:=takem_any (byt s p) hc (s.extract (p+1) s.size) (by rw [ByteArray.size_extract]; unfold maxLen; omega)
   have hz:(s.extract (p+1) s.size).size=s.size - (p+1):=by rw [ByteArray.size_extract]; omega
   have hw8:wdC (byt s p)≤8:=by have:=wd_cases (byt s p); omega
   have HB:Hid (∀ o,Calls Tryz.prog 61 #[.int .i64 (s[p].toNat:Int)] (w.alloc o) fun e w' => e = .returned (.tuple #[.agg #[.int .i64 (wdC (byt s p):Int),.int .i64 (loC (byt s p)),.int .i64 (hiC (byt s p))],.bool true])∧Below (w.alloc o).heap.size (w.alloc o) w'):=fun o=>by
    rw [← hb]
    exact behind_yes (hT.later (below_a1 _ _)) _ hc
   have ho:wdC (byt s p)≤s.size - (p+1)→opF (byt s p) (byt (s.extract (p+1) s.size))=opF (byt s p) (fun i=>fr s p (i+1)):=fun h=>opF_congr fun i hi=>by
    rw [byt_extract _ _ _ (by omega)]
    unfold fr
    congr 1
    omega
   cases b with
   | true =>
    obtain ⟨h1,h2,h3⟩:=hy1 rfl
    rw [hz] at h1
    have e2:atV (fr s p) (s.size - p)=some (byt s p,y):=by
     unfold atV
     rw [hf0,if_neg (by omega),← ho h1,← h2,if_pos h3]
    rw [e2]
    refine (at_x s hs p hp _ _ _ y hw8 _ rfl HB HY).mono fun e w' h => ?_
    rw [← hb] at h
    refine ⟨h.1.trans ?_,h.2⟩
    simp [ansA]
   | false =>
    have h:=hy2 rfl
    rw [hz] at h
    have e2:atV (fr s p) (s.size - p)=none:=by
     unfold atV
     rw [hf0]
     by_cases h4:wdC (byt s p)≤s.size - (p+1)
     ·rw [if_neg (by omega),← ho h4,if_neg (by omega)]
     ·rw [if_pos (by omega)]
    rw [e2]
    exact at_n s hs p hp _ _ _ y _ rfl HB HY
  ·have e2:atV (fr s p) (s.size - p)=none:=by
    unfold atV
    rw [if_pos (by rw [hf0]; omega)]
   rw [e2]
   exact at_b s p hp fun o=>by
    rw [← hb]
    exact behind_no _ (by omega)
end Go.Proofs.YtigfjedohdgjfaaGreatDoor.Tl.Cd
