/- The law's own words: a number pushed, its configuration; not and conv of the document. -/
import Derived.Test.YtigfjedohdgjfaaGreatDoorJPjLbPjLe
import Derived.Lib.AppendStr
import Derived.WalkKit
namespace Go.Proofs.YtigfjedohdgjfaaGreatDoor.Pj
open Go.ChangeShapes Go.WideShapes Go.ChangeAt Go.RowKit
open Tl (Wn wn0 nth numC Nl)
open Tl.Cd (bytesI layN xb)
attribute [local go_sem ↓] Go.wp_at_zero Go.wp_at_succ
theorem info_u8:(Tryz.prog.info? 5).map (fun i=>(i.zero,i.size,i.bytes))=some (some (.int .u8 0),1,1):=by kernel_rfl
theorem conv_own (w:World) (base:Nat) (v:Value) (n:Nat) (xs:List Int) (hown:w.ownsRow base 5 1 v n (xs.map (Value.int .u8))) :
  (convert 23 9 v).run Tryz.prog w = .ok (.string (strOfNums xs)) w:=by
 obtain ⟨hl,h⟩:=hown
 have hl':xs.length=n:=by simpa using hl
 rcases h with ⟨rfl,rfl⟩ | ⟨g,cap,cur,rfl,_,hb,hn,_,hc,ht⟩
 ·have:xs = []:=List.length_eq_zero_iff.1 hl'
  subst this
  rw [run_convert_bytes_nil w 23 5 Tryz.underlying23 Tryz.underlying5 0 0 9 Tryz.underlying9]
  rfl
 ·refine run_convert_bytes_arg _ 23 5 Tryz.underlying23 Tryz.underlying5 g 0 n cap xs hl' (fun i hi => ?_) 9 Tryz.underlying9
  have hi':i < xs.length:=by omega
  have e1:(cur.toList.take (n * 1))[i]? = some (Value.int .u8 (xs.getD i 0)):=by
   rw [ht]
   simp [List.getElem?_eq_getElem hi', List.getD]
  rw [List.getElem?_take] at e1
  split at e1
  ·simp only [World.cell?,hb,Nat.zero_add]
   simpa using e1
  ·cases e1
theorem conv_lit (l:List Int) {W:World} {B:Nat} (h:W.heap[B]? = some (.cells (l.map (Value.int .u8)).toArray 5 (0,0))) (hl:l.length≤100):(convert 23 9 (.slice (some ⟨B,0,none⟩) l.length l.length)).run Tryz.prog W = .ok (.string (strOfNums l)) W:=by
 refine conv_own W 0 _ _ l ⟨by simp,Or.inr ⟨B,l.length,(l.map (Value.int .u8)).toArray,rfl,Nat.zero_le _,h,Nat.le_refl _,by unfold maxLen; omega,by simp,by simp [List.take_of_length_le]⟩⟩
def nuV (v:Int) (i:Nat):Int:=xb (v % 18446744073709551616) i
theorem nu_0 (v:Int):nuV v 0=v % 18446744073709551616:=Tl.Cd.xb_zero _
theorem nu_next (v:Int) (i:Nat):nuV v (i+1)=nuV v i / 256:=(Tl.Cd.xb_succ _ i).symm
theorem nu_byte (v:Int) : ∀ i,i < 8→nuV v i % 256=xb v i % 256
 | 0,_=>by simp [nuV,xb]; try omega
 | 1,_=>by simp [nuV,xb]; omega
 | 2,_=>by simp [nuV,xb]; omega
 | 3,_=>by simp [nuV,xb]; omega
 | 4,_=>by simp [nuV,xb]; omega
 | 5,_=>by simp [nuV,xb]; omega
 | 6,_=>by simp [nuV,xb]; omega
 | 7,_=>by simp [nuV,xb]; omega
 | n+8,h=>by omega
theorem nu_bd (v:Int) (i:Nat):0≤nuV v i∧nuV v i < 18446744073709551616:=by
 unfold nuV xb
 have h1:(0:Int) < 256 ^ i:=Int.pow_pos (by decide)
 have h2:0≤v % 18446744073709551616:=Int.emod_nonneg _ (by decide)
 have h3:v % 18446744073709551616 < 18446744073709551616:=Int.emod_lt_of_pos _ (by decide)
 have h4:=Int.ediv_le_self (256 ^ i) h2
 exact ⟨Int.ediv_nonneg h2 (Int.le_of_lt h1),by omega⟩
theorem ret_cf {fn:Func} {p:Tmp} {R:Ending→World→Prop} {a:Act} {w:World} {g:Nat} {cs:Array Value} (h:fn.results = #[.cell p 32]) (hp:a.tmps.getD p undef = .pointer (some ⟨g,0,none⟩))
  (hg:w.heap[g]? = some (.cells cs 32 (0,0))) (hz:cs.size=7) (hd:a.defers = []) (hR:R (.returned (.agg cs)) w):bodyPost Tryz.prog fn R .ret a w:=by
 refine bodyPost_ret (v:=.agg cs) ?_ hd hR
 have hp':a.tmps[p]?.getD undef = .pointer (some ⟨g,0,none⟩):=by simpa using hp
 have hl:=run_loadVar_row (P:=Tryz.prog) w g 32 32 cs (0,0) _ hg Tryz.underlying32 rfl (by rw [hz]; kernel_rfl)
 simp [results, h, hp', asAddr, hl]
theorem small_any (w:World):Calls Tryz.prog 8 #[] w fun e w' => e = .returned (.agg #[.int .i64 1,.int .i64 2,.int .i64 4,.int .i64 9,.bool false,.int .i64 2,.slice none 0 0])∧Below w.heap.size w w':=by
 go_enter Tryz.func8,Tryz.ntmps8
 go_wp2_with fail
 exact ret_cf rfl rfl (heap_alloc_new _ _) rfl rfl ⟨rfl,below_a1 _ _⟩
def pushL (v:Int) (i:Nat):List Int:=3 :: layN v i
theorem push_next (v:Int) (i:Nat) (h:i < 8):pushL v (i+1)=pushL v i ++ [nuV v i % 256]:=by
 unfold pushL
 rw [Tl.Cd.lay_succ,nu_byte v i h]
 rfl
theorem one_u8 (z:Int) : ∀ u ∈ [Value.int .u8 z],u.oneCell'=true:=by intro u hu; simp at hu; subst hu; rfl
theorem u8_wrap (z:Int):IntKind.u8.wrap z=z % 256:=by simp [IntKind.wrap,IntKind.signed,IntKind.bits]
theorem u64_wrap (z:Int):IntKind.u64.wrap z=z % 18446744073709551616:=by simp [IntKind.wrap,IntKind.signed,IntKind.bits]
set_option maxRecDepth 10000 in
theorem pushed_any (w:World) (v:Int):Calls Tryz.prog 6 #[.int .i64 v] w fun e w' => e = .returned (.string (strOfNums (bytesI 3 v)))∧Below w.heap.size w w':=by
 have HNX:Hid (∀ i,nuV v (i+1)=nuV v i / 256):=nu_next v
 have HBD:Hid (∀ i,0≤nuV v i∧nuV v i < 18446744073709551616):=nu_bd v
 have h0:IntKind.u64.wrap v=nuV v 0:=by rw [nu_0,u64_wrap]
 have HPN:Hid (∀ i,i < 8→pushL v (i+1)=pushL v i ++ [nuV v i % 256]):=push_next v
 obtain ⟨i0,hi,hz0,hz1,hz2⟩:=Tl.info_parts info_u8
 go_enter Tryz.func6,Tryz.ntmps6
 go_wp2_with fail
 have HS0:Hid ((w.alloc (.cells #[.int .u8 3] 5)).ownsRow w.heap.size 5 1 (.slice (some ⟨w.heap.size,0,none⟩) 1 1) 1 ((pushL v 0).map (Value.int .u8))):=by
  refine ⟨rfl,Or.inr ⟨w.heap.size,1,#[.int .u8 3],rfl,Nat.le_refl _,heap_alloc_new _ _,Nat.le_refl _,by decide,rfl,rfl⟩⟩
 have HB0:Hid (Below w.heap.size w (w.alloc (.cells #[.int .u8 3] 5))):=below_a1 _ _
 go_loopw [3,4,5] (fun bv nv iv wr => ∃ i:Nat,i≤8∧iv = .int .i64 (i:Int)∧nv = .int .u64 (nuV v i)∧wr.ownsRow w.heap.size 5 1 bv (i+1) ((pushL v i).map (Value.int .u8))∧Below w.heap.size w wr) (fun _ _ iv _=>8 - (intOf iv).toNat)
 case atStart=>exact ⟨0,by omega,rfl,by rw [← h0],HS0.out,HB0.out⟩
 case round =>
  obtain ⟨i,hi8,rfl,rfl,hown,hb⟩:=hrel
  clear HS0 HB0
  have HO:Hid (wr.ownsRow w.heap.size 5 1 u3 (i+1) ((pushL v i).map (Value.int .u8))):=hown
  have HB:Hid (Below w.heap.size w wr):=hb
  clear hown hb
  by_cases h8:i < 8
  ·have hx:(i:Int) < 8:=by omega
   obtain ⟨z,hz⟩ : ∃ z,nuV v i=z:=⟨_,rfl⟩
   have hbd:=HBD.out i
   have hq:nuV v (i+1)=z / 256:=by rw [HNX.out,hz]
   have hpn:=HPN.out i h8
   rw [hz] at hbd hpn ⊢
   have HQ:Hid (nuV v (i+1)=z / 256∧pushL v (i+1)=pushL v i ++ [z % 256]):=⟨hq,hpn⟩
   have HBZ:Hid (0≤z∧z < 18446744073709551616):=hbd
   have hq1:z.tdiv 256=z / 256:=Int.tdiv_eq_ediv_of_nonneg hbd.1
   have hbb:w.heap.size≤wr.heap.size:=HB.out.size
   clear hq hpn hz HNX HBD HPN
   go_wp2_with (at_builtin; refine list_lies_wide _ rfl _ _ 23 rfl w.heap.size 5 i0 _ 1 1 Tryz.underlying23 hi hz0 hz1 hz2 rfl (by decide) _ _ _ rfl (HO.out.alloc _) ⟨wr.heap.size,0,none⟩ 1 1 [.int .u8 (z % 256)] rfl rfl ?c1 ?c2 ?c3 ?c4 ?c5 ?c6 _ rfl ?_)
   case c1=>exact World.news_of_block (cs:=#[.int .u8 (z % 256)]) (t:=5) (fr:=(0,0)) (heap_alloc_new _ _)
   case c2=>exact one_u8 _
   case c3=>decide
   case c4=>unfold maxLen; omega
   case c5=>omega
   case c6=>simp; omega
   intro g cp w2 hown hgrow _ _
   have k2:Keep (u3.ownBlock.toList) wr w2:=((Keep.refl _ _).alloc _).grown hgrow (fun b hb=>Or.inl (by simp [hb]))
   have HF:Hid (w2.ownsRow w.heap.size 5 1 (.slice (some ⟨g,0,none⟩) (i+1+1) cp) (i+1+1) ((pushL v i).map (Value.int .u8) ++ [.int .u8 (z % 256)])∧Below w.heap.size w w2):=⟨hown,HB.out.trans (k2.below HB.out.size (fun b hb=>(HO.out.lt b (by simpa using hb)).1))⟩
   clear hown hgrow k2 hbd hbb
   go_wp2_with fail
   go_roundw
   case rel =>
    refine ⟨i+1,by omega,by go_num, ?_, ?_,HF.out.2⟩
    ·rw [HQ.out.1,u64_wrap]
     have h9:=HBZ.out
     congr 1
     omega
    ·rw [HQ.out.2,List.map_append]; exact HF.out.1
   case measure=>simp [intOf]; omega
  ·have h9:i=8:=by omega
   subst h9
   have hcv:=conv_own _ _ _ _ _ HO.out
   clear HNX HBD HPN
   go_wp2_with fail
   go_ret
   exact ⟨rfl,HB.out⟩
theorem signed_any (n h:Int) (hn:0≤n∧n < 4294967296) (hh:0≤h∧h≤2147483648) (w:World):Calls Tryz.prog 17 #[.int .u64 n,.int .i64 h] w fun e w' => e = .returned (.int .i64 (if h≤n then n - 2 * h else n))∧w'=w:=by
 have e1:wrap64 n=n:=by unfold wrap64; omega
 have e2:wrap64 (2 * h)=2 * h:=by unfold wrap64; omega
 have e3:Hid (wrap64 (n - wrap64 (2 * h))=n - 2 * h):=by unfold Hid; rw [e2]; unfold wrap64; omega
 have E1:Hid (wrap64 n=n):=e1
 clear hn hh e2
 by_cases hle:h≤n
 ·rw [if_pos hle]
  go_enter Tryz.func17,Tryz.ntmps17
  go_wp2_with fail
  go_ret
  exact ⟨by show Ending.returned (.int .i64 (wrap64 (n - wrap64 (2 * h))))=_; rw [e3.out],rfl⟩
 ·rw [if_neg hle]
  have hle2 : ¬ h≤wrap64 n:=by rw [E1.out]; exact hle
  have hlt:wrap64 n < h:=by rw [E1.out]; omega
  clear e1 hle
  go_enter Tryz.func17,Tryz.ntmps17
  go_wp2_with fail
  go_ret
  exact ⟨by show Ending.returned (.int .i64 (wrap64 n))=_; rw [E1.out],rfl⟩
theorem turn_not (o v:Int) (w:World):Calls Tryz.prog 10 #[.agg #[.int .i64 16,.int .i64 o],.int .i64 v] w fun e w' => e = .returned (.int .i64 (bits .xor .i64 (-1) v))∧Below w.heap.size w w':=by
 go_enter Tryz.func10,Tryz.ntmps10
 go_wp2_with fail
 go_ret
 exact ⟨rfl,below_a1 _ _⟩
theorem i8_wrap (z:Int):IntKind.i8.wrap z=(z+128) % 256 - 128:=by
 simp [IntKind.wrap,IntKind.signed,IntKind.bits]
 split <;> omega
theorem i16_wrap (z:Int):IntKind.i16.wrap z=(z+32768) % 65536 - 32768:=by
 simp [IntKind.wrap,IntKind.signed,IntKind.bits]
 split <;> omega
def narK (v:Int):Nat→Int
 | 0=>wrap64 (IntKind.i8.wrap v)
 | 1=>wrap64 (IntKind.i16.wrap v)
 | 2=>wrap64 (wrap32 v)
 | 3=>v % 256
 | 4=>v % 65536
 | _=>v % 4294967296
theorem nar_k (v:Int) : ∀ k:Nat,k≤5→narV v (k:Int)=narK v k
 | 0,_=>rfl
 | 1,_=>rfl
 | 2,_=>rfl
 | 3,_=>rfl
 | 4,_=>rfl
 | 5,_=>rfl
 | n+6,h=>by omega
theorem turn_conv (k:Nat) (hk5:k≤5) (v:Int) (w:World):Calls Tryz.prog 10 #[.agg #[.int .i64 23,.int .i64 (k:Int)],.int .i64 v] w fun e w' => e = .returned (.int .i64 (narV v (k:Int)))∧Below w.heap.size w w':=by
 have hk:=nar_k v
 have hc:k=0∨k=1∨k=2∨k=3∨k=4∨k=5:=by omega
 clear hk5
 rcases hc with rfl | rfl | rfl | rfl | rfl | rfl
 ·have ht:(IntKind.u64.wrap v).tmod 256=v % 256:=by rw [Int.tmod_eq_emod_of_nonneg (by rw [u64_wrap]; omega),u64_wrap]; omega
  have hval:(if (128:Int)≤v % 256 then v % 256 - 2 * 128 else v % 256)=narK v 0:=by
   simp only [narK]; rw [i8_wrap]; unfold wrap64; split <;> omega
  have HS:Hid (∀ w1:World,Calls Tryz.prog 17 #[.int .u64 ((IntKind.u64.wrap v).tmod 256),.int .i64 128] w1 fun e w' => e = .returned (.int .i64 (narK v 0))∧w'=w1):=fun w1=>by
   rw [ht,← hval]
   exact signed_any (v % 256) 128 (by omega) (by decide) w1
  rw [hk 0 (by decide)]
  generalize narK v 0=z at *
  clear hval hk ht
  go_enter Tryz.func10,Tryz.ntmps10
  go_wp2_with fail
  refine (HS.out _).mono ?_
  rintro e w1 ⟨rfl,rfl⟩
  go_wp2_with fail
  go_ret
  exact ⟨rfl,below_a1 _ _⟩
 ·have ht:(IntKind.u64.wrap v).tmod 65536=v % 65536:=by rw [Int.tmod_eq_emod_of_nonneg (by rw [u64_wrap]; omega),u64_wrap]; omega
  have hval:(if (32768:Int)≤v % 65536 then v % 65536 - 2 * 32768 else v % 65536)=narK v 1:=by
   simp only [narK]; rw [i16_wrap]; unfold wrap64; split <;> omega
  have HS:Hid (∀ w1:World,Calls Tryz.prog 17 #[.int .u64 ((IntKind.u64.wrap v).tmod 65536),.int .i64 32768] w1 fun e w' => e = .returned (.int .i64 (narK v 1))∧w'=w1):=fun w1=>by
   rw [ht,← hval]
   exact signed_any (v % 65536) 32768 (by omega) (by decide) w1
  rw [hk 1 (by decide)]
  generalize narK v 1=z at *
  clear hval hk ht
  go_enter Tryz.func10,Tryz.ntmps10
  go_wp2_with fail
  refine (HS.out _).mono ?_
  rintro e w1 ⟨rfl,rfl⟩
  go_wp2_with fail
  go_ret
  exact ⟨rfl,below_a1 _ _⟩
 ·have ht:(IntKind.u64.wrap v).tmod 4294967296=v % 4294967296:=by rw [Int.tmod_eq_emod_of_nonneg (by rw [u64_wrap]; omega),u64_wrap]; omega
  have hval:(if (2147483648:Int)≤v % 4294967296 then v % 4294967296 - 2 * 2147483648 else v % 4294967296)=narK v 2:=by
   simp only [narK]; unfold wrap32; unfold wrap64; split <;> omega
  have HS:Hid (∀ w1:World,Calls Tryz.prog 17 #[.int .u64 ((IntKind.u64.wrap v).tmod 4294967296),.int .i64 2147483648] w1 fun e w' => e = .returned (.int .i64 (narK v 2))∧w'=w1):=fun w1=>by
   rw [ht,← hval]
   exact signed_any (v % 4294967296) 2147483648 (by omega) (by decide) w1
  rw [hk 2 (by decide)]
  generalize narK v 2=z at *
  clear hval hk ht
  go_enter Tryz.func10,Tryz.ntmps10
  go_wp2_with fail
  refine (HS.out _).mono ?_
  rintro e w1 ⟨rfl,rfl⟩
  go_wp2_with fail
  go_ret
  exact ⟨rfl,below_a1 _ _⟩
 ·have hw:Hid (wrap64 ((IntKind.u64.wrap v).tmod 256)=narK v 3):=by
   unfold Hid
   rw [Int.tmod_eq_emod_of_nonneg (by rw [u64_wrap]; omega),u64_wrap]
   simp only [narK]
   unfold wrap64
   omega
  rw [hk 3 (by decide)]
  clear hk
  go_enter Tryz.func10,Tryz.ntmps10
  go_wp2_with fail
  go_ret
  exact ⟨by show Ending.returned (.int .i64 (wrap64 ((IntKind.u64.wrap v).tmod 256)))=_; rw [hw.out],below_a1 _ _⟩
 ·have hw:Hid (wrap64 ((IntKind.u64.wrap v).tmod 65536)=narK v 4):=by
   unfold Hid
   rw [Int.tmod_eq_emod_of_nonneg (by rw [u64_wrap]; omega),u64_wrap]
   simp only [narK]
   unfold wrap64
   omega
  rw [hk 4 (by decide)]
  clear hk
  go_enter Tryz.func10,Tryz.ntmps10
  go_wp2_with fail
  go_ret
  exact ⟨by show Ending.returned (.int .i64 (wrap64 ((IntKind.u64.wrap v).tmod 65536)))=_; rw [hw.out],below_a1 _ _⟩
 ·have hw:Hid (wrap64 ((IntKind.u64.wrap v).tmod 4294967296)=narK v 5):=by
   unfold Hid
   rw [Int.tmod_eq_emod_of_nonneg (by rw [u64_wrap]; omega),u64_wrap]
   simp only [narK]
   unfold wrap64
   omega
  rw [hk 5 (by decide)]
  clear hk
  go_enter Tryz.func10,Tryz.ntmps10
  go_wp2_with fail
  go_ret
  exact ⟨by show Ending.returned (.int .i64 (wrap64 ((IntKind.u64.wrap v).tmod 4294967296)))=_; rw [hw.out],below_a1 _ _⟩
end Go.Proofs.YtigfjedohdgjfaaGreatDoor.Pj
