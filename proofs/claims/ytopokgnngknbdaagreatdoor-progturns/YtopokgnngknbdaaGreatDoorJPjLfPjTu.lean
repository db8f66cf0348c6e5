/- The law's own words: a number pushed, its configuration; not and conv of the document. -/
import Derived.Test.YtopokgnngknbdaaGreatDoorJPjLbPjLe
import Derived.Lib.AppendStr
import Derived.WalkKit
import Derived.Deep.DeepCutAuto
namespace Go.Proofs.YtopokgnngknbdaaGreatDoor.Pj
open Go.ChangeShapes Go.WideShapes Go.ChangeAt Go.RowKit
open Tl (Wn wn0 nth numC Nl)
open Tl.Cd (bytesI layN xb)
attribute [local go_sem ↓] Go.wp_at_zero Go.wp_at_succ
theorem info_u8:(Tryz.prog.info? 5).map (fun i=>(i.zero,i.size,i.bytes))=some (some (.int .u8 0),1,1):=by kernel_rfl
theorem conv_own (w:World) (base:Nat) (v:Value) (n:Nat) (xs:List Int) (hown:w.ownsRow base 5 1 v n (xs.map (Value.int .u8))) :
  (convert 23 9 v).run Tryz.prog w = .ok (.string (strOfNums xs)) w:=by
 obtain ⟨hl,h⟩:=hown
 have hl':xs.length=n:=by simpa using hl
 rcases h with ⟨rfl,rfl⟩ | ⟨g,cap,cur,rfl,_,hb,hn,_,hc,ht⟩
 ·have:xs = []:=List.length_eq_zero_iff.1 hl'
  subst this
  rw [run_convert_bytes_nil w 23 5 Tryz.underlying23 Tryz.underlying5 0 0 9 Tryz.underlying9]
  rfl
 ·refine run_convert_bytes_arg _ 23 5 Tryz.underlying23 Tryz.underlying5 g 0 n cap xs hl' (fun i hi => ?_) 9 Tryz.underlying9
  have hi':i < xs.length:=by omega
  have e1:(cur.toList.take (n * 1))[i]? = some (Value.int .u8 (xs.getD i 0)):=by
   rw [ht]
   simp [List.getElem?_eq_getElem hi', List.getD]
  rw [List.getElem?_take] at e1
  split at e1
  ·simp only [World.cell?,hb,Nat.zero_add]
   simpa using e1
  ·cases e1
def nuV (v:Int) (i:Nat):Int:=xb (v % 18446744073709551616) i
theorem nu_0 (v:Int):nuV v 0=v % 18446744073709551616:=Tl.Cd.xb_zero _
theorem nu_next (v:Int) (i:Nat):nuV v (i+1)=nuV v i / 256:=(Tl.Cd.xb_succ _ i).symm
theorem nu_byte (v:Int) : ∀ i,i < 8→nuV v i % 256=xb v i % 256
 | 0,_=>by simp [nuV,xb]; try omega
 | 1,_=>by simp [nuV,xb]; omega
 | 2,_=>by simp [nuV,xb]; omega
 | 3,_=>by simp [nuV,xb]; omega
 | 4,_=>by simp [nuV,xb]; omega
 | 5,_=>by simp [nuV,xb]; omega
 | 6,_=>by simp [nuV,xb]; omega
 | 7,_=>by simp [nuV,xb]; omega
 | n+8,h=>by omega
theorem nu_bd (v:Int) (i:Nat):0≤nuV v i∧nuV v i < 18446744073709551616:=by
 unfold nuV xb
 have h1:(0:Int) < 256 ^ i:=Int.pow_pos (by decide)
 have h2:0≤v % 18446744073709551616:=Int.emod_nonneg _ (by decide)
 have h3:v % 18446744073709551616 < 18446744073709551616:=Int.emod_lt_of_pos _ (by decide)
 have h4:=Int.ediv_le_self (256 ^ i) h2
 exact ⟨Int.ediv_nonneg h2 (Int.le_of_lt h1),by omega⟩
theorem ret_cf {fn:Func} {p:Tmp} {R:Ending→World→Prop} {a:Act} {w:World} {g:Nat} {cs:Array Value} (h:fn.results = #[.cell p 32]) (hp:a.tmps.getD p undef = .pointer (some ⟨g,0,none⟩))
  (hg:w.heap[g]? = some (.cells cs 32 (0,0))) (hz:cs.size=7) (hd:a.defers = []) (hR:R (.returned (.agg cs)) w):bodyPost Tryz.prog fn R .ret a w:=by
 refine bodyPost_ret (v:=.agg cs) ?_ hd hR
 have hp':a.tmps[p]?.getD undef = .pointer (some ⟨g,0,none⟩):=by simpa using hp
 have hl:=run_loadVar_row (P:=Tryz.prog) w g 32 32 cs (0,0) _ hg Tryz.underlying32 rfl (by rw [hz]; kernel_rfl)
 simp [results, h, hp', asAddr, hl]
theorem small_any (w:World):Calls Tryz.prog 8 #[] w fun e w' => e = .returned (.agg #[.int .i64 1,.int .i64 2,.int .i64 4,.int .i64 9,.bool false,.int .i64 2,.slice none 0 0])∧Below w.heap.size w w':=by
 go_enter Tryz.func8,Tryz.ntmps8
 go_wp2_with fail
 exact ret_cf rfl rfl (heap_alloc_new _ _) rfl rfl ⟨rfl,below_a1 _ _⟩
def pushL (v:Int) (i:Nat):List Int:=3 :: layN v i
theorem push_next (v:Int) (i:Nat) (h:i < 8):pushL v (i+1)=pushL v i ++ [nuV v i % 256]:=by
 unfold pushL
 rw [Tl.Cd.lay_succ,nu_byte v i h]
 rfl
theorem one_u8 (z:Int) : ∀ u ∈ [Value.int .u8 z],u.oneCell'=true:=by intro u hu; simp at hu; subst hu; rfl
theorem u8_wrap (z:Int):IntKind.u8.wrap z=z % 256:=by simp [IntKind.wrap,IntKind.signed,IntKind.bits]
theorem u64_wrap (z:Int):IntKind.u64.wrap z=z % 18446744073709551616:=by simp [IntKind.wrap,IntKind.signed,IntKind.bits]
set_option maxRecDepth 10000 in
theorem pushed_any (w:World) (v:Int):Calls Tryz.prog 6 #[.int .i64 v] w fun e w' => e = .returned (.string (strOfNums (bytesI 3 v)))∧Below w.heap.size w w':=by
 have HNX:Hid (∀ i,nuV v (i+1)=nuV v i / 256):=nu_next v
 have HBD:Hid (∀ i,0≤nuV v i∧nuV v i < 18446744073709551616):=nu_bd v
 have h0:IntKind.u64.wrap v=nuV v 0:=by rw [nu_0,u64_wrap]
 have HPN:Hid (∀ i,i < 8→pushL v (i+1)=pushL v i ++ [nuV v i % 256]):=push_next v
 obtain ⟨i0,hi,hz0,hz1,hz2⟩:=Tl.info_parts info_u8
 go_enter Tryz.func6,Tryz.ntmps6
 go_wp2_with fail
 have HS0:Hid ((w.alloc (.cells #[.int .u8 3] 5)).ownsRow w.heap.size 5 1 (.slice (some ⟨w.heap.size,0,none⟩) 1 1) 1 ((pushL v 0).map (Value.int .u8))):=by
  refine ⟨rfl,Or.inr ⟨w.heap.size,1,#[.int .u8 3],rfl,Nat.le_refl _,heap_alloc_new _ _,Nat.le_refl _,by decide,rfl,rfl⟩⟩
 have HB0:Hid (Below w.heap.size w (w.alloc (.cells #[.int .u8 3] 5))):=below_a1 _ _
 go_loopw [3,4,5] (fun bv nv iv wr => ∃ i:Nat,i≤8∧iv = .int .i64 (i:Int)∧nv = .int .u64 (nuV v i)∧wr.ownsRow w.heap.size 5 1 bv (i+1) ((pushL v i).map (Value.int .u8))∧Below w.heap.size w wr) (fun _ _ iv _=>8 - (intOf iv).toNat)
 case atStart=>exact ⟨0,by omega,rfl,by rw [← h0],HS0.out,HB0.out⟩
 case round =>
  obtain ⟨i,hi8,rfl,rfl,hown,hb⟩:=hrel
  clear HS0 HB0
  have HO:Hid (wr.ownsRow w.heap.size 5 1 u3 (i+1) ((pushL v i).map (Value.int .u8))):=hown
  have HB:Hid (Below w.heap.size w wr):=hb
  clear hown hb
  by_cases h8:i < 8
  ·have hx:(i:Int) < 8:=by omega
   obtain ⟨z,hz⟩ : ∃ z,nuV v i=z:=⟨_,rfl⟩
   have hbd:=HBD.out i
   have hq:nuV v (i+1)=z / 256:=by rw [HNX.out,hz]
   have hpn:=HPN.out i h8
   rw [hz] at hbd hpn ⊢
   have HQ:Hid (nuV v (i+1)=z / 256∧pushL v (i+1)=pushL v i ++ [z % 256]):=⟨hq,hpn⟩
   have HBZ:Hid (0≤z∧z < 18446744073709551616):=hbd
   have hq1:z.tdiv 256=z / 256:=Int.tdiv_eq_ediv_of_nonneg hbd.1
   have hbb:w.heap.size≤wr.heap.size:=HB.out.size
   clear hq hpn hz HNX HBD HPN
   go_wp2_with (at_builtin; refine list_lies_wide _ rfl _ _ 23 rfl w.heap.size 5 i0 _ 1 1 Tryz.underlying23 hi hz0 hz1 hz2 rfl (by decide) _ _ _ rfl (HO.out.alloc _) ⟨wr.heap.size,0,none⟩ 1 1 [.int .u8 (z % 256)] rfl rfl ?c1 ?c2 ?c3 ?c4 ?c5 ?c6 _ rfl ?_)
   case c1=>exact World.news_of_block (cs:=#[.int .u8 (z % 256)]) (t:=5) (fr:=(0,0)) (heap_alloc_new _ _)
   case c2=>exact one_u8 _
   case c3=>decide
   case c4=>unfold maxLen; omega
   case c5=>omega
   case c6=>simp; omega
   intro g cp w2 hown hgrow _ _
   have k2:Keep (u3.ownBlock.toList) wr w2:=((Keep.refl _ _).alloc _).grown hgrow (fun b hb=>Or.inl (by simp [hb]))
   have HF:Hid (w2.ownsRow w.heap.size 5 1 (.slice (some ⟨g,0,none⟩) (i+1+1) cp) (i+1+1) ((pushL v i).map (Value.int .u8) ++ [.int .u8 (z % 256)])∧Below w.heap.size w w2):=⟨hown,HB.out.trans (k2.below HB.out.size (fun b hb=>(HO.out.lt b (by simpa using hb)).1))⟩
   clear hown hgrow k2 hbd hbb
   go_wp2_with fail
   go_roundw
   case rel =>
    refine ⟨i+1,by omega,by go_num, ?_, ?_,HF.out.2⟩
    ·rw [HQ.out.1,u64_wrap]
     have h9:=HBZ.out
     congr 1
     omega
    ·rw [HQ.out.2,List.map_append]; exact HF.out.1
   case measure=>simp [intOf]; omega
  ·have h9:i=8:=by omega
   subst h9
   have hcv:=conv_own _ _ _ _ _ HO.out
   clear HNX HBD HPN
   go_wp2_with fail
   go_ret
   exact ⟨rfl,HB.out⟩
theorem signed_any (n h:Int) (hn:0≤n∧n < 4294967296) (hh:0≤h∧h≤2147483648) (w:World):Calls Tryz.prog 17 #[.int .u64 n,.int .i64 h] w fun e w' => e = .returned (.int .i64 (if h≤n then n - 2 * h else n))∧w'=w:=by
 have e1:wrap64 n=n:=by unfold wrap64; omega
 have e2:wrap64 (2 * h)=2 * h:=by unfold wrap64; omega
 have e3:Hid (wrap64 (n - wrap64 (2 * h))=n - 2 * h):=by unfold Hid; rw [e2]; unfold wrap64; omega
 have E1:Hid (wrap64 n=n):=e1
 clear hn hh e2
 by_cases hle:h≤n
 ·rw [if_pos hle]
  go_enter Tryz.func17,Tryz.ntmps17
  go_wp2_with fail
  go_ret
  exact ⟨by show Ending.returned (.int .i64 (wrap64 (n - wrap64 (2 * h))))=_; rw [e3.out],rfl⟩
 ·rw [if_neg hle]
  have hle2 : ¬ h≤wrap64 n:=by rw [E1.out]; exact hle
  have hlt:wrap64 n < h:=by rw [E1.out]; omega
  clear e1 hle
  go_enter Tryz.func17,Tryz.ntmps17
  go_wp2_with fail
  go_ret
  exact ⟨by show Ending.returned (.int .i64 (wrap64 n))=_; rw [E1.out],rfl⟩
theorem turn_not (o v:Int) (w:World):Calls Tryz.prog 10 #[.agg #[.int .i64 16,.int .i64 o],.int .i64 v] w fun e w' => e = .returned (.int .i64 (bits .xor .i64 (-1) v))∧Below w.heap.size w w':=by
 go_enter Tryz.func10,Tryz.ntmps10
 go_wp2_with fail
 go_ret
 exact ⟨rfl,below_a1 _ _⟩
theorem i8_wrap (z:Int):IntKind.i8.wrap z=(z+128) % 256 - 128:=by
 simp [IntKind.wrap,IntKind.signed,IntKind.bits]
 split <;> omega
theorem i16_wrap (z:Int):IntKind.i16.wrap z=(z+32768) % 65536 - 32768:=by
 simp [IntKind.wrap,IntKind.signed,IntKind.bits]
 split <;> omega
def narK (v:Int):Nat→Int
 | 0=>wrap64 (IntKind.i8.wrap v)
 | 1=>wrap64 (IntKind.i16.wrap v)
 | 2=>wrap64 (wrap32 v)
 | 3=>v % 256
 | 4=>v % 65536
 | _=>v % 4294967296
theorem nar_k (v:Int) : ∀ k:Nat,k≤5→narV v (k:Int)=narK v k
 | 0,_=>rfl
 | 1,_=>rfl
 | 2,_=>rfl
 | 3,_=>rfl
 | 4,_=>rfl
 | 5,_=>rfl
 | n+6,h=>by omega
theorem turn_conv (k:Nat) (hk5:k≤5) (v:Int) (w:World):Calls Tryz.prog 10 #[.agg #[.int .i64 23,.int .i64 (k:Int)],.int .i64 v] w fun e w' => e = .returned (.int .i64 (narV v (k:Int)))∧Below w.heap.size w w':=by
 have hk:=nar_k v
 have hc:k=0∨k=1∨k=2∨k=3∨k=4∨k=5:=by omega
 clear hk5
 rcases hc with rfl | rfl | rfl | rfl | rfl | rfl
 ·have ht:(IntKind.u64.wrap v).tmod 256=v % 256:=by rw [Int.tmod_eq_emod_of_nonneg (by rw [u64_wrap]; omega),u64_wrap]; omega
  have hval:(if (128:Int)≤v % 256 then v % 256 - 2 * 128 else v % 256)=narK v 0:=by
   simp only [narK]; rw [i8_wrap]; unfold wrap64; split <;> omega
  have HS:Hid (∀ w1:World,Calls Tryz.prog 17 #[.int .u64 ((IntKind.u64.wrap v).tmod 256),.int .i64 128] w1 fun e w' => e = .returned (.int .i64 (narK v 0))∧w'=w1):=fun w1=>by
   rw [ht,← hval]
   exact signed_any (v % 256) 128 (by omega) (by decide) w1
  rw [hk 0 (by decide)]
  generalize narK v 0=z at *
  clear hval hk ht
  go_enter Tryz.func10,Tryz.ntmps10
  go_wp2_with fail
  refine (HS.out _).mono ?_
  rintro e w1 ⟨rfl,rfl⟩
  go_wp2_with fail
  go_ret
  exact ⟨rfl,below_a1 _ _⟩
 ·have ht:(IntKind.u64.wrap v).tmod 65536=v % 65536:=by rw [Int.tmod_eq_emod_of_nonneg (by rw [u64_wrap]; omega),u64_wrap]; omega
  have hval:(if (32768:Int)≤v % 65536 then v % 65536 - 2 * 32768 else v % 65536)=narK v 1:=by
   simp only [narK]; rw [i16_wrap]; unfold wrap64; split <;> omega
  have HS:Hid (∀ w1:World,Calls Tryz.prog 17 #[.int .u64 ((IntKind.u64.wrap v).tmod 65536),.int .i64 32768] w1 fun e w' => e = .returned (.int .i64 (narK v 1))∧w'=w1):=fun w1=>by
   rw [ht,← hval]
   exact signed_any (v % 65536) 32768 (by omega) (by decide) w1
  rw [hk 1 (by decide)]
  generalize narK v 1=z at *
  clear hval hk ht
  go_enter Tryz.func10,Tryz.ntmps10
  go_wp2_with fail
  refine (HS.out _).mono ?_
  rintro e w1 ⟨rfl,rfl⟩
  go_wp2_with fail
  go_ret
  exact ⟨rfl,below_a1 _ _⟩
 ·have ht:(IntKind.u64.wrap v).tmod 4294967296=v % 4294967296:=by rw [Int.tmod_eq_emod_of_nonneg (by rw [u64_wrap]; omega),u64_wrap]; omega
  have hval:(if (2147483648:Int)≤v % 4294967296 then v % 4294967296 - 2 * 2147483648 else v % 4294967296)=narK v 2:=by
   simp only [narK]; unfold wrap32; unfold wrap64; split <;> omega
  have HS:Hid (∀ w1:World,Calls Tryz.prog 17 #[.int .u64 ((IntKind.u64.wrap v).tmod 4294967296),.int .i64 2147483648] w1 fun e w' => e = .returned (.int .i64 (narK v 2))∧w'=w1):=fun w1=>by
   rw [ht,← hval]
   exact signed_any (v % 4294967296) 2147483648 (by omega) (by decide) w1
  rw [hk 2 (by decide)]
  generalize narK v 2=z at *
  clear hval hk ht
  go_enter Tryz.func10,Tryz.ntmps10
  go_wp2_with fail
  refine (HS.out _).mono ?_
  rintro e w1 ⟨rfl,rfl⟩
  go_wp2_with fail
  go_ret
  exact ⟨rfl,below_a1 _ _⟩
 ·have hw:Hid (wrap64 ((IntKind.u64.wrap v).tmod 256)=narK v 3):=by
   unfold Hid
   rw [Int.tmod_eq_emod_of_nonneg (by rw [u64_wrap]; omega),u64_wrap]
   simp only [narK]
   unfold wrap64
   omega
  rw [hk 3 (by decide)]
  clear hk
  go_enter Tryz.func10,Tryz.ntmps10
  go_wp2_with fail
  go_ret
  exact ⟨by show Ending.returned (.int .i64 (wrap64 ((IntKind.u64.wrap v).tmod 256)))=_; rw [hw.out],below_a1 _ _⟩
 ·have hw:Hid (wrap64 ((IntKind.u64.wrap v).tmod 65536)=narK v 4):=by
   unfold Hid
   rw [Int.tmod_eq_emod_of_nonneg (by rw [u64_wrap]; omega),u64_wrap]
   simp only [narK]
   unfold wrap64
   omega
  rw [hk 4 (by decide)]
  clear hk
  go_enter Tryz.func10,Tryz.ntmps10
  go_wp2_with fail
  go_ret
  exact ⟨by show Ending.returned (.int .i64 (wrap64 ((IntKind.u64.wrap v).tmod 65536)))=_; rw [hw.out],below_a1 _ _⟩
 ·have hw:Hid (wrap64 ((IntKind.u64.wrap v).tmod 4294967296)=narK v 5):=by
   unfold Hid
   rw [Int.tmod_eq_emod_of_nonneg (by rw [u64_wrap]; omega),u64_wrap]
   simp only [narK]
   unfold wrap64
   omega
  rw [hk 5 (by decide)]
  clear hk
  go_enter Tryz.func10,Tryz.ntmps10
  go_wp2_with fail
  go_ret
  exact ⟨by show Ending.returned (.int .i64 (wrap64 ((IntKind.u64.wrap v).tmod 4294967296)))=_; rw [hw.out],below_a1 _ _⟩
end Go.Proofs.YtopokgnngknbdaaGreatDoor.Pj
namespace Go.Proofs.YtopokgnngknbdaaGreatDoor.Pj
open Go.ChangeShapes Go.WideShapes Go.ChangeAt Go.RowKit
open Tl (Wn wn0 nth numC Nl)
open Tl.Cd (bytesI layN xb okI wdC)
attribute [local go_sem ↓] Go.wp_at_zero Go.wp_at_succ
def turnP (c:Nat) (o v:Int):List (Nat × Int):=[(3,v),(c,o),(29,0)]
def turnB (c:Nat) (o v:Int):ByteArray:=strOfNums (bytesI 3 v)++strOfNums (bytesI c o ++ [29,0])
theorem turn_bs (c:Nat) (o v:Int) (hc:c≤40):Bs (turnB c o v) (bytesP (turnP c o v)++bytesI 0 0):=by
 have e:bytesP (turnP c o v)++bytesI 0 0=bytesI 3 v++(bytesI c o ++ [29,0]):=by
  simp [bytesP,turnP]
  rfl
 rw [e]
 refine bs_app (bs_str _ (Tl.Cd.bytesI_bd (by decide) v)) (bs_str _ (fun x hx => ?_))
 rcases List.mem_append.1 hx with h | h
 ·exact Tl.Cd.bytesI_bd hc o x h
 ·simp at h; omega
theorem turn_seq (c:Nat) (o v:Int) (hc:(c=16∧o=0)∨(c=23∧0≤o∧o≤5)) (hv:Tl.Sx v):Seq (turnB c o v) (turnP c o v):=by
 have h40:c≤40:=by omega
 have hb:=turn_bs c o v h40
 have hw:wdC c≤1:=by rcases hc with ⟨rfl,_⟩ | ⟨rfl,_⟩ <;> decide
 refine ⟨hb, ?_,fun n q hq => ?_⟩
 ·rw [hb.1]
  simp [bytesP,turnP,Tl.Cd.bytesI_len]
  have:wdC 3=8:=rfl
  have:wdC 29=0:=rfl
  have:wdC 0=0:=rfl
  omega
 ·match n,hq with
  | 0,hq =>
   obtain rfl:(3,v)=q:=Option.some.inj hq
   dsimp only
   exact ⟨rfl,⟨by decide,by decide,hv.1,hv.2⟩,by decide,by decide,by decide,fun e=>absurd e (by decide),rfl⟩
  | 1,hq =>
   obtain rfl:(c,o)=q:=Option.some.inj hq
   dsimp only
   rcases hc with ⟨rfl,rfl⟩ | ⟨rfl,h0,h5⟩
   ·exact ⟨rfl,by decide,by decide,by decide,by decide,fun e=>absurd e (by decide),rfl⟩
   ·exact ⟨rfl,⟨by decide,by decide,h0,h5⟩,by decide,by decide,by decide,fun e=>absurd e (by decide),rfl⟩
  | 2,hq =>
   obtain rfl:((29:Nat),(0:Int))=q:=Option.some.inj hq
   dsimp only
   refine ⟨rfl,by decide,by decide,by decide,by decide,fun e=>absurd e (by decide), ?_⟩
   rcases hc with ⟨rfl,rfl⟩ | ⟨rfl,h0,h5⟩ <;> rfl
  | n+3,hq=>cases hq
theorem turn_end16 (B:ByteArray) (v:Int):(stJ B (turnP 16 0 v) 5).tl = [bits .xor .i64 (-1) v] ∧ (stJ B (turnP 16 0 v) 5).err=0∧(stJ B (turnP 16 0 v) 5).nr=1:=⟨rfl,rfl,rfl⟩
theorem turn_end23 (B:ByteArray) (o v:Int):(stJ B (turnP 23 o v) 5).tl = [narV v o] ∧ (stJ B (turnP 23 o v) 5).err=0∧(stJ B (turnP 23 o v) 5).nr=1:=⟨rfl,rfl,rfl⟩
theorem turn_ends {w:World} (hT:Tl.Cd.Tab w) {c:Nat} {o v z:Int} (hs:Seq (turnB c o v) (turnP c o v)) (he:(stJ (turnB c o v) (turnP c o v) 5).tl = [z] ∧ (stJ (turnB c o v) (turnP c o v) 5).err=0∧(stJ (turnB c o v) (turnP c o v) 5).nr=1) (hz:Tl.Sx z) :
  Calls Tryz.prog 7 #[.agg #[.int .i64 1,.int .i64 2,.int .i64 4,.int .i64 9,.bool false,.int .i64 2,.slice none 0 0],.string (turnB c o v),.slice none 0 0,.int .i64 9] w fun e w' => ∃ g cp,e = .returned (.tuple #[.agg #[.int .i64 1,.int .i64 0,.slice (some ⟨g,0,none⟩) 1 cp],.bool true])∧w'.cell? ⟨g,0,none⟩=some (.int .i64 z)∧1≤cp∧Below w.heap.size w w':=by
 obtain ⟨e1,e2,e3⟩:=he
 have hr:=seq_run hs
 have h:=ends_any hT (turnB c o v) hs.cd hr (by show 1≤5; omega) 9 (by show 5≤9; omega) (by omega) (by
    show (stJ (turnB c o v) (turnP c o v) 5).tl.length≤1000∧_
    rw [show (turnP c o v).length+2=5 from rfl,e1]
    exact ⟨by simp,fun x hx=>by simp at hx; subst hx; exact hz⟩)
 rw [show (turnP c o v).length+2=5 from rfl,e1,e2,e3] at h
 refine h.mono ?_
 rintro e w' ⟨u,rfl,h1,_,hb⟩
 have ho:=h1 rfl
 rcases ho.2 with ⟨_,h2⟩ | ⟨g,cap,_,rfl,_,_,h3,_,_⟩
 ·simp at h2
 ·exact ⟨g,cap,rfl,own_cells ho 0 _ rfl,h3,hb⟩
theorem i64_bd (n:Int):Tl.Sx (IntKind.i64.wrap n):=by
 unfold Tl.Sx
 simp [IntKind.wrap,IntKind.signed,IntKind.bits]
 split <;> omega
theorem bits_sx (op:BinOp) (a b:Int):Tl.Sx (bits op .i64 a b):=by unfold bits; exact i64_bd _
theorem nar_sx (k:Nat) (hk:k≤5) (v:Int):Tl.Sx (narV v (k:Int)):=by
 rw [nar_k v k hk]
 have hw : ∀ n,Tl.Sx (wrap64 n):=fun n=>by unfold Tl.Sx wrap64; omega
 have hc:k=0∨k=1∨k=2∨k=3∨k=4∨k=5:=by omega
 rcases hc with rfl | rfl | rfl | rfl | rfl | rfl
 ·exact hw _
 ·exact hw _
 ·exact hw _
 ·simp only [narK]; unfold Tl.Sx; omega
 ·simp only [narK]; unfold Tl.Sx; omega
 ·simp only [narK]; unfold Tl.Sx; omega
theorem conv_lit (l:List Int) {W:World} {B:Nat} (h:W.heap[B]? = some (.cells (l.map (Value.int .u8)).toArray 5 (0,0))) (hl:l.length≤100):(convert 23 9 (.slice (some ⟨B,0,none⟩) l.length l.length)).run Tryz.prog W = .ok (.string (strOfNums l)) W:=by
 refine conv_own W 0 _ _ l ⟨by simp,Or.inr ⟨B,l.length,(l.map (Value.int .u8)).toArray,rfl,Nat.zero_le _,h,Nat.le_refl _,by unfold maxLen; omega,by simp,by simp [List.take_of_length_le]⟩⟩
set_option maxRecDepth 10000 in
theorem turns_walk16 (kind:Int) (_wk:(Lit.int .i64 kind).wf=true) (v:Int) (wv:(Lit.int .i64 v).wf=true) {w:World} (hT:Tl.Cd.Tab w) (hk:kind < 0∨5 < kind) :
  Calls Tryz.prog 4 #[.int .i64 kind,.int .i64 v] w fun e w' => e = .returned (.bool true)∧Below w.heap.size w w':=by
 have hv:Tl.Sx v:=Tl.sx_of_wf wv
 have HPU:Hid (∀ w':World,Calls Tryz.prog 6 #[.int .i64 v] w' fun e w'' => e = .returned (.string (strOfNums (bytesI 3 v)))∧Below w'.heap.size w' w''):=fun w' => pushed_any w' v
 have HC3:Hid (∀ (W:World) (B:Nat),W.heap[B]? = some (.cells #[.int .u8 16,.int .u8 29,.int .u8 0] 5 (0,0))→(convert 23 9 (.slice (some ⟨B,0,none⟩) 3 3)).run Tryz.prog W = .ok (.string (strOfNums [16,29,0])) W):=fun W B h=>conv_lit [16,29,0] h (by decide)
 have hsz:(strOfNums (bytesI 3 v)).size=9:=by rw [strOfNums_size,Tl.Cd.bytesI_len]; rfl
 have hA3 : ∀ w:World,(Op.stringOp .add (strOfNums (bytesI 3 v)) (strOfNums [16,29,0])).run Tryz.prog w = .ok (.string (turnB 16 0 v)) w:=fun w=>run_string_add_sum (P:=Tryz.prog) w _ _ (by rw [hsz,strOfNums_size]; decide)
 have HTN:Hid (∀ w':World,Calls Tryz.prog 10 #[.agg #[.int .i64 16,.int .i64 0],.int .i64 v] w' fun e w'' => e = .returned (.int .i64 (bits .xor .i64 (-1) v))∧Below w'.heap.size w' w''):=fun w' => turn_not 0 v w'
 have HSM:Hid (∀ w':World,Calls Tryz.prog 8 #[] w' fun e w'' => e = .returned (.agg #[.int .i64 1,.int .i64 2,.int .i64 4,.int .i64 9,.bool false,.int .i64 2,.slice none 0 0])∧Below w'.heap.size w' w''):=small_any
 have HE16:Hid (∀ w':World,Below w.heap.size w w'→Calls Tryz.prog 7 #[.agg #[.int .i64 1,.int .i64 2,.int .i64 4,.int .i64 9,.bool false,.int .i64 2,.slice none 0 0],.string (turnB 16 0 v),.slice none 0 0,.int .i64 9] w' fun e w'' => ∃ g cp,e = .returned (.tuple #[.agg #[.int .i64 1,.int .i64 0,.slice (some ⟨g,0,none⟩) 1 cp],.bool true])∧w''.cell? ⟨g,0,none⟩=some (.int .i64 (bits .xor .i64 (-1) v))∧1≤cp∧Below w'.heap.size w' w''):=fun w' hb=>turn_ends (hT.later hb) (turn_seq 16 0 v (Or.inl ⟨rfl,rfl⟩) hv) (turn_end16 _ v) (bits_sx _ _ _)
 clear hT wv hv
 generalize turnB 16 0 v=B16 at *
 generalize bits .xor .i64 (-1) v=z16 at *
 generalize strOfNums (bytesI 3 v)=A at *
 go_enter Tryz.func4,Tryz.ntmps4
 go_upto_region 1 with fail
 go_cut [5] (fun s wx=>s = .string B16∧Below w.heap.size w wx)
 case first =>
  have hc0:=HC3.out (w.alloc (.cells #[.int .u8 16,.int .u8 29,.int .u8 0] 5)) w.heap.size (heap_alloc_new _ _)
  have hc1:=HC3.out (w.alloc (.cells #[.int .u8 16,.int .u8 29,.int .u8 0] 5)).drew w.heap.size (heap_alloc_new _ _)
  go_region_with (go_at_call 6; refine (HPU.out _).mono ?_; rintro e w1 ⟨rfl,hb1⟩; have hc2:=HC3.out (w1.alloc (.cells #[.int .u8 16,.int .u8 29,.int .u8 0] 5)) w1.heap.size (heap_alloc_new _ _); (try (have hr:=(show w1.heap[w.heap.size]? = some (.cells #[.int .u8 16,.int .u8 29,.int .u8 0] 5 (0,0)) by first | exact row_on (w:=w.alloc (.cells #[.int .u8 16,.int .u8 29,.int .u8 0] 5)) (heap_alloc_new w _) hb1 | exact row_on (w:=(w.alloc (.cells #[.int .u8 16,.int .u8 29,.int .u8 0] 5)).drew) (heap_alloc_new w _) hb1); have hc3:=HC3.out w1 w.heap.size hr)); have HB1:Hid (Below w.heap.size w w1):=(by first | exact hb1 | exact below_then (below_drawn (Below.refl _ _) 1) hb1 | exact below_then (below_a1 _ _) hb1 | exact below_then (below_a1 _ _).drew hb1))
  all_goals
   go_wp2_with fail
   go_meet
   first
    | exact ⟨rfl,HB1.out⟩
    | exact ⟨rfl,below_then HB1.out (below_a1 _ _)⟩
    | exact ⟨rfl,below_then HB1.out (below_a1 _ _).drew⟩
    | exact ⟨rfl,below_then HB1.out (below_drawn (Below.refl _ _) _)⟩
    | (trace_state; sorry)
 case rest =>
  obtain ⟨rfl,hb⟩:=hcut
  have HB:Hid (Below w.heap.size w wc):=hb
  clear hb HPU HC3 hA3
  go_wp2_with fail
  refine (HTN.out _).mono ?_
  rintro e w2 ⟨rfl,hb2⟩
  have HB2:Hid (Below w.heap.size w w2):=below_then HB.out hb2
  clear hb2 HB HTN
  rcases hk with hk | hk
  all_goals
   go_wp2_with fail
   refine (HSM.out _).mono ?_
   rintro e w4 ⟨rfl,hb4⟩
   have HB4:Hid (Below w.heap.size w w4):=below_then HB2.out hb4
   clear hb4
   go_wp2_with fail
   refine (HE16.out _ HB4.out).mono ?_
   rintro e w5 ⟨g,cp,rfl,hg,hcp,hb5⟩
   have HB5:Hid (Below w.heap.size w w5):=below_then HB4.out hb5
   have hgl:=World.block_lt_of_cell? _ _ hg
   clear hb5
   go_wp2_with fail
   go_ret
   exact ⟨rfl,below_then HB5.out (below_a1 _ _)⟩
set_option maxRecDepth 10000 in
theorem turns_walk23 (kind:Int) (_wk:(Lit.int .i64 kind).wf=true) (v:Int) (wv:(Lit.int .i64 v).wf=true) {w:World} (hT:Tl.Cd.Tab w) (k:Nat) (hkk:kind=(k:Int)) (hk5:k≤5) :
  Calls Tryz.prog 4 #[.int .i64 kind,.int .i64 v] w fun e w' => e = .returned (.bool true)∧Below w.heap.size w w':=by
 have hv:Tl.Sx v:=Tl.sx_of_wf wv
 have HPU:Hid (∀ w':World,Calls Tryz.prog 6 #[.int .i64 v] w' fun e w'' => e = .returned (.string (strOfNums (bytesI 3 v)))∧Below w'.heap.size w' w''):=fun w' => pushed_any w' v
 have HC3:Hid (∀ (W:World) (B:Nat),W.heap[B]? = some (.cells #[.int .u8 16,.int .u8 29,.int .u8 0] 5 (0,0))→(convert 23 9 (.slice (some ⟨B,0,none⟩) 3 3)).run Tryz.prog W = .ok (.string (strOfNums [16,29,0])) W):=fun W B h=>conv_lit [16,29,0] h (by decide)
 have hsz:(strOfNums (bytesI 3 v)).size=9:=by rw [strOfNums_size,Tl.Cd.bytesI_len]; rfl
 have hA3 : ∀ w:World,(Op.stringOp .add (strOfNums (bytesI 3 v)) (strOfNums [16,29,0])).run Tryz.prog w = .ok (.string (turnB 16 0 v)) w:=fun w=>run_string_add_sum (P:=Tryz.prog) w _ _ (by rw [hsz,strOfNums_size]; decide)
 have HTN:Hid (∀ w':World,Calls Tryz.prog 10 #[.agg #[.int .i64 16,.int .i64 0],.int .i64 v] w' fun e w'' => e = .returned (.int .i64 (bits .xor .i64 (-1) v))∧Below w'.heap.size w' w''):=fun w' => turn_not 0 v w'
 have HSM:Hid (∀ w':World,Calls Tryz.prog 8 #[] w' fun e w'' => e = .returned (.agg #[.int .i64 1,.int .i64 2,.int .i64 4,.int .i64 9,.bool false,.int .i64 2,.slice none 0 0])∧Below w'.heap.size w' w''):=small_any
 have e4:bytesI 23 kind ++ [29,0] = [23,IntKind.u8.wrap kind,29,0]:=by
  rw [u8_wrap]
  show (23:Int) :: layN kind 1 ++ [29,0] = _
  rw [(Tl.Cd.layn kind).1]
  rfl
 have HC4:Hid (∀ (W:World) (B:Nat),W.heap[B]? = some (.cells #[.int .u8 23,.int .u8 (IntKind.u8.wrap kind),.int .u8 29,.int .u8 0] 5 (0,0))→(convert 23 9 (.slice (some ⟨B,0,none⟩) 4 4)).run Tryz.prog W = .ok (.string (strOfNums [23,IntKind.u8.wrap kind,29,0])) W):=fun W B h=>conv_lit [23,IntKind.u8.wrap kind,29,0] h (by simp)
 have hA4 : ∀ w:World,(Op.stringOp .add (strOfNums (bytesI 3 v)) (strOfNums [23,IntKind.u8.wrap kind,29,0])).run Tryz.prog w = .ok (.string (turnB 23 kind v)) w:=fun w=>by
  have:=run_string_add_sum (P:=Tryz.prog) w (strOfNums (bytesI 3 v)) (strOfNums [23,IntKind.u8.wrap kind,29,0]) (by rw [hsz,strOfNums_size]; simp)
  rw [← e4] at this ⊢
  exact this
 have HTC:Hid (∀ w':World,Calls Tryz.prog 10 #[.agg #[.int .i64 23,.int .i64 kind],.int .i64 v] w' fun e w'' => e = .returned (.int .i64 (narV v kind))∧Below w'.heap.size w' w''):=fun w' => by rw [hkk]; exact turn_conv k hk5 v w'
 have hns:Tl.Sx (narV v kind):=by rw [hkk]; exact nar_sx k hk5 v
 have hk0:0≤kind:=by omega
 have hk6:kind≤5:=by omega
 have HE23:Hid (∀ w':World,Below w.heap.size w w'→Calls Tryz.prog 7 #[.agg #[.int .i64 1,.int .i64 2,.int .i64 4,.int .i64 9,.bool false,.int .i64 2,.slice none 0 0],.string (turnB 23 kind v),.slice none 0 0,.int .i64 9] w' fun e w'' => ∃ g cp,e = .returned (.tuple #[.agg #[.int .i64 1,.int .i64 0,.slice (some ⟨g,0,none⟩) 1 cp],.bool true])∧w''.cell? ⟨g,0,none⟩=some (.int .i64 (narV v kind))∧1≤cp∧Below w'.heap.size w' w''):=fun w' hb=>turn_ends (hT.later hb) (turn_seq 23 kind v (Or.inr ⟨rfl,hk0,hk6⟩) hv) (turn_end23 _ kind v) hns
 clear hT wv hv hkk hk5 e4 hns
 generalize turnB 23 kind v=B23 at *
 generalize narV v kind=z23 at *
 generalize turnB 16 0 v=B16 at *
 generalize bits .xor .i64 (-1) v=z16 at *
 generalize strOfNums (bytesI 3 v)=A at *
 go_enter Tryz.func4,Tryz.ntmps4
 go_upto_region 1 with fail
 go_cut [5] (fun s wx=>s = .string B16∧Below w.heap.size w wx)
 case first =>
  have hc0:=HC3.out (w.alloc (.cells #[.int .u8 16,.int .u8 29,.int .u8 0] 5)) w.heap.size (heap_alloc_new _ _)
  have hc1:=HC3.out (w.alloc (.cells #[.int .u8 16,.int .u8 29,.int .u8 0] 5)).drew w.heap.size (heap_alloc_new _ _)
  go_region_with (go_at_call 6; refine (HPU.out _).mono ?_; rintro e w1 ⟨rfl,hb1⟩; have hc2:=HC3.out (w1.alloc (.cells #[.int .u8 16,.int .u8 29,.int .u8 0] 5)) w1.heap.size (heap_alloc_new _ _); (try (have hr:=(show w1.heap[w.heap.size]? = some (.cells #[.int .u8 16,.int .u8 29,.int .u8 0] 5 (0,0)) by first | exact row_on (w:=w.alloc (.cells #[.int .u8 16,.int .u8 29,.int .u8 0] 5)) (heap_alloc_new w _) hb1 | exact row_on (w:=(w.alloc (.cells #[.int .u8 16,.int .u8 29,.int .u8 0] 5)).drew) (heap_alloc_new w _) hb1); have hc3:=HC3.out w1 w.heap.size hr)); have HB1:Hid (Below w.heap.size w w1):=(by first | exact hb1 | exact below_then (below_drawn (Below.refl _ _) 1) hb1 | exact below_then (below_a1 _ _) hb1 | exact below_then (below_a1 _ _).drew hb1))
  all_goals
   go_wp2_with fail
   go_meet
   first
    | exact ⟨rfl,HB1.out⟩
    | exact ⟨rfl,below_then HB1.out (below_a1 _ _)⟩
    | exact ⟨rfl,below_then HB1.out (below_a1 _ _).drew⟩
    | exact ⟨rfl,below_then HB1.out (below_drawn (Below.refl _ _) _)⟩
    | (trace_state; sorry)
 case rest =>
  obtain ⟨rfl,hb⟩:=hcut
  have HB:Hid (Below w.heap.size w wc):=hb
  clear hb HC3 hA3
  go_wp2_with fail
  refine (HTN.out _).mono ?_
  rintro e w2 ⟨rfl,hb2⟩
  have HB2:Hid (Below w.heap.size w w2):=below_then HB.out hb2
  clear hb2 HB HTN
  go_upto_region 4 with fail
  go_cut [5] (fun s wx=>s = .string B23∧Below w.heap.size w wx)
  case first =>
   have hc0:=HC4.out (w2.alloc (.cells #[.int .u8 23,.int .u8 (IntKind.u8.wrap kind),.int .u8 29,.int .u8 0] 5)) w2.heap.size (heap_alloc_new _ _)
   have hc1:=HC4.out (w2.alloc (.cells #[.int .u8 23,.int .u8 (IntKind.u8.wrap kind),.int .u8 29,.int .u8 0] 5)).drew w2.heap.size (heap_alloc_new _ _)
   go_region_with (go_at_call 6; refine (HPU.out _).mono ?_; rintro e w3 ⟨rfl,hb3⟩; have hc2:=HC4.out (w3.alloc (.cells #[.int .u8 23,.int .u8 (IntKind.u8.wrap kind),.int .u8 29,.int .u8 0] 5)) w3.heap.size (heap_alloc_new _ _); (try (have hr:=(show w3.heap[w2.heap.size]? = some (.cells #[.int .u8 23,.int .u8 (IntKind.u8.wrap kind),.int .u8 29,.int .u8 0] 5 (0,0)) by first | exact row_on (w:=w2.alloc (.cells #[.int .u8 23,.int .u8 (IntKind.u8.wrap kind),.int .u8 29,.int .u8 0] 5)) (heap_alloc_new w2 _) hb3 | exact row_on (w:=(w2.alloc (.cells #[.int .u8 23,.int .u8 (IntKind.u8.wrap kind),.int .u8 29,.int .u8 0] 5)).drew) (heap_alloc_new w2 _) hb3); have hc3:=HC4.out w3 w2.heap.size hr)); have HB3:Hid (Below w2.heap.size w2 w3):=(by first | exact hb3 | exact below_then (below_drawn (Below.refl _ _) 1) hb3 | exact below_then (below_a1 _ _) hb3 | exact below_then (below_a1 _ _).drew hb3))
   all_goals
    go_wp2_with fail
    go_meet
    first
     | exact ⟨rfl,below_then HB2.out HB3.out⟩
     | exact ⟨rfl,below_then HB2.out (below_then HB3.out (below_a1 _ _))⟩
     | exact ⟨rfl,below_then HB2.out (below_then HB3.out (below_a1 _ _).drew)⟩
     | exact ⟨rfl,below_then HB2.out (below_then HB3.out (below_drawn (Below.refl _ _) _))⟩
  case rest =>
   obtain ⟨rfl,hb⟩:=hcut
   have HB3:Hid (Below w.heap.size w wc):=hb
   clear hb HPU HC4 hA4
   go_wp2_with fail
   refine (HTC.out _).mono ?_
   rintro e w6 ⟨rfl,hb6⟩
   have HB6:Hid (Below w.heap.size w w6):=below_then HB3.out hb6
   clear hb6 HTC
   go_wp2_with fail
   refine (HSM.out _).mono ?_
   rintro e w4 ⟨rfl,hb4⟩
   have HB4:Hid (Below w.heap.size w w4):=below_then HB6.out hb4
   clear hb4
   go_wp2_with fail
   refine (HE23.out _ HB4.out).mono ?_
   rintro e w5 ⟨g,cp,rfl,hg,hcp,hb5⟩
   have HB5:Hid (Below w.heap.size w w5):=below_then HB4.out hb5
   have hgl:=World.block_lt_of_cell? _ _ hg
   clear hb5
   go_wp2_with fail
   go_ret
   exact ⟨rfl,below_then HB5.out (below_a1 _ _)⟩
theorem turns_walk (kind:Int) (wk:(Lit.int .i64 kind).wf=true) (v:Int) (wv:(Lit.int .i64 v).wf=true) {w:World} (hT:Tl.Cd.Tab w) :
  Calls Tryz.prog 4 #[.int .i64 kind,.int .i64 v] w fun e w' => e = .returned (.bool true)∧Below w.heap.size w w':=by
 by_cases h0:kind < 0
 ·exact turns_walk16 kind wk v wv hT (Or.inl h0)
 ·by_cases h5:5 < kind
  ·exact turns_walk16 kind wk v wv hT (Or.inr h5)
  ·exact turns_walk23 kind wk v wv hT kind.toNat (by omega) (by omega)
end Go.Proofs.YtopokgnngknbdaaGreatDoor.Pj
