/- The tables of operands as they lie, and what is asked of them. -/
import Derived.Test.YtigfjedohdgjfaaGreatDoorJBlkTabA
import Derived.Test.YtigfjedohdgjfaaGreatDoorCodM
import Derived.Lib.LaidTab
namespace Go.Proofs.YtigfjedohdgjfaaGreatDoor.Tl.Cd
open Go.ChangeShapes Go.WideShapes Go.ChangeAt Go.RowKit
def tabK:List Int:=[0,1,2,3,0,0,0,0,0,0,0,0,0,0,0,0,0,0,0,0,0,0,0,6,2,2,5,0,4,0,0,0,0,4,4,4,4,4,4,4,4]
def tabO:List Int:=[0,0,0,1,-128,127,2,-32768,32767,8,-9223372036854775808,9223372036854775807,1,0,255,2,0,65535,1,0,5]
def Tab (w:World):Prop:=(∀ i,i < 41→w.cell? ⟨1,i,none⟩=some (.int .u8 (tabK.getD i 0))) ∧ ∀ i,i < 21→w.cell? ⟨0,i,none⟩=some (.int .i64 (tabO.getD i 0))
theorem Tab.pos {w:World} (h:Tab w):1 < w.heap.size∧0 < w.heap.size:=⟨World.block_lt_of_cell? _ _ (h.1 0 (by decide)),World.block_lt_of_cell? _ _ (h.2 0 (by decide))⟩
theorem Tab.later {w w':World} (h:Tab w) (hb:Below w.heap.size w w'):Tab w' :=
 ⟨fun i hi=>by rw [hb.cell (p:=⟨1,i,none⟩) h.pos.1]; exact h.1 i hi,fun i hi=>by rw [hb.cell (p:=⟨0,i,none⟩) h.pos.2]; exact h.2 i hi⟩
theorem ccells_int:Tryz.prog.cellsOf 3=1:=by kernel_rfl
theorem ccells_i64:Tryz.prog.cellsOf 2=1:=by kernel_rfl
theorem ccells_opnd:Tryz.prog.cellsOf 127=3:=by kernel_rfl
theorem ccells_opnds:Tryz.prog.cellsOf 161=21:=by kernel_rfl
theorem clen3 {α:Type} {l:List α} (h:l.length=3) : ∃ a b c,l = [a,b,c]:=by
 match l,h with
 | [a,b,c],_=>exact ⟨a,b,c,rfl⟩
theorem opnd_of {H:Type} {enc:TypeId × Value→H} {W:World} {base:Nat} {sp:Nat→Bool} {held:Bool} {fuel:Nat} {cs:List Value} {a b c:Int} {q:List MemPlace}
  (hf:DataW.trod enc Tryz.prog W base sp held fuel 127 cs=some (.agg [.lit (.int .i64 a),.lit (.int .i64 b),.lit (.int .i64 c)],q)):cs = [.int .i64 a,.int .i64 b,.int .i64 c]:=by
 obtain ⟨xs,m,_,hx,hl,hlen,hfd⟩:=DataW.trod_struct Tryz.underlying127 hf
 have hl3:cs.length=3:=by rw [hl,ccells_opnd]
 obtain ⟨c0,c1,c2,rfl⟩:=clen3 hl3
 obtain ⟨y0,y1,y2,rfl⟩:=clen3 hlen
 have g0:=hfd 0 _ rfl
 have g1:=hfd 1 _ rfl
 have g2:=hfd 2 _ rfl
 simp [ccells_int,ccells_i64] at g0 g1 g2
 obtain ⟨a0,z0,e0,_⟩:=DataW.trod_int Tryz.underlying3 g0
 obtain ⟨a1,z1,e1,_⟩:=DataW.trod_int Tryz.underlying2 g1
 obtain ⟨a2,z2,e2,_⟩:=DataW.trod_int Tryz.underlying2 g2
 simp only [List.cons.injEq,and_true] at z0 z1 z2
 simp [e0,e1,e2] at hx
 obtain ⟨⟨h0,h1,h2⟩,_⟩:=hx
 rw [z0,z1,z2,h0,h1,h2]
theorem opnds_of {H:Type} {enc:TypeId × Value→H} {W:World} {base:Nat} {sp:Nat→Bool} {held:Bool} {fuel:Nat} {cs:List Value} {q:List MemPlace}
  (hf:DataW.trod enc Tryz.prog W base sp held fuel 161 cs=some (Rows.laid_carousel_code_operands,q)):cs=tabO.map fun z=>Value.int .i64 z:=by
 obtain ⟨xs,m,_,hx,hl,hlen,hel⟩:=DataW.trod_array Tryz.underlying161 hf
 rw [ccells_opnds] at hl
 simp only [ccells_opnd] at hel
 have hxe:xs.map (·.1) = [.agg [.lit (.int .i64 0),.lit (.int .i64 0),.lit (.int .i64 0)],.agg [.lit (.int .i64 1),.lit (.int .i64 (-128)),.lit (.int .i64 127)],.agg [.lit (.int .i64 2),.lit (.int .i64 (-32768)),.lit (.int .i64 32767)],.agg [.lit (.int .i64 8),.lit (.int .i64 (-9223372036854775808)),.lit (.int .i64 9223372036854775807)],.agg [.lit (.int .i64 1),.lit (.int .i64 0),.lit (.int .i64 255)],.agg [.lit (.int .i64 2),.lit (.int .i64 0),.lit (.int .i64 65535)],.agg [.lit (.int .i64 1),.lit (.int .i64 0),.lit (.int .i64 5)]]:=by
  have:=congrArg Prod.fst hx
  simpa [Rows.laid_carousel_code_operands] using this.symm
 have hat : ∀ i a b c,i < 7→(xs.map (·.1))[i]? = some (.agg [.lit (.int .i64 a),.lit (.int .i64 b),.lit (.int .i64 c)])→(cs.drop (i * 3)).take 3 = [.int .i64 a,.int .i64 b,.int .i64 c]:=by
  intro i a b c hi he
  have h:=hel i hi
  have hxi:xs[i]? = some xs[i]:=by simp [hlen,hi]
  rw [hxi] at h
  rw [List.getElem?_map,hxi] at he
  simp at he
  generalize xs[i] = x at *
  obtain ⟨x1,x2⟩:=x
  simp at he
  subst he
  exact opnd_of h
 rw [hxe] at hat
 have e0:=hat 0 _ _ _ (by decide) rfl
 have e1:=hat 1 _ _ _ (by decide) rfl
 have e2:=hat 2 _ _ _ (by decide) rfl
 have e3:=hat 3 _ _ _ (by decide) rfl
 have e4:=hat 4 _ _ _ (by decide) rfl
 have e5:=hat 5 _ _ _ (by decide) rfl
 have e6:=hat 6 _ _ _ (by decide) rfl
 clear hat hel hx hxe hf
 have hs:cs=(cs.drop (0 * 3)).take 3++((cs.drop (1 * 3)).take 3++((cs.drop (2 * 3)).take 3++((cs.drop (3 * 3)).take 3++((cs.drop (4 * 3)).take 3++((cs.drop (5 * 3)).take 3++(cs.drop (6 * 3)).take 3))))):=by
  have h : ∀ k,cs.drop (k * 3)=(cs.drop (k * 3)).take 3++cs.drop ((k+1) * 3):=fun k=>by
   conv=>lhs; rw [← List.take_append_drop 3 (cs.drop (k * 3))]
   rw [List.drop_drop,show k * 3+3=(k+1) * 3 by omega]
  have h6:cs.drop ((6+1) * 3) = []:=List.drop_eq_nil_of_le (by omega)
  rw [← List.append_nil ((cs.drop (6 * 3)).take 3),← h6,← h 6,← h 5,← h 4,← h 3,← h 2,← h 1,← h 0]
  simp
 rw [hs,e0,e1,e2,e3,e4,e5,e6]
 rfl
theorem ret_ot {fn:Func} {p q:Tmp} {R:Ending→World→Prop} {a:Act} {w:World} {g:Nat} {cs:Array Value} (h:fn.results = #[.cell p 127,.tmp q]) (hp:a.tmps.getD p undef = .pointer (some ⟨g,0,none⟩))
  (hg:w.heap[g]? = some (.cells cs 127 (0,0))) (hz:cs.size=3) (hd:a.defers = []) (hR:R (.returned (.tuple #[.agg cs,a.tmps.getD q undef])) w):bodyPost Tryz.prog fn R .ret a w:=by
 refine bodyPost_ret (v:=.tuple #[.agg cs,a.tmps.getD q undef]) ?_ hd hR
 have hp':a.tmps[p]?.getD undef = .pointer (some ⟨g,0,none⟩):=by simpa using hp
 have hl:=run_loadVar_row (P:=Tryz.prog) w g 127 127 cs (0,0) _ hg Tryz.underlying127 rfl (by rw [hz]; kernel_rfl)
 simp [results, h, hp', asAddr, hl]
def kiC (c:Nat):Nat:=(tabK.getD c 0).toNat
theorem kiC_ok : ∀ c:Fin 41,tabK.getD c.val 0=(kiC c.val:Int)∧kiC c.val < 7∧tabO.getD (kiC c.val * 3) 0=(wdC c.val:Int)∧tabO.getD (kiC c.val * 3+1) 0=loC c.val∧tabO.getD (kiC c.val * 3+2) 0=hiC c.val:=by decide
theorem behind_yes {w:World} (hT:Tab w) (c:Nat) (hc:c≤40):Calls Tryz.prog 61 #[.int .i64 (c:Int)] w fun e w' => e = .returned (.tuple #[.agg #[.int .i64 (wdC c:Int),.int .i64 (loC c),.int .i64 (hiC c)],.bool true])∧Below w.heap.size w w':=by
 obtain ⟨k1,k2,k3,k4,k5⟩:=kiC_ok ⟨c,by omega⟩
 simp only at k1 k2 k3 k4 k5
 have hT1 : ∀ o,Tab (w.alloc o):=fun o=>hT.later (below_a1 w o)
 have h1 : ∀ o,(w.alloc o).cell? ⟨1,c,none⟩=some (.int .u8 (kiC c:Int)):=fun o=>by rw [(hT1 o).1 c (by omega),k1]
 have h2 : ∀ o,(w.alloc o).cell? ⟨0,kiC c * 3,none⟩=some (.int .i64 (wdC c:Int)):=fun o=>by rw [(hT1 o).2 (kiC c * 3) (by omega),k3]
 have h3 : ∀ o,(w.alloc o).cell? ⟨0,kiC c * 3+1,none⟩=some (.int .i64 (loC c)):=fun o=>by rw [(hT1 o).2 (kiC c * 3+1) (by omega),k4]
 have h4 : ∀ o,(w.alloc o).cell? ⟨0,kiC c * 3+2,none⟩=some (.int .i64 (hiC c)):=fun o=>by rw [(hT1 o).2 (kiC c * 3+2) (by omega),k5]
 clear k1 k3 k4 k5 hT hT1
 generalize kiC c=k at *
 generalize wdC c=a1 at *
 generalize loC c=a2 at *
 generalize hiC c=a3 at *
 go_enter Tryz.func61,Tryz.ntmps61
 go_wp2
 refine ret_ot rfl rfl (heap_alloc_new _ _) rfl rfl ⟨rfl,below_a1 _ _⟩
theorem behind_no {w:World} (c:Int) (hc : ¬ (0≤c∧c≤40)):Calls Tryz.prog 61 #[.int .i64 c] w fun e w' => e = .returned (.tuple #[.agg #[.int .i64 0,.int .i64 0,.int .i64 0],.bool false])∧Below w.heap.size w w':=by
 by_cases h:c < 0
 ·go_enter Tryz.func61,Tryz.ntmps61
  go_wp2
  refine ret_ot rfl rfl (heap_alloc_new _ _) rfl rfl ⟨rfl,below_a1 _ _⟩
 ·have h1:(41:Int)≤c:=by omega
  go_enter Tryz.func61,Tryz.ntmps61
  go_wp2
  refine ret_ot rfl rfl (heap_alloc_new _ _) rfl rfl ⟨rfl,below_a1 _ _⟩
theorem has_any (w:World) (a lo hi x:Int):Calls Tryz.prog 114 #[.agg #[.int .i64 a,.int .i64 lo,.int .i64 hi],.int .i64 x] w fun e w' => e = .returned (.bool (decide (lo≤x) && decide (x≤hi)))∧Below w.heap.size w w':=by
 by_cases h:lo≤x
 ·have e:decide (lo≤x)=true:=by simp [h]
  rw [e]
  go_enter Tryz.func114,Tryz.ntmps114
  go_wp2
  go_ret
  exact ⟨by simp,below_a1 _ _⟩
 ·have e:decide (lo≤x)=false:=by simp [h]
  have h1:x < lo:=by omega
  rw [e]
  go_enter Tryz.func114,Tryz.ntmps114
  go_wp2
  go_ret
  exact ⟨by simp,below_a1 _ _⟩
end Go.Proofs.YtigfjedohdgjfaaGreatDoor.Tl.Cd
namespace Go.Proofs.YtigfjedohdgjfaaGreatDoor.Tl.Cd
open Go.ChangeShapes Go.WideShapes Go.ChangeAt Go.RowKit
theorem bitsOf_any (j:Nat) (hj:j≤8) (w:World):Calls Tryz.prog 142 #[.int .i64 j] w fun e w' => e = .returned (.int .u64 ((8 * j:Nat):Int))∧w'=w:=by
 go_enter Tryz.func142,Tryz.ntmps142
 go_wp2
 go_ret
 exact ⟨by simp; omega,rfl⟩
theorem isSize_any (n:Int) (w:World) (h:n=1∨n=2∨n=4∨n=8):Calls Tryz.prog 141 #[.int .i64 n] w fun e w' => e = .returned (.bool true)∧w'=w:=by
 rcases h with rfl | rfl | rfl | rfl
 all_goals
  go_enter Tryz.func141,Tryz.ntmps141
  go_wp2
  go_ret
  exact ⟨rfl,rfl⟩
theorem take_short (s:ByteArray) (n:Int) (w:World) (h:n=1∨n=2∨n=4∨n=8) (hl:(s.size:Int) < n):Calls Tryz.prog 113 #[.string s,.int .i64 n] w fun e w' => e = .returned (.tuple #[.int .i64 0,.int .i64 1])∧w'=w:=by
 have HS:Hid (∀ w,Calls Tryz.prog 141 #[.int .i64 n] w fun e w' => e = .returned (.bool true)∧w'=w):=fun w=>isSize_any n w h
 clear h
 go_enter Tryz.func113,Tryz.ntmps113
 go_wp2_with fail
 refine (HS.out _).mono ?_
 rintro e w' ⟨rfl,rfl⟩
 go_wp2
 go_ret2
 exact ⟨rfl,rfl⟩
theorem byte_bd (s:ByteArray) (n:Nat) (h:n < s.size):0≤(s[n].toNat:Int)∧(s[n].toNat:Int)≤255:=by
 have:=s[n].toNat_lt
 omega
theorem take_is1 {f:Nat→Nat} (hf : ∀ i,f i < 256):wrap64 (leF f 1 * 72057594037927936) / 72057594037927936=takeF f 1:=by
 have hl:=le_bd hf 1
 have e1:(256:Int) ^ 1=256:=by decide
 have e2:128 * (256:Int) ^ (1 - 1)=128:=by decide
 unfold takeF
 rw [e1] at hl ⊢
 rw [e2]
 unfold wrap64
 split <;> omega
theorem take_is2 {f:Nat→Nat} (hf : ∀ i,f i < 256):wrap64 (leF f 2 * 281474976710656) / 281474976710656=takeF f 2:=by
 have hl:=le_bd hf 2
 have e1:(256:Int) ^ 2=65536:=by decide
 have e2:128 * (256:Int) ^ (2 - 1)=32768:=by decide
 unfold takeF
 rw [e1] at hl ⊢
 rw [e2]
 unfold wrap64
 split <;> omega
theorem take_is8 {f:Nat→Nat} (hf : ∀ i,f i < 256):wrap64 (leF f 8)=takeF f 8:=by
 have hl:=le_bd hf 8
 have e1:(256:Int) ^ 8=18446744073709551616:=by decide
 have e2:128 * (256:Int) ^ (8 - 1)=9223372036854775808:=by decide
 unfold takeF
 rw [e1] at hl ⊢
 rw [e2]
 unfold wrap64
 split <;> omega
set_option maxHeartbeats 400000 in
theorem take1 (s:ByteArray) (w:World) (hs:s.size≤maxLen) (h:1≤s.size):Calls Tryz.prog 113 #[.string s,.int .i64 1] w fun e w' => e = .returned (.tuple #[.int .i64 (takeF (byt s) 1),.int .i64 0]) ∧ ∃ n,w'=w.drewN n:=by
 unfold maxLen at hs
 have hd:decide ((s.size:Int) < 1)=false:=by simp; omega
 have HT:Hid (_=takeF (byt s) 1):=take_is1 (byt_lt s)
 go_enter Tryz.func113,Tryz.ntmps113
 go_wp2
 go_loopw [6,19] (fun u i wr => ∃ j:Nat,j≤1∧i = .int .i64 j∧u = .int .u64 (leF (byt s) j) ∧ ∃ n,wr=w.drewN n) (fun _ i _=>1 - (intOf i).toNat)
 case atStart=>exact ⟨0,Nat.zero_le _,rfl,rfl,0,rfl⟩
 case round =>
  obtain ⟨j,hj,rfl,rfl,hwr⟩:=hrel
  have HW:Hid (∃ n,wr=w.drewN n):=hwr
  clear hwr
  by_cases hlt:j < 1
  ·have hjs:j < s.size:=by omega
   have H:Hid (bits .or .u64 (leF (byt s) j) (IntKind.u64.wrap ((s[j].toNat:Int) * 2 ^ (8 * j)))=leF (byt s) (j+1)):=by
    have:=le_or (byt_lt s) j (by omega)
    rw [byt_at s j hjs] at this
    exact this
   have hc:=byte_bd s j hjs
   clear HT
   go_wp2
   go_quiet ((go_at_call 142; exact Calls.quiet_of_same (bitsOf_any j (by omega) _)))
   go_wp2
   go_roundw
   case rel=>exact ⟨j+1,by omega,by go_num,by rw [← H.out],by obtain ⟨n,rfl⟩:=HW.out; exact ⟨_,World.drewN_drewN _ _ _⟩⟩
   case measure=>simp [intOf]; omega
  ·have e:j=1:=by omega
   subst e
   have hl:=le_bd (byt_lt s) 1
   go_wp2_with fail
   refine (bitsOf_any 1 (by decide) _).mono ?_
   rintro e w' ⟨rfl,rfl⟩
   go_wp2
   go_ret2
   exact ⟨by rw [← HT.out]; rfl,HW.out⟩
set_option maxHeartbeats 400000 in
theorem take2 (s:ByteArray) (w:World) (hs:s.size≤maxLen) (h:2≤s.size):Calls Tryz.prog 113 #[.string s,.int .i64 2] w fun e w' => e = .returned (.tuple #[.int .i64 (takeF (byt s) 2),.int .i64 0]) ∧ ∃ n,w'=w.drewN n:=by
 unfold maxLen at hs
 have hd:decide ((s.size:Int) < 2)=false:=by simp; omega
 have HT:Hid (_=takeF (byt s) 2):=take_is2 (byt_lt s)
 go_enter Tryz.func113,Tryz.ntmps113
 go_wp2
 go_loopw [6,19] (fun u i wr => ∃ j:Nat,j≤2∧i = .int .i64 j∧u = .int .u64 (leF (byt s) j) ∧ ∃ n,wr=w.drewN n) (fun _ i _=>2 - (intOf i).toNat)
 case atStart=>exact ⟨0,Nat.zero_le _,rfl,rfl,0,rfl⟩
 case round =>
  obtain ⟨j,hj,rfl,rfl,hwr⟩:=hrel
  have HW:Hid (∃ n,wr=w.drewN n):=hwr
  clear hwr
  by_cases hlt:j < 2
  ·have hjs:j < s.size:=by omega
   have H:Hid (bits .or .u64 (leF (byt s) j) (IntKind.u64.wrap ((s[j].toNat:Int) * 2 ^ (8 * j)))=leF (byt s) (j+1)):=by
    have:=le_or (byt_lt s) j (by omega)
    rw [byt_at s j hjs] at this
    exact this
   have hc:=byte_bd s j hjs
   clear HT
   go_wp2
   go_quiet ((go_at_call 142; exact Calls.quiet_of_same (bitsOf_any j (by omega) _)))
   go_wp2
   go_roundw
   case rel=>exact ⟨j+1,by omega,by go_num,by rw [← H.out],by obtain ⟨n,rfl⟩:=HW.out; exact ⟨_,World.drewN_drewN _ _ _⟩⟩
   case measure=>simp [intOf]; omega
  ·have e:j=2:=by omega
   subst e
   have hl:=le_bd (byt_lt s) 2
   go_wp2_with fail
   refine (bitsOf_any 2 (by decide) _).mono ?_
   rintro e w' ⟨rfl,rfl⟩
   go_wp2
   go_ret2
   exact ⟨by rw [← HT.out]; rfl,HW.out⟩
set_option maxHeartbeats 400000 in
theorem take8 (s:ByteArray) (w:World) (hs:s.size≤maxLen) (h:8≤s.size):Calls Tryz.prog 113 #[.string s,.int .i64 8] w fun e w' => e = .returned (.tuple #[.int .i64 (takeF (byt s) 8),.int .i64 0]) ∧ ∃ n,w'=w.drewN n:=by
 unfold maxLen at hs
 have hd:decide ((s.size:Int) < 8)=false:=by simp; omega
 have HT:Hid (_=takeF (byt s) 8):=take_is8 (byt_lt s)
 go_enter Tryz.func113,Tryz.ntmps113
 go_wp2
 go_loopw [6,19] (fun u i wr => ∃ j:Nat,j≤8∧i = .int .i64 j∧u = .int .u64 (leF (byt s) j) ∧ ∃ n,wr=w.drewN n) (fun _ i _=>8 - (intOf i).toNat)
 case atStart=>exact ⟨0,Nat.zero_le _,rfl,rfl,0,rfl⟩
 case round =>
  obtain ⟨j,hj,rfl,rfl,hwr⟩:=hrel
  have HW:Hid (∃ n,wr=w.drewN n):=hwr
  clear hwr
  by_cases hlt:j < 8
  ·have hjs:j < s.size:=by omega
   have H:Hid (bits .or .u64 (leF (byt s) j) (IntKind.u64.wrap ((s[j].toNat:Int) * 2 ^ (8 * j)))=leF (byt s) (j+1)):=by
    have:=le_or (byt_lt s) j (by omega)
    rw [byt_at s j hjs] at this
    exact this
   have hc:=byte_bd s j hjs
   clear HT
   go_wp2
   go_quiet ((go_at_call 142; exact Calls.quiet_of_same (bitsOf_any j (by omega) _)))
   go_wp2
   go_roundw
   case rel=>exact ⟨j+1,by omega,by go_num,by rw [← H.out],by obtain ⟨n,rfl⟩:=HW.out; exact ⟨_,World.drewN_drewN _ _ _⟩⟩
   case measure=>simp [intOf]; omega
  ·have e:j=8:=by omega
   subst e
   have hl:=le_bd (byt_lt s) 8
   go_wp2_with fail
   refine (bitsOf_any 8 (by decide) _).mono ?_
   rintro e w' ⟨rfl,rfl⟩
   go_wp2
   go_ret2
   exact ⟨by rw [← HT.out]; rfl,HW.out⟩
end Go.Proofs.YtigfjedohdgjfaaGreatDoor.Tl.Cd
