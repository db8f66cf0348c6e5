/- The program's find. -/
import Derived.Test.YtigfjedohdgjfaaGreatDoorJBlkTabA
import Derived.WalkMore
namespace Go.Proofs.YtigfjedohdgjfaaGreatDoor.Tl
open Go.ChangeShapes Go.WideShapes Go.ChangeAt Go.RowKit
structure Left (s:Tb) (c:Int) (d:Nat) (y:Bool):Prop where
 lt:d < 2 ^ s.k
 before : ∀ e,e < d→s.P ((fst s.k c+e) % 2 ^ s.k)≠0∧(s.R.getD (s.P ((fst s.k c+e) % 2 ^ s.k) - 1) noWr).c≠c
 here:(y=false∧s.P ((fst s.k c+d) % 2 ^ s.k)=0)∨(y=true∧s.P ((fst s.k c+d) % 2 ^ s.k)≠0∧(s.R.getD (s.P ((fst s.k c+d) % 2 ^ s.k) - 1) noWr).c=c)
theorem mod_step' (q i N:Nat):((q+i) % N+1) % N=(q+(i+1)) % N:=by
 rw [Nat.mod_add_mod,Nat.add_assoc]
set_option maxRecDepth 10000 in
theorem find_any {w:World} {B:Nat} {s:Tb} (h:TabAt w B s) (hi:Inv s) (c:Int):Calls Tryz.prog 158 #[.pointer (some ⟨B,0,none⟩),.int .i64 c] w fun e w' => ∃ d y,e = .returned (.tuple #[.int .i64 (((fst s.k c+d) % 2 ^ s.k:Nat):Int),.bool y])∧Left s c d y∧w'=w:=by
 have HS:Hid (Calls Tryz.prog 178 #[.pointer (some ⟨B,0,none⟩)] w fun e w' => e = .returned (.int .i64 ((2 ^ s.k:Nat):Int))∧w'=w):=size_any h hi.k6.2
 have HF:Hid (Calls Tryz.prog 177 #[.pointer (some ⟨B,0,none⟩),.int .i64 c] w fun e w' => e = .returned (.int .i64 (fst s.k c:Int))∧w'=w):=first_any h hi.k6.2 c
 have HI:Hid (Inv s):=hi
 have HT:Hid (TabAt w B s):=h
 have hf:=hi.fst c
 have h64:=hi.n64
 have hp:=pw_pos s.k
 clear h hi
 generalize hN:2 ^ s.k=N at *
 generalize hff:fst s.k c=f at *
 go_enter Tryz.func158,Tryz.ntmps158
 go_wp2
 go_step3
 go_wp2_with fail
 refine HF.out.mono ?_
 rintro e w1 ⟨rfl,rfl⟩
 go_wp2
 go_step3
 go_wp2_with fail
 refine HS.out.mono ?_
 rintro e w' ⟨rfl,rfl⟩
 go_wp2
 go_loopw [6,7,14] (fun sv yv iv wr => ∃ i:Nat,i≤N∧yv = .bool false∧iv = .int .i64 i∧sv = .int .i64 (((f+i) % N:Nat):Int)∧(∀ e,e < i→s.P ((f+e) % N)≠0∧(s.R.getD (s.P ((f+e) % N) - 1) noWr).c≠c)∧wr=w') (fun _ _ iv _=>N - (intOf iv).toNat)
 case atStart=>exact ⟨0,Nat.zero_le _,rfl,rfl,by rw [Nat.add_zero,Nat.mod_eq_of_lt hf],fun e he=>absurd he (by omega),rfl⟩
 case round =>
  obtain ⟨i,hi,rfl,rfl,rfl,hbef,rfl⟩:=hrel
  have HBEF:Hid (∀ e,e < i→s.P ((f+e) % N)≠0∧(s.R.getD (s.P ((f+e) % N) - 1) noWr).c≠c):=hbef
  clear hbef
  by_cases hlt:i < N
  ·have hd:decide ((i:Int) < (N:Int))=true:=by simp; omega
   have HQ:Hid (∃ q,(f+i) % N=q∧q < N):=⟨_,rfl,Nat.mod_lt _ hp⟩
   obtain ⟨q,hq,hqN⟩:=HQ.out
   have HQ':Hid ((f+i) % N=q):=hq
   rw [hq]
   clear hq HQ
   have hcp:=HT.out.p q (by omega)
   have hlo:=HI.out.lo q (by rw [hN]; exact hqN)
   have hl:=HI.out.len
   have hm:=HI.out.m24
   by_cases h0:s.P q=0
   ·have HE:Hid (Left s c i false):=⟨by rw [hN]; exact hlt,by rw [hN,hff]; exact HBEF.out,Or.inl ⟨rfl,by rw [hN,hff,HQ'.out]; exact h0⟩⟩
    rw [h0] at hcp
    clear hlo hl hm
    go_wp2
    rw [Exit.noGoto_ret]
    go_ret2
    exact ⟨i,false,by rw [HQ'.out]; rfl,HE.out,rfl⟩
   ·obtain ⟨j,hj⟩ : ∃ j,s.P q=j+1:=⟨s.P q - 1,by omega⟩
    have hcc:=HT.out.c j (by omega)
    by_cases hz:(s.R.getD j noWr).c=c
    ·have HE:Hid (Left s c i true):=⟨by rw [hN]; exact hlt,by rw [hN,hff]; exact HBEF.out,Or.inr ⟨rfl,by rw [hN,hff,HQ'.out]; exact ⟨h0,by rw [hj]; exact hz⟩⟩⟩
     rw [hz] at hcc
     rw [hj] at hcp
     have e0:(((j+1:Nat):Int) == 0)=false:=by simp; omega
     go_wp2
     rw [Exit.noGoto_ret]
     go_ret2
     exact ⟨i,true,by rw [HQ'.out]; rfl,HE.out,rfl⟩
    ·have HE:Hid (∀ e,e < i+1→s.P ((f+e) % N)≠0∧(s.R.getD (s.P ((f+e) % N) - 1) noWr).c≠c):=fun e he=>by
      by_cases e1:e < i
      ·exact HBEF.out e e1
      ·obtain rfl:e=i:=by omega
       rw [HQ'.out]
       exact ⟨h0,by rw [hj]; exact hz⟩
     rw [hj] at hcp
     have e0:(((j+1:Nat):Int) == 0)=false:=by simp; omega
     have e1:((s.R.getD j noWr).c == c)=false:=by simpa using hz
     generalize (s.R.getD j noWr).c=z at *
     go_wp2_with fail
     refine HS.out.mono ?_
     rintro e w' ⟨rfl,rfl⟩
     go_wp2
     go_roundw
     case rel => exact ⟨i + 1, by omega, rfl, by go_num, by rw [← mod_step', HQ'.out]; go_num, HE.out, by first | rfl | trivial⟩
     case measure=>simp [intOf]; omega
  ·exfalso
   obtain ⟨d,hd,h0,_⟩:=HI.out.free f (by rw [hN]; exact hf)
   rw [hN] at hd h0
   exact (HBEF.out d (by omega)).1 h0
theorem Left.found {s:Tb} {c:Int} {d:Nat} (hi:Inv s) (h:Left s c d true) : ∃ i,at? s.R c=some i∧i < s.R.length∧s.P ((fst s.k c+d) % 2 ^ s.k)=i+1:=by
 rcases h.here with ⟨h1,_⟩ | ⟨_,h1,h2⟩
 ·cases h1
 ·have hlo:=hi.lo _ (Nat.mod_lt (fst s.k c+d) (pw_pos s.k))
  generalize s.P ((fst s.k c+d) % 2 ^ s.k)=z at *
  refine ⟨z - 1,hi.at_eq (by omega) ?_,by omega,by omega⟩
  have h3:z - 1 < s.R.length:=by omega
  simpa [h3] using h2
theorem Left.lost {s:Tb} {c:Int} {d:Nat} (hi:Inv s) (h:Left s c d false):at? s.R c=none∧gap s.P (2 ^ s.k) (2 ^ s.k) (fst s.k c)=(fst s.k c+d) % 2 ^ s.k:=by
 rcases h.here with ⟨_,h1⟩ | ⟨h1,_⟩
 ·exact ⟨hi.none h1 h.before,gap_eq _ _ (pw_pos _) _ _ _ (hi.fst c) (Nat.le_of_lt h.lt) h1 (fun e he=>(h.before e he).1)⟩
 ·cases h1
end Go.Proofs.YtigfjedohdgjfaaGreatDoor.Tl
namespace Go.Proofs.YtigfjedohdgjfaaGreatDoor.Tl
open Go.ChangeShapes Go.WideShapes Go.ChangeAt Go.RowKit
def getV (s:Tb) (c:Int):Int:=match at? s.R c with | some i=>(s.R.getD i noWr).v | none=>0
def getY (s:Tb) (c:Int):Bool:=(at? s.R c).isSome
theorem get_any {w:World} {B:Nat} {s:Tb} (h:TabAt w B s) (hi:Inv s) (c:Int):Calls Tryz.prog 136 #[.pointer (some ⟨B,0,none⟩),.int .i64 c] w fun e w' => e = .returned (.tuple #[.int .i64 (getV s c),.bool (getY s c)]) ∧ ∃ n,w'=w.drewN n:=by
 have HF:Hid (Calls Tryz.prog 158 #[.pointer (some ⟨B,0,none⟩),.int .i64 c] w fun e w' => ∃ d y,e = .returned (.tuple #[.int .i64 (((fst s.k c+d) % 2 ^ s.k:Nat):Int),.bool y])∧Left s c d y∧w'=w):=find_any h hi c
 have HI:Hid (Inv s):=hi
 have HT:Hid (TabAt w B s):=h
 have h64:=hi.n64
 have hl:=hi.len
 have hm:=hi.m24
 clear h hi
 go_enter Tryz.func136,Tryz.ntmps136
 go_wp2_with fail
 refine HF.out.mono ?_
 rintro e w1 ⟨d,y,rfl,hL,rfl⟩
 cases y with
 | false =>
  obtain ⟨h1,_⟩:=hL.lost HI.out
  have E1:Hid (getV s c=0):=by rw [Hid]; simp [getV,h1]
  have E2:Hid (getY s c=false):=by rw [Hid]; simp [getY,h1]
  go_wp2
  go_ret2
  exact ⟨by rw [E1.out,E2.out]; rfl,0,rfl⟩
 | true =>
  obtain ⟨i,h1,h2,h3⟩:=hL.found HI.out
  have hq:(fst s.k c+d) % 2 ^ s.k < 64:=Nat.lt_of_lt_of_le (Nat.mod_lt _ (pw_pos _)) h64
  have E1:Hid (getV s c=(s.R.getD i noWr).v):=by rw [Hid]; simp [getV,h1]
  have E2:Hid (getY s c=true):=by rw [Hid]; simp [getY,h1]
  have c1:=HT.out.p _ hq
  have c2:=HT.out.v i (by omega)
  rw [h3] at c1
  generalize (fst s.k c+d) % 2 ^ s.k=q at *
  generalize (s.R.getD i noWr).v=z at *
  clear hL
  go_wp2
  go_quiet (fail)
  go_wp2
  go_ret2
  exact ⟨by rw [E1.out,E2.out]; rfl,_,rfl⟩
theorem put_any {w:World} {B:Nat} {s:Tb} (h:TabAt w B s) (hi:Inv s) (c v:Int):Calls Tryz.prog 139 #[.pointer (some ⟨B,0,none⟩),.int .i64 c,.int .i64 v] w fun e w' => e = .returned (.int .i64 (putE s c))∧TabAt w' B (put s c v)∧Keep [B] w w':=by
 have HF:Hid (Calls Tryz.prog 158 #[.pointer (some ⟨B,0,none⟩),.int .i64 c] w fun e w' => ∃ d y,e = .returned (.tuple #[.int .i64 (((fst s.k c+d) % 2 ^ s.k:Nat):Int),.bool y])∧Left s c d y∧w'=w):=find_any h hi c
 have HI:Hid (Inv s):=hi
 have HT:Hid (TabAt w B s):=h
 have h64:=hi.n64
 have hl:=hi.len
 have hm:=hi.m24
 clear h hi
 by_cases hc0:c < 0
 ·have hr:right c=false:=by simp [right]; omega
  rw [(put_wrong v hr).1,(put_wrong v hr).2]
  go_enter Tryz.func139,Tryz.ntmps139
  go_wp2
  go_ret
  exact ⟨rfl,HT.out,Keep.refl _ _⟩
 by_cases hc1:1024≤c
 ·have hr:right c=false:=by simp [right]; omega
  rw [(put_wrong v hr).1,(put_wrong v hr).2]
  have hd0:decide (c < 0)=false:=by simp; omega
  go_enter Tryz.func139,Tryz.ntmps139
  go_wp2
  go_ret
  exact ⟨rfl,HT.out,Keep.refl _ _⟩
 have hr:right c=true:=by simp [right]; omega
 have hd0:decide (c < 0)=false:=by simp; omega
 have hd1:decide (1024≤c)=false:=by simp; omega
 go_enter Tryz.func139,Tryz.ntmps139
 go_wp2_with fail
 refine HF.out.mono ?_
 rintro e w1 ⟨d,y,rfl,hL,rfl⟩
 have hq:(fst s.k c+d) % 2 ^ s.k < 64:=Nat.lt_of_lt_of_le (Nat.mod_lt _ (pw_pos _)) h64
 cases y with
 | true =>
  obtain ⟨i,h1,h2,h3⟩:=hL.found HI.out
  have c1:=HT.out.p _ hq
  have c2:=HT.out.v i (by omega)
  have f2:=frozen_at HT.out (3+i * 2+1)
  rw [h3] at c1
  have HE:Hid (TabAt (w1.setCell ⟨B,3+i * 2+1,none⟩ (.int .i64 v)) B (put s c v)):=by
   obtain ⟨_,hc⟩:=at_some h1
   rw [Hid,(put_old v hr h1).1,TabAt,heap_set HT.out,tabC_old h2 (by omega) hc]
  have HP:Hid (putE s c=0):=(put_old v hr h1).2
  generalize (fst s.k c+d) % 2 ^ s.k=q at *
  generalize (s.R.getD i noWr).v=z at *
  clear hL h1
  go_wp2
  go_region
  all_goals
   go_wp2
   go_ret
   exact ⟨by rw [HP.out]; rfl,HE.out,((Keep.refl _ _).setCell _ _ (by simp)).drewN 1⟩
 | false =>
  obtain ⟨h1,h2⟩:=hL.lost HI.out
  have c1:=HT.out.n
  have c2:=HT.out.m
  by_cases hfull:s.m≤s.R.length
  ·have HP:Hid (putE s c=2):=(put_full v hr h1 hfull).2
   have HE:Hid (TabAt w1 B (put s c v)):=by rw [Hid,(put_full v hr h1 hfull).1]; exact HT.out
   have hd:decide ((s.m:Int)≤(s.R.length:Int))=true:=by simp; omega
   clear hL
   go_wp2
   go_quiet (fail)
   go_wp2
   go_ret
   exact ⟨by rw [HP.out]; rfl,HE.out,(Keep.refl _ _).drewN _⟩
  ·have HP:Hid (putE s c=0):=(put_new v hr h1 (by omega)).2
   have hd:decide ((s.m:Int)≤(s.R.length:Int))=false:=by simp; omega
   have hn24:s.R.length < 24:=by omega
   have HE:Hid (∀ w2:World,w2.heap[B]? = some (.cells (((((tabC s).setIfInBounds (3+s.R.length * 2) (.int .i64 c)).setIfInBounds (3+s.R.length * 2+1) (.int .i64 v)).setIfInBounds 2 (.int .i64 ((s.R.length:Int)+1))).setIfInBounds (51+(fst s.k c+d) % 2 ^ s.k) (.int .i64 ((s.R.length:Int)+1))) 187 (0,0))→TabAt w2 B (put s c v)):=fun w2 h=>by
    rw [(put_new v hr h1 (by omega)).1,h2,TabAt,h,tabC_new hn24 hq]
   have HB:Hid (w1.heap[B]? = some (.cells (tabC s) 187 (0,0))):=HT.out
   have c3:=HT.out.c _ hn24
   have c4:=HT.out.v _ hn24
   have c5:=HT.out.p _ hq
   have f1:=frozen_at HT.out 2
   have f3:=frozen_at HT.out (3+s.R.length * 2)
   have f4:=frozen_at HT.out (3+s.R.length * 2+1)
   have f5:=frozen_at HT.out (51+(fst s.k c+d) % 2 ^ s.k)
   generalize (fst s.k c+d) % 2 ^ s.k=q at *
   generalize (s.R.getD s.R.length noWr).v=z1 at *
   generalize (s.R.getD s.R.length noWr).c=z2 at *
   generalize s.R.length=n at *
   clear hL h1 h2
   go_wp2
   go_quiet (fail)
   go_wp2
   go_region
   all_goals
    go_wp2
    go_region
    all_goals
     go_wp2
     go_ret
     exact ⟨by rw [HP.out]; rfl,HE.out _ (heap_set (heap_set (heap_set (heap_set HB.out _ _) _ _) _ _) _ _),((((((((Keep.refl [B] w1).drewN nq).setCell ⟨B,3+n * 2,none⟩ _ (by simp)).setCell ⟨B,3+n * 2+1,none⟩ _ (by simp)).drewN 1).setCell ⟨B,2,none⟩ _ (by simp)).setCell ⟨B,51+q,none⟩ _ (by simp)).drewN 1)⟩
end Go.Proofs.YtigfjedohdgjfaaGreatDoor.Tl
namespace Go.Proofs.YtigfjedohdgjfaaGreatDoor.Tl
open Go.ChangeShapes Go.WideShapes Go.ChangeAt Go.RowKit
set_option maxRecDepth 100000 in
theorem len64_any (m:Nat) (h1:1≤m) (h:m≤24) (w:World):Calls Tryz.prog 176 #[.int .u64 (2 * (m:Int) - 1)] w fun e w' => e = .returned (.int .i64 (pw m:Int))∧w'=w:=by
 have hm:m=1∨m=2∨m=3∨m=4∨m=5∨m=6∨m=7∨m=8∨m=9∨m=10∨m=11∨m=12∨m=13∨m=14∨m=15∨m=16∨m=17∨m=18∨m=19∨m=20∨m=21∨m=22∨m=23∨m=24:=by omega
 rcases hm with rfl | rfl | rfl | rfl | rfl | rfl | rfl | rfl | rfl | rfl | rfl | rfl | rfl | rfl | rfl | rfl | rfl | rfl | rfl | rfl | rfl | rfl | rfl | rfl
 all_goals
  go_enter Tryz.func176,Tryz.ntmps176
  go_wp2
  go_ret
  exact ⟨by kernel_rfl,rfl⟩
theorem power_any (m:Nat) (h1:1≤m) (h:m≤24) (w:World):Calls Tryz.prog 135 #[.int .i64 (m:Int)] w fun e w' => e = .returned (.int .i64 (pw m:Int))∧w'=w:=by
 have HL:Hid (Calls Tryz.prog 176 #[.int .u64 (2 * (m:Int) - 1)] w fun e w' => e = .returned (.int .i64 (pw m:Int))∧w'=w):=len64_any m h1 h w
 have HB:Hid (Calls Tryz.prog 157 #[.int .u64 (2 * (m:Int) - 1)] w fun e w' => e = .returned (.int .i64 (pw m:Int))∧w'=w):=by
  rw [Hid]
  go_enter Tryz.func157,Tryz.ntmps157
  go_wp2_with fail
  refine HL.out.mono ?_
  rintro e w' ⟨rfl,rfl⟩
  go_wp2
  go_ret
  exact ⟨rfl,rfl⟩
 go_enter Tryz.func135,Tryz.ntmps135
 go_wp2_with fail
 refine HB.out.mono ?_
 rintro e w' ⟨rfl,rfl⟩
 go_wp2
 go_ret
 exact ⟨rfl,rfl⟩
def zC:Array Value:=cellsOf (fun _=>0)
theorem zC_empty (m:Nat):(zC.setIfInBounds 0 (.int .i64 (m:Int))).setIfInBounds 1 (.int .i64 (pw m:Int))=tabC (empty m):=by
 unfold zC tabC
 rw [cellsOf_set _ _ (by omega),cellsOf_set _ _ (by omega)]
 apply cellsOf_congr
 intro j hj
 unfold tf empty
 by_cases h1:j=1
 ·subst h1; rfl
 ·by_cases h0:j=0
  ·subst h0; rfl
  ·simp only [h0,h1,if_false,List.length_nil,List.getD_nil]
   simp [noWr]
theorem zC_size:zC.size=115:=by simp [zC,cellsOf]
theorem info_tab:(Tryz.prog.info? 187).map (fun i=>(i.zero,i.size,i.bytes))=some (some (.agg zC),115,920):=by kernel_rfl
theorem zero_tab (w:World):Sem.run Tryz.prog (zeroValue 187) w = .ok (.agg zC) w:=by
 obtain ⟨i0,hi,hz0,hz1,hz2⟩:=info_parts info_tab
 simp [zeroValue,typeInfo,hi,hz0]
set_option maxRecDepth 100000 in
theorem tnew_yes (w:World) (m:Nat) (h1:1≤m) (h:m≤24):Calls Tryz.prog 103 #[.int .i64 (m:Int)] w fun e w' => ∃ B,e = .returned (.tuple #[.pointer (some ⟨B,0,none⟩),.int .i64 0])∧w.heap.size≤B∧TabAt w' B (empty m)∧Below w.heap.size w w':=by
 have hz : ∀ w,Sem.run Tryz.prog (zeroValue 187) w = .ok (.agg zC) w:=zero_tab
 have hzs:=zC_size
 have hzn:(zC = #[])=False:=by simp [← Array.size_eq_zero_iff,zC_size]
 have HP:Hid (∀ w,Calls Tryz.prog 135 #[.int .i64 (m:Int)] w fun e w' => e = .returned (.int .i64 (pw m:Int))∧w'=w):=power_any m h1 h
 go_enter Tryz.func103,Tryz.ntmps103
 go_wp2_with fail
 refine (HP.out _).mono ?_
 rintro e w' ⟨rfl,rfl⟩
 go_wp2
 go_ret2
 refine ⟨_,rfl,Nat.le_refl _, ?_,below_a1 _ _⟩
 rw [zC_empty]
 exact heap_alloc_new _ _
theorem store_whole {P:Program} {w:World} {b:Nat} {t:TypeId} {old cs:Array Value} (h:w.heap[b]? = some (.cells old t (0,0))) (hc:cs.size=old.size) (h1:cs.all (·.oneCell')=true):(storeCells ⟨b,0,none⟩ cs.toList 0).run P w = .ok () (w.setRow b cs):=by
 have:=run_storeCells_from (P:=P) b t cs.toList 0 old w h (by simp [hc]) (fun v hv=>(Array.all_eq_true_iff_forall_mem.1 h1) v (by simpa using hv))
 simpa using this
theorem tabC_size (s:Tb):(tabC s).size=115:=by simp [tabC,cellsOf]
theorem tabC_one (s:Tb):(tabC s).all (·.oneCell')=true:=by
 rw [Array.all_eq_true_iff_forall_mem]
 intro v hv
 simp only [tabC,cellsOf,List.mem_toArray,List.mem_map] at hv
 obtain ⟨i,_,rfl⟩:=hv
 rfl
theorem Keep.setRow {F:List Nat} {w w':World} (h:Keep F w w') (b:Nat) (cs:Array Value) (hb:b ∈ F∨w.heap.size≤b):Keep F w (w'.setRow b cs) :=
 ⟨h.os,h.tape,h.output,by rw [setRow_size]; exact h.size,fun k hk hn=>by rw [setRow_other _ _ _ _ (fun e=>by rcases hb with h1 | h1; exact hn (e ▸ h1); omega)]; exact h.block k hk hn⟩
set_option maxRecDepth 100000 in
theorem clear_any {w:World} {B:Nat} {s:Tb} (h:TabAt w B s) (hi:Inv s):Calls Tryz.prog 169 #[.pointer (some ⟨B,0,none⟩)] w fun e w' => e = .returned (.tuple #[])∧TabAt w' B (empty s.m)∧Keep [B] w w':=by
 have HT:Hid (TabAt w B s):=h
 have h0:=h.m
 have h1:=h.k
 rw [hi.k] at h1
 have hz : ∀ w,Sem.run Tryz.prog (zeroValue 187) w = .ok (.agg zC) w:=zero_tab
 have hzs:=zC_size
 have hzn:(zC = #[])=False:=by simp [← Array.size_eq_zero_iff,zC_size]
 have hst:Sem.run Tryz.prog (storeCells ⟨B,0,none⟩ ((zC.toList.set 0 (.int .i64 (s.m:Int))).set 1 (.int .i64 (pw s.m:Int))) 0) w.drew = .ok () (w.drew.setRow B (tabC (empty s.m))):=by
  have e:((zC.toList.set 0 (.int .i64 (s.m:Int))).set 1 (.int .i64 (pw s.m:Int)))=(tabC (empty s.m)).toList:=by rw [← zC_empty]; simp
  rw [e]
  exact store_whole (w:=w.drew) (old:=tabC s) (t:=187) h (by rw [tabC_size,tabC_size]) (tabC_one _)
 generalize s.m=m at *
 clear h hi
 go_enter Tryz.func169,Tryz.ntmps169
 go_wp2
 go_region
 all_goals
  go_wp2
  go_end0
  exact ⟨rfl,setRow_heap w B _ _ _ _ HT.out,((Keep.refl _ _).setRow _ _ (by simp)).drewN 1⟩
end Go.Proofs.YtigfjedohdgjfaaGreatDoor.Tl
namespace Go.Proofs.YtigfjedohdgjfaaGreatDoor.Tl
open Go.ChangeShapes Go.WideShapes Go.ChangeAt Go.RowKit
def wrC (x:Wr):List Value:=[.int .i64 x.c,.int .i64 x.v]
def rowsC (R:List Wr):List Value:=R.flatMap wrC
theorem rowsC_len (R:List Wr):(rowsC R).length=R.length * 2:=by
 induction R with
 | nil=>rfl
 | cons x R ih=>simp only [rowsC,List.flatMap_cons,List.length_append,List.length_cons] at ih ⊢; rw [ih]; simp [wrC]; omega
theorem rowsC_get (R:List Wr) (i:Nat) (hi:i < R.length):(rowsC R)[i * 2]? = some (.int .i64 (R.getD i noWr).c)∧(rowsC R)[i * 2+1]? = some (.int .i64 (R.getD i noWr).v):=by
 induction R generalizing i with
 | nil=>simp at hi
 | cons x R ih =>
  have e:rowsC (x :: R)=wrC x++rowsC R:=rfl
  have h2:(wrC x).length=2:=rfl
  rw [e]
  cases i with
  | zero=>exact ⟨rfl,rfl⟩
  | succ i =>
   obtain ⟨h1,h3⟩:=ih i (by simpa using hi)
   rw [List.getElem?_append_right (by omega),List.getElem?_append_right (by omega),h2,show (i+1) * 2 - 2=i * 2 by omega,show (i+1) * 2+1 - 2=i * 2+1 by omega,h1,h3]
   simp
theorem rowsC_one (R:List Wr) : ∀ v ∈ rowsC R,v.oneCell'=true:=by
 intro v hv
 simp only [rowsC,List.mem_flatMap] at hv
 obtain ⟨x,_,hx⟩:=hv
 simp only [wrC,List.mem_cons,List.not_mem_nil,or_false] at hx
 rcases hx with rfl | rfl <;> rfl
theorem TabAt.row {w:World} {B:Nat} {s:Tb} (h:TabAt w B s) (h24:s.R.length≤24) (j:Nat) (v:Value) (hj:(rowsC s.R)[j]? = some v):w.cell? ⟨B,3+j,none⟩=some v:=by
 have hlt:j < s.R.length * 2:=by rw [← rowsC_len]; exact (List.getElem?_eq_some_iff.1 hj).1
 obtain ⟨i,hi⟩ : ∃ i,j=i * 2∨j=i * 2+1:=⟨j / 2,by omega⟩
 obtain ⟨h1,h2⟩:=rowsC_get s.R i (by omega)
 rcases hi with rfl | rfl
 ·rw [h1] at hj
  rw [h.c i (by omega)]
  exact hj
 ·rw [h2] at hj
  rw [← Nat.add_assoc,h.v i (by omega)]
  exact hj
theorem info_wr:(Tryz.prog.info? 183).map (fun i=>(i.zero,i.size,i.bytes))=some (some (.agg #[.int .i64 0,.int .i64 0]),2,16):=by kernel_rfl
theorem info_int:(Tryz.prog.info? 3).map (fun i=>(i.zero,i.size,i.bytes))=some (some (.int .i64 0),1,8):=by kernel_rfl
def fresh2 (n:Nat):Array Value:=madeCells (Value.cells (.agg #[.int .i64 0,.int .i64 0])) (n * 2)
theorem make_wrs (w:World) (n:Nat) (hn:n≤1000000) :
  (Instr.makeSlice 220 (.int .i64 (n:Int)) (.int .i64 (n:Int))).run Tryz.prog w = .ok (.slice (some ⟨w.heap.size,0,none⟩) n n) (w.alloc (.cells (fresh2 n) 183)):=by
 obtain ⟨i0,hi,hz0,hz1,hz2⟩:=info_parts info_wr
 have:=run_make (P:=Tryz.prog) w 220 183 i0 _ Tryz.underlying220 hi hz0 .i64 .i64 (n:Int) (n:Int) (by omega) (by omega) (by rw [hz2]; omega) (by omega)
 rw [this]
 simp [fresh2,hz1]
theorem run_copy_wide {P:Program} (w:World) (dT sT ty elem:TypeId) (g dLen dCap:Nat) (a:Addr) (sLen sCap:Nat) (cur:Array Value) (t:TypeId) (cs:List Value) (k:Nat)
  (hu:P.underlying dT=some (.slice elem)) (hs:(P.info? elem).map (·.size)=some k)
  (hg:w.heap[g]? = some (.cells cur t (0,0))) (hn:cs.length=Nat.min sLen dLen * k)
  (hsrc : ∀ j v,cs[j]? = some v→w.cell? (a.add j)=some v) (hfit:cs.length=cur.size) (h1 : ∀ v ∈ cs,v.oneCell'=true) :
  (Builtin.copy_ #[dT,sT] ty #[.slice (some ⟨g,0,none⟩) dLen dCap,.slice (some a) sLen sCap]).run P w =
   .ok (goInt (Nat.min sLen dLen)) (w.setRow g cs.toArray):=by
 have hl:=run_loadCells_list (P:=P) w a cs hsrc
 have hst:=run_storeCells_at P g 0 t cs 0 cur w hg (by omega) h1
 have hd:(cur.toList.drop (0+0+cs.length)) = []:=by apply List.drop_eq_nil_of_le; simp; omega
 rw [hd] at hst
 cases hq:P.info? elem with
 | none=>simp [hq] at hs
 | some i =>
  have hi:i.size=k:=by simpa [hq] using hs
  simp only [List.append_nil,Nat.add_zero,List.take_zero,List.nil_append] at hst
  simp [Builtin.copy_,run_underlying hu,Builtin.lenOf,Builtin.firstCells,sizeOf,typeInfo,hq,hi,← hn,hl,hst]
theorem fresh2_size (n:Nat):(fresh2 n).size=n * 2:=by simp [fresh2,size_madeCells]
def slotV (s:Tb) (q:Nat):Int:=if s.P q=0 then -1 else (s.R.getD (s.P q - 1) noWr).c
set_option maxRecDepth 10000 in
theorem list_any {w:World} {B:Nat} {s:Tb} (h:TabAt w B s) (hi:Inv s):Calls Tryz.prog 172 #[.pointer (some ⟨B,0,none⟩)] w fun e w' => ∃ v,e = .returned v∧w'.ownsRow w.heap.size 183 2 v s.R.length (rowsC s.R)∧Below w.heap.size w w':=by
 have hl:=hi.len
 have hm:=hi.m24
 have hB:B < w.heap.size:=heap_lt h
 have h2:=h.n
 have hmk:=make_wrs w s.R.length (by omega)
 have hcp : ∀ ty,(Builtin.copy_ #[220,220] ty #[.slice (some ⟨w.heap.size,0,none⟩) s.R.length s.R.length,.slice (some ⟨B,3,none⟩) s.R.length 24]).run Tryz.prog (w.alloc (.cells (fresh2 s.R.length) 183)).drew = .ok (goInt s.R.length) ((w.alloc (.cells (fresh2 s.R.length) 183)).drew.setRow w.heap.size (rowsC s.R).toArray):=fun ty=>by
  have:=run_copy_wide (P:=Tryz.prog) (w.alloc (.cells (fresh2 s.R.length) 183)).drew 220 220 ty 183 w.heap.size s.R.length s.R.length ⟨B,3,none⟩ s.R.length 24 (fresh2 s.R.length) 183 (rowsC s.R) 2 Tryz.underlying220 (by kernel_rfl) (heap_alloc_new w _) (by rw [rowsC_len]; simp) (fun j v hj=>by
        have e:(⟨B,3,none⟩:Addr).add j=⟨B,3+j,none⟩:=by unfold Addr.add; split <;> simp_all
        rw [e]
        have:=(h.below (below_a1 w (.cells (fresh2 s.R.length) 183))).row (by omega) j v hj
        exact this) (by rw [rowsC_len,fresh2_size]) (rowsC_one _)
  rw [this]
  simp
 have hsl:(Instr.sliceAt 184 (.pointer (some ⟨B,3,none⟩)) none (some (.int .i64 (s.R.length:Int))) none).run Tryz.prog (w.alloc (.cells (fresh2 s.R.length) 183)).drew = .ok (.slice (some ⟨B,3,none⟩) s.R.length 24) (w.alloc (.cells (fresh2 s.R.length) 183)).drew:=by
  obtain ⟨i0,hi,hz0,hz1,hz2⟩:=info_parts info_wr
  have ha:Tryz.prog.arrayLen 184=24:=by kernel_rfl
  have he:Tryz.prog.elem 184=183:=by kernel_rfl
  rw [run_sliceAt_array_h _ _ _ (by rw [ha,he]; exact Tryz.underlying184) .i64 _ (by omega) (by rw [ha]; omega)]
  simp [ha,he,slicedAt,sizeOf,typeInfo,hi,Addr.add]
 have HE:Hid (World.ownsRow ((w.alloc (.cells (fresh2 s.R.length) 183)).drew.setRow w.heap.size (rowsC s.R).toArray) w.heap.size 183 2 (.slice (some ⟨w.heap.size,0,none⟩) s.R.length s.R.length) s.R.length (rowsC s.R)) :=
  ⟨rowsC_len _,Or.inr ⟨_,_,(rowsC s.R).toArray,rfl,Nat.le_refl _,setRow_heap _ _ _ _ _ _ (heap_alloc_new w _),Nat.le_refl _,by unfold maxLen; omega,by simp [rowsC_len],by rw [List.toList_toArray,← rowsC_len,List.take_length]⟩⟩
 clear h hi
 generalize rowsC s.R=cs at *
 generalize s.R.length=n at *
 go_enter Tryz.func172,Tryz.ntmps172
 go_wp2
 go_region
 all_goals
  go_wp2
  go_ret
  exact ⟨_,rfl,HE.out,below_row (below_drawn (below_a1 _ _) 1) _ (Nat.le_refl _) _⟩
end Go.Proofs.YtigfjedohdgjfaaGreatDoor.Tl
