/- Layer 6 as plain data: the cells that Read was told, and the signatures of what was read and of what is written. -/
import Derived.Test.YtdkpgdkjohjcaaaGreatJBlkTabE
import Derived.Test.YtdkpgdkjohjcaaaGreatSigF
import Derived.RegionTactic
import Derived.BigRegion
import Derived.Deep.RegionHeld3
set_option maxRecDepth 10000
namespace Go.Proofs.YtdkpgdkjohjcaaaGreat.Tl
set_option linter.unusedVariables false
def told (T:List Int) (c:Int):List Int:=if right c && !T.contains c then T ++ [c] else T
structure Told (T:List Int):Prop where
 one:T.Nodup
 ok : ∀ c ∈ T,right c=true
def readR (r:List Nat) (c:Int):List Nat:=if right c then Sg.put r (Sg.sigN c) else r
theorem readR_ok {r:List Nat} (h:Sg.Ok r) (c:Int):Sg.Ok (readR r c):=by
 unfold readR
 split
 ·exact Sg.ok_put h _ (Sg.sigN_lt c)
 ·exact h
def wrS (s:Tb):List Nat:=Sg.ofAll (s.R.map (·.c))
theorem wrS_ok (s:Tb):Sg.Ok (wrS s):=Sg.ok_ofAll _
def writeE (s:Tb) (c:Int):Int:=if putE s c=2 then 5 else putE s c
end Go.Proofs.YtdkpgdkjohjcaaaGreat.Tl
namespace Go.Proofs.YtdkpgdkjohjcaaaGreat.Tl
open Go.ChangeShapes Go.WideShapes Go.ChangeAt Go.RowKit
def logC (B:Nat) (r:List Nat):Array Value:=(Value.pointer (some ⟨B,0,none⟩) :: (Sg.sc r).toList).toArray
theorem logC_size (B:Nat) (r:List Nat) (h:Sg.Ok r):(logC B r).size=9:=by simp [logC,Sg.sc_size,h.1]
structure LogAt (w:World) (L B:Nat) (s:Tb) (r:List Nat):Prop where
 log:w.heap[L]? = some (.cells (logC B r) 97 (0,0))
 tab:TabAt w B s
 inv:Inv s
 ok:Sg.Ok r
theorem LogAt.ne {w:World} {L B:Nat} {s:Tb} {r:List Nat} (h:LogAt w L B s r):L≠B:=ne_of_type h.log h.tab (by decide)
theorem LogAt.ptr {w:World} {L B:Nat} {s:Tb} {r:List Nat} (h:LogAt w L B s r):w.cell? ⟨L,0,none⟩=some (.pointer (some ⟨B,0,none⟩)):=by rw [cell_at h.log]; rfl
theorem LogAt.keep {w w':World} {L B:Nat} {s:Tb} {r:List Nat} {F:List Nat} (h:LogAt w L B s r) (k:Keep F w w') (hL:L ∉ F) (hB:B ∉ F):LogAt w' L B s r :=
 ⟨by rw [k.block _ (heap_lt h.log) hL]; exact h.log,h.tab.keep k hB,h.inv,h.ok⟩
theorem LogAt.below {w w':World} {L B:Nat} {s:Tb} {r:List Nat} (h:LogAt w L B s r) (k:Below w.heap.size w w'):LogAt w' L B s r:=h.keep (Keep.of_below k []) (by simp) (by simp)
theorem LogAt.tabs {w w':World} {L B:Nat} {s s':Tb} {r:List Nat} (h:LogAt w L B s r) (ht:TabAt w' B s') (k:Keep [B] w w') (hi:Inv s'):LogAt w' L B s' r :=
 ⟨by rw [k.block _ (heap_lt h.log) (by have:=h.ne; simp [this])]; exact h.log,ht,hi,h.ok⟩
theorem LogAt.row {w:World} {L B:Nat} {s:Tb} {r:List Nat} (h:LogAt w L B s r) (cs:Array Value) (hc:Sg.sc r=cs) (hz:cs.size=8) :
  w.cell? ⟨L,1,none⟩=some (cs[0]'(by omega))∧w.cell? ⟨L,2,none⟩=some (cs[1]'(by omega))∧w.cell? ⟨L,3,none⟩=some (cs[2]'(by omega))∧w.cell? ⟨L,4,none⟩=some (cs[3]'(by omega)) ∧
  w.cell? ⟨L,5,none⟩=some (cs[4]'(by omega))∧w.cell? ⟨L,6,none⟩=some (cs[5]'(by omega))∧w.cell? ⟨L,7,none⟩=some (cs[6]'(by omega))∧w.cell? ⟨L,8,none⟩=some (cs[7]'(by omega)):=by
 subst hc
 simp [cell_at h.log,logC,hz]
theorem LogAt.store {P:Program} {w:World} {L B:Nat} {s:Tb} {r:List Nat} (h:LogAt w L B s r) (r':List Nat) (hr:Sg.Ok r'):(storeCells ⟨L,1,none⟩ (Sg.sc r').toList 0).run P w = .ok () (w.setRow L (logC B r')):=by
 have hs:=run_storeCells_at P L 1 97 (Sg.sc r').toList 0 (logC B r) w h.log (by simp [logC_size B r h.ok,Sg.sc_size,hr.1]) (fun v hv=>(Array.all_eq_true_iff_forall_mem.1 (Sg.sc_one r')) v (by simpa using hv))
 rw [hs]
 congr 2
 have h1:(logC B r).toList=Value.pointer (some ⟨B,0,none⟩) :: (Sg.sc r).toList:=rfl
 rw [h1,List.drop_eq_nil_of_le (by simp [Sg.sc_size,h.ok.1,hr.1])]
 simp [logC]
theorem LogAt.reads {w:World} {L B:Nat} {s:Tb} {r:List Nat} (h:LogAt w L B s r) (r':List Nat) (hr:Sg.Ok r'):LogAt (w.setRow L (logC B r')) L B s r' :=
 ⟨setRow_heap _ _ _ _ _ _ h.log,by unfold TabAt; rw [setRow_other _ _ _ _ (fun e=>h.ne e.symm)]; exact h.tab,h.inv,hr⟩
theorem lnew_no (w:World) (m:Int) (h : ¬ (1≤m∧m≤24)):Calls Tryz.prog 30 #[.int .i64 m] w fun e w' => e = .returned (.tuple #[.pointer none,.int .i64 1])∧w'=w:=by
 have HN:Hid (∀ w:World,Calls Tryz.prog 43 #[.int .i64 m] w fun e w' => e = .returned (.tuple #[.pointer none,.int .i64 1])∧w'=w):=fun w=>tnew_no w m h
 clear h
 go_enter Tryz.func30,Tryz.ntmps30
 go_wp2_with fail
 refine (HN.out _).mono ?_
 rintro e w1 ⟨rfl,rfl⟩
 go_wp2
 go_ret2
 exact ⟨rfl,rfl⟩
theorem lnew_yes (w:World) (m:Nat) (h1:1≤m) (h24:m≤24):Calls Tryz.prog 30 #[.int .i64 (m:Int)] w fun e w' => ∃ L B,e = .returned (.tuple #[.pointer (some ⟨L,0,none⟩),.int .i64 0])∧w.heap.size≤L∧w.heap.size≤B∧LogAt w' L B (empty m) Sg.nought∧Below w.heap.size w w':=by
 have HN:Hid (∀ w:World,Calls Tryz.prog 43 #[.int .i64 (m:Int)] w fun e w' => ∃ B,e = .returned (.tuple #[.pointer (some ⟨B,0,none⟩),.int .i64 0])∧w.heap.size≤B∧TabAt w' B (empty m)∧Below w.heap.size w w'):=fun w=>tnew_yes w m h1 h24
 have HI:Hid (Inv (empty m)):=empty_inv h1 h24
 clear h1 h24
 go_enter Tryz.func30,Tryz.ntmps30
 go_wp2_with fail
 refine (HN.out _).mono ?_
 rintro e w1 ⟨B,rfl,hB,ht,hb⟩
 have HW:Hid (w.heap.size≤B∧TabAt w1 B (empty m)∧Below w.heap.size w w1):=⟨hB,ht,hb⟩
 clear hB ht hb
 go_wp2
 go_ret2
 refine ⟨w1.heap.size,B,rfl,HW.out.2.2.size,HW.out.1,⟨heap_alloc_new _ _,HW.out.2.1.below (below_a1 _ _),HI.out,Sg.ok_nought⟩,below_then HW.out.2.2 (below_a1 _ _)⟩
theorem write_any {w:World} {L B:Nat} {s:Tb} {r:List Nat} (h:LogAt w L B s r) (c v:Int):Calls Tryz.prog 50 #[.pointer (some ⟨L,0,none⟩),.int .i64 c,.int .i64 v] w fun e w' => e = .returned (.int .i64 (writeE s c))∧LogAt w' L B (put s c v) r∧Keep [B] w w':=by
 have HP:Hid (Calls Tryz.prog 67 #[.pointer (some ⟨B,0,none⟩),.int .i64 c,.int .i64 v] w fun e w' => e = .returned (.int .i64 (putE s c))∧TabAt w' B (put s c v)∧Keep [B] w w'):=put_any h.tab h.inv c v
 have HL : Hid (∀ w', TabAt w' B (put s c v) → Keep [B] w w' → LogAt w' L B (put s c v) r) := fun w' ht hk => h.tabs ht hk (put_inv h.inv c v)
 have h0:=h.ptr
 clear h
 unfold writeE
 generalize putE s c=z at *
 go_enter Tryz.func50,Tryz.ntmps50
 go_wp2_with fail
 refine HP.out.mono ?_
 rintro e w1 ⟨rfl,ht,hk⟩
 have HE:Hid (LogAt w1 L B (put s c v) r∧Keep [B] w w1):=⟨HL.out w1 ht hk,hk⟩
 clear ht hk
 by_cases hz:z=2
 ·subst hz
  go_wp2
  go_ret
  exact ⟨rfl,HE.out⟩
 ·have e2:(z == 2)=false:=by simpa using hz
  go_wp2
  go_ret
  exact ⟨rfl,HE.out⟩
theorem own_any {w:World} {L B:Nat} {s:Tb} {r:List Nat} (h:LogAt w L B s r) (c:Int):Calls Tryz.prog 47 #[.pointer (some ⟨L,0,none⟩),.int .i64 c] w fun e w' => e = .returned (.tuple #[.int .i64 (getV s c),.bool (getY s c)])∧Below w.heap.size w w':=by
 have HP:Hid (Calls Tryz.prog 64 #[.pointer (some ⟨B,0,none⟩),.int .i64 c] w fun e w' => e = .returned (.tuple #[.int .i64 (getV s c),.bool (getY s c)]) ∧ ∃ n,w'=w.drewN n):=get_any h.tab h.inv c
 have h0:=h.ptr
 clear h
 go_enter Tryz.func47,Tryz.ntmps47
 go_wp2_with fail
 refine HP.out.mono ?_
 rintro e w1 ⟨rfl,n,rfl⟩
 go_wp2
 go_ret2
 exact ⟨rfl,below_drawn (Below.refl _ _) _⟩
theorem writes_any {w:World} {L B:Nat} {s:Tb} {r:List Nat} (h:LogAt w L B s r):Calls Tryz.prog 25 #[.pointer (some ⟨L,0,none⟩)] w fun e w' => ∃ v,e = .returned v∧w'.ownsRow w.heap.size 60 2 v s.R.length (rowsC s.R)∧Below w.heap.size w w':=by
 have HP:Hid (Calls Tryz.prog 38 #[.pointer (some ⟨B,0,none⟩)] w fun e w' => ∃ v,e = .returned v∧w'.ownsRow w.heap.size 60 2 v s.R.length (rowsC s.R)∧Below w.heap.size w w'):=list_any h.tab h.inv
 have h0:=h.ptr
 clear h
 go_enter Tryz.func25,Tryz.ntmps25
 go_wp2_with fail
 refine HP.out.mono ?_
 rintro e w1 ⟨v,rfl,ho,hb⟩
 have HE:Hid (w1.ownsRow w.heap.size 60 2 v s.R.length (rowsC s.R)∧Below w.heap.size w w1):=⟨ho,hb⟩
 obtain ⟨va,vc,rfl⟩:=own_slice ho
 clear ho hb
 go_wp2
 go_ret
 exact ⟨_,rfl,HE.out⟩
theorem read_no (w:World) (L:Nat) (c:Int) (h:right c=false):Calls Tryz.prog 48 #[.pointer (some ⟨L,0,none⟩),.int .i64 c] w fun e w' => e = .returned (.tuple #[])∧w'=w:=by
 by_cases h0:c < 0
 ·go_enter Tryz.func48,Tryz.ntmps48
  go_wp2
  refine bodyPost_ret (results_none rfl _ _ _) rfl ?_
  exact ⟨rfl,rfl⟩
 ·have h1:1024≤c:=by simp [right] at h; omega
  have hd0:decide (c < 0)=false:=by simp; omega
  go_enter Tryz.func48,Tryz.ntmps48
  go_wp2
  refine bodyPost_ret (results_none rfl _ _ _) rfl ?_
  exact ⟨rfl,rfl⟩
theorem read_any {w:World} {L B:Nat} {s:Tb} {r:List Nat} (h:LogAt w L B s r) (c:Int):Calls Tryz.prog 48 #[.pointer (some ⟨L,0,none⟩),.int .i64 c] w fun e w' => e = .returned (.tuple #[])∧LogAt w' L B s (readR r c)∧Keep [L] w w':=by
 cases hr:right c with
 | false =>
  refine (read_no w L c hr).mono ?_
  rintro e w' ⟨rfl,rfl⟩
  exact ⟨rfl,by simp [readR,hr]; exact h,Keep.refl _ _⟩
 | true =>
  have hd0:decide (c < 0)=false:=by simp [right] at hr; simp; omega
  have hd1:decide (1024≤c)=false:=by simp [right] at hr; simp; omega
  have HR:Hid (readR r c=Sg.put r (Sg.sigN c)):=by simp [Hid,readR,hr]
  have HO:Hid (Sg.Ok (Sg.put r (Sg.sigN c))):=Sg.ok_put h.ok _ (Sg.sigN_lt c)
  have HW:Hid (∀ w:World,Calls Tryz.prog 65 #[.agg (Sg.sc r),.int .i64 c] w fun e w' => e = .returned (.agg (Sg.sc (Sg.put r (Sg.sigN c))))∧Below w.heap.size w w'):=fun w=>Sg.with_any r h.ok c w
  have HL:Hid (LogAt w L B s r):=h
  have hz:(Sg.sc r).size=8:=by rw [Sg.sc_size]; exact h.ok.1
  have hz':(Sg.sc (Sg.put r (Sg.sigN c))).size=8:=by rw [Sg.sc_size]; exact HO.out.1
  rw [HR.out]
  generalize Sg.put r (Sg.sigN c)=r' at *
  have hl0:=h.row _ rfl hz
  clear h hr
  generalize hcs:Sg.sc r=cs at *
  have hpk:=Sg.pack8 cs hz
  clear hcs
  go_enter Tryz.func48,Tryz.ntmps48
  go_wp2_with fail
  refine (HW.out _).mono ?_
  rintro e w1 ⟨rfl,hb1⟩
  have HL1:Hid (LogAt w1 L B s r):=HL.out.below hb1
  have HB1:Hid (Below w.heap.size w w1):=hb1
  have hst:=HL1.out.store (P:=Tryz.prog) r' HO.out
  clear hb1 hl0
  go_wp2
  go_end0
  exact ⟨rfl,HL1.out.reads r' HO.out,((Keep.of_below HB1.out [L]).setRow _ _ (by simp))⟩
theorem reads_any {w:World} {L B:Nat} {s:Tb} {r:List Nat} (h:LogAt w L B s r):Calls Tryz.prog 26 #[.pointer (some ⟨L,0,none⟩)] w fun e w' => e = .returned (Sg.sv r)∧Below w.heap.size w w':=by
 have hz:(Sg.sc r).size=8:=by rw [Sg.sc_size]; exact h.ok.1
 have hl0:=h.row _ rfl hz
 have h1:=Sg.sc_one r
 have hlt:=heap_lt h.log
 clear h
 unfold Sg.sv
 generalize Sg.sc r=cs at *
 have hpk:=Sg.pack8 cs hz
 go_enter Tryz.func26,Tryz.ntmps26
 have hst:=fun (old:Array Value) (ho:old.size=8)=>Sg.store_1_0 (P:=Tryz.prog) w 51 old cs ho hz h1
 go_wp2
 exact Sg.ret_sig rfl rfl (heap_alloc_new w _) hz rfl ⟨rfl,below_a1 _ _⟩
theorem eight (r:List Nat) (h:r.length=8) : ∃ a b c d e f g k,r = [a,b,c,d,e,f,g,k]:=by
 match r,h with
 | [a,b,c,d,e,f,g,k],_=>exact ⟨a,b,c,d,e,f,g,k,rfl⟩
theorem logC_none (B:Nat) (r:List Nat) (h:r.length=8):((((((((logC B r).setIfInBounds 1 (.int .u64 0)).setIfInBounds 2 (.int .u64 0)).setIfInBounds 3 (.int .u64 0)).setIfInBounds 4 (.int .u64 0)).setIfInBounds 5 (.int .u64 0)).setIfInBounds 6 (.int .u64 0)).setIfInBounds 7 (.int .u64 0)).setIfInBounds 8 (.int .u64 0)=logC B Sg.nought:=by
 obtain ⟨a,b,c,d,e,f,g,k,rfl⟩:=eight r h
 simp [logC,Sg.sc,Sg.nought]
theorem lclear_any {w:World} {L B:Nat} {s:Tb} {r:List Nat} (h:LogAt w L B s r):Calls Tryz.prog 69 #[.pointer (some ⟨L,0,none⟩)] w fun e w' => e = .returned (.tuple #[])∧LogAt w' L B (empty s.m) Sg.nought∧Keep [L,B] w w':=by
 have HP:Hid (Calls Tryz.prog 77 #[.pointer (some ⟨B,0,none⟩)] w fun e w' => e = .returned (.tuple #[])∧TabAt w' B (empty s.m)∧Keep [B] w w'):=clear_any h.tab h.inv
 have HL : Hid (∀ w', TabAt w' B (empty s.m) → Keep [B] w w' → LogAt w' L B (empty s.m) r) := fun w' ht hk => h.tabs ht hk (empty_inv h.inv.m1 h.inv.m24)
 have h0:=h.ptr
 have hz:(Sg.sc r).size=8:=by rw [Sg.sc_size]; exact h.ok.1
 clear h
 go_enter Tryz.func69,Tryz.ntmps69
 go_wp2_with fail
 refine HP.out.mono ?_
 rintro e w1 ⟨rfl,ht,hk⟩
 have HL1:Hid (LogAt w1 L B (empty s.m) r):=HL.out w1 ht hk
 have HK:Hid (Keep [B] w w1):=hk
 have hl0:=HL1.out.row _ rfl hz
 have f1:=frozen_at HL1.out.log 1
 have f2:=frozen_at HL1.out.log 2
 have f3:=frozen_at HL1.out.log 3
 have f4:=frozen_at HL1.out.log 4
 have f5:=frozen_at HL1.out.log 5
 have f6:=frozen_at HL1.out.log 6
 have f7:=frozen_at HL1.out.log 7
 have f8:=frozen_at HL1.out.log 8
 clear ht hk h0
 generalize Sg.sc r=cs at *
 go_wp2
 go_end0
 refine ⟨rfl,⟨?_, ?_,HL1.out.inv,Sg.ok_nought⟩, ?_⟩
 ·rw [heap_set (heap_set (heap_set (heap_set (heap_set (heap_set (heap_set (heap_set HL1.out.log 1 _) 2 _) 3 _) 4 _) 5 _) 6 _) 7 _) 8 _,logC_none _ _ HL1.out.ok.1]
 ·have hne:=HL1.out.ne
  unfold TabAt
  rw [heap_set_other _ _ hne,heap_set_other _ _ hne,heap_set_other _ _ hne,heap_set_other _ _ hne,heap_set_other _ _ hne,heap_set_other _ _ hne,heap_set_other _ _ hne,heap_set_other _ _ hne]
  exact HL1.out.tab
 ·exact ((((((((HK.out.mono (G:=[L,B]) (by simp)).setCell _ _ (by simp)).setCell _ _ (by simp)).setCell _ _ (by simp)).setCell _ _ (by simp)).setCell _ _ (by simp)).setCell _ _ (by simp)).setCell _ _ (by simp)).setCell _ _ (by simp)
structure Sw (w0 wr:World) (R S:Nat) (cs:Array Value):Prop where
 res:wr.heap[R]? = some (.cells (Sg.sc Sg.nought) 51 (0,0))
 sig:wr.heap[S]? = some (.cells cs 51 (0,0))
 ne:R≠S
 bR:w0.heap.size≤R
 bS:w0.heap.size≤S
 bel:Below w0.heap.size w0 wr
theorem Sw.later {w0 wr w':World} {R S:Nat} {cs:Array Value} (h:Sw w0 wr R S cs) (hb:Below wr.heap.size wr w'):Sw w0 w' R S cs :=
 ⟨Sg.row_later h.res hb,Sg.row_later h.sig hb,h.ne,h.bR,h.bS,below_then h.bel hb⟩
theorem Sw.set {w0 wr:World} {R S:Nat} {cs:Array Value} (h:Sw w0 wr R S cs) (cs':Array Value):Sw w0 (wr.setRow S cs') R S cs' :=
 ⟨by rw [setRow_other _ _ _ _ h.ne]; exact h.res,setRow_heap _ _ _ _ _ _ h.sig,h.ne,h.bR,h.bS,Sg.below_setRow h.bel _ h.bS _⟩
theorem sig_any {w:World} {L B:Nat} {s:Tb} {r:List Nat} (h:LogAt w L B s r):Calls Tryz.prog 72 #[.pointer (some ⟨L,0,none⟩)] w fun e w' => e = .returned (Sg.sv (wrS s))∧Below w.heap.size w w':=by
 have HO:Hid (∀ w:World,Calls Tryz.prog 80 #[.slice none 0 0] w fun e w' => e = .returned (.agg #[.int .u64 0,.int .u64 0,.int .u64 0,.int .u64 0,.int .u64 0,.int .u64 0,.int .u64 0,.int .u64 0])∧Below w.heap.size w w'):=fun w=>Sg.of_any w _ [] ⟨none,0,rfl,by simp,Or.inl rfl⟩
 have HL : Hid (∀ w', Below w.heap.size w w' → Calls Tryz.prog 25 #[.pointer (some ⟨L, 0, none⟩)] w' fun e w'' => ∃ v, e = .returned v ∧ w''.ownsRow w'.heap.size 60 2 v s.R.length (rowsC s.R) ∧ Below w'.heap.size w' w'') := fun w' hb => writes_any (h.below hb)
 have hl:s.R.length≤24:=Nat.le_trans h.inv.len h.inv.m24
 have HG:Hid (∀ q,q < s.R.length→(rowsC s.R)[q * 2]? = some (.int .i64 (s.R.getD q noWr).c)∧(rowsC s.R)[q * 2+1]? = some (.int .i64 (s.R.getD q noWr).v)):=fun q hq=>rowsC_get s.R q hq
 have hln:(s.R.map (·.c)).length=s.R.length:=by simp
 have HS:Hid (∀ (i:Nat) (w:World),i < s.R.length→Calls Tryz.prog 65 #[.agg (Sg.sc (Sg.ofTo (s.R.map (·.c)) i)),.int .i64 (s.R.getD i noWr).c] w fun e w' => e = .returned (.agg (Sg.sc (Sg.ofTo (s.R.map (·.c)) (i+1))))∧Below w.heap.size w w'):=by
  intro i w hi
  have e:(s.R.getD i noWr).c=(s.R.map (·.c)).getD i 0:=by simp [hi]
  rw [Sg.ofTo_succ _ i (by omega),e]
  exact Sg.with_any _ (Sg.ok_ofTo _ i) _ w
 have HE:Hid (Sg.sc (Sg.ofTo (s.R.map (·.c)) s.R.length)=Sg.sc (wrS s)):=by rw [Hid,← hln,Sg.ofTo_all]; rfl
 have HZ:Hid (∀ i,(Sg.sc (Sg.ofTo (s.R.map (·.c)) i)).size=8∧(Sg.sc (Sg.ofTo (s.R.map (·.c)) i)).all (·.oneCell')=true):=fun i=>⟨by rw [Sg.sc_size]; exact (Sg.ok_ofTo _ i).1,Sg.sc_one _⟩
 clear h hln
 unfold Sg.sv
 generalize Sg.sc (wrS s)=zz at *
 generalize (fun i=>Sg.sc (Sg.ofTo (s.R.map (·.c)) i))=G at *
 generalize rowsC s.R=xs at *
 generalize s.R.length=n at *
 go_enter Tryz.func72,Tryz.ntmps72
 go_wp2_with fail
 refine (HO.out _).mono ?_
 rintro e w1 ⟨rfl,hb1⟩
 have HB1:Hid (Below (w.heap.size+1) (w.alloc (.cells (Sg.sc Sg.nought) 51)) w1):=by
  have e:(w.alloc (.cells (Sg.sc Sg.nought) 51)).heap.size=w.heap.size+1:=by simp
  rw [Hid,← e]; exact hb1
 have HA1:Hid (Below w.heap.size w w1):=below_then (below_a1 _ _) hb1
 clear hb1
 go_wp2_with fail
 refine (HL.out _ (below_alloc HA1.out _)).mono ?_
 rintro e w2 ⟨v2,rfl,ho2,hb2⟩
 have HW2:Hid (Sw w w2 w.heap.size w1.heap.size (Sg.sc Sg.nought)):=by
  refine Sw.later (wr:=w1.alloc (.cells (Sg.sc Sg.nought) 51)) ⟨?_,heap_alloc_new _ _, ?_,Nat.le_refl _,HA1.out.size,below_alloc HA1.out _⟩ hb2
  ·rw [Below.heap_alloc _ _ _ (by have:=HB1.out.size; simp at this; omega),HB1.out.block _ (by omega)]; exact heap_alloc_new _ _
  ·have:=HB1.out.size; simp at this; omega
 have HO2:Hid (w2.ownsRow (w1.heap.size+1) 60 2 v2 n xs):=by rw [Hid]; simpa using ho2
 obtain ⟨va,vc,rfl⟩:=own_slice ho2
 clear ho2 hb2 HB1 HA1
 generalize w1.heap.size=S at *
 generalize hR:w.heap.size=R at *
 go_wp2
 go_loopw [10] (fun iv wr => ∃ i:Nat,i≤n∧iv = .int .i64 i∧Sw w wr R S (Sg.sc (Sg.ofTo (s.R.map (·.c)) i))∧wr.ownsRow (S+1) 60 2 (.slice va n vc) n xs) (fun iv _=>n - (intOf iv).toNat)
 case atStart=>exact ⟨0,Nat.zero_le _,rfl,HW2.out,HO2.out⟩
 case round =>
  obtain ⟨i,hi,rfl,hsw,hbel⟩:=hrel
  have HW:Hid (Sw w wr R S (Sg.sc (Sg.ofTo (s.R.map (·.c)) i))):=hsw
  have HB:Hid (wr.ownsRow (S+1) 60 2 (.slice va n vc) n xs):=hbel
  obtain ⟨hz,h1⟩:=HZ.out i
  clear hsw hbel
  by_cases hlt:i < n
  ·have hd:decide ((i:Int) < (n:Int))=true:=by simp; omega
   obtain ⟨g,cap,hform,hg1,hg2⟩:=HB.out.form (by omega)
   obtain ⟨rfl,_,rfl⟩:va=some ⟨g,0,none⟩∧n=n∧vc=cap:=by simpa using hform
   clear hform
   obtain ⟨k1,k2⟩:=HG.out i hlt
   have d0:wr.cell? ⟨g,i * 2,none⟩=some (.int .i64 (s.R.getD i noWr).c):=own_cells HB.out _ _ k1
   have d1:wr.cell? ⟨g,i * 2+1,none⟩=some (.int .i64 (s.R.getD i noWr).v):=own_cells HB.out _ _ k2
   have HC:Hid (∀ w:World,Calls Tryz.prog 65 #[.agg (Sg.sc (Sg.ofTo (s.R.map (·.c)) i)),.int .i64 (s.R.getD i noWr).c] w fun e w' => e = .returned (.agg (Sg.sc (Sg.ofTo (s.R.map (·.c)) (i+1))))∧Below w.heap.size w w'):=fun w=>HS.out i w hlt
   obtain ⟨hz', h1'⟩ := HZ.out (i + 1)
   clear k1 k2
   generalize (s.R.getD i noWr).c=zc at *
   generalize (s.R.getD i noWr).v=zv at *
   generalize hcj:Sg.sc (Sg.ofTo (s.R.map (·.c)) (i+1))=cj at *
   have HCJ:Hid (Sg.sc (Sg.ofTo (s.R.map (·.c)) (i+1))=cj):=hcj
   clear hcj
   generalize Sg.sc (Sg.ofTo (s.R.map (·.c)) i)=cs at *
   have hpk:=Sg.pack8 cs hz
   have hS:S < wr.heap.size:=heap_lt HW.out.sig
   have hSn:S≠wr.heap.size:=by omega
   have hl0:=Sg.row_cells HW.out.sig hz
   go_wp2_with fail
   refine (HC.out _).mono ?_
   rintro e w3 ⟨rfl,hb3⟩
   have HW3:Hid (Sw w w3 R S cs):=(HW.out.later (below_a1 _ _)).later hb3
   have HB3:Hid (w3.ownsRow (S+1) 60 2 (.slice (some ⟨g,0,none⟩) n vc) n xs):=own_keep HB.out (Keep.of_below (below_then (below_a1 _ _) hb3) []) (fun _ _=>by simp)
   clear hb3 hl0 d0 d1
   have hst:=Sg.store_row (P:=Tryz.prog) HW3.out.sig hz hz' h1'
   go_wp2
   go_roundw
   case rel =>
    exact ⟨i+1,by omega,by go_num,by rw [HCJ.out]; exact HW3.out.set _,own_keep HB3.out ((Keep.refl [S] _).setRow _ _ (by simp)) (fun b hb hm=>by
          have:=(own_block HB3.out b hb).1
          simp at hm
          omega)⟩
   case measure=>simp [intOf]; omega
  ·obtain rfl:i=n:=by omega
   rw [HE.out] at hz h1 HW
   have hpo:=Sg.pack8 zz hz
   have hl3:=Sg.row_cells HW.out.sig hz
   have hst:=Sg.store_row (P:=Tryz.prog) HW.out.res rfl hz h1
   go_wp2
   exact Sg.ret_sig rfl rfl (setRow_heap _ _ _ _ _ _ HW.out.res) hz rfl ⟨rfl,hR ▸ Sg.below_setRow HW.out.bel _ HW.out.bR _⟩
end Go.Proofs.YtdkpgdkjohjcaaaGreat.Tl
