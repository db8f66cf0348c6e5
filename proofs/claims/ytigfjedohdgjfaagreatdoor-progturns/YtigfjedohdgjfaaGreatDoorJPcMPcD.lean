/- Configurations and regions (layer 19) as plain data, and as they lie. -/
import Derived.Test.YtigfjedohdgjfaaGreatDoorJBlkTabA
import Derived.Deep.DeepHandedRow
import Derived.Laws.EntriesVeiled
namespace Go.Proofs.YtigfjedohdgjfaaGreatDoor.Tl.Pc
open Go.ChangeShapes Go.WideShapes Go.ChangeAt Go.RowKit
abbrev Rg:=Int × Int
def okR (x:Rg):Bool:=decide (1≤x.1) && decide (x.1≤4) && decide (0≤x.2) && decide (x.2≤16)
def kindV (k m:Int):Int:=if k=1 then m else if k=2 then m+2 else if k=3 then 3 * m+1 else 2 * m+3
def szV (x:Rg):Int:=if okR x then kindV x.1 x.2 else 0
def erV (x:Rg):Int:=if okR x then 0 else 13
def okL (R:List Rg):Bool:=decide ((R.length:Int)≤8) && R.all okR
def sumV:List Rg→Int
 | []=>0
 | x :: l=>szV x+sumV l
theorem sz_le (x:Rg):0≤szV x∧szV x≤49:=by
 unfold szV
 split
 ·rename_i h
  simp only [okR,Bool.and_eq_true,decide_eq_true_eq] at h
  unfold kindV
  split
  ·omega
  ·split
   ·omega
   ·split <;> omega
 ·omega
theorem sum_le : ∀ R:List Rg,0≤sumV R∧sumV R≤49 * R.length
 | []=>by simp [sumV]
 | x :: l=>by
  have:=sum_le l
  have:=sz_le x
  simp only [sumV,List.length_cons]
  omega
theorem sum_append : ∀ (R S:List Rg),sumV (R++S)=sumV R+sumV S
 | [],S=>by simp [sumV]
 | x :: l,S=>by
  simp only [List.cons_append,sumV,sum_append l S]
  omega
def nthR (R:List Rg) (i:Nat):Rg:=R.getD i (0,0)
theorem sum_take {R:List Rg} {i:Nat} (h:i < R.length):sumV (R.take (i+1))=sumV (R.take i)+szV (nthR R i):=by
 have e:R.take (i+1)=R.take i ++ [nthR R i]:=by
  rw [List.take_add_one]
  simp [nthR,h]
 rw [e,sum_append]
 simp [sumV]
theorem nthR_mem {R:List Rg} {i:Nat} (h:i < R.length):nthR R i ∈ R:=by
 have:nthR R i=R[i]:=by simp [nthR,h]
 rw [this]
 exact List.getElem_mem h
theorem nthR_take {R:List Rg} {i n:Nat} (h:i < n):nthR (R.take n) i=nthR R i:=by
 simp [nthR,h]
structure Cf where
 raw:Int
 ring:Int
 wrs:Int
 st:Int
 multi:Bool
 tries:Int
 R:List Rg
def okN (c:Cf):Bool:=decide (1≤c.raw) && decide (c.raw≤64) && decide (1≤c.ring) && decide (c.ring≤16) && decide (1≤c.wrs) && decide (c.wrs≤24) && decide (1≤c.st) && decide (c.st≤1099511627776) && decide (1≤c.tries) && decide (c.tries≤255)
def okC (c:Cf):Bool:=okN c && okL c.R
def chkV (c:Cf):Int:=if okC c then 0 else 13
def baseV (c:Cf) (i:Int):Int × Int:=if okC c then (if 0≤i∧i < c.R.length then (c.raw+sumV (c.R.take i.toNat),0) else (0,1)) else (0,13)
def cellsV (c:Cf):Int × Int:=if okC c then (c.raw+sumV c.R,0) else (0,13)
theorem okC_raw {c:Cf} (h:okC c=true):1≤c.raw∧c.raw≤64∧c.R.length≤8:=by
 simp only [okC,okN,okL,Bool.and_eq_true,decide_eq_true_eq] at h
 omega
def Rl (w:World) (v:Value) (R:List Rg):Prop:=∃ a cap,v = .slice a R.length cap∧R.length≤8796093022208∧R.length≤cap∧(cap≤9223372036854775807∧(a=none→cap=0))∧(R.length=0 ∨ ∃ x,a=some x∧x.block < w.heap.size ∧ ∀ i,i < R.length→w.cell? (x.add (i * 2))=some (.int .i64 (nthR R i).1)∧w.cell? ⟨(x.add (i * 2)).block,(x.add (i * 2)).off+1,none⟩=some (.int .i64 (nthR R i).2))
theorem Rl.later {w w':World} {v:Value} {R:List Rg} {B:Nat} (h:Rl w v R) (hb:Below B w w') (hB:w.heap.size≤B):Rl w' v R:=by
 obtain ⟨a,cap,hv,hm,hc1,hc2,hl⟩:=h
 refine ⟨a,cap,hv,hm,hc1,hc2, ?_⟩
 rcases hl with h0 | ⟨x,hx,hxb,hc⟩
 ·exact Or.inl h0
 ·exact Or.inr ⟨x,hx,Nat.lt_of_lt_of_le hxb hb.size,fun i hi=>⟨cell_later hb (by rw [add_block]; omega) (hc i hi).1,cell_later (a:=⟨(x.add (i * 2)).block,(x.add (i * 2)).off+1,none⟩) hb (show (x.add (i * 2)).block < B by rw [add_block]; omega) (hc i hi).2⟩⟩
theorem Rl.take {w:World} {a:Option Addr} {cap:Nat} {R:List Rg} (h:Rl w (.slice a R.length cap) R) {i:Nat} (hi:i < R.length):Rl w (.slice a i cap) (R.take i):=by
 obtain ⟨a', cap', hv, hm, hc1, hc2, hl⟩ := h
 cases hv
 have hL:(R.take i).length=i:=by simp; omega
 refine ⟨a,cap,by rw [hL],by omega,by omega,hc2, ?_⟩
 rw [hL]
 rcases hl with h0 | ⟨x,hx,hxb,hc⟩
 ·omega
 ·exact Or.inr ⟨x,hx,hxb,fun j hj=>by rw [nthR_take hj]; exact hc j (by omega)⟩
def cfA (c:Cf) (v:Value):Array Value:=#[.int .i64 c.raw,.int .i64 c.ring,.int .i64 c.wrs,.int .i64 c.st,.bool c.multi,.int .i64 c.tries,v]
def CfV (w:World) (v:Value) (c:Cf):Prop:=∃ vr,v = .agg (cfA c vr)∧Rl w vr c.R
theorem CfV.later {w w':World} {v:Value} {c:Cf} {B:Nat} (h:CfV w v c) (hb:Below B w w') (hB:w.heap.size≤B):CfV w' v c:=by
 obtain ⟨vr,hv,hR⟩:=h
 exact ⟨vr,hv,hR.later hb hB⟩
end Go.Proofs.YtigfjedohdgjfaaGreatDoor.Tl.Pc
namespace Go.Proofs.YtigfjedohdgjfaaGreatDoor.Tl.Pc
open Go.ChangeShapes Go.WideShapes Go.ChangeAt Go.RowKit
attribute [local go_sem ↓] Go.wp_at_zero Go.wp_at_succ
def capB (m:Int):Bool:=decide (0≤m) && decide (m≤16)
theorem capB_yes {m:Int} (h:capB m=true):0≤m∧m≤16:=by simpa [capB] using h
theorem cap15 (w:World) (m:Int):Calls Tryz.prog 152 #[.int .i64 m] w fun e w' => e = .returned (.bool (capB m))∧w'=w:=by
 unfold capB
 cases h:decide (0≤m) with
 | false =>
  go_enter Tryz.func152,Tryz.ntmps152
  go_wp2
  go_ret
  exact ⟨by simp,rfl⟩
 | true =>
  cases h2:decide (m≤16) with
  | false =>
   go_enter Tryz.func152,Tryz.ntmps152
   go_wp2
   go_ret
   exact ⟨by simp,rfl⟩
  | true =>
   go_enter Tryz.func152,Tryz.ntmps152
   go_wp2
   go_ret
   exact ⟨by simp,rfl⟩
theorem cap16 (w:World) (m:Int):Calls Tryz.prog 153 #[.int .i64 m] w fun e w' => e = .returned (.bool (capB m))∧w'=w:=by
 unfold capB
 cases h:decide (0≤m) with
 | false =>
  go_enter Tryz.func153,Tryz.ntmps153
  go_wp2
  go_ret
  exact ⟨by simp,rfl⟩
 | true =>
  cases h2:decide (m≤16) with
  | false =>
   go_enter Tryz.func153,Tryz.ntmps153
   go_wp2
   go_ret
   exact ⟨by simp,rfl⟩
  | true =>
   go_enter Tryz.func153,Tryz.ntmps153
   go_wp2
   go_ret
   exact ⟨by simp,rfl⟩
theorem cap17 (w:World) (m:Int):Calls Tryz.prog 154 #[.int .i64 m] w fun e w' => e = .returned (.bool (capB m))∧w'=w:=by
 unfold capB
 cases h:decide (0≤m) with
 | false =>
  go_enter Tryz.func154,Tryz.ntmps154
  go_wp2
  go_ret
  exact ⟨by simp,rfl⟩
 | true =>
  cases h2:decide (m≤16) with
  | false =>
   go_enter Tryz.func154,Tryz.ntmps154
   go_wp2
   go_ret
   exact ⟨by simp,rfl⟩
  | true =>
   go_enter Tryz.func154,Tryz.ntmps154
   go_wp2
   go_ret
   exact ⟨by simp,rfl⟩
theorem cap18 (w:World) (m:Int):Calls Tryz.prog 155 #[.int .i64 m] w fun e w' => e = .returned (.bool (capB m))∧w'=w:=by
 unfold capB
 cases h:decide (0≤m) with
 | false =>
  go_enter Tryz.func155,Tryz.ntmps155
  go_wp2
  go_ret
  exact ⟨by simp,rfl⟩
 | true =>
  cases h2:decide (m≤16) with
  | false =>
   go_enter Tryz.func155,Tryz.ntmps155
   go_wp2
   go_ret
   exact ⟨by simp,rfl⟩
  | true =>
   go_enter Tryz.func155,Tryz.ntmps155
   go_wp2
   go_ret
   exact ⟨by simp,rfl⟩
theorem capR (w:World) (m:Int):Calls Tryz.prog 35 #[.int .i64 m] w fun e w' => e = .returned (.bool (capB m))∧w'=w:=by
 unfold capB
 cases h:decide (0≤m) with
 | false =>
  go_enter Tryz.func35,Tryz.ntmps35
  go_wp2
  go_ret
  exact ⟨by simp,rfl⟩
 | true =>
  cases h2:decide (m≤16) with
  | false =>
   go_enter Tryz.func35,Tryz.ntmps35
   go_wp2
   go_ret
   exact ⟨by simp,rfl⟩
  | true =>
   go_enter Tryz.func35,Tryz.ntmps35
   go_wp2
   go_ret
   exact ⟨by simp,rfl⟩
theorem keyof19 (w:World) {m:Int} (h:capB m=true):Calls Tryz.prog 174 #[.int .i64 m] w fun e w' => e = .returned (.int .i64 (2 * m+1))∧w'=w:=by
 have hm:=capB_yes h
 have HW:Hid (wrap64 (1+wrap64 (2 * m))=2 * m+1):=by have:wrap64 (1+wrap64 (2 * m))=2 * m+1:=(by unfold wrap64; omega); exact this
 clear hm h
 go_enter Tryz.func174,Tryz.ntmps174
 go_wp2_with fail
 go_ret
 exact ⟨by rw [← HW.out]; rfl,rfl⟩
theorem nextof19 (w:World) {m:Int} (h:capB m=true):Calls Tryz.prog 156 #[.int .i64 m] w fun e w' => e = .returned (.int .i64 (2 * m+2))∧w'=w:=by
 have HK:Hid (∀ w:World,Calls Tryz.prog 174 #[.int .i64 m] w fun e w' => e = .returned (.int .i64 (2 * m+1))∧w'=w):=fun w=>keyof19 w h
 have hm:=capB_yes h
 have HW:Hid (wrap64 ((2 * m+1)+1)=2 * m+2):=by have:wrap64 ((2 * m+1)+1)=2 * m+2:=(by unfold wrap64; omega); exact this
 clear hm h
 generalize 2 * m+1=y at *
 go_enter Tryz.func156,Tryz.ntmps156
 go_wp2_with fail
 refine (HK.out _).mono ?_
 rintro e w1 ⟨rfl,rfl⟩
 go_wp2_with fail
 go_ret
 exact ⟨by rw [← HW.out]; rfl,rfl⟩
theorem sz15 (w:World) {m:Int} (h:capB m=true):Calls Tryz.prog 131 #[.int .i64 m] w fun e w' => e = .returned (.int .i64 (m))∧w'=w:=by
 have HC:Hid (∀ w:World,Calls Tryz.prog 152 #[.int .i64 m] w fun e w' => e = .returned (.bool (capB m))∧w'=w):=fun w=>cap15 w m
 rw [h] at HC
 clear h
 go_enter Tryz.func131,Tryz.ntmps131
 go_wp2_with fail
 refine (HC.out _).mono ?_
 rintro e w1 ⟨rfl,rfl⟩
 go_wp2_with fail
 go_ret
 exact ⟨rfl,rfl⟩
theorem rs15 (w:World) {m:Int} (h:capB m=true):Calls Tryz.prog 36 #[.int .i64 m] w fun e w' => e = .returned (.int .i64 (m))∧w'=w:=by
 have HC:Hid (∀ w:World,Calls Tryz.prog 35 #[.int .i64 m] w fun e w' => e = .returned (.bool (capB m))∧w'=w):=fun w=>capR w m
 rw [h] at HC
 clear h
 go_enter Tryz.func36,Tryz.ntmps36
 go_wp2_with fail
 refine (HC.out _).mono ?_
 rintro e w1 ⟨rfl,rfl⟩
 go_wp2_with fail
 go_ret
 exact ⟨rfl,rfl⟩
theorem sz16 (w:World) {m:Int} (h:capB m=true):Calls Tryz.prog 132 #[.int .i64 m] w fun e w' => e = .returned (.int .i64 (m+2))∧w'=w:=by
 have HC:Hid (∀ w:World,Calls Tryz.prog 153 #[.int .i64 m] w fun e w' => e = .returned (.bool (capB m))∧w'=w):=fun w=>cap16 w m
 have hm:=capB_yes h
 have HW:Hid (wrap64 (2+m)=m+2):=by have:wrap64 (2+m)=m+2:=(by unfold wrap64; omega); exact this
 clear hm
 rw [h] at HC
 clear h
 go_enter Tryz.func132,Tryz.ntmps132
 go_wp2_with fail
 refine (HC.out _).mono ?_
 rintro e w1 ⟨rfl,rfl⟩
 go_wp2_with fail
 go_ret
 exact ⟨by show Ending.returned (.int .i64 (wrap64 (2+m)))=_; rw [HW.out],rfl⟩
theorem rs16 (w:World) {m:Int} (h:capB m=true):Calls Tryz.prog 37 #[.int .i64 m] w fun e w' => e = .returned (.int .i64 (m+2))∧w'=w:=by
 have HC:Hid (∀ w:World,Calls Tryz.prog 35 #[.int .i64 m] w fun e w' => e = .returned (.bool (capB m))∧w'=w):=fun w=>capR w m
 have hm:=capB_yes h
 have HW:Hid (wrap64 (m+2)=m+2):=by have:wrap64 (m+2)=m+2:=(by unfold wrap64; omega); exact this
 clear hm
 rw [h] at HC
 clear h
 go_enter Tryz.func37,Tryz.ntmps37
 go_wp2_with fail
 refine (HC.out _).mono ?_
 rintro e w1 ⟨rfl,rfl⟩
 go_wp2_with fail
 go_ret
 exact ⟨by show Ending.returned (.int .i64 (wrap64 (m+2)))=_; rw [HW.out],rfl⟩
theorem sz17 (w:World) {m:Int} (h:capB m=true):Calls Tryz.prog 133 #[.int .i64 m] w fun e w' => e = .returned (.int .i64 (3 * m+1))∧w'=w:=by
 have HC:Hid (∀ w:World,Calls Tryz.prog 154 #[.int .i64 m] w fun e w' => e = .returned (.bool (capB m))∧w'=w):=fun w=>cap17 w m
 have hm:=capB_yes h
 have HW:Hid (wrap64 (1+wrap64 (3 * m))=3 * m+1):=by have:wrap64 (1+wrap64 (3 * m))=3 * m+1:=(by unfold wrap64; omega); exact this
 clear hm
 rw [h] at HC
 clear h
 go_enter Tryz.func133,Tryz.ntmps133
 go_wp2_with fail
 refine (HC.out _).mono ?_
 rintro e w1 ⟨rfl,rfl⟩
 go_wp2_with fail
 go_ret
 exact ⟨by show Ending.returned (.int .i64 (wrap64 (1+wrap64 (3 * m))))=_; rw [HW.out],rfl⟩
theorem rs17 (w:World) {m:Int} (h:capB m=true):Calls Tryz.prog 38 #[.int .i64 m] w fun e w' => e = .returned (.int .i64 (3 * m+1))∧w'=w:=by
 have HC:Hid (∀ w:World,Calls Tryz.prog 35 #[.int .i64 m] w fun e w' => e = .returned (.bool (capB m))∧w'=w):=fun w=>capR w m
 have hm:=capB_yes h
 have HW:Hid (wrap64 (wrap64 (3 * m)+1)=3 * m+1):=by have:wrap64 (wrap64 (3 * m)+1)=3 * m+1:=(by unfold wrap64; omega); exact this
 clear hm
 rw [h] at HC
 clear h
 go_enter Tryz.func38,Tryz.ntmps38
 go_wp2_with fail
 refine (HC.out _).mono ?_
 rintro e w1 ⟨rfl,rfl⟩
 go_wp2_with fail
 go_ret
 exact ⟨by show Ending.returned (.int .i64 (wrap64 (wrap64 (3 * m)+1)))=_; rw [HW.out],rfl⟩
theorem rs18 (w:World) {m:Int} (h:capB m=true):Calls Tryz.prog 39 #[.int .i64 m] w fun e w' => e = .returned (.int .i64 (2 * m+3))∧w'=w:=by
 have HC:Hid (∀ w:World,Calls Tryz.prog 35 #[.int .i64 m] w fun e w' => e = .returned (.bool (capB m))∧w'=w):=fun w=>capR w m
 have hm:=capB_yes h
 have HW:Hid (wrap64 (wrap64 (2 * m)+3)=2 * m+3):=by have:wrap64 (wrap64 (2 * m)+3)=2 * m+3:=(by unfold wrap64; omega); exact this
 clear hm
 rw [h] at HC
 clear h
 go_enter Tryz.func39,Tryz.ntmps39
 go_wp2_with fail
 refine (HC.out _).mono ?_
 rintro e w1 ⟨rfl,rfl⟩
 go_wp2_with fail
 go_ret
 exact ⟨by show Ending.returned (.int .i64 (wrap64 (wrap64 (2 * m)+3)))=_; rw [HW.out],rfl⟩
theorem sz18 (w:World) {m:Int} (h:capB m=true):Calls Tryz.prog 134 #[.int .i64 m] w fun e w' => e = .returned (.int .i64 (2 * m+3))∧w'=w:=by
 have HC:Hid (∀ w:World,Calls Tryz.prog 155 #[.int .i64 m] w fun e w' => e = .returned (.bool (capB m))∧w'=w):=fun w=>cap18 w m
 have HN:Hid (∀ w:World,Calls Tryz.prog 156 #[.int .i64 m] w fun e w' => e = .returned (.int .i64 (2 * m+2))∧w'=w):=fun w=>nextof19 w h
 have hm:=capB_yes h
 have HW:Hid (wrap64 ((2 * m+2)+1)=2 * m+3):=by have:wrap64 ((2 * m+2)+1)=2 * m+3:=(by unfold wrap64; omega); exact this
 clear hm
 rw [h] at HC
 clear h
 generalize 2 * m+2=y at *
 go_enter Tryz.func134,Tryz.ntmps134
 go_wp2_with fail
 refine (HC.out _).mono ?_
 rintro e w1 ⟨rfl,rfl⟩
 go_wp2_with fail
 refine (HN.out _).mono ?_
 rintro e w1 ⟨rfl,rfl⟩
 go_wp2_with fail
 go_ret
 exact ⟨by show Ending.returned (.int .i64 (wrap64 (y+1)))=_; rw [HW.out],rfl⟩
end Go.Proofs.YtigfjedohdgjfaaGreatDoor.Tl.Pc
namespace Go.Proofs.YtigfjedohdgjfaaGreatDoor.Tl.Pc
open Go.ChangeShapes Go.WideShapes Go.ChangeAt Go.RowKit
attribute [local go_sem ↓] Go.wp_at_zero Go.wp_at_succ
def regV (x:Rg):Value:=.agg #[.int .i64 x.1,.int .i64 x.2]
theorem isreg_any (w:World) (x:Rg):Calls Tryz.prog 101 #[regV x] w fun e w' => e = .returned (.bool (okR x))∧Below w.heap.size w w':=by
 obtain ⟨k,m⟩:=x
 unfold regV okR
 dsimp only
 cases h1:decide (1≤k) <;> cases h2:decide (k≤4) <;> cases h3:decide (0≤m) <;> cases h4:decide (m≤16)
 all_goals
  go_enter Tryz.func101,Tryz.ntmps101
  go_wp2
  go_ret
  exact ⟨by simp,by first | exact Below.refl _ _ | exact below_a1 _ _⟩
theorem sizes_any (w:World):Calls Tryz.prog 102 #[] w fun e w' => ∃ g,e = .returned (.slice (some ⟨g,0,none⟩) 4 4)∧Below w.heap.size w w'∧w'.heap[g]? = some (.cells #[.func (.func 131) #[] #[],.func (.func 132) #[] #[],.func (.func 133) #[] #[],.func (.func 134) #[] #[]] 90 (0,0)):=by
 go_enter Tryz.func102,Tryz.ntmps102
 go_wp2
 go_ret
 exact ⟨w.heap.size,rfl,below_a1 _ _,heap_alloc_new _ _⟩
theorem row_nx {w w':World} {o:Obj} (hb:Below (w.alloc o).heap.size (w.alloc o) w'):w'.heap[w.heap.size]? = some o:=by
 rw [hb.block _ (by simp)]; exact heap_alloc_new _ _
theorem okR_parts {x:Rg} (h:okR x=true):(x.1=1∨x.1=2∨x.1=3∨x.1=4)∧capB x.2=true:=by
 simp only [okR,Bool.and_eq_true,decide_eq_true_eq] at h
 refine ⟨by omega, ?_⟩
 simp only [capB,Bool.and_eq_true,decide_eq_true_eq]
 omega
def Sans (x:Rg) (w:World):Ending→World→Prop:=fun e w' => e = .returned (.tuple #[.int .i64 (szV x),.int .i64 (erV x)])∧Below w.heap.size w w'
theorem size_no (w:World) (x:Rg) (h:okR x=false):Calls Tryz.prog 53 #[regV x] w (Sans x w):=by
 have HI:Hid (∀ w:World,Calls Tryz.prog 101 #[regV x] w fun e w' => e = .returned (.bool false)∧Below w.heap.size w w'):=fun w=>h ▸ isreg_any w x
 unfold Sans szV erV
 rw [h]
 obtain ⟨k,m⟩:=x
 clear h
 unfold regV at *
 go_enter Tryz.func53,Tryz.ntmps53
 go_wp2_with fail
 refine (HI.out _).mono ?_
 rintro e w1 ⟨rfl,hb⟩
 go_wp2_with fail
 go_ret2
 exact ⟨rfl,below_then (below_a1 _ _) hb⟩
theorem size_1 (w:World) {m:Int} (h:okR (1,m)=true):Calls Tryz.prog 53 #[regV (1,m)] w (Sans (1,m) w):=by
 have HI:Hid (∀ w:World,Calls Tryz.prog 101 #[regV (1,m)] w fun e w' => e = .returned (.bool true)∧Below w.heap.size w w'):=fun w=>h ▸ isreg_any w (1,m)
 have HS:Hid (∀ w:World,Calls Tryz.prog 102 #[] w fun e w' => ∃ g,e = .returned (.slice (some ⟨g,0,none⟩) 4 4)∧Below w.heap.size w w'∧w'.heap[g]? = some (.cells #[.func (.func 131) #[] #[],.func (.func 132) #[] #[],.func (.func 133) #[] #[],.func (.func 134) #[] #[]] 90 (0,0))):=fun w=>sizes_any w
 have hm:=(okR_parts h).2
 dsimp only at hm
 have H1:Hid (∀ w:World,Calls Tryz.prog 131 #[.int .i64 m] w fun e w' => e = .returned (.int .i64 (m))∧w'=w):=fun w=>sz15 w hm
 unfold Sans szV erV
 rw [h]
 clear h hm
 unfold regV at *
 dsimp only at HI ⊢
 go_enter Tryz.func53,Tryz.ntmps53
 go_wp2_with fail
 refine (HI.out _).mono ?_
 rintro e w1 ⟨rfl,hb⟩
 have hr:=row_nx hb
 have hbb:Below w.heap.size w w1:=below_then (below_a1 _ _) hb
 have HR:Hid (w1.heap[w.heap.size]? = some (.cells #[.int .i64 1,.int .i64 m] 74 (0,0))):=hr
 have HB:Hid (Below w.heap.size w w1):=hbb
 have hk0:w1.cell? ⟨w.heap.size,0,none⟩=some (.int .i64 1):=(cell_at hr 0).trans rfl
 clear hb hbb hr
 go_wp2_with fail
 go_region_with ((go_at_call 102; refine (HS.out _).mono ?_; rintro e w2 ⟨g,rfl,hb2,hg⟩; have hb3:Below w1.heap.size w1 w2:=⟨hb2.os,hb2.tape,hb2.output,hb2.size,hb2.block⟩; have hS:w2.cell? ⟨w.heap.size,0,none⟩=some (.int .i64 1):=cell_later hb3 (a:=⟨w.heap.size,0,none⟩) (heap_lt HR.out) hk0; have hg0:w2.cell? ⟨g,0,none⟩=some (.func (.func 131) #[] #[]):=(cell_at hg 0).trans rfl))
 all_goals
  have hk1:w2.cell? ⟨w.heap.size,1,none⟩=some (.int .i64 m):=cell_later hb3 (a:=⟨w.heap.size,1,none⟩) (heap_lt HR.out) ((cell_at HR.out 1).trans rfl)
  go_wp2_with fail
  refine (H1.out _).mono ?_
  rintro e w3 ⟨rfl,rfl⟩
  go_wp2_with fail
  go_ret2
  exact ⟨rfl,HB.out.trans (hb3.mono HB.out.size)⟩
theorem size_2 (w:World) {m:Int} (h:okR (2,m)=true):Calls Tryz.prog 53 #[regV (2,m)] w (Sans (2,m) w):=by
 have HI:Hid (∀ w:World,Calls Tryz.prog 101 #[regV (2,m)] w fun e w' => e = .returned (.bool true)∧Below w.heap.size w w'):=fun w=>h ▸ isreg_any w (2,m)
 have HS:Hid (∀ w:World,Calls Tryz.prog 102 #[] w fun e w' => ∃ g,e = .returned (.slice (some ⟨g,0,none⟩) 4 4)∧Below w.heap.size w w'∧w'.heap[g]? = some (.cells #[.func (.func 131) #[] #[],.func (.func 132) #[] #[],.func (.func 133) #[] #[],.func (.func 134) #[] #[]] 90 (0,0))):=fun w=>sizes_any w
 have hm:=(okR_parts h).2
 dsimp only at hm
 have H2:Hid (∀ w:World,Calls Tryz.prog 132 #[.int .i64 m] w fun e w' => e = .returned (.int .i64 (m+2))∧w'=w):=fun w=>sz16 w hm
 unfold Sans szV erV
 rw [h]
 clear h hm
 unfold regV at *
 dsimp only at HI ⊢
 go_enter Tryz.func53,Tryz.ntmps53
 go_wp2_with fail
 refine (HI.out _).mono ?_
 rintro e w1 ⟨rfl,hb⟩
 have hr:=row_nx hb
 have hbb:Below w.heap.size w w1:=below_then (below_a1 _ _) hb
 have HR:Hid (w1.heap[w.heap.size]? = some (.cells #[.int .i64 2,.int .i64 m] 74 (0,0))):=hr
 have HB:Hid (Below w.heap.size w w1):=hbb
 have hk0:w1.cell? ⟨w.heap.size,0,none⟩=some (.int .i64 2):=(cell_at hr 0).trans rfl
 clear hb hbb hr
 go_wp2_with fail
 go_region_with ((go_at_call 102; refine (HS.out _).mono ?_; rintro e w2 ⟨g,rfl,hb2,hg⟩; have hb3:Below w1.heap.size w1 w2:=⟨hb2.os,hb2.tape,hb2.output,hb2.size,hb2.block⟩; have hS:w2.cell? ⟨w.heap.size,0,none⟩=some (.int .i64 2):=cell_later hb3 (a:=⟨w.heap.size,0,none⟩) (heap_lt HR.out) hk0; have hg0:w2.cell? ⟨g,1,none⟩=some (.func (.func 132) #[] #[]):=(cell_at hg 1).trans rfl))
 all_goals
  have hk1:w2.cell? ⟨w.heap.size,1,none⟩=some (.int .i64 m):=cell_later hb3 (a:=⟨w.heap.size,1,none⟩) (heap_lt HR.out) ((cell_at HR.out 1).trans rfl)
  go_wp2_with fail
  refine (H2.out _).mono ?_
  rintro e w3 ⟨rfl,rfl⟩
  go_wp2_with fail
  go_ret2
  exact ⟨rfl,HB.out.trans (hb3.mono HB.out.size)⟩
theorem size_3 (w:World) {m:Int} (h:okR (3,m)=true):Calls Tryz.prog 53 #[regV (3,m)] w (Sans (3,m) w):=by
 have HI:Hid (∀ w:World,Calls Tryz.prog 101 #[regV (3,m)] w fun e w' => e = .returned (.bool true)∧Below w.heap.size w w'):=fun w=>h ▸ isreg_any w (3,m)
 have HS:Hid (∀ w:World,Calls Tryz.prog 102 #[] w fun e w' => ∃ g,e = .returned (.slice (some ⟨g,0,none⟩) 4 4)∧Below w.heap.size w w'∧w'.heap[g]? = some (.cells #[.func (.func 131) #[] #[],.func (.func 132) #[] #[],.func (.func 133) #[] #[],.func (.func 134) #[] #[]] 90 (0,0))):=fun w=>sizes_any w
 have hm:=(okR_parts h).2
 dsimp only at hm
 have H3:Hid (∀ w:World,Calls Tryz.prog 133 #[.int .i64 m] w fun e w' => e = .returned (.int .i64 (3 * m+1))∧w'=w):=fun w=>sz17 w hm
 unfold Sans szV erV
 rw [h]
 clear h hm
 unfold regV at *
 dsimp only at HI ⊢
 go_enter Tryz.func53,Tryz.ntmps53
 go_wp2_with fail
 refine (HI.out _).mono ?_
 rintro e w1 ⟨rfl,hb⟩
 have hr:=row_nx hb
 have hbb:Below w.heap.size w w1:=below_then (below_a1 _ _) hb
 have HR:Hid (w1.heap[w.heap.size]? = some (.cells #[.int .i64 3,.int .i64 m] 74 (0,0))):=hr
 have HB:Hid (Below w.heap.size w w1):=hbb
 have hk0:w1.cell? ⟨w.heap.size,0,none⟩=some (.int .i64 3):=(cell_at hr 0).trans rfl
 clear hb hbb hr
 go_wp2_with fail
 go_region_with ((go_at_call 102; refine (HS.out _).mono ?_; rintro e w2 ⟨g,rfl,hb2,hg⟩; have hb3:Below w1.heap.size w1 w2:=⟨hb2.os,hb2.tape,hb2.output,hb2.size,hb2.block⟩; have hS:w2.cell? ⟨w.heap.size,0,none⟩=some (.int .i64 3):=cell_later hb3 (a:=⟨w.heap.size,0,none⟩) (heap_lt HR.out) hk0; have hg0:w2.cell? ⟨g,2,none⟩=some (.func (.func 133) #[] #[]):=(cell_at hg 2).trans rfl))
 all_goals
  have hk1:w2.cell? ⟨w.heap.size,1,none⟩=some (.int .i64 m):=cell_later hb3 (a:=⟨w.heap.size,1,none⟩) (heap_lt HR.out) ((cell_at HR.out 1).trans rfl)
  go_wp2_with fail
  refine (H3.out _).mono ?_
  rintro e w3 ⟨rfl,rfl⟩
  go_wp2_with fail
  go_ret2
  exact ⟨rfl,HB.out.trans (hb3.mono HB.out.size)⟩
theorem size_4 (w:World) {m:Int} (h:okR (4,m)=true):Calls Tryz.prog 53 #[regV (4,m)] w (Sans (4,m) w):=by
 have HI:Hid (∀ w:World,Calls Tryz.prog 101 #[regV (4,m)] w fun e w' => e = .returned (.bool true)∧Below w.heap.size w w'):=fun w=>h ▸ isreg_any w (4,m)
 have HS:Hid (∀ w:World,Calls Tryz.prog 102 #[] w fun e w' => ∃ g,e = .returned (.slice (some ⟨g,0,none⟩) 4 4)∧Below w.heap.size w w'∧w'.heap[g]? = some (.cells #[.func (.func 131) #[] #[],.func (.func 132) #[] #[],.func (.func 133) #[] #[],.func (.func 134) #[] #[]] 90 (0,0))):=fun w=>sizes_any w
 have hm:=(okR_parts h).2
 dsimp only at hm
 have H4:Hid (∀ w:World,Calls Tryz.prog 134 #[.int .i64 m] w fun e w' => e = .returned (.int .i64 (2 * m+3))∧w'=w):=fun w=>sz18 w hm
 unfold Sans szV erV
 rw [h]
 clear h hm
 unfold regV at *
 dsimp only at HI ⊢
 go_enter Tryz.func53,Tryz.ntmps53
 go_wp2_with fail
 refine (HI.out _).mono ?_
 rintro e w1 ⟨rfl,hb⟩
 have hr:=row_nx hb
 have hbb:Below w.heap.size w w1:=below_then (below_a1 _ _) hb
 have HR:Hid (w1.heap[w.heap.size]? = some (.cells #[.int .i64 4,.int .i64 m] 74 (0,0))):=hr
 have HB:Hid (Below w.heap.size w w1):=hbb
 have hk0:w1.cell? ⟨w.heap.size,0,none⟩=some (.int .i64 4):=(cell_at hr 0).trans rfl
 clear hb hbb hr
 go_wp2_with fail
 go_region_with ((go_at_call 102; refine (HS.out _).mono ?_; rintro e w2 ⟨g,rfl,hb2,hg⟩; have hb3:Below w1.heap.size w1 w2:=⟨hb2.os,hb2.tape,hb2.output,hb2.size,hb2.block⟩; have hS:w2.cell? ⟨w.heap.size,0,none⟩=some (.int .i64 4):=cell_later hb3 (a:=⟨w.heap.size,0,none⟩) (heap_lt HR.out) hk0; have hg0:w2.cell? ⟨g,3,none⟩=some (.func (.func 134) #[] #[]):=(cell_at hg 3).trans rfl))
 all_goals
  have hk1:w2.cell? ⟨w.heap.size,1,none⟩=some (.int .i64 m):=cell_later hb3 (a:=⟨w.heap.size,1,none⟩) (heap_lt HR.out) ((cell_at HR.out 1).trans rfl)
  go_wp2_with fail
  refine (H4.out _).mono ?_
  rintro e w3 ⟨rfl,rfl⟩
  go_wp2_with fail
  go_ret2
  exact ⟨rfl,HB.out.trans (hb3.mono HB.out.size)⟩
theorem size_yes (w:World) (x:Rg) (h:okR x=true):Calls Tryz.prog 53 #[regV x] w (Sans x w):=by
 obtain ⟨k,m⟩:=x
 have hk:=(okR_parts h).1
 dsimp only at hk
 rcases hk with rfl | rfl | rfl | rfl
 ·exact size_1 w h
 ·exact size_2 w h
 ·exact size_3 w h
 ·exact size_4 w h
theorem size_any (w:World) (x:Rg):Calls Tryz.prog 53 #[regV x] w (Sans x w):=by
 cases h:okR x
 ·exact size_no w x h
 ·exact size_yes w x h
theorem rsize_any (w:World) (x:Rg):Calls Tryz.prog 23 #[regV x] w (Sans x w):=by
 have HR:Hid (∀ w:World,Calls Tryz.prog 35 #[.int .i64 x.2] w fun e w' => e = .returned (.bool (capB x.2))∧w'=w):=fun w=>capR w x.2
 obtain ⟨k,m⟩:=x
 dsimp only at HR
 cases hm:capB m with
 | false =>
  have h:okR (k,m)=false:=by
   rw [Bool.eq_false_iff]
   intro h
   rw [(okR_parts h).2] at hm
   cases hm
  unfold Sans szV erV
  rw [h]
  rw [hm] at HR
  clear h hm
  unfold regV
  dsimp only
  go_enter Tryz.func23,Tryz.ntmps23
  go_wp2_with fail
  refine (HR.out _).mono ?_
  rintro e w1 ⟨rfl,rfl⟩
  go_wp2_with fail
  go_ret2
  exact ⟨rfl,below_a1 _ _⟩
 | true =>
  have H1:Hid (∀ w:World,Calls Tryz.prog 36 #[.int .i64 m] w fun e w' => e = .returned (.int .i64 m)∧w'=w):=fun w=>rs15 w hm
  have H2:Hid (∀ w:World,Calls Tryz.prog 37 #[.int .i64 m] w fun e w' => e = .returned (.int .i64 (m+2))∧w'=w):=fun w=>rs16 w hm
  have H3:Hid (∀ w:World,Calls Tryz.prog 38 #[.int .i64 m] w fun e w' => e = .returned (.int .i64 (3 * m+1))∧w'=w):=fun w=>rs17 w hm
  have H4:Hid (∀ w:World,Calls Tryz.prog 39 #[.int .i64 m] w fun e w' => e = .returned (.int .i64 (2 * m+3))∧w'=w):=fun w=>rs18 w hm
  by_cases hk:1≤k∧k≤4
  ·have h:okR (k,m)=true:=by
    have:=capB_yes hm
    simp only [okR,Bool.and_eq_true,decide_eq_true_eq]
    omega
   have hk':=(okR_parts h).1
   unfold Sans szV erV
   rw [h]
   rw [hm] at HR
   clear h hm hk
   unfold regV
   dsimp only at hk' ⊢
   rcases hk' with rfl | rfl | rfl | rfl
   ·go_enter Tryz.func23,Tryz.ntmps23
    go_wp2_with fail
    refine (HR.out _).mono ?_
    rintro e w1 ⟨rfl,rfl⟩
    go_wp2_with fail
    refine (H1.out _).mono ?_
    rintro e w1 ⟨rfl,rfl⟩
    go_wp2_with fail
    go_ret2
    exact ⟨rfl,below_a1 _ _⟩
   ·go_enter Tryz.func23,Tryz.ntmps23
    go_wp2_with fail
    refine (HR.out _).mono ?_
    rintro e w1 ⟨rfl,rfl⟩
    go_wp2_with fail
    refine (H2.out _).mono ?_
    rintro e w1 ⟨rfl,rfl⟩
    go_wp2_with fail
    go_ret2
    exact ⟨rfl,below_a1 _ _⟩
   ·go_enter Tryz.func23,Tryz.ntmps23
    go_wp2_with fail
    refine (HR.out _).mono ?_
    rintro e w1 ⟨rfl,rfl⟩
    go_wp2_with fail
    refine (H3.out _).mono ?_
    rintro e w1 ⟨rfl,rfl⟩
    go_wp2_with fail
    go_ret2
    exact ⟨rfl,below_a1 _ _⟩
   ·go_enter Tryz.func23,Tryz.ntmps23
    go_wp2_with fail
    refine (HR.out _).mono ?_
    rintro e w1 ⟨rfl,rfl⟩
    go_wp2_with fail
    refine (H4.out _).mono ?_
    rintro e w1 ⟨rfl,rfl⟩
    go_wp2_with fail
    go_ret2
    exact ⟨rfl,below_a1 _ _⟩
  ·have h:okR (k,m)=false:=by
    rw [Bool.eq_false_iff]
    intro h
    have:=(okR_parts h).1
    dsimp only at this
    omega
   have n1:(k == 1)=false:=by simpa using (by omega : ¬ k=1)
   have n2:(k == 2)=false:=by simpa using (by omega : ¬ k=2)
   have n3:(k == 3)=false:=by simpa using (by omega : ¬ k=3)
   have n4:(k == 4)=false:=by simpa using (by omega : ¬ k=4)
   unfold Sans szV erV
   rw [h]
   rw [hm] at HR
   clear h hm hk
   unfold regV
   dsimp only
   go_enter Tryz.func23,Tryz.ntmps23
   go_wp2_with fail
   refine (HR.out _).mono ?_
   rintro e w1 ⟨rfl,rfl⟩
   go_wp2_with fail
   go_ret2
   exact ⟨rfl,below_a1 _ _⟩
end Go.Proofs.YtigfjedohdgjfaaGreatDoor.Tl.Pc
namespace Go.Proofs.YtigfjedohdgjfaaGreatDoor.Tl.Pc
open Go.ChangeShapes Go.WideShapes Go.ChangeAt Go.RowKit
attribute [local go_sem ↓] Go.wp_at_zero Go.wp_at_succ
def winB (n m:Int):Bool:=decide (1≤n) && decide (n≤m)
theorem within_any (w:World) (n m:Int):Calls Tryz.prog 100 #[.int .i64 n,.int .i64 m] w fun e w' => e = .returned (.bool (winB n m))∧w'=w:=by
 unfold winB
 cases h:decide (1≤n) <;> cases h2:decide (n≤m)
 all_goals
  go_enter Tryz.func100,Tryz.ntmps100
  go_wp2
  go_ret
  exact ⟨by simp,rfl⟩
theorem okN_parts (c:Cf):okN c=(winB c.raw 64 && winB c.ring 16 && winB c.wrs 24 && (decide (1≤c.st) && decide (c.st≤1099511627776)) && winB c.tries 255):=by
 unfold okN winB
 simp only [Bool.and_assoc]
theorem arenum_any (w:World) (c:Cf) (vr:Value):Calls Tryz.prog 51 #[.agg (cfA c vr)] w fun e w' => e = .returned (.bool (okN c))∧Below w.heap.size w w':=by
 rw [okN_parts]
 have HA:Hid (∀ w:World,Calls Tryz.prog 100 #[.int .i64 c.raw,.int .i64 64] w fun e w' => e = .returned (.bool (winB c.raw 64))∧w'=w):=fun w=>within_any w _ _
 have HB:Hid (∀ w:World,Calls Tryz.prog 100 #[.int .i64 c.ring,.int .i64 16] w fun e w' => e = .returned (.bool (winB c.ring 16))∧w'=w):=fun w=>within_any w _ _
 have HC:Hid (∀ w:World,Calls Tryz.prog 100 #[.int .i64 c.wrs,.int .i64 24] w fun e w' => e = .returned (.bool (winB c.wrs 24))∧w'=w):=fun w=>within_any w _ _
 have HD:Hid (∀ w:World,Calls Tryz.prog 100 #[.int .i64 c.tries,.int .i64 255] w fun e w' => e = .returned (.bool (winB c.tries 255))∧w'=w):=fun w=>within_any w _ _
 generalize winB c.raw 64=q1 at *
 generalize winB c.ring 16=q2 at *
 generalize winB c.wrs 24=q3 at *
 generalize winB c.tries 255=q5 at *
 obtain ⟨a,b,d,s,mu,t,R⟩:=c
 unfold cfA
 dsimp only at *
 cases q1
 ·go_enter Tryz.func51,Tryz.ntmps51
  go_wp2_with fail
  refine (HA.out _).mono ?_
  rintro e w1 ⟨rfl,rfl⟩
  go_wp2_with fail
  go_ret
  exact ⟨by simp,below_a1 _ _⟩
 ·cases q2
  ·go_enter Tryz.func51,Tryz.ntmps51
   go_wp2_with fail
   refine (HA.out _).mono ?_
   rintro e w1 ⟨rfl,rfl⟩
   go_wp2_with fail
   refine (HB.out _).mono ?_
   rintro e w1 ⟨rfl,rfl⟩
   go_wp2_with fail
   go_ret
   exact ⟨by simp,below_a1 _ _⟩
  ·cases q3
   ·go_enter Tryz.func51,Tryz.ntmps51
    go_wp2_with fail
    refine (HA.out _).mono ?_
    rintro e w1 ⟨rfl,rfl⟩
    go_wp2_with fail
    refine (HB.out _).mono ?_
    rintro e w1 ⟨rfl,rfl⟩
    go_wp2_with fail
    refine (HC.out _).mono ?_
    rintro e w1 ⟨rfl,rfl⟩
    go_wp2_with fail
    go_ret
    exact ⟨by simp,below_a1 _ _⟩
   ·cases hq41:decide (1≤s)
    ·go_enter Tryz.func51,Tryz.ntmps51
     go_wp2_with fail
     refine (HA.out _).mono ?_
     rintro e w1 ⟨rfl,rfl⟩
     go_wp2_with fail
     refine (HB.out _).mono ?_
     rintro e w1 ⟨rfl,rfl⟩
     go_wp2_with fail
     refine (HC.out _).mono ?_
     rintro e w1 ⟨rfl,rfl⟩
     go_wp2_with fail
     go_ret
     exact ⟨by simp,below_a1 _ _⟩
    ·cases hq42:decide (s≤1099511627776)
     ·go_enter Tryz.func51,Tryz.ntmps51
      go_wp2_with fail
      refine (HA.out _).mono ?_
      rintro e w1 ⟨rfl,rfl⟩
      go_wp2_with fail
      refine (HB.out _).mono ?_
      rintro e w1 ⟨rfl,rfl⟩
      go_wp2_with fail
      refine (HC.out _).mono ?_
      rintro e w1 ⟨rfl,rfl⟩
      go_wp2_with fail
      go_ret
      exact ⟨by simp,below_a1 _ _⟩
     ·cases q5
      ·go_enter Tryz.func51,Tryz.ntmps51
       go_wp2_with fail
       refine (HA.out _).mono ?_
       rintro e w1 ⟨rfl,rfl⟩
       go_wp2_with fail
       refine (HB.out _).mono ?_
       rintro e w1 ⟨rfl,rfl⟩
       go_wp2_with fail
       refine (HC.out _).mono ?_
       rintro e w1 ⟨rfl,rfl⟩
       go_wp2_with fail
       refine (HD.out _).mono ?_
       rintro e w1 ⟨rfl,rfl⟩
       go_wp2_with fail
       go_ret
       exact ⟨by simp,below_a1 _ _⟩
      ·go_enter Tryz.func51,Tryz.ntmps51
       go_wp2_with fail
       refine (HA.out _).mono ?_
       rintro e w1 ⟨rfl,rfl⟩
       go_wp2_with fail
       refine (HB.out _).mono ?_
       rintro e w1 ⟨rfl,rfl⟩
       go_wp2_with fail
       refine (HC.out _).mono ?_
       rintro e w1 ⟨rfl,rfl⟩
       go_wp2_with fail
       refine (HD.out _).mono ?_
       rintro e w1 ⟨rfl,rfl⟩
       go_wp2_with fail
       go_ret
       exact ⟨by simp,below_a1 _ _⟩
theorem all_cut {R:List Rg} {j:Nat} (h:j < R.length):(R.take (j+1)).all okR=((R.take j).all okR && okR (nthR R j)):=by
 have e:R.take (j+1)=R.take j ++ [nthR R j]:=by
  rw [List.take_add_one]
  simp [nthR,h]
 rw [e]
 simp
theorem all_no {R:List Rg} {j:Nat} (h:j < R.length) (hq:okR (nthR R j)=false):R.all okR=false:=by
 rw [Bool.eq_false_iff]
 intro hA
 rw [List.all_eq_true] at hA
 rw [hA _ (nthR_mem h)] at hq
 cases hq
theorem mz (n j:Nat) (h:j < n):n - (j+1) < n - j:=by omega
theorem wz {j n:Nat} (h:j < n) (h8:(n:Int)≤17592186044416):wrap64 ((j:Int)+1)=(j:Int)+1:=by unfold wrap64; omega
theorem areregs_any {w:World} {v:Value} {R:List Rg} (h:Rl w v R):Calls Tryz.prog 52 #[v] w fun e w' => e = .returned (.bool (okL R))∧Below w.heap.size w w':=by
 obtain ⟨a,cap,rfl,hlen,hcap,hcs,hl⟩:=h
 have HL:Hid (R.length=0 ∨ ∃ x,a=some x∧x.block < w.heap.size ∧ ∀ i,i < R.length→w.cell? (x.add (i * 2))=some (.int .i64 (nthR R i).1)∧w.cell? ⟨(x.add (i * 2)).block,(x.add (i * 2)).off+1,none⟩=some (.int .i64 (nthR R i).2)):=hl
 clear hl hcap hcs
 by_cases h8:(R.length:Int)≤8
 ·have hle : ¬ (8:Int) < R.length:=by omega
  have HQ:Hid (okL R=R.all okR):=by unfold Hid okL; simp [h8]
  clear h8
  go_enter Tryz.func52,Tryz.ntmps52
  go_wp2_with fail
  go_loopw [10] (fun iv wr => ∃ j:Nat,j≤R.length∧iv = .int .i64 (j:Int)∧Hid ((R.take j).all okR=true)∧Below w.heap.size w wr) (fun iv _=>R.length - (intOf iv).toNat)
  case atStart=>exact ⟨0,by omega,rfl,rfl,Below.refl _ _⟩
  case round =>
   obtain ⟨j,hj,rfl,HA,hbel⟩:=hrel
   have HB:Hid (Below w.heap.size w wr):=hbel
   clear hbel
   by_cases hlt:j < R.length
   ·have hjd:decide ((j:Int) < (R.length:Int))=true:=by simp; omega
    obtain ⟨x,rfl,hxb,hxc⟩:=HL.out.resolve_left (by omega)
    obtain ⟨x1,x2⟩:=hxc j hlt
    have z1:wr.cell? (x.add (j * 2))=some (.int .i64 (nthR R j).1):=cell_later HB.out (by rw [add_block]; exact hxb) x1
    have z2:wr.cell? ⟨(x.add (j * 2)).block,(x.add (j * 2)).off+1,none⟩=some (.int .i64 (nthR R j).2):=cell_later (a:=⟨(x.add (j * 2)).block,(x.add (j * 2)).off+1,none⟩) HB.out (show (x.add (j * 2)).block < _ by rw [add_block]; exact hxb) x2
    have HI:Hid (∀ w:World,Calls Tryz.prog 101 #[regV (nthR R j)] w fun e w' => e = .returned (.bool (okR (nthR R j)))∧Below w.heap.size w w'):=fun w=>isreg_any w _
    have HN:Hid (okR (nthR R j)=false→R.all okR=false):=all_no hlt
    have HY:Hid ((R.take (j+1)).all okR=((R.take j).all okR && okR (nthR R j))):=all_cut hlt
    have hw:wrap64 ((j:Int)+1)=(j:Int)+1:=wz hlt (by omega)
    have HM:Hid (R.length - (j+1) < R.length - j):=mz _ _ hlt
    obtain ⟨q,hq⟩ : ∃ q,okR (nthR R j)=q:=⟨_,rfl⟩
    rw [hq] at HI HN HY
    clear hq x1 x2 hxc hle HL
    generalize nthR R j=r at *
    obtain ⟨k,m⟩:=r
    unfold regV at HI
    dsimp only at *
    cases q with
    | false =>
     go_wp2_with fail
     refine (HI.out _).mono ?_
     rintro e w2 ⟨rfl,hb2⟩
     go_wp2_with fail
     go_ret
     exact ⟨by rw [HQ.out,HN.out trivial]; rfl,HB.out.trans ((below_then (below_a1 _ _) hb2).mono HB.out.size)⟩
    | true =>
     go_wp2_with fail
     refine (HI.out _).mono ?_
     rintro e w2 ⟨rfl,hb2⟩
     go_wp2_with fail
     go_roundw
     case rel=>exact ⟨j+1,hlt,by go_num,by rw [Hid,HY.out,HA.out]; rfl,HB.out.trans ((below_then (below_a1 _ _) hb2).mono HB.out.size)⟩
     case measure=>simpa [intOf] using HM.out
   ·obtain rfl:j=R.length:=by omega
    have HZ:Hid (R.all okR=true):=by
     have:=HA.out
     rw [List.take_length] at this
     exact this
    clear HA HL
    go_wp2_with fail
    go_ret
    exact ⟨by rw [HQ.out,HZ.out]; rfl,HB.out⟩
 ·have h9:(8:Int) < R.length:=by omega
  have HQ:Hid (okL R=false):=by unfold Hid okL; simp [h8]
  clear h8
  go_enter Tryz.func52,Tryz.ntmps52
  go_wp2_with fail
  go_ret
  exact ⟨by rw [HQ.out]; rfl,Below.refl _ _⟩
theorem check_any {w:World} {v:Value} {c:Cf} (h:CfV w v c):Calls Tryz.prog 31 #[v] w fun e w' => e = .returned (.int .i64 (chkV c))∧Below w.heap.size w w':=by
 obtain ⟨vr,rfl,hR⟩:=h
 have HA:Hid (∀ w:World,Calls Tryz.prog 51 #[.agg (cfA c vr)] w fun e w' => e = .returned (.bool (okN c))∧Below w.heap.size w w'):=fun w=>arenum_any w c vr
 have HR:Hid (∀ w':World,Below w.heap.size w w'→Calls Tryz.prog 52 #[vr] w' fun e w'' => e = .returned (.bool (okL c.R))∧Below w'.heap.size w' w''):=fun w' hb=>areregs_any (hR.later hb (Nat.le_refl _))
 have HV:Hid (chkV c=if okN c=true∧okL c.R=true then 0 else 13):=by
  unfold Hid chkV okC
  cases okN c <;> cases okL c.R <;> rfl
 generalize chkV c=y at *
 generalize okN c=q1 at *
 generalize okL c.R=q2 at *
 clear hR
 obtain ⟨a,b,d,s,mu,t,R⟩:=c
 unfold cfA at *
 dsimp only at *
 cases q1 with
 | false =>
  go_enter Tryz.func31,Tryz.ntmps31
  go_wp2_with fail
  refine (HA.out _).mono ?_
  rintro e w1 ⟨rfl,hb⟩
  go_wp2_with fail
  go_ret
  exact ⟨by rw [HV.out]; rfl,below_then (below_a1 _ _) hb⟩
 | true =>
  cases q2 with
  | false =>
   go_enter Tryz.func31,Tryz.ntmps31
   go_wp2_with fail
   refine (HA.out _).mono ?_
   rintro e w1 ⟨rfl,hb⟩
   have hr:=row_nx hb
   have hk6:w1.cell? ⟨w.heap.size,6,none⟩=some vr:=(cell_at hr 6).trans rfl
   have HB:Hid (Below w.heap.size w w1):=below_then (below_a1 _ _) hb
   clear hr hb
   go_wp2_with fail
   refine (HR.out _ HB.out).mono ?_
   rintro e w2 ⟨rfl,hb2⟩
   go_wp2_with fail
   go_ret
   exact ⟨by rw [HV.out]; rfl,HB.out.trans (hb2.mono HB.out.size)⟩
  | true =>
   go_enter Tryz.func31,Tryz.ntmps31
   go_wp2_with fail
   refine (HA.out _).mono ?_
   rintro e w1 ⟨rfl,hb⟩
   have hr:=row_nx hb
   have hk6:w1.cell? ⟨w.heap.size,6,none⟩=some vr:=(cell_at hr 6).trans rfl
   have HB:Hid (Below w.heap.size w w1):=below_then (below_a1 _ _) hb
   clear hr hb
   go_wp2_with fail
   refine (HR.out _ HB.out).mono ?_
   rintro e w2 ⟨rfl,hb2⟩
   go_wp2_with fail
   go_ret
   exact ⟨by rw [HV.out]; rfl,HB.out.trans (hb2.mono HB.out.size)⟩
end Go.Proofs.YtigfjedohdgjfaaGreatDoor.Tl.Pc
namespace Go.Proofs.YtigfjedohdgjfaaGreatDoor.Tl.Pc
open Go.ChangeShapes Go.WideShapes Go.ChangeAt Go.RowKit
attribute [local go_sem ↓] Go.wp_at_zero Go.wp_at_succ
theorem sum_bd {R:List Rg} {p:Int} {j:Nat} (hp:0≤p∧p≤64) (h8:R.length≤8) (hj:j < R.length):wrap64 (p+sumV (R.take j)+szV (nthR R j))=p+sumV (R.take (j+1)):=by
 have h1:=sum_le (R.take (j+1))
 have h2:(R.take (j+1)).length≤8:=by simp; omega
 rw [sum_take hj] at h1 ⊢
 unfold wrap64
 omega
theorem behind_any {w:World} {v:Value} {R:List Rg} {p:Int} (h:Rl w v R) (hp:0≤p∧p≤64) (h8:R.length≤8):Calls Tryz.prog 32 #[.int .i64 p,v] w fun e w' => e = .returned (.int .i64 (p+sumV R))∧Below w.heap.size w w':=by
 obtain ⟨a,cap,rfl,hlen,hcap,hcs,hl⟩:=h
 have HL:Hid (R.length=0 ∨ ∃ x,a=some x∧x.block < w.heap.size ∧ ∀ i,i < R.length→w.cell? (x.add (i * 2))=some (.int .i64 (nthR R i).1)∧w.cell? ⟨(x.add (i * 2)).block,(x.add (i * 2)).off+1,none⟩=some (.int .i64 (nthR R i).2)):=hl
 clear hl hcap hcs
 have HP:Hid (0≤p∧p≤64):=hp
 have H8:Hid (R.length≤8):=h8
 clear hp h8
 go_enter Tryz.func32,Tryz.ntmps32
 go_wp2_with fail
 go_loopw [5,13] (fun cv iv wr => ∃ (j:Nat) (c:Int),j≤R.length∧iv = .int .i64 (j:Int)∧cv = .int .i64 c∧Hid (c=p+sumV (R.take j))∧Below w.heap.size w wr) (fun _ iv _=>R.length - (intOf iv).toNat)
 case atStart=>exact ⟨0,p,by omega,rfl,rfl,by simp [Hid,sumV],Below.refl _ _⟩
 case round =>
  obtain ⟨j,c,hj,rfl,rfl,HA,hbel⟩:=hrel
  have HB:Hid (Below w.heap.size w wr):=hbel
  clear hbel
  by_cases hlt:j < R.length
  ·have hjd:decide ((j:Int) < (R.length:Int))=true:=by simp; omega
   obtain ⟨x,rfl,hxb,hxc⟩:=HL.out.resolve_left (by omega)
   obtain ⟨x1,x2⟩:=hxc j hlt
   have z1:wr.cell? (x.add (j * 2))=some (.int .i64 (nthR R j).1):=cell_later HB.out (by rw [add_block]; exact hxb) x1
   have z2:wr.cell? ⟨(x.add (j * 2)).block,(x.add (j * 2)).off+1,none⟩=some (.int .i64 (nthR R j).2):=cell_later (a:=⟨(x.add (j * 2)).block,(x.add (j * 2)).off+1,none⟩) HB.out (show (x.add (j * 2)).block < _ by rw [add_block]; exact hxb) x2
   have HI:Hid (∀ w:World,Calls Tryz.prog 53 #[regV (nthR R j)] w fun e w' => e = .returned (.tuple #[.int .i64 (szV (nthR R j)),.int .i64 (erV (nthR R j))])∧Below w.heap.size w w'):=fun w=>size_any w _
   have HS:Hid (wrap64 (c+szV (nthR R j))=p+sumV (R.take (j+1))):=by
    rw [Hid,HA.out]
    exact sum_bd HP.out H8.out hlt
   have hw:wrap64 ((j:Int)+1)=(j:Int)+1:=wz hlt (by omega)
   have HM:Hid (R.length - (j+1) < R.length - j):=mz _ _ hlt
   clear x1 x2 hxc HL HA
   generalize szV (nthR R j)=s at *
   generalize erV (nthR R j)=t at *
   generalize nthR R j=r at *
   obtain ⟨k,m⟩:=r
   obtain ⟨d,hd⟩ : ∃ d,wrap64 (c+s)=d:=⟨_,rfl⟩
   have HD:Hid (d=p+sumV (R.take (j+1))):=by rw [Hid,← hd,HS.out]
   clear HS
   unfold regV at HI
   dsimp only at *
   go_wp2_with fail
   refine (HI.out _).mono ?_
   rintro e w2 ⟨rfl,hb2⟩
   go_wp2_with fail
   go_roundw
   case rel=>exact ⟨j+1,d,hlt,by go_num,by rw [hd],HD,HB.out.trans ((below_then (below_a1 _ _) hb2).mono HB.out.size)⟩
   case measure=>simpa [intOf] using HM.out
  ·obtain rfl:j=R.length:=by omega
   have HZ:Hid (c=p+sumV R):=by
    have:=HA.out
    rw [List.take_length] at this
    exact this
   clear HA HL
   go_wp2_with fail
   go_ret
   exact ⟨by rw [← HZ.out]; rfl,HB.out⟩
def Two (x:Int × Int) (w:World):Ending→World→Prop:=fun e w' => e = .returned (.tuple #[.int .i64 x.1,.int .i64 x.2])∧Below w.heap.size w w'
theorem cells_any {w:World} {v:Value} {c:Cf} (h:CfV w v c):Calls Tryz.prog 18 #[v] w (Two (cellsV c) w):=by
 have HC:Hid (∀ w':World,Below w.heap.size w w'→Calls Tryz.prog 31 #[v] w' fun e w'' => e = .returned (.int .i64 (chkV c))∧Below w'.heap.size w' w''):=fun w' hb=>check_any (h.later hb (Nat.le_refl _))
 obtain ⟨vr,rfl,hR⟩:=h
 cases hq:okC c with
 | false =>
  have e1:chkV c=13:=by unfold chkV; rw [hq]; rfl
  have e2:cellsV c=(0,13):=by unfold cellsV; rw [hq]; rfl
  rw [e1] at HC
  rw [e2]
  unfold Two
  clear e1 e2 hq hR
  obtain ⟨a,b,d,s,mu,t,R⟩:=c
  unfold cfA at *
  dsimp only at *
  go_enter Tryz.func18,Tryz.ntmps18
  go_wp2_with fail
  refine (HC.out _ (below_a1 _ _)).mono ?_
  rintro e w1 ⟨rfl,hb⟩
  go_wp2_with fail
  go_ret2
  exact ⟨rfl,below_then (below_a1 _ _) hb⟩
 | true =>
  have e1:chkV c=0:=by unfold chkV; rw [hq]; rfl
  have e2:cellsV c=(c.raw+sumV c.R,0):=by unfold cellsV; rw [hq]; rfl
  have hk:=okC_raw hq
  have HH:Hid (∀ w':World,Below w.heap.size w w'→Calls Tryz.prog 32 #[.int .i64 c.raw,vr] w' fun e w'' => e = .returned (.int .i64 (c.raw+sumV c.R))∧Below w'.heap.size w' w''):=fun w' hb=>behind_any (hR.later hb (Nat.le_refl _)) (by omega) hk.2.2
  rw [e1] at HC
  rw [e2]
  unfold Two
  clear e1 e2 hq hR hk
  generalize c.raw+sumV c.R=y at *
  obtain ⟨a,b,d,s,mu,t,R⟩:=c
  unfold cfA at *
  dsimp only at *
  go_enter Tryz.func18,Tryz.ntmps18
  go_wp2_with fail
  refine (HC.out _ (below_a1 _ _)).mono ?_
  rintro e w1 ⟨rfl,hb⟩
  have hr:=row_nx hb
  have hk0:w1.cell? ⟨w.heap.size,0,none⟩=some (.int .i64 a):=(cell_at hr 0).trans rfl
  have hk6:w1.cell? ⟨w.heap.size,6,none⟩=some vr:=(cell_at hr 6).trans rfl
  have HB:Hid (Below w.heap.size w w1):=below_then (below_a1 _ _) hb
  clear hr hb
  go_wp2_with fail
  refine (HH.out _ HB.out).mono ?_
  rintro e w2 ⟨rfl,hb2⟩
  go_wp2_with fail
  go_ret2
  exact ⟨rfl,HB.out.trans (hb2.mono HB.out.size)⟩
theorem base_any {w:World} {v:Value} {c:Cf} (h:CfV w v c) (i:Int):Calls Tryz.prog 33 #[v,.int .i64 i] w (Two (baseV c i) w):=by
 have HC:Hid (∀ w':World,Below w.heap.size w w'→Calls Tryz.prog 31 #[v] w' fun e w'' => e = .returned (.int .i64 (chkV c))∧Below w'.heap.size w' w''):=fun w' hb=>check_any (h.later hb (Nat.le_refl _))
 obtain ⟨vr,rfl,hR⟩:=h
 cases hq:okC c with
 | false =>
  have e1:chkV c=13:=by unfold chkV; rw [hq]; rfl
  have e2:baseV c i=(0,13):=by unfold baseV; rw [hq]; rfl
  rw [e1] at HC
  rw [e2]
  unfold Two
  clear e1 e2 hq hR
  obtain ⟨a,b,d,s,mu,t,R⟩:=c
  unfold cfA at *
  dsimp only at *
  go_enter Tryz.func33,Tryz.ntmps33
  go_wp2_with fail
  refine (HC.out _ (below_a1 _ _)).mono ?_
  rintro e w1 ⟨rfl,hb⟩
  go_wp2_with fail
  go_ret2
  exact ⟨rfl,below_then (below_a1 _ _) hb⟩
 | true =>
  have e1:chkV c=0:=by unfold chkV; rw [hq]; rfl
  rw [e1] at HC
  have hk:=okC_raw hq
  have e2:baseV c i=if 0≤i∧i < c.R.length then (c.raw+sumV (c.R.take i.toNat),0) else (0,1):=by unfold baseV; rw [hq]; rfl
  rw [e2]
  clear e1 e2 hq
  have hR0:=hR
  obtain ⟨ar,cap,rfl,hlen,hcap,hcs,hl⟩:=hR0
  by_cases hi0:0≤i
  ·by_cases hi1:i < c.R.length
   ·rw [if_pos ⟨hi0,hi1⟩]
    obtain ⟨n,rfl⟩ : ∃ n:Nat,i=n:=⟨i.toNat,by omega⟩
    have hn:n < c.R.length:=by omega
    obtain ⟨xa,rfl,_,_⟩:=hl.resolve_left (by omega)
    have HH:Hid (∀ w':World,Below w.heap.size w w'→Calls Tryz.prog 32 #[.int .i64 c.raw,.slice (some xa) n cap] w' fun e w'' => e = .returned (.int .i64 (c.raw+sumV (c.R.take n)))∧Below w'.heap.size w' w''):=fun w' hb=>behind_any ((hR.later hb (Nat.le_refl _)).take hn) (by omega) (by simp; omega)
    have hnc:(n:Int)≤cap:=by omega
    have hnd:decide (c.R.length≤n)=false:=by simp; omega
    have hnn:(decide ((n:Int) < 0) || decide (c.R.length≤n))=false:=by rw [hnd]; simp
    unfold Two
    rw [Int.toNat_natCast]
    clear hR hk hl hlen hcap hcs hi1 hn
    generalize c.raw+sumV (c.R.take n)=y at *
    obtain ⟨a,b,d,s,mu,t,R⟩:=c
    unfold cfA at *
    dsimp only at *
    go_enter Tryz.func33,Tryz.ntmps33
    go_wp2_with fail
    refine (HC.out _ (below_a1 _ _)).mono ?_
    rintro e w1 ⟨rfl,hb⟩
    have hr:=row_nx hb
    have hk0:w1.cell? ⟨w.heap.size,0,none⟩=some (.int .i64 a):=(cell_at hr 0).trans rfl
    have hk6:w1.cell? ⟨w.heap.size,6,none⟩=some (.slice (some xa) R.length cap):=(cell_at hr 6).trans rfl
    have hlw:w.heap.size < w1.heap.size:=heap_lt hr
    have HB:Hid (Below w.heap.size w w1):=below_then (below_a1 _ _) hb
    clear hr hb
    go_wp2_with fail
    go_region_held3 (fun w' => w'.cell? ⟨w.heap.size,0,none⟩=some (.int .i64 a)∧w'.cell? ⟨w.heap.size,6,none⟩=some (.slice (some xa) R.length cap)) (first | go_keep | exact hS) ((go_at_call 32; refine (HH.out _ HB.out.drew).mono ?_; rintro e w2 ⟨rfl,hb3⟩; have hb2:Below w1.heap.size w1 w2:=⟨hb3.os,hb3.tape,hb3.output,hb3.size,hb3.block⟩; have hS:w2.cell? ⟨w.heap.size,0,none⟩=some (.int .i64 a)∧w2.cell? ⟨w.heap.size,6,none⟩=some (.slice (some xa) R.length cap):=⟨cell_later hb2 (a:=⟨w.heap.size,0,none⟩) hlw hk0,cell_later hb2 (a:=⟨w.heap.size,6,none⟩) hlw hk6⟩))
    go_wp2_with fail
    go_ret2
    exact ⟨rfl,HB.out.trans (hb2.mono HB.out.size)⟩
   ·rw [if_neg (fun h=>hi1 h.2)]
    have hdd:decide (((c.R.length:Nat):Int)≤i)=true:=by simp; omega
    have hd0:decide (i < 0)=false:=by simp; omega
    unfold Two
    clear hR hk hl hlen hcap hcs hi1 hi0
    obtain ⟨a,b,d,s,mu,t,R⟩:=c
    unfold cfA at *
    dsimp only at *
    go_enter Tryz.func33,Tryz.ntmps33
    go_wp2_with fail
    refine (HC.out _ (below_a1 _ _)).mono ?_
    rintro e w1 ⟨rfl,hb⟩
    have hr:=row_nx hb
    have hk6:w1.cell? ⟨w.heap.size,6,none⟩=some (.slice ar R.length cap):=(cell_at hr 6).trans rfl
    have HB:Hid (Below w.heap.size w w1):=below_then (below_a1 _ _) hb
    clear hr hb
    go_wp2_with fail
    go_ret2
    exact ⟨rfl,HB.out⟩
  ·rw [if_neg (fun h=>hi0 h.1)]
   have hd0:decide (i < 0)=true:=by simp; omega
   unfold Two
   clear hR hk hl hlen hcap hcs hi0
   obtain ⟨a,b,d,s,mu,t,R⟩:=c
   unfold cfA at *
   dsimp only at *
   go_enter Tryz.func33,Tryz.ntmps33
   go_wp2_with fail
   refine (HC.out _ (below_a1 _ _)).mono ?_
   rintro e w1 ⟨rfl,hb⟩
   have HB:Hid (Below w.heap.size w w1):=below_then (below_a1 _ _) hb
   clear hb
   go_wp2_with fail
   go_ret2
   exact ⟨rfl,HB.out⟩
end Go.Proofs.YtigfjedohdgjfaaGreatDoor.Tl.Pc
