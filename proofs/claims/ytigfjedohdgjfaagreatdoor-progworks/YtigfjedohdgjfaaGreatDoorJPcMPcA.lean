/- Configurations and regions (layer 19) as plain data, and as they lie. -/
import Derived.Test.YtigfjedohdgjfaaGreatDoorJBlkTabA
import Derived.Deep.DeepHandedRow
namespace Go.Proofs.YtigfjedohdgjfaaGreatDoor.Tl.Pc
open Go.ChangeShapes Go.WideShapes Go.ChangeAt Go.RowKit
abbrev Rg:=Int × Int
def okR (x:Rg):Bool:=decide (1≤x.1) && decide (x.1≤4) && decide (0≤x.2) && decide (x.2≤16)
def kindV (k m:Int):Int:=if k=1 then m else if k=2 then m+2 else if k=3 then 3 * m+1 else 2 * m+3
def szV (x:Rg):Int:=if okR x then kindV x.1 x.2 else 0
def erV (x:Rg):Int:=if okR x then 0 else 13
def okL (R:List Rg):Bool:=decide ((R.length:Int)≤8) && R.all okR
def sumV:List Rg→Int
 | []=>0
 | x :: l=>szV x+sumV l
theorem sz_le (x:Rg):0≤szV x∧szV x≤49:=by
 unfold szV
 split
 ·rename_i h
  simp only [okR,Bool.and_eq_true,decide_eq_true_eq] at h
  unfold kindV
  split
  ·omega
  ·split
   ·omega
   ·split <;> omega
 ·omega
theorem sum_le : ∀ R:List Rg,0≤sumV R∧sumV R≤49 * R.length
 | []=>by simp [sumV]
 | x :: l=>by
  have:=sum_le l
  have:=sz_le x
  simp only [sumV,List.length_cons]
  omega
theorem sum_append : ∀ (R S:List Rg),sumV (R++S)=sumV R+sumV S
 | [],S=>by simp [sumV]
 | x :: l,S=>by
  simp only [List.cons_append,sumV,sum_append l S]
  omega
def nthR (R:List Rg) (i:Nat):Rg:=R.getD i (0,0)
theorem sum_take {R:List Rg} {i:Nat} (h:i < R.length):sumV (R.take (i+1))=sumV (R.take i)+szV (nthR R i):=by
 have e:R.take (i+1)=R.take i ++ [nthR R i]:=by
  rw [List.take_add_one]
  simp [nthR,h]
 rw [e,sum_append]
 simp [sumV]
theorem nthR_mem {R:List Rg} {i:Nat} (h:i < R.length):nthR R i ∈ R:=by
 have:nthR R i=R[i]:=by simp [nthR,h]
 rw [this]
 exact List.getElem_mem h
theorem nthR_take {R:List Rg} {i n:Nat} (h:i < n):nthR (R.take n) i=nthR R i:=by
 simp [nthR,h]
structure Cf where
 raw:Int
 ring:Int
 wrs:Int
 st:Int
 multi:Bool
 tries:Int
 R:List Rg
def okN (c:Cf):Bool:=decide (1≤c.raw) && decide (c.raw≤64) && decide (1≤c.ring) && decide (c.ring≤16) && decide (1≤c.wrs) && decide (c.wrs≤24) && decide (1≤c.st) && decide (c.st≤1099511627776) && decide (1≤c.tries) && decide (c.tries≤255)
def okC (c:Cf):Bool:=okN c && okL c.R
def chkV (c:Cf):Int:=if okC c then 0 else 13
def baseV (c:Cf) (i:Int):Int × Int:=if okC c then (if 0≤i∧i < c.R.length then (c.raw+sumV (c.R.take i.toNat),0) else (0,1)) else (0,13)
def cellsV (c:Cf):Int × Int:=if okC c then (c.raw+sumV c.R,0) else (0,13)
theorem okC_raw {c:Cf} (h:okC c=true):1≤c.raw∧c.raw≤64∧c.R.length≤8:=by
 simp only [okC,okN,okL,Bool.and_eq_true,decide_eq_true_eq] at h
 omega
def Rl (w:World) (v:Value) (R:List Rg):Prop:=∃ a cap,v = .slice a R.length cap∧R.length≤8796093022208∧R.length≤cap∧(cap≤9223372036854775807∧(a=none→cap=0))∧(R.length=0 ∨ ∃ x,a=some x∧x.block < w.heap.size ∧ ∀ i,i < R.length→w.cell? (x.add (i * 2))=some (.int .i64 (nthR R i).1)∧w.cell? ⟨(x.add (i * 2)).block,(x.add (i * 2)).off+1,none⟩=some (.int .i64 (nthR R i).2))
theorem Rl.later {w w':World} {v:Value} {R:List Rg} {B:Nat} (h:Rl w v R) (hb:Below B w w') (hB:w.heap.size≤B):Rl w' v R:=by
 obtain ⟨a,cap,hv,hm,hc1,hc2,hl⟩:=h
 refine ⟨a,cap,hv,hm,hc1,hc2, ?_⟩
 rcases hl with h0 | ⟨x,hx,hxb,hc⟩
 ·exact Or.inl h0
 ·exact Or.inr ⟨x,hx,Nat.lt_of_lt_of_le hxb hb.size,fun i hi=>⟨cell_later hb (by rw [add_block]; omega) (hc i hi).1,cell_later (a:=⟨(x.add (i * 2)).block,(x.add (i * 2)).off+1,none⟩) hb (show (x.add (i * 2)).block < B by rw [add_block]; omega) (hc i hi).2⟩⟩
theorem Rl.take {w:World} {a:Option Addr} {cap:Nat} {R:List Rg} (h:Rl w (.slice a R.length cap) R) {i:Nat} (hi:i < R.length):Rl w (.slice a i cap) (R.take i):=by
 obtain ⟨a', cap', hv, hm, hc1, hc2, hl⟩ := h
 cases hv
 have hL:(R.take i).length=i:=by simp; omega
 refine ⟨a,cap,by rw [hL],by omega,by omega,hc2, ?_⟩
 rw [hL]
 rcases hl with h0 | ⟨x,hx,hxb,hc⟩
 ·omega
 ·exact Or.inr ⟨x,hx,hxb,fun j hj=>by rw [nthR_take hj]; exact hc j (by omega)⟩
def cfA (c:Cf) (v:Value):Array Value:=#[.int .i64 c.raw,.int .i64 c.ring,.int .i64 c.wrs,.int .i64 c.st,.bool c.multi,.int .i64 c.tries,v]
def CfV (w:World) (v:Value) (c:Cf):Prop:=∃ vr,v = .agg (cfA c vr)∧Rl w vr c.R
theorem CfV.later {w w':World} {v:Value} {c:Cf} {B:Nat} (h:CfV w v c) (hb:Below B w w') (hB:w.heap.size≤B):CfV w' v c:=by
 obtain ⟨vr,hv,hR⟩:=h
 exact ⟨vr,hv,hR.later hb hB⟩
end Go.Proofs.YtigfjedohdgjfaaGreatDoor.Tl.Pc
namespace Go.Proofs.YtigfjedohdgjfaaGreatDoor.Tl.Pc
open Go.ChangeShapes Go.WideShapes Go.ChangeAt Go.RowKit
attribute [local go_sem ↓] Go.wp_at_zero Go.wp_at_succ
def capB (m:Int):Bool:=decide (0≤m) && decide (m≤16)
theorem capB_yes {m:Int} (h:capB m=true):0≤m∧m≤16:=by simpa [capB] using h
theorem cap15 (w:World) (m:Int):Calls Tryz.prog 152 #[.int .i64 m] w fun e w' => e = .returned (.bool (capB m))∧w'=w:=by
 unfold capB
 cases h:decide (0≤m) with
 | false =>
  go_enter Tryz.func152,Tryz.ntmps152
  go_wp2
  go_ret
  exact ⟨by simp,rfl⟩
 | true =>
  cases h2:decide (m≤16) with
  | false =>
   go_enter Tryz.func152,Tryz.ntmps152
   go_wp2
   go_ret
   exact ⟨by simp,rfl⟩
  | true =>
   go_enter Tryz.func152,Tryz.ntmps152
   go_wp2
   go_ret
   exact ⟨by simp,rfl⟩
theorem cap16 (w:World) (m:Int):Calls Tryz.prog 153 #[.int .i64 m] w fun e w' => e = .returned (.bool (capB m))∧w'=w:=by
 unfold capB
 cases h:decide (0≤m) with
 | false =>
  go_enter Tryz.func153,Tryz.ntmps153
  go_wp2
  go_ret
  exact ⟨by simp,rfl⟩
 | true =>
  cases h2:decide (m≤16) with
  | false =>
   go_enter Tryz.func153,Tryz.ntmps153
   go_wp2
   go_ret
   exact ⟨by simp,rfl⟩
  | true =>
   go_enter Tryz.func153,Tryz.ntmps153
   go_wp2
   go_ret
   exact ⟨by simp,rfl⟩
theorem cap17 (w:World) (m:Int):Calls Tryz.prog 154 #[.int .i64 m] w fun e w' => e = .returned (.bool (capB m))∧w'=w:=by
 unfold capB
 cases h:decide (0≤m) with
 | false =>
  go_enter Tryz.func154,Tryz.ntmps154
  go_wp2
  go_ret
  exact ⟨by simp,rfl⟩
 | true =>
  cases h2:decide (m≤16) with
  | false =>
   go_enter Tryz.func154,Tryz.ntmps154
   go_wp2
   go_ret
   exact ⟨by simp,rfl⟩
  | true =>
   go_enter Tryz.func154,Tryz.ntmps154
   go_wp2
   go_ret
   exact ⟨by simp,rfl⟩
theorem cap18 (w:World) (m:Int):Calls Tryz.prog 155 #[.int .i64 m] w fun e w' => e = .returned (.bool (capB m))∧w'=w:=by
 unfold capB
 cases h:decide (0≤m) with
 | false =>
  go_enter Tryz.func155,Tryz.ntmps155
  go_wp2
  go_ret
  exact ⟨by simp,rfl⟩
 | true =>
  cases h2:decide (m≤16) with
  | false =>
   go_enter Tryz.func155,Tryz.ntmps155
   go_wp2
   go_ret
   exact ⟨by simp,rfl⟩
  | true =>
   go_enter Tryz.func155,Tryz.ntmps155
   go_wp2
   go_ret
   exact ⟨by simp,rfl⟩
theorem capR (w:World) (m:Int):Calls Tryz.prog 35 #[.int .i64 m] w fun e w' => e = .returned (.bool (capB m))∧w'=w:=by
 unfold capB
 cases h:decide (0≤m) with
 | false =>
  go_enter Tryz.func35,Tryz.ntmps35
  go_wp2
  go_ret
  exact ⟨by simp,rfl⟩
 | true =>
  cases h2:decide (m≤16) with
  | false =>
   go_enter Tryz.func35,Tryz.ntmps35
   go_wp2
   go_ret
   exact ⟨by simp,rfl⟩
  | true =>
   go_enter Tryz.func35,Tryz.ntmps35
   go_wp2
   go_ret
   exact ⟨by simp,rfl⟩
theorem keyof19 (w:World) {m:Int} (h:capB m=true):Calls Tryz.prog 174 #[.int .i64 m] w fun e w' => e = .returned (.int .i64 (2 * m+1))∧w'=w:=by
 have hm:=capB_yes h
 have HW:Hid (wrap64 (1+wrap64 (2 * m))=2 * m+1):=by have:wrap64 (1+wrap64 (2 * m))=2 * m+1:=(by unfold wrap64; omega); exact this
 clear hm h
 go_enter Tryz.func174,Tryz.ntmps174
 go_wp2_with fail
 go_ret
 exact ⟨by rw [← HW.out]; rfl,rfl⟩
theorem nextof19 (w:World) {m:Int} (h:capB m=true):Calls Tryz.prog 156 #[.int .i64 m] w fun e w' => e = .returned (.int .i64 (2 * m+2))∧w'=w:=by
 have HK:Hid (∀ w:World,Calls Tryz.prog 174 #[.int .i64 m] w fun e w' => e = .returned (.int .i64 (2 * m+1))∧w'=w):=fun w=>keyof19 w h
 have hm:=capB_yes h
 have HW:Hid (wrap64 ((2 * m+1)+1)=2 * m+2):=by have:wrap64 ((2 * m+1)+1)=2 * m+2:=(by unfold wrap64; omega); exact this
 clear hm h
 generalize 2 * m+1=y at *
 go_enter Tryz.func156,Tryz.ntmps156
 go_wp2_with fail
 refine (HK.out _).mono ?_
 rintro e w1 ⟨rfl,rfl⟩
 go_wp2_with fail
 go_ret
 exact ⟨by rw [← HW.out]; rfl,rfl⟩
theorem sz15 (w:World) {m:Int} (h:capB m=true):Calls Tryz.prog 131 #[.int .i64 m] w fun e w' => e = .returned (.int .i64 (m))∧w'=w:=by
 have HC:Hid (∀ w:World,Calls Tryz.prog 152 #[.int .i64 m] w fun e w' => e = .returned (.bool (capB m))∧w'=w):=fun w=>cap15 w m
 rw [h] at HC
 clear h
 go_enter Tryz.func131,Tryz.ntmps131
 go_wp2_with fail
 refine (HC.out _).mono ?_
 rintro e w1 ⟨rfl,rfl⟩
 go_wp2_with fail
 go_ret
 exact ⟨rfl,rfl⟩
theorem rs15 (w:World) {m:Int} (h:capB m=true):Calls Tryz.prog 36 #[.int .i64 m] w fun e w' => e = .returned (.int .i64 (m))∧w'=w:=by
 have HC:Hid (∀ w:World,Calls Tryz.prog 35 #[.int .i64 m] w fun e w' => e = .returned (.bool (capB m))∧w'=w):=fun w=>capR w m
 rw [h] at HC
 clear h
 go_enter Tryz.func36,Tryz.ntmps36
 go_wp2_with fail
 refine (HC.out _).mono ?_
 rintro e w1 ⟨rfl,rfl⟩
 go_wp2_with fail
 go_ret
 exact ⟨rfl,rfl⟩
theorem sz16 (w:World) {m:Int} (h:capB m=true):Calls Tryz.prog 132 #[.int .i64 m] w fun e w' => e = .returned (.int .i64 (m+2))∧w'=w:=by
 have HC:Hid (∀ w:World,Calls Tryz.prog 153 #[.int .i64 m] w fun e w' => e = .returned (.bool (capB m))∧w'=w):=fun w=>cap16 w m
 have hm:=capB_yes h
 have HW:Hid (wrap64 (2+m)=m+2):=by have:wrap64 (2+m)=m+2:=(by unfold wrap64; omega); exact this
 clear hm
 rw [h] at HC
 clear h
 go_enter Tryz.func132,Tryz.ntmps132
 go_wp2_with fail
 refine (HC.out _).mono ?_
 rintro e w1 ⟨rfl,rfl⟩
 go_wp2_with fail
 go_ret
 exact ⟨by show Ending.returned (.int .i64 (wrap64 (2+m)))=_; rw [HW.out],rfl⟩
theorem rs16 (w:World) {m:Int} (h:capB m=true):Calls Tryz.prog 37 #[.int .i64 m] w fun e w' => e = .returned (.int .i64 (m+2))∧w'=w:=by
 have HC:Hid (∀ w:World,Calls Tryz.prog 35 #[.int .i64 m] w fun e w' => e = .returned (.bool (capB m))∧w'=w):=fun w=>capR w m
 have hm:=capB_yes h
 have HW:Hid (wrap64 (m+2)=m+2):=by have:wrap64 (m+2)=m+2:=(by unfold wrap64; omega); exact this
 clear hm
 rw [h] at HC
 clear h
 go_enter Tryz.func37,Tryz.ntmps37
 go_wp2_with fail
 refine (HC.out _).mono ?_
 rintro e w1 ⟨rfl,rfl⟩
 go_wp2_with fail
 go_ret
 exact ⟨by show Ending.returned (.int .i64 (wrap64 (m+2)))=_; rw [HW.out],rfl⟩
theorem sz17 (w:World) {m:Int} (h:capB m=true):Calls Tryz.prog 133 #[.int .i64 m] w fun e w' => e = .returned (.int .i64 (3 * m+1))∧w'=w:=by
 have HC:Hid (∀ w:World,Calls Tryz.prog 154 #[.int .i64 m] w fun e w' => e = .returned (.bool (capB m))∧w'=w):=fun w=>cap17 w m
 have hm:=capB_yes h
 have HW:Hid (wrap64 (1+wrap64 (3 * m))=3 * m+1):=by have:wrap64 (1+wrap64 (3 * m))=3 * m+1:=(by unfold wrap64; omega); exact this
 clear hm
 rw [h] at HC
 clear h
 go_enter Tryz.func133,Tryz.ntmps133
 go_wp2_with fail
 refine (HC.out _).mono ?_
 rintro e w1 ⟨rfl,rfl⟩
 go_wp2_with fail
 go_ret
 exact ⟨by show Ending.returned (.int .i64 (wrap64 (1+wrap64 (3 * m))))=_; rw [HW.out],rfl⟩
theorem rs17 (w:World) {m:Int} (h:capB m=true):Calls Tryz.prog 38 #[.int .i64 m] w fun e w' => e = .returned (.int .i64 (3 * m+1))∧w'=w:=by
 have HC:Hid (∀ w:World,Calls Tryz.prog 35 #[.int .i64 m] w fun e w' => e = .returned (.bool (capB m))∧w'=w):=fun w=>capR w m
 have hm:=capB_yes h
 have HW:Hid (wrap64 (wrap64 (3 * m)+1)=3 * m+1):=by have:wrap64 (wrap64 (3 * m)+1)=3 * m+1:=(by unfold wrap64; omega); exact this
 clear hm
 rw [h] at HC
 clear h
 go_enter Tryz.func38,Tryz.ntmps38
 go_wp2_with fail
 refine (HC.out _).mono ?_
 rintro e w1 ⟨rfl,rfl⟩
 go_wp2_with fail
 go_ret
 exact ⟨by show Ending.returned (.int .i64 (wrap64 (wrap64 (3 * m)+1)))=_; rw [HW.out],rfl⟩
theorem rs18 (w:World) {m:Int} (h:capB m=true):Calls Tryz.prog 39 #[.int .i64 m] w fun e w' => e = .returned (.int .i64 (2 * m+3))∧w'=w:=by
 have HC:Hid (∀ w:World,Calls Tryz.prog 35 #[.int .i64 m] w fun e w' => e = .returned (.bool (capB m))∧w'=w):=fun w=>capR w m
 have hm:=capB_yes h
 have HW:Hid (wrap64 (wrap64 (2 * m)+3)=2 * m+3):=by have:wrap64 (wrap64 (2 * m)+3)=2 * m+3:=(by unfold wrap64; omega); exact this
 clear hm
 rw [h] at HC
 clear h
 go_enter Tryz.func39,Tryz.ntmps39
 go_wp2_with fail
 refine (HC.out _).mono ?_
 rintro e w1 ⟨rfl,rfl⟩
 go_wp2_with fail
 go_ret
 exact ⟨by show Ending.returned (.int .i64 (wrap64 (wrap64 (2 * m)+3)))=_; rw [HW.out],rfl⟩
theorem sz18 (w:World) {m:Int} (h:capB m=true):Calls Tryz.prog 134 #[.int .i64 m] w fun e w' => e = .returned (.int .i64 (2 * m+3))∧w'=w:=by
 have HC:Hid (∀ w:World,Calls Tryz.prog 155 #[.int .i64 m] w fun e w' => e = .returned (.bool (capB m))∧w'=w):=fun w=>cap18 w m
 have HN:Hid (∀ w:World,Calls Tryz.prog 156 #[.int .i64 m] w fun e w' => e = .returned (.int .i64 (2 * m+2))∧w'=w):=fun w=>nextof19 w h
 have hm:=capB_yes h
 have HW:Hid (wrap64 ((2 * m+2)+1)=2 * m+3):=by have:wrap64 ((2 * m+2)+1)=2 * m+3:=(by unfold wrap64; omega); exact this
 clear hm
 rw [h] at HC
 clear h
 generalize 2 * m+2=y at *
 go_enter Tryz.func134,Tryz.ntmps134
 go_wp2_with fail
 refine (HC.out _).mono ?_
 rintro e w1 ⟨rfl,rfl⟩
 go_wp2_with fail
 refine (HN.out _).mono ?_
 rintro e w1 ⟨rfl,rfl⟩
 go_wp2_with fail
 go_ret
 exact ⟨by show Ending.returned (.int .i64 (wrap64 (y+1)))=_; rw [HW.out],rfl⟩
end Go.Proofs.YtigfjedohdgjfaaGreatDoor.Tl.Pc
