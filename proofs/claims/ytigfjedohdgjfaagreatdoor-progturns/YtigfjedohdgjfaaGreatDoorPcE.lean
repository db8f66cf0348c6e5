/- Check, Base, Cells: the document's. -/
import Derived.Test.YtigfjedohdgjfaaGreatDoorJPcMPcD
namespace Go.Proofs.YtigfjedohdgjfaaGreatDoor.Tl.Pc
open Go.ChangeShapes Go.WideShapes Go.ChangeAt Go.RowKit
attribute [local go_sem ↓] Go.wp_at_zero Go.wp_at_succ
def RL (w:World) (a:Option Addr) (R:List Rg):Prop:=R.length=0 ∨ ∃ x,a=some x∧x.block < w.heap.size ∧ ∀ i,i < R.length→w.cell? (x.add (i * 2))=some (.int .i64 (nthR R i).1)∧w.cell? ⟨(x.add (i * 2)).block,(x.add (i * 2)).off+1,none⟩=some (.int .i64 (nthR R i).2)
theorem RL.at {w wr:World} {a:Option Addr} {R:List Rg} (h:RL w a R) (hb:Below w.heap.size w wr) {j:Nat} (hj:j < R.length) : ∃ x,a=some x∧wr.cell? (x.add (j * 2))=some (.int .i64 (nthR R j).1)∧wr.cell? ⟨(x.add (j * 2)).block,(x.add (j * 2)).off+1,none⟩=some (.int .i64 (nthR R j).2):=by
 obtain ⟨x,hx,hxb,hxc⟩:=h.resolve_left (by omega)
 obtain ⟨x1,x2⟩:=hxc j hj
 exact ⟨x,hx,cell_later hb (by rw [add_block]; exact hxb) x1,cell_later (a:=⟨(x.add (j * 2)).block,(x.add (j * 2)).off+1,none⟩) hb (show (x.add (j * 2)).block < _ by rw [add_block]; exact hxb) x2⟩
theorem er_ok {x:Rg}:erV x=if okR x=true then 0 else 13:=rfl
set_option maxHeartbeats 3200000 in
theorem rcheck_any {w:World} {v:Value} {c:Cf} (h:CfV w v c):Calls Tryz.prog 22 #[v] w fun e w' => e = .returned (.int .i64 (chkV c))∧Below w.heap.size w w':=by
 obtain ⟨vr,rfl,hR⟩:=h
 obtain ⟨ar,cap,rfl,hlen,hcap,hcs,hl⟩:=hR
 have HL:Hid (RL w ar c.R):=hl
 clear hl hcap hcs
 have HV:Hid (chkV c=if okN c && okL c.R then 0 else 13):=rfl
 generalize chkV c=y at *
 obtain ⟨a,b,d,s,mu,t,R⟩:=c
 unfold okN okL at HV
 unfold cfA at *
 dsimp only at *
 by_cases h0:a < 1
 ·have HW:Hid (y=13):=by
   have:=HV.out
   rw [if_neg (by simp only [Bool.and_eq_true,decide_eq_true_eq]; omega)] at this
   exact this
  clear HV HL
  go_enter Tryz.func22,Tryz.ntmps22
  go_wp2_with fail
  go_ret
  exact ⟨by rw [HW.out]; rfl,below_a1 _ _⟩
 by_cases h1:64 < a
 ·have HW:Hid (y=13):=by
   have:=HV.out
   rw [if_neg (by simp only [Bool.and_eq_true,decide_eq_true_eq]; omega)] at this
   exact this
  clear HV HL
  go_enter Tryz.func22,Tryz.ntmps22
  go_wp2_with fail
  go_ret
  exact ⟨by rw [HW.out]; rfl,below_a1 _ _⟩
 by_cases h2:b < 1
 ·have HW:Hid (y=13):=by
   have:=HV.out
   rw [if_neg (by simp only [Bool.and_eq_true,decide_eq_true_eq]; omega)] at this
   exact this
  clear HV HL
  go_enter Tryz.func22,Tryz.ntmps22
  go_wp2_with fail
  go_ret
  exact ⟨by rw [HW.out]; rfl,below_a1 _ _⟩
 by_cases h3:16 < b
 ·have HW:Hid (y=13):=by
   have:=HV.out
   rw [if_neg (by simp only [Bool.and_eq_true,decide_eq_true_eq]; omega)] at this
   exact this
  clear HV HL
  go_enter Tryz.func22,Tryz.ntmps22
  go_wp2_with fail
  go_ret
  exact ⟨by rw [HW.out]; rfl,below_a1 _ _⟩
 by_cases h4:d < 1
 ·have HW:Hid (y=13):=by
   have:=HV.out
   rw [if_neg (by simp only [Bool.and_eq_true,decide_eq_true_eq]; omega)] at this
   exact this
  clear HV HL
  go_enter Tryz.func22,Tryz.ntmps22
  go_wp2_with fail
  go_ret
  exact ⟨by rw [HW.out]; rfl,below_a1 _ _⟩
 by_cases h5:24 < d
 ·have HW:Hid (y=13):=by
   have:=HV.out
   rw [if_neg (by simp only [Bool.and_eq_true,decide_eq_true_eq]; omega)] at this
   exact this
  clear HV HL
  go_enter Tryz.func22,Tryz.ntmps22
  go_wp2_with fail
  go_ret
  exact ⟨by rw [HW.out]; rfl,below_a1 _ _⟩
 by_cases h6:s < 1
 ·have HW:Hid (y=13):=by
   have:=HV.out
   rw [if_neg (by simp only [Bool.and_eq_true,decide_eq_true_eq]; omega)] at this
   exact this
  clear HV HL
  go_enter Tryz.func22,Tryz.ntmps22
  go_wp2_with fail
  go_ret
  exact ⟨by rw [HW.out]; rfl,below_a1 _ _⟩
 by_cases h7:1099511627776 < s
 ·have HW:Hid (y=13):=by
   have:=HV.out
   rw [if_neg (by simp only [Bool.and_eq_true,decide_eq_true_eq]; omega)] at this
   exact this
  clear HV HL
  go_enter Tryz.func22,Tryz.ntmps22
  go_wp2_with fail
  go_ret
  exact ⟨by rw [HW.out]; rfl,below_a1 _ _⟩
 by_cases h8:t < 1
 ·have HW:Hid (y=13):=by
   have:=HV.out
   rw [if_neg (by simp only [Bool.and_eq_true,decide_eq_true_eq]; omega)] at this
   exact this
  clear HV HL
  go_enter Tryz.func22,Tryz.ntmps22
  go_wp2_with fail
  go_ret
  exact ⟨by rw [HW.out]; rfl,below_a1 _ _⟩
 by_cases h9:255 < t
 ·have HW:Hid (y=13):=by
   have:=HV.out
   rw [if_neg (by simp only [Bool.and_eq_true,decide_eq_true_eq]; omega)] at this
   exact this
  clear HV HL
  go_enter Tryz.func22,Tryz.ntmps22
  go_wp2_with fail
  go_ret
  exact ⟨by rw [HW.out]; rfl,below_a1 _ _⟩
 by_cases h10:(8:Int) < (R.length:Int)
 ·have HW:Hid (y=13):=by
   have:=HV.out
   rw [if_neg (by simp only [Bool.and_eq_true,decide_eq_true_eq]; omega)] at this
   exact this
  clear HV HL
  go_enter Tryz.func22,Tryz.ntmps22
  go_wp2_with fail
  go_ret
  exact ⟨by rw [HW.out]; rfl,below_a1 _ _⟩
 have HW:Hid (y=if R.all okR=true then 0 else 13):=by
  have:=HV.out
  rw [Hid,this]
  have e:(decide (1≤a) && decide (a≤64) && decide (1≤b) && decide (b≤16) && decide (1≤d) && decide (d≤24) && decide (1≤s) && decide (s≤1099511627776) && decide (1≤t) && decide (t≤255) && (decide ((R.length:Int)≤8) && R.all okR))=R.all okR:=by
   have e1:decide (1≤a)=true:=by simp; omega
   have e2:decide (a≤64)=true:=by simp; omega
   have e3:decide (1≤b)=true:=by simp; omega
   have e4:decide (b≤16)=true:=by simp; omega
   have e5:decide (1≤d)=true:=by simp; omega
   have e6:decide (d≤24)=true:=by simp; omega
   have e7:decide (1≤s)=true:=by simp; omega
   have e8:decide (s≤1099511627776)=true:=by simp; omega
   have e9:decide (1≤t)=true:=by simp; omega
   have e10:decide (t≤255)=true:=by simp; omega
   have e11:decide ((R.length:Int)≤8)=true:=by simp; omega
   rw [e1,e2,e3,e4,e5,e6,e7,e8,e9,e10,e11]
   rfl
  rw [e]
 clear HV
 go_enter Tryz.func22,Tryz.ntmps22
 go_wp2_with fail
 clear h0 h1 h2 h3 h4 h5 h6 h7 h8 h9 h10
 go_loopw [3] (fun iv wr => ∃ j:Nat,j≤R.length∧iv = .int .i64 (j:Int)∧Hid ((R.take j).all okR=true)∧Below (w.alloc (Obj.cells #[.int .i64 a,.int .i64 b,.int .i64 d,.int .i64 s,.bool mu,.int .i64 t,.slice ar R.length cap] 32)).heap.size (w.alloc (Obj.cells #[.int .i64 a,.int .i64 b,.int .i64 d,.int .i64 s,.bool mu,.int .i64 t,.slice ar R.length cap] 32)) wr) (fun iv _=>R.length - (intOf iv).toNat)
 case atStart=>exact ⟨0,by omega,rfl,rfl,Below.refl _ _⟩
 case round =>
  obtain ⟨j,hj,rfl,HA,hbel⟩:=hrel
  have hr:=row_nx hbel
  have hk6:wr.cell? ⟨w.heap.size,6,none⟩=some (.slice ar R.length cap):=(cell_at hr 6).trans rfl
  have HB0:Hid (Below (w.alloc (Obj.cells #[.int .i64 a,.int .i64 b,.int .i64 d,.int .i64 s,.bool mu,.int .i64 t,.slice ar R.length cap] 32)).heap.size (w.alloc (Obj.cells #[.int .i64 a,.int .i64 b,.int .i64 d,.int .i64 s,.bool mu,.int .i64 t,.slice ar R.length cap] 32)) wr):=hbel
  have HB:Hid (Below w.heap.size w wr):=below_then (below_a1 _ _) hbel
  clear hbel hr
  by_cases hlt:j < R.length
  ·have hjd:decide ((j:Int) < (R.length:Int))=true:=by simp; omega
   obtain ⟨x,rfl,z1,z2⟩:=HL.out.at HB.out hlt
   have HI:Hid (∀ w:World,Calls Tryz.prog 23 #[regV (nthR R j)] w fun e w' => e = .returned (.tuple #[.int .i64 (szV (nthR R j)),.int .i64 (erV (nthR R j))])∧Below w.heap.size w w'):=fun w=>rsize_any w _
   have HN:Hid (okR (nthR R j)=false→R.all okR=false):=all_no hlt
   have HY:Hid ((R.take (j+1)).all okR=((R.take j).all okR && okR (nthR R j))):=all_cut hlt
   have hw:wrap64 ((j:Int)+1)=(j:Int)+1:=wz hlt (by omega)
   have HM:Hid (R.length - (j+1) < R.length - j):=mz _ _ hlt
   have he:=er_ok (x:=nthR R j)
   obtain ⟨q,hq⟩ : ∃ q,okR (nthR R j)=q:=⟨_,rfl⟩
   rw [hq] at HN HY he
   clear hq HL
   generalize szV (nthR R j)=sz at *
   generalize erV (nthR R j)=er at *
   generalize nthR R j=r at *
   obtain ⟨k,m⟩:=r
   unfold regV at HI
   dsimp only at *
   cases q with
   | false =>
    obtain rfl:er=13:=he
    go_wp2_with fail
    refine (HI.out _).mono ?_
    rintro e w2 ⟨rfl,hb2⟩
    go_wp2_with fail
    go_ret
    exact ⟨by rw [HW.out,HN.out trivial]; rfl,HB.out.trans (hb2.mono HB.out.size)⟩
   | true =>
    obtain rfl:er=0:=he
    go_wp2_with fail
    refine (HI.out _).mono ?_
    rintro e w2 ⟨rfl,hb2⟩
    go_wp2_with fail
    go_roundw
    case rel=>exact ⟨j+1,hlt,by go_num,by rw [Hid,HY.out,HA.out]; rfl,HB0.out.trans (hb2.mono HB0.out.size)⟩
    case measure=>simpa [intOf] using HM.out
  ·obtain rfl:j=R.length:=by omega
   have HZ:Hid (R.all okR=true):=by
    have:=HA.out
    rw [List.take_length] at this
    exact this
   clear HA HL
   go_wp2_with fail
   go_ret
   exact ⟨by rw [HW.out,HZ.out]; rfl,HB.out⟩
theorem rcells_any {w:World} {v:Value} {c:Cf} (h:CfV w v c):Calls Tryz.prog 12 #[v] w (Two (cellsV c) w):=by
 have HC:Hid (∀ w':World,Below w.heap.size w w'→Calls Tryz.prog 22 #[v] w' fun e w'' => e = .returned (.int .i64 (chkV c))∧Below w'.heap.size w' w''):=fun w' hb=>rcheck_any (h.later hb (Nat.le_refl _))
 obtain ⟨vr,rfl,hR⟩:=h
 obtain ⟨ar,cap,rfl,hlen,hcap,hcs,hl⟩:=hR
 have HL:Hid (RL w ar c.R):=hl
 clear hl hcap hcs
 cases hq:okC c with
 | false =>
  have e1:chkV c=13:=by unfold chkV; rw [hq]; rfl
  have e2:(cellsV c)=(0,13):=by unfold cellsV; rw [hq]; rfl
  rw [e1] at HC
  rw [e2]
  unfold Two
  clear e1 e2 hq HL
  obtain ⟨a,b,d,s,mu,t,R⟩:=c
  unfold cfA at *
  dsimp only at *
  go_enter Tryz.func12,Tryz.ntmps12
  go_wp2_with fail
  refine (HC.out _ (below_a1 _ _)).mono ?_
  rintro e w1 ⟨rfl,hb⟩
  go_wp2_with fail
  go_ret2
  exact ⟨rfl,below_then (below_a1 _ _) hb⟩
 | true =>
  have e1:chkV c=0:=by unfold chkV; rw [hq]; rfl
  rw [e1] at HC
  have hk:=okC_raw hq
  have HP:Hid (0≤c.raw∧c.raw≤64):=⟨by omega,hk.2.1⟩
  have H8:Hid (c.R.length≤8):=hk.2.2
  have e2:cellsV c=(c.raw+sumV c.R,0):=by unfold cellsV; rw [hq]; rfl
  rw [e2]
  unfold Two
  clear e1 e2 hq hk
  obtain ⟨a,b,d,s,mu,t,R⟩:=c
  unfold cfA at *
  dsimp only at *
  go_enter Tryz.func12,Tryz.ntmps12
  go_wp2_with fail
  refine (HC.out _ (below_a1 _ _)).mono ?_
  rintro e w1 ⟨rfl,hb⟩
  have hr:=row_nx hb
  have hk0:w1.cell? ⟨w.heap.size,0,none⟩=some (.int .i64 a):=(cell_at hr 0).trans rfl
  have HB1:Hid (Below (w.alloc (Obj.cells #[.int .i64 a,.int .i64 b,.int .i64 d,.int .i64 s,.bool mu,.int .i64 t,.slice ar R.length cap] 32)).heap.size (w.alloc (Obj.cells #[.int .i64 a,.int .i64 b,.int .i64 d,.int .i64 s,.bool mu,.int .i64 t,.slice ar R.length cap] 32)) w1):=hb
  clear hr hb
  go_wp2_with fail
  go_loopw [5,6] (fun cv iv wr => ∃ (j:Nat) (c:Int),j≤R.length∧iv = .int .i64 (j:Int)∧cv = .int .i64 c∧Hid (c=a+sumV (R.take j))∧Below (w.alloc (Obj.cells #[.int .i64 a,.int .i64 b,.int .i64 d,.int .i64 s,.bool mu,.int .i64 t,.slice ar R.length cap] 32)).heap.size (w.alloc (Obj.cells #[.int .i64 a,.int .i64 b,.int .i64 d,.int .i64 s,.bool mu,.int .i64 t,.slice ar R.length cap] 32)) wr) (fun _ iv _=>R.length - (intOf iv).toNat)
  case atStart=>exact ⟨0,a,by omega,rfl,rfl,by simp [Hid,sumV],HB1.out⟩
  case round =>
   obtain ⟨j,c,hj,rfl,rfl,HA,hbel⟩:=hrel
   have hr:=row_nx hbel
   have hk6:wr.cell? ⟨w.heap.size,6,none⟩=some (.slice ar R.length cap):=(cell_at hr 6).trans rfl
   have HB0:Hid (Below (w.alloc (Obj.cells #[.int .i64 a,.int .i64 b,.int .i64 d,.int .i64 s,.bool mu,.int .i64 t,.slice ar R.length cap] 32)).heap.size (w.alloc (Obj.cells #[.int .i64 a,.int .i64 b,.int .i64 d,.int .i64 s,.bool mu,.int .i64 t,.slice ar R.length cap] 32)) wr):=hbel
   have HB:Hid (Below w.heap.size w wr):=below_then (below_a1 _ _) hbel
   clear hbel hr hk0
   by_cases hlt:j < R.length
   ·have hjd:decide ((j:Int) < (R.length:Int))=true:=by simp; omega
    have hjr:j < R.length:=hlt
    have hjR:decide ((j:Int) < (R.length:Int))=true:=by simp; omega
    obtain ⟨x,rfl,z1,z2⟩:=HL.out.at HB.out hjr
    have HI:Hid (∀ w:World,Calls Tryz.prog 23 #[regV (nthR R j)] w fun e w' => e = .returned (.tuple #[.int .i64 (szV (nthR R j)),.int .i64 (erV (nthR R j))])∧Below w.heap.size w w'):=fun w=>rsize_any w _
    have HS:Hid (wrap64 (c+szV (nthR R j))=a+sumV (R.take (j+1))):=by
     rw [Hid,HA.out]
     exact sum_bd HP.out H8.out hjr
    have hw:wrap64 ((j:Int)+1)=(j:Int)+1:=wz hjr (by omega)
    have HM:Hid (R.length - (j+1) < R.length - j):=mz _ _ hlt
    clear HL HA
    generalize szV (nthR R j)=sz at *
    generalize erV (nthR R j)=er at *
    generalize nthR R j=r at *
    obtain ⟨k,m⟩:=r
    obtain ⟨y,hd⟩ : ∃ y,wrap64 (c+sz)=y:=⟨_,rfl⟩
    have HD:Hid (y=a+sumV (R.take (j+1))):=by rw [Hid,← hd,HS.out]
    clear HS
    unfold regV at HI
    dsimp only at *
    go_wp2_with fail
    refine (HI.out _).mono ?_
    rintro e w2 ⟨rfl,hb2⟩
    go_wp2_with fail
    go_roundw
    case rel=>exact ⟨j+1,y,hlt,by go_num,by rw [hd],HD,HB0.out.trans (hb2.mono HB0.out.size)⟩
    case measure=>simpa [intOf] using HM.out
   ·obtain rfl:j=R.length:=by omega
    have HZ:Hid (c=a+sumV R):=by
     have:=HA.out
     rw [List.take_length] at this
     exact this
    clear HA HL
    go_wp2_with fail
    go_ret2
    exact ⟨by rw [← HZ.out]; rfl,HB.out⟩
