/- What Bits, Empty and Meets tell, in the program and in the document's answer. -/
import Derived.Test.YtdkpgdkjohjcaaaGreatJSigPSigU
import Derived.Test.YtdkpgdkjohjcaaaGreatJHashSigB
import Derived.Test.YtdkpgdkjohjcaaaGreatJTxVTyL
import Derived.RegionTactic
namespace Go.Proofs.YtdkpgdkjohjcaaaGreat.Sg
open Go.ChangeShapes Go.WideShapes Go.ChangeAt Go.RowKit
def iv (l:List Nat):List Value:=l.map fun (k:Nat)=>Value.int .i64 (k:Int)
end Go.Proofs.YtdkpgdkjohjcaaaGreat.Sg
namespace Go.Proofs.YtdkpgdkjohjcaaaGreat
open Go.ChangeShapes Go.WideShapes Go.ChangeAt Go.RowKit
attribute [local go_sem ↓] Go.wp_at_zero Go.wp_at_succ
set_option linter.unusedVariables false
def sg8 (s:List Nat):List Value:=[swV s 0,swV s 1,swV s 2,swV s 3,swV s 4,swV s 5,swV s 6,swV s 7]
def sgsC (S:List (List Nat)):List Value:=S.flatMap sg8
theorem sgsC_snoc (S:List (List Nat)) (s:List Nat):sgsC (S ++ [s])=sgsC S++sg8 s:=by unfold sgsC; simp
theorem own_form2 {w:World} {base n sz cap:Nat} {e:TypeId} {a:Option Addr} {xs:List Value} (h:w.ownsRow base e sz (.slice a n cap) n xs) (hn:0 < n) : ∃ g,a=some ⟨g,0,none⟩:=by
 rcases h.2 with ⟨e,h0⟩ | ⟨g,cp,cur,e,_⟩
 ·omega
 ·injection e with e1 _ _
  exact ⟨g,e1⟩
theorem gm_c2 {w:World} {B:Nat} {p tv sv wv rv:Value} (h:w.heap[B]? = some (gmO p tv sv wv rv)):w.cell? ⟨B,2,none⟩=some sv:=by unfold gmO at h; rw [cell_at h]; rfl
theorem gm_c3 {w:World} {B:Nat} {p tv sv wv rv:Value} (h:w.heap[B]? = some (gmO p tv sv wv rv)):w.cell? ⟨B,3,none⟩=some wv:=by unfold gmO at h; rw [cell_at h]; rfl
theorem gm_c4 {w:World} {B:Nat} {p tv sv wv rv:Value} (h:w.heap[B]? = some (gmO p tv sv wv rv)):w.cell? ⟨B,4,none⟩=some rv:=by unfold gmO at h; rw [cell_at h]; rfl
end Go.Proofs.YtdkpgdkjohjcaaaGreat
namespace Go.Proofs.YtdkpgdkjohjcaaaGreat
open Go.ChangeShapes Go.WideShapes Go.ChangeAt Go.RowKit
set_option linter.unusedVariables false
theorem MI.steps {w wr w':World} {base s m:Nat} {N:Int} {p:Value} {Tp:Nat→Nat} {B X cap:Nat} {cur:Array Value} {sv wv rv:Value} {q:Nat} {L:List Ac} {g:Rg} {T:Nat→Tx} {R:Nat→List (Int × Int)} {A A':List Nat} (h:MI w wr base s m N p Tp B X cap cur sv wv rv q L g T R A) {k:Nat} (hk:k < 4) {o:Out} {g':Rg} {R':Nat→List (Int × Int)} (wi:WI 8 N m o.L g' (setT T k o.x) R') (gs:g'.s=g.s) (len:o.L.length≤L.length+1) (ev:o.x.ev.length≤(T k).ev.length+2)
  (hg:GB w' base s p o.L Tp (setT T k o.x) A' B X cap cur sv wv rv) (hn:Next A A' wr w'):MI w w' base s m N p Tp B X cap cur sv wv rv (q+1) o.L g' (setT T k o.x) R' A':=by
 refine ⟨wi,gs.trans h.gs,hg,by have:=h.len; omega,fun j hj => ?_,below_keep h.bel hn.1 (fun b hb=>Nat.le_trans h.lo (h.gb.gg.lt b hb).1),h.lo,Nat.le_trans h.hi hn.1.size⟩
 have:=h.evs j hj
 by_cases e:j=k
 ·subst e; rw [setT_self]; omega
 ·rw [setT_else _ _ e]; omega
structure SW (wr:World) (base:Nat) (sv wv:Value) (A:List Nat) (S:List (List Nat)) (ws:List Value) (n:Nat):Prop where
 sg:wr.ownsRow base 51 8 sv n (sgsC S)
 sl:S.length=n
 ww:wr.ownsRow base 47 1 wv n ws
 sA : ∀ z,sv.ownBlock=some z→z ∉ A
 wA : ∀ z,wv.ownBlock=some z→z ∉ A
theorem SW.below {wr w':World} {base:Nat} {sv wv:Value} {A:List Nat} {S:List (List Nat)} {ws:List Value} {n:Nat} (h:SW wr base sv wv A S ws n) (k:Below wr.heap.size wr w'):SW w' base sv wv A S ws n :=
 ⟨own_keep h.sg (Keep.of_below k []) (by simp),h.sl,own_keep h.ww (Keep.of_below k []) (by simp),h.sA,h.wA⟩
theorem SW.next {wr w':World} {base:Nat} {sv wv:Value} {A A':List Nat} {S:List (List Nat)} {ws:List Value} {n:Nat} (h:SW wr base sv wv A S ws n) (k:Next A A' wr w'):SW w' base sv wv A' S ws n :=
 ⟨own_keep h.sg k.1 h.sA,h.sl,own_keep h.ww k.1 h.wA,fun z hz e=>by
    rcases k.2 z e with e | e
    · exact h.sA z hz e
    · have:=(h.sg.lt z hz).2; omega,fun z hz e=>by
    rcases k.2 z e with e | e
    · exact h.wA z hz e
    · have:=(h.ww.lt z hz).2; omega⟩
theorem MI.refield {w wr w':World} {base s m:Nat} {N:Int} {p:Value} {Tp:Nat→Nat} {B X cap:Nat} {cur:Array Value} {sv wv rv sv' wv' rv':Value} {q:Nat} {L:List Ac} {g:Rg} {T:Nat→Tx} {R:Nat→List (Int × Int)} {A H:List Nat} (h:MI w wr base s m N p Tp B X cap cur sv wv rv q L g T R A) (k:Keep H wr w') (h1 : ∀ z ∈ H,w.heap.size≤z∧z ∉ A) (h3:X ∉ H) (gm:w'.heap[B]? = some (gmO p (.slice (some ⟨X,0,none⟩) 4 cap) sv' wv' rv')):MI w w' base s m N p Tp B X cap cur sv' wv' rv' q L g T R A :=
 ⟨h.wi,h.gs,⟨h.gb.gg.keep k (fun z hz e=>(h1 z e).2 hz),gm,keep_row k h.gb.tx h3,h.gb.pt,h.gb.bA,h.gb.xA⟩,h.len,h.evs,below_keep h.bel k (fun z hz=>(h1 z hz).1),h.lo,Nat.le_trans h.hi k.size⟩
theorem want_ok2 {a:At} (h:W64 a.w.value) : ∀ w,wantA a=some w→W64 w.value:=fun w e=>by
 unfold wantA at e
 split at e
 ·cases e; exact h
 ·cases e
theorem hap_few2 {W:Ev→Prop} {c:Nat} {N:Int} {m:Nat} {L:List Ac} {g:Rg} {T:Nat→Tx} {R:Nat→List (Int × Int)} {k:Nat} {pre:List Ev} {o:Out} {E:List Ev} {g':Rg} {r':List (Int × Int)} (h:Hap W c N m L g T R k pre o E g' r') (hp:pre = [] ∨ pre = [{ kind:=7 }]):(pre++E).length≤2:=by
 have hE:E.length≤1:=by
  rcases h.tel with ⟨e1,_⟩ | ⟨e,e1,_⟩ <;> rw [e1] <;> simp
 have hpl:pre.length≤1:=by rcases hp with e | e <;> rw [e] <;> simp
 simp only [List.length_append]
 omega
theorem wrap_small2 {x:Int} (h0 : -9223372036854775808≤x) (h1:x≤9223372036854775807):wrap64 x=x:=by unfold wrap64; omega
end Go.Proofs.YtdkpgdkjohjcaaaGreat
namespace Go.Proofs.YtdkpgdkjohjcaaaGreat
open Go.ChangeShapes Go.WideShapes Go.ChangeAt Go.RowKit
attribute [local go_sem ↓] Go.wp_at_zero Go.wp_at_succ
set_option linter.unusedVariables false
def valG (c:Int) (G:List (List Wt)) (st:Int):Int:=(G.take st.toNat).foldl (wrVal c) 0
theorem valG_val (g:Rg) (c:Int) (st:Int):valG c g.W st=g.val c st.toNat:=rfl
theorem gtake_one {α:Type} (l:List α) (d:α) (k:Nat) (h:k < l.length):l.take (k+1)=l.take k ++ [l.getD k d]:=by
 rw [List.take_add_one,List.getElem?_eq_getElem h,List.getD_eq_getElem?_getD,List.getElem?_eq_getElem h]
 rfl
theorem wrValG_one (cell v:Int) (W:List Wt) (k:Nat) (h:k < W.length):wrVal cell v (W.take (k+1))=if (W.getD k noWt).c=cell then (W.getD k noWt).v else wrVal cell v (W.take k):=by
 unfold wrVal
 rw [gtake_one W noWt k h,List.foldl_append]
 rfl
theorem fold_one (cell:Int) (G:List (List Wt)) (k:Nat) (h:k < G.length):(G.take (k+1)).foldl (wrVal cell) 0=wrVal cell ((G.take k).foldl (wrVal cell) 0) (G.getD k []):=by
 rw [gtake_one G [] k h,List.foldl_append]
 rfl
theorem valG_stop (G:List (List Wt)) (cell stamp:Int) (q:Nat) (hq:q≤G.length) (hs:q≤stamp.toNat) (h : ¬ (q < G.length∧(q:Int) < stamp)):(G.take q).foldl (wrVal cell) 0=valG cell G stamp:=by
 unfold valG
 by_cases e:q=G.length
 ·rw [List.take_of_length_le (by omega),List.take_of_length_le (by omega)]
 ·rw [show stamp.toNat=q by omega]
theorem g_meas {q n:Nat} (h:q < n):n - (q+1) < n - q:=by omega
theorem g_wrap {q n:Nat} (h:q < n) (hn:n≤100000000):wrap64 ((q:Int)+1)=(q:Int)+1:=by unfold wrap64; omega
structure WsL (w:World) (base:Nat) (wv:Value) (ws:List Value) (G:List (List Wt)):Prop where
 row:w.ownsRow base 47 1 wv G.length ws
 each : ∀ i,i < G.length → ∃ v,ws[i]? = some v∧w.ownsRow base 60 2 v (G.getD i []).length (wtC (G.getD i []))∧(G.getD i []).length≤24
theorem WsL.below {w w':World} {base:Nat} {wv:Value} {ws:List Value} {G:List (List Wt)} (h:WsL w base wv ws G) (k:Below w.heap.size w w'):WsL w' base wv ws G :=
 ⟨own_keep h.row (Keep.of_below k []) (by simp),fun i hi=>by
    obtain ⟨v,h1,h2,h3⟩:=h.each i hi
    exact ⟨v,h1,own_keep h2 (Keep.of_below k []) (by simp),h3⟩⟩
theorem WsL.write {w:World} {base:Nat} {wv:Value} {ws:List Value} {G:List (List Wt)} (h:WsL w base wv ws G) (i:Nat) (hi:i < G.length) :
  ∃ gb cap ua ucap,wv = .slice (some ⟨gb,0,none⟩) G.length cap∧gb < w.heap.size∧w.cell? ⟨gb,i,none⟩=some (.slice ua (G.getD i []).length ucap)∧(G.getD i []).length≤24 ∧
   ∀ k,k < (G.getD i []).length → ∃ ub,ua=some ⟨ub,0,none⟩∧ub < w.heap.size∧w.cell? ⟨ub,k * 2,none⟩=some (.int .i64 ((G.getD i []).getD k noWt).c)∧w.cell? ⟨ub,k * 2+1,none⟩=some (.int .i64 ((G.getD i []).getD k noWt).v):=by
 obtain ⟨a,cap,e⟩:=own_slice h.row
 have hr:=h.row
 rw [e] at hr
 obtain ⟨gb,rfl⟩:=own_form2 hr (by omega)
 obtain ⟨v,h1,h2,h3⟩:=h.each i hi
 obtain ⟨ua,ucap,rfl⟩:=own_slice h2
 refine ⟨gb,cap,ua,ucap,e,(hr.lt gb rfl).2,own_cells hr _ _ h1,h3,fun k hk => ?_⟩
 obtain ⟨ub,rfl⟩:=own_form2 h2 (by omega)
 obtain ⟨t0,t1⟩:=wtC_get (G.getD i []) k hk
 exact ⟨ub,rfl,(h2.lt ub rfl).2,own_cells h2 _ _ t0,own_cells h2 _ _ t1⟩
set_option maxRecDepth 10000 in
set_option maxHeartbeats 3200000 in
theorem value_g {w:World} {base B:Nat} {p tv sv wv rv:Value} {ws:List Value} {G:List (List Wt)} (hgm:w.heap[B]? = some (gmO p tv sv wv rv)) (h:WsL w base wv ws G) (hlen:G.length≤100000000) (cell stamp:Int) :
  Calls Tryz.prog 14 #[.pointer (some ⟨B,0,none⟩),.int .i64 cell,.int .i64 stamp] w fun e w' => e = .returned (.int .i64 (valG cell G stamp))∧w'=w:=by
 obtain ⟨va,vcap,rfl⟩:=own_slice h.row
 have HG : Hid (∀ w', Below w.heap.size w w' → WsL w' base (.slice va G.length vcap) ws G ∧ w'.heap[B]? = some (gmO p tv sv (.slice va G.length vcap) rv)) := fun w' hb => ⟨h.below hb, row_on hgm hb⟩
 have HST:Hid (∀ q,q≤G.length→q≤stamp.toNat → ¬ (q < G.length∧(q:Int) < stamp)→(G.take q).foldl (wrVal cell) 0=valG cell G stamp):=fun q h1 h2 h3=>valG_stop G cell stamp q h1 h2 h3
 have HV1:Hid (∀ q,q < G.length→(G.take (q+1)).foldl (wrVal cell) 0=wrVal cell ((G.take q).foldl (wrVal cell) 0) (G.getD q [])):=fun q h=>fold_one cell G q h
 generalize valG cell G stamp=res at *
 obtain ⟨n,hn⟩ : ∃ n,G.length=n:=⟨_,rfl⟩
 have HLN:Hid (n≤100000000):=by rw [← hn]; exact hlen
 rw [hn] at HG HST HV1
 clear h hgm hlen
 go_enter Tryz.func14,Tryz.ntmps14
 go_wp2
 go_loopw [7,8] (fun vv iv wr => ∃ q:Nat,q≤n∧q≤stamp.toNat∧iv = .int .i64 q∧vv = .int .i64 ((G.take q).foldl (wrVal cell) 0)∧wr=w) (fun _ iv _=>n - (intOf iv).toNat)
 case atStart=>exact ⟨0,Nat.zero_le _,Nat.zero_le _,rfl,rfl,rfl⟩
 case round =>
  obtain ⟨q,hq,hqs,rfl,rfl,hb⟩:=hrel
  have HB:Hid (wr=w):=hb
  have hg:=(HG.out wr (by rw [hb]; exact Below.refl _ _)).2
  have hg1:=gm_c3 hg
  have hGr:B < wr.heap.size:=heap_lt hg
  by_cases hlt:q < n
  ·have d1:decide ((q:Int) < (n:Int))=true:=decide_eq_true (Int.ofNat_lt.2 hlt)
   have hltI:(q:Int) < (n:Int):=Int.ofNat_lt.2 hlt
   by_cases hst:(q:Int) < stamp
   ·have d2:decide ((q:Int) < stamp)=true:=decide_eq_true hst
    have hw1:wrap64 ((q:Int)+1)=(q:Int)+1:=g_wrap hlt HLN.out
    have HQ2:Hid (q+1≤stamp.toNat∧q+1≤n):=⟨by omega,by omega⟩
    have HVQ:Hid ((G.take (q+1)).foldl (wrVal cell) 0=wrVal cell ((G.take q).foldl (wrVal cell) 0) (G.getD q [])):=HV1.out q hlt
    clear hb hg hst
    generalize (G.take q).foldl (wrVal cell) 0=v0 at *
    have HWR : Hid (∀ w', Below w.heap.size w w' → ∃ gb cap ua ucap, Value.slice va n vcap = .slice (some ⟨gb, 0, none⟩) n cap ∧ gb < w'.heap.size ∧ w'.cell? ⟨gb, q, none⟩ = some (.slice ua (G.getD q []).length ucap) ∧ (G.getD q []).length ≤ 24 ∧ (∀ k, k < (G.getD q []).length → ∃ ub, ua = some ⟨ub, 0, none⟩ ∧ ub < w'.heap.size ∧ w'.cell? ⟨ub, k * 2, none⟩ = some (.int .i64 ((G.getD q []).getD k noWt).c) ∧ w'.cell? ⟨ub, k * 2 + 1, none⟩ = some (.int .i64 ((G.getD q []).getD k noWt).v)) ∧ w'.cell? ⟨B, 3, none⟩ = some (.slice va n vcap) ∧ B < w'.heap.size) := fun w' hb => by
     obtain ⟨hg', hg2⟩ := HG.out w' hb
     rw [← hn] at hg'
     obtain ⟨gb,cap,ua,ucap,h1,h2,h3,h4,h5⟩:=hg'.write q (by rw [hn]; exact hlt)
     rw [hn] at h1
     exact ⟨gb,cap,ua,ucap,h1,h2,h3,h4,h5,gm_c3 hg2,heap_lt hg2⟩
    generalize G.getD q [] = W at *
    go_wp2
    obtain ⟨wo,rfl⟩ : ∃ wo,wo=wr:=⟨_,rfl⟩
    go_loopw [7,9] (fun vv kv wr => ∃ k:Nat,k≤W.length∧kv = .int .i64 k∧vv = .int .i64 (wrVal cell v0 (W.take k))∧wr=w) (fun _ kv _=>W.length - (intOf kv).toNat)
    case atStart=>exact ⟨0,Nat.zero_le _,rfl,rfl,HB.out⟩
    case round =>
     obtain ⟨k,hk,rfl,rfl,hb2⟩:=hrel
     have HB2:Hid (wr=w):=hb2
     obtain ⟨gb,cap,ua,ucap,h1,hgb,e0,h4,h5,h6,hGk2⟩:=HWR.out wr (by rw [hb2]; exact Below.refl _ _)
     simp only [Value.slice.injEq] at h1
     obtain ⟨rfl,_,rfl⟩:=h1
     clear hb2 hg1 hGr HB
     by_cases hkl:k < W.length
     ·obtain ⟨ub,rfl,hub,u0,u1⟩:=h5 k hkl
      have HWO:Hid (wrVal cell v0 (W.take (k+1))=if (W.getD k noWt).c=cell then (W.getD k noWt).v else wrVal cell v0 (W.take k)):=wrValG_one cell v0 W k hkl
      have d3:decide ((k:Int) < (W.length:Int))=true:=decide_eq_true (Int.ofNat_lt.2 hkl)
      have hkI:(k:Int) < (W.length:Int):=Int.ofNat_lt.2 hkl
      have hw2:wrap64 ((k:Int)+1)=(k:Int)+1:=g_wrap hkl (by omega)
      have HM:Hid (k+1≤W.length∧W.length - (k+1) < W.length - k):=⟨hkl,g_meas hkl⟩
      clear h5 hkl hk h4
      generalize wrVal cell v0 (W.take k)=v1 at *
      generalize (W.getD k noWt).c=wc at *
      generalize (W.getD k noWt).v=wv at *
      by_cases hc:wc=cell
      ·have dc:(wc == cell)=true:=by simpa using hc
       rw [if_pos hc] at HWO
       clear hc
       generalize W.length=lw at *
       go_wp2
       go_roundw
       case rel=>exact ⟨k+1,HM.out.1,by rw [hw2]; go_num,by rw [HWO.out],HB2.out⟩
       case measure=>have:=HM.out.2; rw [hw2]; simp [intOf]; omega
      ·have dc:(wc == cell)=false:=by simpa using hc
       rw [if_neg hc] at HWO
       clear hc
       generalize W.length=lw at *
       go_wp2
       go_roundw
       case rel=>exact ⟨k+1,HM.out.1,by rw [hw2]; go_num,by rw [HWO.out],HB2.out⟩
       case measure=>have:=HM.out.2; rw [hw2]; simp [intOf]; omega
     ·obtain rfl:k=W.length:=by omega
      have d3:decide ((W.length:Int) < (W.length:Int))=false:=decide_eq_false (by omega)
      have HWT:Hid (W.take W.length=W):=List.take_length
      clear h5 h4 hkl hk
      go_wp2
      go_roundw
      case rel=>exact ⟨q+1,HQ2.out.2,HQ2.out.1,by rw [hw1]; go_num,by rw [HVQ.out,HWT.out],HB2.out⟩
      case measure=>have:=g_meas hlt; rw [hw1]; simp [intOf]; omega
   ·have d2:decide ((q:Int) < stamp)=false:=decide_eq_false hst
    have HE:Hid ((G.take q).foldl (wrVal cell) 0=res):=HST.out q (by omega) hqs (fun h=>hst h.2)
    clear hb hg hst
    generalize (G.take q).foldl (wrVal cell) 0=v0 at *
    go_wp2
    go_ret
    exact ⟨by rw [← HE.out]; rfl,HB.out⟩
  ·obtain rfl:q=n:=by omega
   have d1:decide ((q:Int) < (q:Int))=false:=decide_eq_false (by omega)
   have HE:Hid ((G.take q).foldl (wrVal cell) 0=res):=HST.out q (by omega) hqs (fun h=>by omega)
   clear hb hg
   generalize (G.take q).foldl (wrVal cell) 0=v0 at *
   go_wp2
   go_ret
   exact ⟨by rw [← HE.out]; rfl,HB.out⟩
end Go.Proofs.YtdkpgdkjohjcaaaGreat
namespace Go.Proofs.YtdkpgdkjohjcaaaGreat
open Go.ChangeShapes Go.WideShapes Go.ChangeAt Go.RowKit
def RdCase (g:Rg) (x:Tx) (r:List (Int × Int)) (e:Ev) (g':Rg) (r':List (Int × Int)):Prop :=
 (e.kind=1∧g'.W=g.W∧r' = [] ∧ e.start≤e.seen∧e.seen≤(g.n:Int)) ∨
 (e.kind = 2 ∧ g'.W = g.W ∧ ((e.own = true ∧ Tl.getY x.tb e.cell = true ∧ e.value = Tl.getV x.tb e.cell ∧ r' = r) ∨ (e.own = false ∧ Tl.getY x.tb e.cell = false ∧ r' = r ++ [(e.cell, e.value)])) ∧ (∀ q ∈ r', q.2 = g.val q.1 e.seen.toNat)) ∨
 ((e.kind≠1∧e.kind≠2∧e.kind≠4∧e.kind≠6)∧g'.W=g.W∧r'=r) ∨
 (e.kind=4∧g'.W=g.W ++ [toW x.tb.R] ∧ r'=r∧e.stamp=(g.n:Int)+1∧x.tb.R ≠ [] ∧ (∀ q ∈ r,q.2=g.val q.1 g.n)) ∨
 (e.kind=6∧g'.W=g.W∧r'=r∧(e.err=0→x.tb.R = [] ∧ e.sig=x.rd))
theorem why_zero {N:Int} {m:Nat} {g:Rg} {x:Tx} {a:Option Wa} {e:Ev} (h:Why N m g x a e) (h0:e.err=0):x.tb.R = [] ∧ e.sig=x.rd:=by
 rcases h with h | ⟨h1,_⟩ | ⟨h1 | h1,_⟩ | ⟨_,h2,h3⟩
 ·rcases h with ⟨h1,_⟩ | ⟨h1,_⟩ | ⟨h1,_⟩ <;> omega
 ·omega
 ·omega
 ·omega
 ·exact ⟨h2,h3⟩
theorem reads_each {N:Int} {c m:Nat} {a:Option Wa} {L:List Ac} {g:Rg} {T:Nat→Tx} {R:Nat→List (Int × Int)} {k:Nat} {pre:List Ev} {o:Out} {E:List Ev} {g':Rg} {r':List (Int × Int)} (h:Hap (Why N m g (T k) a) c N m L g T R k pre o E g' r') (hp:pre = [] ∨ pre = [{ kind:=7 }]) :
  (pre++E = [] → g'.W=g.W∧r'=R k) ∧ ∀ j,(hj:j < (pre++E).length) →
   ((j+1 < (pre++E).length∧(pre++E)[j].kind=7)∨(j+1=(pre++E).length∧RdCase g (T k) (R k) (pre++E)[j] g' r')):=by
 have key : ∀ e,Tel (Why N m g (T k) a) g (T k) (R k) o.x e g' r'→RdCase g (T k) (R k) e g' r':=fun e t=>by
  unfold Tel at t
  unfold RdCase
  rcases t with ⟨b1,b2,b3,b4,b5,_⟩ | ⟨b1,b2,b3,b4,_⟩ | ⟨b1,b2,b3,_⟩ | ⟨b1,b2,b3,b4,b5,_,b7,_⟩ | ⟨b1,b2,b3,_,_⟩ | ⟨b1,b2,b3,b4,_⟩
  ·exact Or.inl ⟨b1,by rw [b2],b3,b4,b5⟩
  ·exact Or.inr (Or.inl ⟨b1,by rw [b2],b3,b4⟩)
  ·exact Or.inr (Or.inr (Or.inl ⟨⟨by omega,by omega,by omega,by omega⟩,by rw [b2],b3⟩))
  ·exact Or.inr (Or.inr (Or.inr (Or.inl ⟨b1,by rw [b2]; rfl,b3,b4,b5,b7⟩)))
  ·exact Or.inr (Or.inr (Or.inl ⟨⟨by omega,by omega,by omega,by omega⟩,by rw [b2]; rfl,b3⟩))
  ·exact Or.inr (Or.inr (Or.inr (Or.inr ⟨b1,by rw [b2],b3,why_zero b4⟩)))
 refine ⟨fun e => ?_,fun j hj => ?_⟩
 ·rcases h.tel with ⟨_, a2, _, a4, _⟩ | ⟨e', a1, _⟩
  ·exact ⟨a2,a4⟩
  ·rw [a1] at e; simp at e
 ·rcases h.tel with ⟨rfl,a2,a3,a4,_⟩ | ⟨e,rfl,t⟩
  ·rcases hp with rfl | rfl
   ·simp at hj
   ·have:j=0:=by simp at hj; omega
    subst this
    exact Or.inr ⟨rfl,Or.inr (Or.inr (Or.inl ⟨⟨by simp,by simp,by simp,by simp⟩,a2,a4⟩))⟩
  ·have kt:=key e t
   rcases hp with rfl | rfl
   ·have:j=0:=by simp at hj; omega
    subst this
    exact Or.inr ⟨rfl,kt⟩
   ·have:j=0∨j=1:=by simp at hj; omega
    rcases this with rfl | rfl
    ·exact Or.inl ⟨by simp,rfl⟩
    ·exact Or.inr ⟨rfl,kt⟩
def ownB (c:Int) (W:List Wt):Bool:=W.any (fun x=>decide (x.c=c))
theorem ownB_one (c:Int) (W:List Wt) (k:Nat) (h:k < W.length):ownB c (W.take (k+1))=if (W.getD k noWt).c=c then true else ownB c (W.take k):=by
 unfold ownB
 rw [gtake_one W noWt k h,List.any_append]
 generalize W.getD k noWt=y
 by_cases e:y.c=c
 ·rw [if_pos e]; simp [e]
 ·rw [if_neg e]; simp [e]
theorem toW_get (R:List Tl.Wr) (i:Nat) (h:i < R.length):(toW R).getD i noWt=⟨R[i].c,R[i].v⟩:=by
 unfold toW
 rw [List.getD_eq_getElem?_getD,List.getElem?_map,List.getElem?_eq_getElem h]
 rfl
theorem own_y (tb:Tl.Tb) (c:Int):ownB c (toW tb.R)=Tl.getY tb c:=by
 unfold ownB Tl.getY toW
 cases ha:Tl.at? tb.R c with
 | some i =>
  obtain ⟨h1,h2⟩:=Tl.at_some ha
  show _=true
  rw [List.any_eq_true]
  exact ⟨_,List.mem_map.2 ⟨_,List.getElem_mem h1,rfl⟩,by simpa using h2⟩
 | none =>
  show _=false
  rw [List.any_eq_false]
  intro x hx
  obtain ⟨y,hy,rfl⟩:=List.mem_map.1 hx
  obtain ⟨i,hi,rfl⟩:=List.getElem_of_mem hy
  have:=Tl.at_none ha i hi
  simpa using this
theorem own_v {tb:Tl.Tb} (hi:Tl.Inv tb) {c:Int} (h:Tl.getY tb c=true):wrVal c 0 (toW tb.R)=Tl.getV tb c:=by
 unfold Tl.getY at h
 cases ha:Tl.at? tb.R c with
 | none=>rw [ha] at h; cases h
 | some i =>
  obtain ⟨h1,h2⟩:=Tl.at_some ha
  have hv:Tl.getV tb c=tb.R[i].v:=by
   unfold Tl.getV
   rw [ha]
   show (tb.R.getD i Tl.noWr).v=_
   rw [List.getD_eq_getElem?_getD,List.getElem?_eq_getElem h1]
   rfl
  rw [hv]
  have key : ∀ k,k≤tb.R.length→wrVal c 0 ((toW tb.R).take k)=if i < k then tb.R[i].v else 0:=by
   intro k
   induction k with
   | zero=>intro _; rfl
   | succ k ih =>
    intro hk
    rw [wrValG_one c 0 (toW tb.R) k (by rw [toW_len]; omega),toW_get tb.R k (by omega)]
    by_cases e:tb.R[k].c=c
    ·have:k=i:=hi.inj k i (by omega) h1 (by rw [e,h2])
     subst this
     rw [if_pos e,if_pos (by omega)]
    ·rw [if_neg e,ih (by omega)]
     have:k≠i:=fun e2=>e (by subst e2; exact h2)
     by_cases e3:i < k
     ·rw [if_pos e3,if_pos (by omega)]
     ·rw [if_neg e3,if_neg (by omega)]
  have:=key tb.R.length (Nat.le_refl _)
  rw [if_pos h1,List.take_of_length_le (by rw [toW_len]; exact Nat.le_refl _)] at this
  exact this
end Go.Proofs.YtdkpgdkjohjcaaaGreat
