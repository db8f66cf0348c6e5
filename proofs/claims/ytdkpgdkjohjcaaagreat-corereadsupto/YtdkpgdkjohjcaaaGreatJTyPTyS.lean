/- An event as one row; a game whose lists grow. -/
import Derived.Test.YtdkpgdkjohjcaaaGreatJSigLTyRe
import Derived.Deep.MidRow
import Derived.Laws.Rows
import Derived.BigFrame
import Derived.Test.YtdkpgdkjohjcaaaGreatJSigPSigU
import Derived.Deep.RegionHeld3
import Derived.Test.YtdkpgdkjohjcaaaGreatJTxVTyL
import Derived.KernelRfl
set_option maxHeartbeats 10000000
set_option maxRecDepth 1000000
namespace Go.Proofs.YtdkpgdkjohjcaaaGreat
open Go.ChangeShapes Go.WideShapes Go.ChangeAt Go.RowKit
set_option linter.unusedVariables false
theorem info_wrs2:(Tryz.prog.info? 47).map (fun i=>(i.zero,i.size,i.bytes))=some (some (.slice none 0 0),1,24):=by kernel_rfl
theorem info_sig2:(Tryz.prog.info? 51).map (fun i=>(i.zero,i.size,i.bytes))=some (some (.agg #[.int .u64 0,.int .u64 0,.int .u64 0,.int .u64 0,.int .u64 0,.int .u64 0,.int .u64 0,.int .u64 0]),8,64):=by kernel_rfl
theorem info_ev2:(Tryz.prog.info? 58).map (fun i=>(i.zero,i.size,i.bytes))=some (some (.agg #[.int .i64 0,.int .i64 0,.int .i64 0,.int .i64 0,.int .i64 0,.int .i64 0,.bool false,.int .i64 0,.int .i64 0,.int .i64 0,.int .u64 0,.int .u64 0,.int .u64 0,.int .u64 0,.int .u64 0,.int .u64 0,.int .u64 0,.int .u64 0,.int .i64 0]),19,152):=by kernel_rfl
theorem ev_at {ea:Array Value} {e:Ev} (h:ea.toList=evC e) (i:Nat):ea[i]? = (evC e)[i]?:=by rw [← h]; simp
theorem ev_one {ea:Array Value} {e:Ev} (h:ea.toList=evC e):ea.all (·.oneCell')=true:=by
 rw [← Array.all_toList,h]
 simp [evC,swV,Value.oneCell']
theorem ev_row {w:World} {base gg cap:Nat} {l:List Ev} (h:w.ownsRow base 58 19 (.slice (some ⟨gg,0,none⟩) l.length cap) l.length (evsC l)) {i:Nat} (hi:i < l.length) {e:Ev} (he:l[i] = e) : ∃ ea:Array Value,Hid (ea.toList=evC e)∧Hid (w.rangeAt gg (i * 19) ea.toList)∧Hid ((Tryz.prog.info? 58).map (·.size)=some ea.toList.length)∧ea.size=19:=by
 have hl:(evC e).length=19:=rfl
 refine ⟨(evC e).toArray,by simp [Hid],fun j v hv => ?_, ?_,by simp [hl]⟩
 ·have hv':(evC e)[j]? = some v:=by simpa using hv
  have hj:j < 19:=by have:=(List.getElem?_eq_some_iff.1 hv').1; omega
  rw [ev_cell h hi hj,he]
  exact hv'
 ·have hz:(Tryz.prog.info? 58).map (·.size)=some 19:=by kernel_rfl
  rw [Hid,hz]
  simp [hl]
theorem new_ev {P : Program} {w : World} {cs : Array Value} (hc : cs.size = 19) (h1 : cs.all (·.oneCell') = true) : ∃ w', (storeCells ⟨w.heap.size, 0, none⟩ cs.toList 0).run P (w.alloc (.cells #[.int .i64 0, .int .i64 0, .int .i64 0, .int .i64 0, .int .i64 0, .int .i64 0, .bool false, .int .i64 0, .int .i64 0, .int .i64 0, .int .u64 0, .int .u64 0, .int .u64 0, .int .u64 0, .int .u64 0, .int .u64 0, .int .u64 0, .int .u64 0, .int .i64 0] 58)) = .ok () w' ∧ Hid (w'.heap[w.heap.size]? = some (.cells cs 58 (0, 0))) ∧ Hid (Below w.heap.size w w') ∧ w'.heap.size = w.heap.size + 1 := by
 have:=run_storeCells_from (P:=P) w.heap.size 58 cs.toList 0 #[.int .i64 0,.int .i64 0,.int .i64 0,.int .i64 0,.int .i64 0,.int .i64 0,.bool false,.int .i64 0,.int .i64 0,.int .i64 0,.int .u64 0,.int .u64 0,.int .u64 0,.int .u64 0,.int .u64 0,.int .u64 0,.int .u64 0,.int .u64 0,.int .i64 0] (w.alloc (.cells #[.int .i64 0,.int .i64 0,.int .i64 0,.int .i64 0,.int .i64 0,.int .i64 0,.bool false,.int .i64 0,.int .i64 0,.int .i64 0,.int .u64 0,.int .u64 0,.int .u64 0,.int .u64 0,.int .u64 0,.int .u64 0,.int .u64 0,.int .u64 0,.int .i64 0] 58)) (heap_alloc_new _ _) (by simp [hc]) (fun v hv=>(Array.all_eq_true_iff_forall_mem.1 h1) v (by simpa using hv))
 refine ⟨_,by simpa using this, ?_, ?_, ?_⟩
 ·exact setRow_heap _ _ _ _ _ _ (heap_alloc_new w _)
 ·first | exact below_row (below_a1 _ _) _ (Nat.le_refl _) _ | exact Tl.below_row (below_a1 _ _) _ (Nat.le_refl _) _
 ·rw [setRow_size]; simp
theorem ev_sig {w:World} {P:Nat} {ea:Array Value} {e:Ev} (h:w.heap[P]? = some (.cells ea 58 (0,0))) (he:ea.toList=evC e):w.rangeAt P 10 (sg8 e.sig):=fun j v hv=>by
 have hj:j < 8:=by have:=(List.getElem?_eq_some_iff.1 hv).1; simpa [sg8] using this
 rw [cell_at h,ev_at he,← hv]
 rcases (show j=0∨j=1∨j=2∨j=3∨j=4∨j=5∨j=6∨j=7 by omega) with rfl | rfl | rfl | rfl | rfl | rfl | rfl | rfl <;> rfl
theorem own_bt {w:World} {base n s:Nat} {e:TypeId} {v:Value} {xs:List Value} {b:Nat} (h:w.ownsRow base e s v n xs) (hb:v.ownBlock=some b) : ∃ cur,w.heap[b]? = some (.cells cur e (0,0)):=by
 rcases h.2 with ⟨rfl,_⟩ | ⟨g,cap,cur,rfl,_,hg,_⟩
 ·simp [Value.ownBlock] at hb
 ·simp [Value.ownBlock] at hb
  subst hb
  exact ⟨cur,hg⟩
theorem ev_sig8 {w:World} {P:Nat} {ea:Array Value} {e:Ev} (h:w.heap[P]? = some (.cells ea 58 (0,0))) (he:ea.toList=evC e) : ∃ n0 n1 n2 n3 n4 n5 n6 n7:Nat,Hid ([.int .u64 ((n0:Nat):Int),.int .u64 ((n1:Nat):Int),.int .u64 ((n2:Nat):Int),.int .u64 ((n3:Nat):Int),.int .u64 ((n4:Nat):Int),.int .u64 ((n5:Nat):Int),.int .u64 ((n6:Nat):Int),.int .u64 ((n7:Nat):Int)] = sg8 e.sig) ∧
  w.cell? ⟨P,10,none⟩=some (.int .u64 ((n0:Nat):Int))∧w.cell? ⟨P,11,none⟩=some (.int .u64 ((n1:Nat):Int))∧w.cell? ⟨P,12,none⟩=some (.int .u64 ((n2:Nat):Int))∧w.cell? ⟨P,13,none⟩=some (.int .u64 ((n3:Nat):Int))∧w.cell? ⟨P,14,none⟩=some (.int .u64 ((n4:Nat):Int))∧w.cell? ⟨P,15,none⟩=some (.int .u64 ((n5:Nat):Int))∧w.cell? ⟨P,16,none⟩=some (.int .u64 ((n6:Nat):Int))∧w.cell? ⟨P,17,none⟩=some (.int .u64 ((n7:Nat):Int)) :=
 ⟨_,_,_,_,_,_,_,_,rfl,by rw [cell_at h,ev_at he]; rfl,by rw [cell_at h,ev_at he]; rfl,by rw [cell_at h,ev_at he]; rfl,by rw [cell_at h,ev_at he]; rfl,by rw [cell_at h,ev_at he]; rfl,by rw [cell_at h,ev_at he]; rfl,by rw [cell_at h,ev_at he]; rfl,by rw [cell_at h,ev_at he]; rfl⟩
theorem gm_keepB {z z1:World} {base B n:Nat} {e:TypeId} {sz:Nat} {p tv sv wv rv v:Value} {xs:List Value} (gm:z.heap[B]? = some (gmO p tv sv wv rv)) (ho:z.ownsRow base e sz v n xs) (he:44≠e) (k0:Keep v.ownBlock.toList z z1):z1.heap[B]? = some (gmO p tv sv wv rv) :=
 keep_row k0 gm (fun hm=>own_ne ho (by unfold gmO at gm; exact gm) he (by simpa using hm))
theorem add_w {w z X z1:World} {base s m:Nat} {N:Int} {p:Value} {Tp:Nat→Nat} {B Xb cap:Nat} {cur:Array Value} {sv wv rv:Value} {q:Nat} {L:List Ac} {g:Rg} {T:Nat→Tx} {R:Nat→List (Int × Int)} {A:List Nat} {S:List (List Nat)} {ws:List Value} {n g1 c1:Nat} {u:Value} (mi:MI w z base s m N p Tp B Xb cap cur sv wv rv q L g T R A) (sw:SW z base sv wv A S ws n) (hB:w.heap.size≤B) (kX:Keep [] z X)
  (hown:z1.ownsRow base 47 1 (.slice (some ⟨g1,0,none⟩) (n+1) c1) (n+1) (ws ++ [u])) (hgrow:X.grownBy z1 wv.ownBlock) (hat:wv.ownBlock=some g1∨z.heap.size≤g1) :
  MI w (z1.setCell ⟨B,3,none⟩ (.slice (some ⟨g1,0,none⟩) (n+1) c1)) base s m N p Tp B Xb cap cur sv (.slice (some ⟨g1,0,none⟩) (n+1) c1) rv q L g T R A∧(z1.setCell ⟨B,3,none⟩ (.slice (some ⟨g1,0,none⟩) (n+1) c1)).ownsRow base 51 8 sv n (sgsC S)∧(z1.setCell ⟨B,3,none⟩ (.slice (some ⟨g1,0,none⟩) (n+1) c1)).ownsRow base 47 1 (.slice (some ⟨g1,0,none⟩) (n+1) c1) (n+1) (ws ++ [u])∧g1 ∉ A∧Keep (B :: wv.ownBlock.toList) z (z1.setCell ⟨B,3,none⟩ (.slice (some ⟨g1,0,none⟩) (n+1) c1))∧z1.heap[B]? = some (gmO p (.slice (some ⟨Xb,0,none⟩) 4 cap) sv wv rv):=by
 have k0:Keep wv.ownBlock.toList z z1:=(kX.mono (fun b hb=>by simp at hb)).grown hgrow (fun b hb=>Or.inl (by rw [hb]; simp))
 have gm:=mi.gb.gm
 have hm1:=gm_keepB gm sw.ww (by decide) k0
 have kset:Keep [B] z1 (z1.setCell ⟨B,3,none⟩ (.slice (some ⟨g1,0,none⟩) (n+1) c1)):=(Keep.refl _ _).setCell _ _ (Or.inl (by simp))
 have K:Keep (B :: wv.ownBlock.toList) z (z1.setCell ⟨B,3,none⟩ (.slice (some ⟨g1,0,none⟩) (n+1) c1)):=(k0.mono (fun b hb=>by simp at hb ⊢; exact Or.inr hb)).trans kset (fun b hb=>by simp at hb; subst hb; exact Or.inl (by simp))
 have hBw : ∀ b,b ∈ wv.ownBlock.toList→wv.ownBlock=some b:=fun b hb=>by simpa using hb
 have gmw:z.heap[B]? = some (.cells #[p,.slice (some ⟨Xb,0,none⟩) 4 cap,sv,wv,rv] 44 (0,0)):=gm
 refine ⟨mi.refield K (fun y hy => ?_) (fun hy => ?_) ?_,own_keep sw.sg K (fun b hb hm => ?_),own_keep hown kset (fun b hb hm => ?_), ?_,K,hm1⟩
 ·rcases List.mem_cons.1 hy with rfl | hy
  ·exact ⟨hB,mi.gb.bA⟩
  ·exact ⟨Nat.le_trans mi.lo (own_block sw.ww _ (hBw _ hy)).1,sw.wA _ (hBw _ hy)⟩
 ·rcases List.mem_cons.1 hy with e | hy
  ·have h2:=mi.gb.tx
   rw [e,gmw] at h2
   unfold txsO at h2
   simp at h2
  ·have h2:=mi.gb.tx
   unfold txsO at h2
   exact own_ne sw.ww h2 (by decide) (hBw _ hy)
 ·unfold gmO at hm1 ⊢
  rw [heap_set hm1]
  rfl
 ·rcases List.mem_cons.1 hm with rfl | hm
  ·exact own_ne sw.sg gmw (by decide) hb
  ·have h1:=hBw _ hm
   obtain ⟨cur1,h2⟩:=own_bt sw.ww h1
   exact own_ne sw.sg h2 (by decide) hb
 ·simp at hm
  subst hm
  unfold gmO at hm1
  exact own_ne hown hm1 (by decide) hb
 ·rcases hat with h1 | h1
  ·exact sw.wA _ h1
  ·exact fun hm=>by have:=(mi.gb.gg.lt _ hm).2; omega
theorem add_s {w z X z1:World} {base s m:Nat} {N:Int} {p:Value} {Tp:Nat→Nat} {B Xb cap:Nat} {cur:Array Value} {sv wv rv:Value} {q:Nat} {L:List Ac} {g:Rg} {T:Nat→Tx} {R:Nat→List (Int × Int)} {A:List Nat} {n nw g1 c1:Nat} {xs us ws:List Value} (mi:MI w z base s m N p Tp B Xb cap cur sv wv rv q L g T R A) (sg:z.ownsRow base 51 8 sv n xs) (sA : ∀ y,sv.ownBlock=some y→y ∉ A) (ww:z.ownsRow base 47 1 wv nw ws) (hB:w.heap.size≤B) (kX:Keep [] z X)
  (hown:z1.ownsRow base 51 8 (.slice (some ⟨g1,0,none⟩) (n+1) c1) (n+1) us) (hgrow:X.grownBy z1 sv.ownBlock) (hat:sv.ownBlock=some g1∨z.heap.size≤g1) :
  MI w (z1.setCell ⟨B,2,none⟩ (.slice (some ⟨g1,0,none⟩) (n+1) c1)) base s m N p Tp B Xb cap cur (.slice (some ⟨g1,0,none⟩) (n+1) c1) wv rv q L g T R A∧(z1.setCell ⟨B,2,none⟩ (.slice (some ⟨g1,0,none⟩) (n+1) c1)).ownsRow base 47 1 wv nw ws∧(z1.setCell ⟨B,2,none⟩ (.slice (some ⟨g1,0,none⟩) (n+1) c1)).ownsRow base 51 8 (.slice (some ⟨g1,0,none⟩) (n+1) c1) (n+1) us∧g1 ∉ A∧Keep (B :: sv.ownBlock.toList) z (z1.setCell ⟨B,2,none⟩ (.slice (some ⟨g1,0,none⟩) (n+1) c1))∧z1.heap[B]? = some (gmO p (.slice (some ⟨Xb,0,none⟩) 4 cap) sv wv rv):=by
 have k0:Keep sv.ownBlock.toList z z1:=(kX.mono (fun b hb=>by simp at hb)).grown hgrow (fun b hb=>Or.inl (by rw [hb]; simp))
 have gm:=mi.gb.gm
 have hm1:=gm_keepB gm sg (by decide) k0
 have kset:Keep [B] z1 (z1.setCell ⟨B,2,none⟩ (.slice (some ⟨g1,0,none⟩) (n+1) c1)):=(Keep.refl _ _).setCell _ _ (Or.inl (by simp))
 have K:Keep (B :: sv.ownBlock.toList) z (z1.setCell ⟨B,2,none⟩ (.slice (some ⟨g1,0,none⟩) (n+1) c1)):=(k0.mono (fun b hb=>by simp at hb ⊢; exact Or.inr hb)).trans kset (fun b hb=>by simp at hb; subst hb; exact Or.inl (by simp))
 have hBw : ∀ b,b ∈ sv.ownBlock.toList→sv.ownBlock=some b:=fun b hb=>by simpa using hb
 have gmw:z.heap[B]? = some (.cells #[p,.slice (some ⟨Xb,0,none⟩) 4 cap,sv,wv,rv] 44 (0,0)):=gm
 refine ⟨mi.refield K (fun y hy => ?_) (fun hy => ?_) ?_,own_keep ww K (fun b hb hm => ?_),own_keep hown kset (fun b hb hm => ?_), ?_,K,hm1⟩
 ·rcases List.mem_cons.1 hy with rfl | hy
  ·exact ⟨hB,mi.gb.bA⟩
  ·exact ⟨Nat.le_trans mi.lo (own_block sg _ (hBw _ hy)).1,sA _ (hBw _ hy)⟩
 ·rcases List.mem_cons.1 hy with e | hy
  ·have h2:=mi.gb.tx
   rw [e,gmw] at h2
   unfold txsO at h2
   simp at h2
  ·have h2:=mi.gb.tx
   unfold txsO at h2
   exact own_ne sg h2 (by decide) (hBw _ hy)
 ·unfold gmO at hm1 ⊢
  rw [heap_set hm1]
  rfl
 ·rcases List.mem_cons.1 hm with rfl | hm
  ·exact own_ne ww gmw (by decide) hb
  ·have h1:=hBw _ hm
   obtain ⟨cur1,h2⟩:=own_bt sg h1
   exact own_ne ww h2 (by decide) hb
 ·simp at hm
  subst hm
  unfold gmO at hm1
  exact own_ne hown hm1 (by decide) hb
 ·rcases hat with h1 | h1
  ·exact sA _ h1
  ·exact fun hm=>by have:=(mi.gb.gg.lt _ hm).2; omega
theorem ad_base {w:World} {b:Nat} (h:b≤w.heap.size) (o:Obj):b≤(World.drew (w.alloc o)).heap.size:=by
 show b≤(w.alloc o).heap.size
 simp
 omega
theorem ad_lt {w:World} {b i:Nat} (h:b < w.heap.size) (o:Obj):(⟨b,i,none⟩:Addr).block < (World.drew (w.alloc o)).heap.size:=by
 show b < (w.alloc o).heap.size
 simp
 omega
theorem ad_size (w:World) (o:Obj):(World.drew (w.alloc o)).heap.size=w.heap.size+1:=by
 show (w.alloc o).heap.size=_
 simp
theorem ad_cell {w:World} {b i:Nat} {v:Value} (h:b < w.heap.size) (hc:w.cell? ⟨b,i,none⟩=some v) (o:Obj):(World.drew (w.alloc o)).cell? ⟨b,i,none⟩=some v:=by
 show (w.alloc o).cell? ⟨b,i,none⟩=some v
 simp [h,World.cell?_alloc_past,hc]
theorem ad_frozen {w:World} {b i:Nat} (h:b < w.heap.size) (hc:w.frozen? ⟨b,i,none⟩=false) (o:Obj):(World.drew (w.alloc o)).frozen? ⟨b,i,none⟩=false:=by
 show (w.alloc o).frozen? ⟨b,i,none⟩=false
 rw [World.frozen?_alloc_past _ _ _ h]
 exact hc
theorem nn_len {n:Nat} (h:n≤1099511627776):n+1≤maxLen:=by unfold maxLen; omega
theorem nn_64 {n:Nat} (h:n≤1099511627776):((n+1)+(n+1) / 4+192) * 64≤281474976710656:=by omega
theorem at_or {v:Value} {g n:Nat} (h:v.ownBlock=some g∨g=n+1):v.ownBlock=some g∨n≤g:=by
 rcases h with h | h
 ·exact Or.inl h
 ·exact Or.inr (by omega)
theorem step_lies_any {P:Program} (w:World) {ops:Array Oper} {tm:Array Value} {o:Oper} {a:Act} {K:Act→World→Prop} {Q:Exit→Act→World→Prop} {E:Prop} (hgd:o.guard=none) (s x:Operand) (t:TypeId)
  (ho:o.op = .call { callee:=.builtin .append,args:=#[s,x],argTypes:=#[t,t] })
  (base:Nat) (e:TypeId) (i:TypeInfo) (z:Value) (size bytes:Nat) (ht:P.underlying t=some (.slice e)) (hi:P.info? e=some i) (hz:i.zero=some z)
  (hsize:i.size=size) (hby:i.bytes=bytes) (hzs:z.cells.size=size) (hsz:0 < size)
  (v:Value) (n:Nat) (xs:List Value) (hs:a.eval s=v) (hown:w.ownsRow base e size v n xs)
  (ad:Addr) (m c:Nat) (news:List Value) (hx:a.eval x = .slice (some ad) m c) (hl:news.length=m * size) (hnews : ∀ j u,news[j]? = some u→w.cell? (ad.add j)=some u) (h1 : ∀ u ∈ news,u.oneCell'=true)
  (hm:0 < m) (h63:n+m≤maxLen) (hbytes:((n+m)+(n+m) / 4+192) * bytes≤281474976710656) (hbase:base≤w.heap.size) (H:Nat) (hH:w.heap.size=H)
  (h : ∀ g cap w', w'.ownsRow base e size (.slice (some ⟨g, 0, none⟩) (n + m) cap) (n + m) (xs ++ news) → w.grownBy w' v.ownBlock → (v.ownBlock = some g ∨ g = H) → g < w'.heap.size → K (a.put o.dst (.slice (some ⟨g, 0, none⟩) (n + m) cap)) w') :
  if Region.wanted o (yielded ops tm)=true then Oper.wp P o a w K Q else E:=by
 have hw:Region.wanted o (yielded ops tm)=true:=by simp [Region.wanted,hgd]
 rw [if_pos hw]
 exact wp_lies_wide w s x t ho base e i z size bytes ht hi hz hsize hby hzs hsz v n xs hs hown ad m c news hx hl hnews h1 hm h63 hbytes hbase H hH h
def prE (e:Ev):Int × Int:=(e.cell,e.value)
def KT (H:List Nat) (w:World) (ts:List TypeId):Prop:=∀ z ∈ H,∃ cs t,w.heap[z]? = some (.cells cs t (0,0))∧t ∈ ts
theorem kt_own {w:World} {base n s:Nat} {e:TypeId} {v:Value} {xs:List Value} {H:List Nat} {ts:List TypeId} (h:w.ownsRow base e s v n xs) (k:KT H w ts) (he:e ∉ ts) : ∀ b,v.ownBlock=some b→b ∉ H:=fun b hb hm=>by
 obtain ⟨cs,t,h1,h2⟩:=k b hm
 obtain ⟨cur,h3⟩:=own_bt h hb
 rw [h1] at h3
 simp at h3
 exact he (h3.2 ▸ h2)
theorem kt_row {w:World} {b:Nat} {cs:Array Value} {t:TypeId} {H:List Nat} {ts:List TypeId} (h:w.heap[b]? = some (.cells cs t (0,0))) (k:KT H w ts) (he:t ∉ ts):b ∉ H:=fun hm=>by
 obtain ⟨cs', t', h1, h2⟩ := k b hm
 rw [h1] at h
 simp at h
 exact he (h.2 ▸ h2)
theorem kt_cons {w:World} {b:Nat} {cs:Array Value} {t:TypeId} {base n s:Nat} {e:TypeId} {v:Value} {xs:List Value} {ts:List TypeId} (h:w.heap[b]? = some (.cells cs t (0,0))) (ht:t ∈ ts) (o:w.ownsRow base e s v n xs) (he:e ∈ ts):KT (b :: v.ownBlock.toList) w ts:=fun z hz=>by
 rcases List.mem_cons.1 hz with rfl | hz
 ·exact ⟨cs,t,h,ht⟩
 ·obtain ⟨cur,h3⟩:=own_bt o (show v.ownBlock=some z by simpa using hz)
  exact ⟨cur,e,h3,he⟩
structure RdL (w:World) (base Rb:Nat) (A:List Nat) (cur:Array Value) (E:Nat→List Ev) (R:Nat→List (Int × Int)):Prop where
 blk:w.heap[Rb]? = some (.cells cur 45 (0,0))
 sz:cur.size=4
 row : ∀ i, i < 4 → ∃ c, cur[i]? = some c ∧ w.ownsRow base 58 19 c (E i).length (evsC (E i)) ∧ ∀ b, c.ownBlock = some b → b ∉ A ∧ ∀ j c', j < 4 → j ≠ i → cur[j]? = some c' → c'.ownBlock ≠ some b
 rd : ∀ i,i < 4→(E i).map prE=R i
 nA:Rb ∉ A
def RdZ (w:World) (base Rb:Nat) (A:List Nat) (R:Nat→List (Int × Int)):Prop:=∃ cur E,RdL w base Rb A cur E R
theorem RdZ.keep {w w':World} {base Rb:Nat} {A H:List Nat} {R:Nat→List (Int × Int)} {ts:List TypeId} (h:RdZ w base Rb A R) (k:Keep H w w') (kt:KT H w ts) (h1:45 ∉ ts) (h2:58 ∉ ts):RdZ w' base Rb A R:=by
 obtain ⟨cur,E,h⟩:=h
 exact ⟨cur,E,keep_row k h.blk (kt_row h.blk kt h1),h.sz,fun i hi=>by
    obtain ⟨c,c1,c2,c3⟩:=h.row i hi
    exact ⟨c,c1,own_keep c2 k (kt_own c2 kt h2),c3⟩,h.rd,h.nA⟩
theorem RdZ.below {w w':World} {base Rb:Nat} {A:List Nat} {R:Nat→List (Int × Int)} (h:RdZ w base Rb A R) (k:Below w.heap.size w w'):RdZ w' base Rb A R :=
 h.keep (Keep.of_below k []) (ts:=[]) (fun z hz=>by simp at hz) (by simp) (by simp)
theorem RdZ.next {w w':World} {base Rb:Nat} {A A':List Nat} {R:Nat→List (Int × Int)} (h:RdZ w base Rb A R) (k:Next A A' w w'):RdZ w' base Rb A' R:=by
 obtain ⟨cur,E,h⟩:=h
 refine ⟨cur,E,keep_row k.1 h.blk h.nA,h.sz,fun i hi => ?_,h.rd,fun e => ?_⟩
 ·obtain ⟨c,c1,c2,c3⟩:=h.row i hi
  refine ⟨c,c1,own_keep c2 k.1 (fun b hb=>(c3 b hb).1),fun b hb=>⟨fun e => ?_,(c3 b hb).2⟩⟩
  rcases k.2 b e with e | e
  ·exact (c3 b hb).1 e
  ·have:=(c2.lt b hb).2; omega
 ·rcases k.2 Rb e with e | e
  ·exact h.nA e
  ·have:=heap_lt h.blk; omega
theorem RdZ.at_ {w:World} {base Rb:Nat} {A:List Nat} {R:Nat→List (Int × Int)} (h:RdZ w base Rb A R) {k:Nat} (hk:k < 4) : ∃ a cap,w.cell? ⟨Rb,k,none⟩=some (.slice a (R k).length cap)∧w.frozen? ⟨Rb,k,none⟩=false∧Rb < w.heap.size ∧
  (∀ q,q < (R k).length → ∃ gb,a=some ⟨gb,0,none⟩∧gb < w.heap.size∧w.cell? ⟨gb,q * 19+4,none⟩=some (.int .i64 ((R k).getD q (0,0)).1)∧w.cell? ⟨gb,q * 19+5,none⟩=some (.int .i64 ((R k).getD q (0,0)).2)) ∧
  ∃ E:List Ev,E.length=(R k).length∧w.ownsRow base 58 19 (.slice a (R k).length cap) (R k).length (evsC E):=by
 obtain ⟨cur,E,h⟩:=h
 obtain ⟨c,c1,c2,c3⟩:=h.row k hk
 have hl:(E k).length=(R k).length:=by rw [← h.rd k hk,List.length_map]
 obtain ⟨a,cap,rfl⟩:=own_slice c2
 rw [hl] at c2 c1
 refine ⟨a,cap,(cell_at h.blk k).trans c1,frozen_at h.blk k,heap_lt h.blk,fun q hq => ?_,E k,hl,c2⟩
 obtain ⟨gb,rfl⟩:=own_form2 c2 (by omega)
 have hq2:q < (E k).length:=by omega
 have hR:(R k).getD q (0,0)=prE (E k)[q]:=by
  rw [← h.rd k hk,List.getD_eq_getElem?_getD,List.getElem?_map,List.getElem?_eq_getElem hq2]
  rfl
 rw [hR]
 rw [← hl] at c2
 refine ⟨gb,rfl,(c2.lt gb rfl).2, ?_, ?_⟩
 ·rw [ev_cell c2 hq2 (by decide)]; rfl
 ·rw [ev_cell c2 hq2 (by decide)]; rfl
theorem cur_set {cur:Array Value} (hs:cur.size=4) {k:Nat} (hk:k < 4) (v:Value) (i:Nat) (hi:i < 4):(cur.setIfInBounds k v)[i]? = if i=k then some v else cur[i]?:=by
 rw [Array.getElem?_setIfInBounds]
 by_cases e:k=i
 ·subst e; rw [if_pos rfl,if_pos rfl,if_pos (by omega)]
 ·rw [if_neg e,if_neg (fun h=>e h.symm)]
theorem RdZ.nil {w:World} {base Rb:Nat} {A:List Nat} {R:Nat→List (Int × Int)} (h:RdZ w base Rb A R) {k:Nat} (hk:k < 4):RdZ (w.setCell ⟨Rb,k,none⟩ (.slice none 0 0)) base Rb A (setT R k []):=by
 obtain ⟨cur,E,h⟩:=h
 have kset:Keep [Rb] w (w.setCell ⟨Rb,k,none⟩ (.slice none 0 0)):=(Keep.refl _ _).setCell _ _ (Or.inl (by simp))
 refine ⟨cur.setIfInBounds k (.slice none 0 0),setT E k [],heap_set h.blk k _,by simp [h.sz],fun i hi => ?_,fun i hi => ?_,h.nA⟩
 ·by_cases e:i=k
  ·subst e
   refine ⟨_,(cur_set h.sz hk _ i hi).trans (if_pos rfl), ?_,fun b hb=>by simp [Value.ownBlock] at hb⟩
   rw [setT_self]
   exact World.ownsRow_nil _ _ _ _
  ·obtain ⟨c,c1,c2,c3⟩:=h.row i hi
   rw [setT_else E _ e]
   refine ⟨c,(cur_set h.sz hk _ i hi).trans ((if_neg e).trans c1),own_keep c2 kset (fun b hb hm => ?_),fun b hb=>⟨(c3 b hb).1,fun j c' hj hji hc' => ?_⟩⟩
   ·simp at hm; subst hm; exact own_ne c2 h.blk (by decide) hb
   ·rw [cur_set h.sz hk _ j hj] at hc'
    split at hc'
    ·obtain rfl:=Option.some.inj hc'
     simp [Value.ownBlock]
    ·exact (c3 b hb).2 j c' hj hji hc'
 ·by_cases e:i=k
  ·subst e; rw [setT_self,setT_self]; rfl
  ·rw [setT_else E _ e,setT_else R _ e]; exact h.rd i hi
theorem RdZ.push {w X w1:World} {base Rb:Nat} {A:List Nat} {R:Nat→List (Int × Int)} (h:RdZ w base Rb A R) {k:Nat} (hk:k < 4) (hA : ∀ z ∈ A,z < w.heap.size) {v:Value} {E0:List Ev} {e:Ev} {g1 c1 n:Nat} (hc:w.cell? ⟨Rb,k,none⟩=some v) (hn:n=(R k).length) (hE:E0.map prE=R k) (kX:Keep [] w X)
  (hown:w1.ownsRow base 58 19 (.slice (some ⟨g1,0,none⟩) (n+1) c1) (n+1) (evsC E0++evC e)) (hgrow:X.grownBy w1 v.ownBlock) (hat:v.ownBlock=some g1∨w.heap.size≤g1) :
  RdZ (w1.setCell ⟨Rb,k,none⟩ (.slice (some ⟨g1,0,none⟩) (n+1) c1)) base Rb A (setT R k (R k ++ [prE e]))∧Keep (Rb :: v.ownBlock.toList) w (w1.setCell ⟨Rb,k,none⟩ (.slice (some ⟨g1,0,none⟩) (n+1) c1))∧KT (Rb :: v.ownBlock.toList) w [45,58] ∧ (∀ z,v.ownBlock=some z→base≤z∧z ∉ A)∧Rb ∉ A:=by
 obtain ⟨cur,E,h⟩:=h
 obtain ⟨c,d1,d2,d3⟩:=h.row k hk
 obtain rfl:c=v:=by rw [cell_at h.blk k,d1] at hc; exact Option.some.inj hc
 have k0:Keep c.ownBlock.toList w w1:=(kX.mono (fun b hb=>by simp at hb)).grown hgrow (fun b hb=>Or.inl (by rw [hb]; simp))
 have kset:Keep [Rb] w1 (w1.setCell ⟨Rb,k,none⟩ (.slice (some ⟨g1,0,none⟩) (n+1) c1)):=(Keep.refl _ _).setCell _ _ (Or.inl (by simp))
 have K:Keep (Rb :: c.ownBlock.toList) w (w1.setCell ⟨Rb,k,none⟩ (.slice (some ⟨g1,0,none⟩) (n+1) c1)):=(k0.mono (fun b hb=>by simp at hb ⊢; exact Or.inr hb)).trans kset (fun b hb=>by simp at hb; subst hb; exact Or.inl (by simp))
 have hRc:c.ownBlock≠some Rb:=own_ne d2 h.blk (by decide)
 have hb1:w1.heap[Rb]? = some (.cells cur 45 (0,0)):=keep_row k0 h.blk (fun hm=>hRc (by simpa using hm))
 refine ⟨⟨cur.setIfInBounds k (.slice (some ⟨g1,0,none⟩) (n+1) c1),setT E k (E0 ++ [e]),heap_set hb1 k _,by simp [h.sz],fun i hi => ?_,fun i hi => ?_,h.nA⟩,K,kt_cons h.blk (by simp) d2 (by simp),fun z hz=>⟨(d2.lt z hz).1,(d3 z hz).1⟩,h.nA⟩
 ·by_cases e1:i=k
  ·subst e1
   refine ⟨_,(cur_set h.sz hk _ i hi).trans (if_pos rfl), ?_,fun b hb=>⟨?_,fun j c' hj hji hc' => ?_⟩⟩
   ·rw [setT_self]
    have hl:(E0 ++ [e]).length=n+1:=by
     have:=congrArg List.length hE
     rw [List.length_map] at this
     simp; omega
    rw [hl,evsC_snoc]
    exact own_keep hown kset (fun b hb hm=>by simp at hm; subst hm; exact own_ne hown hb1 (by decide) hb)
   ·simp [Value.ownBlock] at hb
    subst hb
    rcases hat with e2 | e2
    ·exact (d3 _ e2).1
    ·exact fun hm=>by have:=hA _ hm; omega
   ·simp [Value.ownBlock] at hb
    subst hb
    rw [cur_set h.sz hk _ j hj,if_neg hji] at hc'
    rcases hat with e2 | e2
    ·exact (d3 _ e2).2 j c' hj hji hc'
    ·intro h9
     obtain ⟨c2,f1,f2,f3⟩:=h.row j hj
     obtain rfl:=Option.some.inj (f1.symm.trans hc')
     have:=(f2.lt _ h9).2
     omega
  ·obtain ⟨c2,f1,f2,f3⟩:=h.row i hi
   rw [setT_else E _ e1]
   refine ⟨c2,(cur_set h.sz hk _ i hi).trans ((if_neg e1).trans f1),own_keep f2 K (fun b hb hm => ?_),fun b hb=>⟨(f3 b hb).1,fun j c' hj hji hc' => ?_⟩⟩
   ·rcases List.mem_cons.1 hm with e2 | e2
    ·subst e2; exact own_ne f2 h.blk (by decide) hb
    ·exact (f3 b hb).2 k c hk (fun e3=>e1 e3.symm) d1 (by simpa using e2)
   ·rw [cur_set h.sz hk _ j hj] at hc'
    split at hc'
    ·obtain rfl:=Option.some.inj hc'
     intro h9
     simp [Value.ownBlock] at h9
     subst h9
     rcases hat with e2 | e2
     ·exact (f3 _ hb).2 k c hk (fun e3=>e1 e3.symm) d1 e2
     ·have:=(f2.lt _ hb).2; omega
    ·exact (f3 b hb).2 j c' hj hji hc'
 ·by_cases e1:i=k
  ·subst e1; rw [setT_self,setT_self,List.map_append,hE]; rfl
  ·rw [setT_else E _ e1,setT_else R _ e1]; exact h.rd i hi
theorem WsL.keep {w w':World} {base:Nat} {wv:Value} {ws:List Value} {G:List (List Wt)} {H:List Nat} {ts:List TypeId} (h:WsL w base wv ws G) (k:Keep H w w') (kt:KT H w ts) (h1:47 ∉ ts) (h2:60 ∉ ts):WsL w' base wv ws G :=
 ⟨own_keep h.row k (kt_own h.row kt h1),fun i hi=>by
    obtain ⟨v,e1,e2,e3⟩:=h.each i hi
    exact ⟨v,e1,own_keep e2 k (kt_own e2 kt h2),e3⟩⟩
theorem WsL.snoc {w w':World} {base g1 c1:Nat} {wv u:Value} {ws:List Value} {G:List (List Wt)} {W:List Wt} {H:List Nat} {ts:List TypeId} (h:WsL w base wv ws G) (k:Keep H w w') (kt:KT H w ts) (h2:60 ∉ ts) (hrow:w'.ownsRow base 47 1 (.slice (some ⟨g1,0,none⟩) (G.length+1) c1) (G.length+1) (ws ++ [u])) (hu:w'.ownsRow base 60 2 u W.length (wtC W)) (hW:W.length≤24):WsL w' base (.slice (some ⟨g1,0,none⟩) (G.length+1) c1) (ws ++ [u]) (G ++ [W]):=by
 have hl:ws.length=G.length:=by have:=h.row.1; omega
 refine ⟨by simpa using hrow,fun i hi => ?_⟩
 by_cases e:i < G.length
 ·obtain ⟨v,e1,e2,e3⟩:=h.each i e
  have hg:(G ++ [W]).getD i [] = G.getD i []:=by
   rw [List.getD_eq_getElem?_getD,List.getElem?_append_left e,← List.getD_eq_getElem?_getD]
  rw [hg]
  exact ⟨v,(List.getElem?_append_left (by omega)).trans e1,own_keep e2 k (kt_own e2 kt h2),e3⟩
 ·have:i=G.length:=by simp at hi; omega
  subst this
  have hg:(G ++ [W]).getD G.length [] = W:=by
   rw [List.getD_eq_getElem?_getD,List.getElem?_append_right (Nat.le_refl _)]; simp
  rw [hg]
  exact ⟨u,by rw [← hl,List.getElem?_append_right (Nat.le_refl _)]; simp,hu,hW⟩
def WsN (A:List Nat) (ws:List Value):Prop:=∀ v ∈ ws,∀ b,v.ownBlock=some b→b ∉ A
theorem WsL.next {w w':World} {base:Nat} {wv:Value} {ws:List Value} {G:List (List Wt)} {A A':List Nat} (h:WsL w base wv ws G) (hN:WsN A ws) (wA : ∀ z,wv.ownBlock=some z→z ∉ A) (k:Next A A' w w'):WsL w' base wv ws G∧WsN A' ws:=by
 have hl:ws.length=G.length:=by have:=h.row.1; omega
 refine ⟨⟨own_keep h.row k.1 wA,fun i hi => ?_⟩,fun v hv b hb e => ?_⟩
 ·obtain ⟨v,e1,e2,e3⟩:=h.each i hi
  exact ⟨v,e1,own_keep e2 k.1 (hN v (List.mem_of_getElem? e1)),e3⟩
 ·rcases k.2 b e with e | e
  ·exact hN v hv b hb e
  ·obtain ⟨i,hi,rfl⟩:=List.getElem_of_mem hv
   obtain ⟨v', e1, e2, e3⟩ := h.each i (by omega)
   rw [List.getElem?_eq_getElem hi] at e1
   obtain rfl:=Option.some.inj e1
   have:=(e2.lt b hb).2
   omega
theorem SW.keep {wr w':World} {base:Nat} {sv wv:Value} {A H:List Nat} {S:List (List Nat)} {ws:List Value} {n:Nat} {ts:List TypeId} (h:SW wr base sv wv A S ws n) (k:Keep H wr w') (kt:KT H wr ts) (h1:51 ∉ ts) (h2:47 ∉ ts):SW w' base sv wv A S ws n :=
 ⟨own_keep h.sg k (kt_own h.sg kt h1),h.sl,own_keep h.ww k (kt_own h.ww kt h2),h.sA,h.wA⟩
theorem MI.kept {w wr w':World} {base s m:Nat} {N:Int} {p:Value} {Tp:Nat→Nat} {B X cap:Nat} {cur:Array Value} {sv wv rv:Value} {q:Nat} {L:List Ac} {g:Rg} {T:Nat→Tx} {R:Nat→List (Int × Int)} {A H:List Nat} (h:MI w wr base s m N p Tp B X cap cur sv wv rv q L g T R A) (k:Keep H wr w') (h1 : ∀ z ∈ H,w.heap.size≤z∧z ∉ A) (kt:KT H wr [45,58]):MI w w' base s m N p Tp B X cap cur sv wv rv q L g T R A:=by
 have gm:=h.gb.gm
 have tx:=h.gb.tx
 unfold gmO at gm
 unfold txsO at tx
 exact h.other k h1 (kt_row gm kt (by decide)) (kt_row tx kt (by decide))
end Go.Proofs.YtdkpgdkjohjcaaaGreat
namespace Go.Proofs.YtdkpgdkjohjcaaaGreat
open Go.ChangeShapes Go.WideShapes Go.ChangeAt Go.RowKit
attribute [local go_sem ↓] Go.wp_at_zero Go.wp_at_succ
set_option linter.unusedVariables false
def findReg (n:Nat):Code→Option Code
 | .region k ops d=>if k=n then some (.region k ops d) else none
 | .seq a b=>match findReg n a with
  | some c=>some c
  | none=>findReg n b
 | .block _ c=>findReg n c
 | .scope c=>findReg n c
 | .loop c=>findReg n c
 | .cond _ a b=>match findReg n a with
  | some c=>some c
  | none=>findReg n b
 | _=>none
--<PR2
def g9 (xs:Array Value) (i:Nat):Value:=xs.getD i undef
theorem wp_code {P:Program} {c c':Code} {Q:Exit→Act→World→Prop} {a:Act} {w:World} (h:c=c') (hw:Code.wp P c' Q a w):Code.wp P c Q a w:=h ▸ hw
end Go.Proofs.YtdkpgdkjohjcaaaGreat
namespace Go.Proofs.YtdkpgdkjohjcaaaGreat
open Go.ChangeShapes Go.WideShapes Go.ChangeAt Go.RowKit
def Z2 (w wq:World) (base s m:Nat) (N:Int) (p:Value) (Tp:Nat→Nat) (B X cap Rb:Nat) (cur:Array Value) (q:Nat) (L:List Ac) (g:Rg) (T:Nat→Tx) (R:Nat→List (Int × Int)) (A:List Nat) (wv:Value) (G:List (List Wt)) (R':Nat→List (Int × Int)):Prop :=
 ∃ sv S ws,MI w wq base s m N p Tp B X cap cur sv wv (.slice (some ⟨Rb,0,none⟩) 4 4) q L g T R A∧SW wq base sv wv A S ws G.length∧WsL wq base wv ws G∧WsN A ws∧RdZ wq base Rb A R'
theorem Z2.below {w wq w':World} {base s m:Nat} {N:Int} {p:Value} {Tp:Nat→Nat} {B X cap Rb:Nat} {cur:Array Value} {q:Nat} {L:List Ac} {g:Rg} {T:Nat→Tx} {R:Nat→List (Int × Int)} {A:List Nat} {wv:Value} {G:List (List Wt)} {R':Nat→List (Int × Int)}
  (h:Z2 w wq base s m N p Tp B X cap Rb cur q L g T R A wv G R') (k:Below wq.heap.size wq w'):Z2 w w' base s m N p Tp B X cap Rb cur q L g T R A wv G R':=by
 obtain ⟨sv,S,ws,h1,h2,h3,hN,h4⟩:=h
 exact ⟨sv,S,ws,h1.below k,h2.below k,h3.below k,hN,h4.below k⟩
theorem Z2.see {w wq:World} {base s m:Nat} {N:Int} {p:Value} {Tp:Nat→Nat} {B X cap Rb:Nat} {cur:Array Value} {q:Nat} {L:List Ac} {g:Rg} {T:Nat→Tx} {R:Nat→List (Int × Int)} {A:List Nat} {wv:Value} {G:List (List Wt)} {R':Nat→List (Int × Int)}
  (h:Z2 w wq base s m N p Tp B X cap Rb cur q L g T R A wv G R') {k:Nat} (hk:k < 4) : ∃ va vcap,wv = .slice va G.length vcap∧wq.cell? ⟨B,3,none⟩=some (.slice va G.length vcap)∧wq.cell? ⟨B,4,none⟩=some (.slice (some ⟨Rb,0,none⟩) 4 4)∧B < wq.heap.size ∧
  ∃ a c,wq.cell? ⟨Rb,k,none⟩=some (.slice a (R' k).length c)∧wq.frozen? ⟨Rb,k,none⟩=false∧Rb < wq.heap.size ∧
  ∀ i,i < (R' k).length → ∃ gb,a=some ⟨gb,0,none⟩∧gb < wq.heap.size∧wq.cell? ⟨gb,i * 19+4,none⟩=some (.int .i64 ((R' k).getD i (0,0)).1)∧wq.cell? ⟨gb,i * 19+5,none⟩=some (.int .i64 ((R' k).getD i (0,0)).2):=by
 obtain ⟨sv,S,ws,h1,h2,h3,hN,h4⟩:=h
 obtain ⟨va,vcap,rfl⟩:=own_slice h3.row
 obtain ⟨a,c,r1,r2,r3,r4,_⟩:=h4.at_ hk
 exact ⟨va,vcap,rfl,gm_c3 h1.gb.gm,gm_c4 h1.gb.gm,heap_lt h1.gb.gm,a,c,r1,r2,r3,r4⟩
theorem Z2.value {w wq:World} {base s m:Nat} {N:Int} {p:Value} {Tp:Nat→Nat} {B X cap Rb:Nat} {cur:Array Value} {q:Nat} {L:List Ac} {g:Rg} {T:Nat→Tx} {R:Nat→List (Int × Int)} {A:List Nat} {wv:Value} {G:List (List Wt)} {R':Nat→List (Int × Int)}
  (h:Z2 w wq base s m N p Tp B X cap Rb cur q L g T R A wv G R') (hG:G.length≤100000000) (cell stamp:Int):Calls Tryz.prog 14 #[.pointer (some ⟨B,0,none⟩),.int .i64 cell,.int .i64 stamp] wq fun e w' => e = .returned (.int .i64 (valG cell G stamp))∧w'=wq:=by
 obtain ⟨sv,S,ws,h1,h2,h3,hN,h4⟩:=h
 exact value_g h1.gb.gm h3 hG cell stamp
theorem Z2.rows {w wq:World} {base s m:Nat} {N:Int} {p:Value} {Tp:Nat→Nat} {B X cap Rb:Nat} {cur:Array Value} {q:Nat} {L:List Ac} {g:Rg} {T:Nat→Tx} {R:Nat→List (Int × Int)} {A:List Nat} {wv:Value} {G:List (List Wt)} {R':Nat→List (Int × Int)}
  (h:Z2 w wq base s m N p Tp B X cap Rb cur q L g T R A wv G R') {w':World} {H:List Nat} (kt:KT H wq [45,58]) (k:Keep H wq w') (hH : ∀ z ∈ H,w.heap.size≤z∧z ∉ A) {R'':Nat→List (Int × Int)} (h4:RdZ w' base Rb A R''):Z2 w w' base s m N p Tp B X cap Rb cur q L g T R A wv G R'':=by
 obtain ⟨sv,S,ws,h1,h2,h3,hN,_⟩:=h
 exact ⟨sv,S,ws,h1.kept k hH kt,h2.keep k kt (by decide) (by decide),h3.keep k kt (by decide) (by decide),hN,h4⟩
theorem Z2.nilk {w wq:World} {base s m:Nat} {N:Int} {p:Value} {Tp:Nat→Nat} {B X cap Rb:Nat} {cur:Array Value} {q:Nat} {L:List Ac} {g:Rg} {T:Nat→Tx} {R:Nat→List (Int × Int)} {A:List Nat} {wv:Value} {G:List (List Wt)} {R':Nat→List (Int × Int)}
  (h:Z2 w wq base s m N p Tp B X cap Rb cur q L g T R A wv G R') (hR0:w.heap.size≤Rb) {k:Nat} (hk:k < 4):Z2 w (wq.setCell ⟨Rb,k,none⟩ (.slice none 0 0)) base s m N p Tp B X cap Rb cur q L g T R A wv G (setT R' k [])∧Keep [Rb] wq (wq.setCell ⟨Rb,k,none⟩ (.slice none 0 0))∧KT [Rb] wq [45]:=by
 have h0:=h
 obtain ⟨sv,S,ws,h1,h2,h3,hN,h4⟩:=h0
 have kset:Keep [Rb] wq (wq.setCell ⟨Rb,k,none⟩ (.slice none 0 0)):=(Keep.refl _ _).setCell _ _ (Or.inl (by simp))
 obtain ⟨cr,E,r⟩:=h4
 have kt:KT [Rb] wq [45,58]:=fun z hz=>by
  obtain rfl:z=Rb:=by simpa using hz
  exact ⟨cr,_,r.blk,by simp⟩
 have kt1:KT [Rb] wq [45]:=fun z hz=>by
  obtain rfl:z=Rb:=by simpa using hz
  exact ⟨cr,_,r.blk,by simp⟩
 refine ⟨h.rows kt kset (fun z hz => ?_) (RdZ.nil ⟨cr,E,r⟩ hk),kset,kt1⟩
 obtain rfl:z=Rb:=by simpa using hz
 exact ⟨hR0,r.nA⟩
theorem Z2.push {w wq Xw w1:World} {base s m:Nat} {N:Int} {p:Value} {Tp:Nat→Nat} {B X cap Rb:Nat} {cur:Array Value} {q:Nat} {L:List Ac} {g:Rg} {T:Nat→Tx} {R:Nat→List (Int × Int)} {A:List Nat} {wv:Value} {G:List (List Wt)} {R':Nat→List (Int × Int)}
  (h:Z2 w wq base s m N p Tp B X cap Rb cur q L g T R A wv G R') (hR0:w.heap.size≤Rb) {k:Nat} (hk:k < 4) {v:Value} {E0:List Ev} {e:Ev} {g1 c1 n:Nat} (hc:wq.cell? ⟨Rb,k,none⟩=some v) (hn:n=(R' k).length) (hE:E0.map prE=R' k) (kX:Keep [] wq Xw)
  (hown:w1.ownsRow base 58 19 (.slice (some ⟨g1,0,none⟩) (n+1) c1) (n+1) (evsC E0++evC e)) (hgrow:Xw.grownBy w1 v.ownBlock) (hat:v.ownBlock=some g1∨wq.heap.size≤g1) :
  Z2 w (w1.setCell ⟨Rb,k,none⟩ (.slice (some ⟨g1,0,none⟩) (n+1) c1)) base s m N p Tp B X cap Rb cur q L g T R A wv G (setT R' k (R' k ++ [prE e]))∧Keep (Rb :: v.ownBlock.toList) wq (w1.setCell ⟨Rb,k,none⟩ (.slice (some ⟨g1,0,none⟩) (n+1) c1))∧KT (Rb :: v.ownBlock.toList) wq [45,58]:=by
 have h0:=h
 obtain ⟨sv,S,ws,h1,h2,h3,hN,h4⟩:=h0
 obtain ⟨r1,r2,r3,r4,r5⟩:=h4.push hk (fun z hz=>(h1.gb.gg.lt z hz).2) hc hn hE kX hown hgrow hat
 refine ⟨h.rows r3 r2 (fun z hz => ?_) r1,r2,r3⟩
 rcases List.mem_cons.1 hz with rfl | hz
 ·exact ⟨hR0,r5⟩
 ·obtain ⟨e1,e2⟩:=r4 z (by simpa using hz)
  exact ⟨Nat.le_trans h1.lo e1,e2⟩
theorem kt_keep {w w':World} {H:List Nat} {ts:List TypeId} {b:Nat} {cs:Array Value} {t:TypeId} (h:w.heap[b]? = some (.cells cs t (0,0))) (k:Keep H w w') (kt:KT H w ts) (ht:t ∉ ts):w'.heap[b]? = some (.cells cs t (0,0)):=keep_row k h (kt_row h kt ht)
def Y2 (w wr:World) (base s m:Nat) (N:Int) (p:Value) (Tp:Nat→Nat) (B X cap Rb:Nat) (cur:Array Value) (q:Nat):Prop :=
 ∃ L g T R A wv,(∀ i,i < 4→(R i).length≤q)∧Z2 w wr base s m N p Tp B X cap Rb cur q L g T R A wv g.W R
theorem wl_mid {P:Program} {ops:Array Oper} {rest:List Oper} {op:Oper} {a:Act} {w:World} {Q:Exit→Act→World→Prop} (ty:TypeId) (x:Operand) (ho:op.op = .load ty x)
  (b o:Nat) (hx:a.eval x = .pointer (some ⟨b,o,none⟩)) (cs:List Value) (d:TypeDesc) (hc:w.rangeAt b o cs) (hu:P.underlying ty=some d) (hd:d.isRow=true) (hi:(P.info? ty).map (·.size)=some cs.length) (hw:Region.wanted op (yielded ops a.tmps)=true)
  (h:wpList P ops Q rest (a.put op.dst (.agg cs.toArray)) w):wpList P ops Q (op :: rest) a w :=
 wpList_step fun K hK=>by rw [if_pos hw]; exact wp_load_mid ty x ho b o hx cs d hc hu hd hi (hK _ _ h)
theorem wl_row {P:Program} {ops:Array Oper} {rest:List Oper} {o:Oper} {a:Act} {w:World} {Q:Exit→Act→World→Prop} (ty:TypeId) (x:Operand) (ho:o.op = .load ty x)
  (g:Nat) (hx:a.eval x = .pointer (some ⟨g,0,none⟩)) (t:TypeId) (cs:Array Value) (fr:Nat × Nat) (d:TypeDesc) (hg:w.heap[g]? = some (.cells cs t fr))
  (hu:P.underlying ty=some d) (hd:(match d with | .struct _ | .array _ _=>true | _=>false)=true) (hi:(P.info? ty).map (·.size)=some cs.size) (hw:Region.wanted o (yielded ops a.tmps)=true)
  (h:wpList P ops Q rest (a.put o.dst (.agg cs)) w):wpList P ops Q (o :: rest) a w :=
 wpList_step fun K hK=>by rw [if_pos hw]; exact wp_load_row ty x ho g hx t cs fr d hg hu hd hi (hK _ _ h)
theorem neq_same (s:List Nat) (w:World):(binOp .neq 51 (.agg (sg8 s).toArray) (.agg (sg8 s).toArray)).run Tryz.prog w = .ok (.bool false) w:=by
 have h:=Sg.neq_sig [s.getD 0 0,s.getD 1 0,s.getD 2 0,s.getD 3 0,s.getD 4 0,s.getD 5 0,s.getD 6 0,s.getD 7 0] [s.getD 0 0,s.getD 1 0,s.getD 2 0,s.getD 3 0,s.getD 4 0,s.getD 5 0,s.getD 6 0,s.getD 7 0] rfl rfl w
 rw [show (!([s.getD 0 0,s.getD 1 0,s.getD 2 0,s.getD 3 0,s.getD 4 0,s.getD 5 0,s.getD 6 0,s.getD 7 0] == [s.getD 0 0,s.getD 1 0,s.getD 2 0,s.getD 3 0,s.getD 4 0,s.getD 5 0,s.getD 6 0,s.getD 7 0]))=false by simp] at h
 exact h
theorem own_low {w:World} {b b' n s:Nat} {e:TypeId} {v:Value} {xs:List Value} (h:w.ownsRow b e s v n xs) (hb:b'≤b):w.ownsRow b' e s v n xs :=
 ⟨h.1,h.2.imp id (fun ⟨g,cap,cur,e1,hg,rest⟩=>⟨g,cap,cur,e1,Nat.le_trans hb hg,rest⟩)⟩
structure Z3 (w wq:World) (base s m:Nat) (N:Int) (p:Value) (Tp:Nat→Nat) (B X cap Rb:Nat) (cur:Array Value) (q:Nat) (L:List Ac) (g:Rg) (T:Nat→Tx) (R:Nat→List (Int × Int)) (A:List Nat) (wv:Value) (G:List (List Wt)) (R':Nat→List (Int × Int)) (sv:Value) (S:List (List Nat)) (ws:List Value) (n:Nat):Prop where
 mi:MI w wq base s m N p Tp B X cap cur sv wv (.slice (some ⟨Rb,0,none⟩) 4 4) q L g T R A
 sg:wq.ownsRow base 51 8 sv n (sgsC S)
 sl:S.length=n
 gl:G.length=n+1
 sA : ∀ z,sv.ownBlock=some z→z ∉ A
 wA : ∀ z,wv.ownBlock=some z→z ∉ A
 wl:WsL wq base wv ws G
 wn:WsN A ws
 rd:RdZ wq base Rb A R'
theorem Z2.pubw {w z X' z1:World} {base s m:Nat} {N:Int} {p:Value} {Tp:Nat→Nat} {B X cap Rb:Nat} {cur:Array Value} {q:Nat} {L:List Ac} {g:Rg} {T:Nat→Tx} {R:Nat→List (Int × Int)} {A:List Nat} {wv u:Value} {ws:List Value} {G:List (List Wt)} {W:List Wt} {R':Nat→List (Int × Int)} {sv:Value} {S:List (List Nat)} {g1 c1 bw:Nat}
  (mi:MI w z base s m N p Tp B X cap cur sv wv (.slice (some ⟨Rb,0,none⟩) 4 4) q L g T R A) (sw:SW z base sv wv A S ws G.length) (wl:WsL z base wv ws G) (wn:WsN A ws) (rd:RdZ z base Rb A R') (hB:w.heap.size≤B) (kX:Keep [] z X')
  (hu:z.ownsRow bw 60 2 u W.length (wtC W)) (hbw:base≤bw) (hW:W.length≤24) (huA : ∀ b,u.ownBlock=some b→b ∉ A)
  (hown:z1.ownsRow base 47 1 (.slice (some ⟨g1,0,none⟩) (G.length+1) c1) (G.length+1) (ws ++ [u])) (hgrow:X'.grownBy z1 wv.ownBlock) (hat:wv.ownBlock=some g1∨z.heap.size≤g1) :
  Z3 w (z1.setCell ⟨B,3,none⟩ (.slice (some ⟨g1,0,none⟩) (G.length+1) c1)) base s m N p Tp B X cap Rb cur q L g T R A (.slice (some ⟨g1,0,none⟩) (G.length+1) c1) (G ++ [W]) R' sv S (ws ++ [u]) G.length∧Keep (B :: wv.ownBlock.toList) z (z1.setCell ⟨B,3,none⟩ (.slice (some ⟨g1,0,none⟩) (G.length+1) c1))∧KT (B :: wv.ownBlock.toList) z [44,47] ∧ z1.cell? ⟨B,3,none⟩=some wv∧z1.frozen? ⟨B,3,none⟩=false∧B < z1.heap.size:=by
 obtain ⟨mi2,sg2,ww2,hgA,K,hm1⟩:=add_w mi sw hB kX hown hgrow hat
 have gm:=mi.gb.gm
 unfold gmO at gm
 have kt:KT (B :: wv.ownBlock.toList) z [44,47]:=kt_cons gm (by simp) sw.ww (by simp)
 refine ⟨⟨mi2,sg2,sw.sl,by simp,sw.sA,fun y hy => ?_,wl.snoc K kt (by decide) ww2 (own_low (own_keep hu K (kt_own hu kt (by decide))) hbw) hW,fun v hv b hb => ?_,rd.keep K kt (by decide) (by decide)⟩,K,kt,gm_c3 hm1, ?_,heap_lt hm1⟩
 ·simp [Value.ownBlock] at hy; subst hy; exact hgA
 ·rcases List.mem_append.1 hv with h | h
  ·exact wn v h b hb
  ·simp at h; subst h; exact huA b hb
 ·unfold gmO at hm1; exact frozen_at hm1 3
theorem Z3.pubs {w z X' z1:World} {base s m:Nat} {N:Int} {p:Value} {Tp:Nat→Nat} {B X cap Rb:Nat} {cur:Array Value} {q:Nat} {L:List Ac} {g:Rg} {T:Nat→Tx} {R:Nat→List (Int × Int)} {A:List Nat} {wv:Value} {ws us:List Value} {G:List (List Wt)} {R':Nat→List (Int × Int)} {sv:Value} {S:List (List Nat)} {sg:List Nat} {n g1 c1:Nat}
  (h:Z3 w z base s m N p Tp B X cap Rb cur q L g T R A wv G R' sv S ws n) (hB:w.heap.size≤B) (kX:Keep [] z X') (hus:us=sg8 sg)
  (hown:z1.ownsRow base 51 8 (.slice (some ⟨g1,0,none⟩) (n+1) c1) (n+1) (sgsC S++us)) (hgrow:X'.grownBy z1 sv.ownBlock) (hat:sv.ownBlock=some g1∨z.heap.size≤g1) :
  Z2 w (z1.setCell ⟨B,2,none⟩ (.slice (some ⟨g1,0,none⟩) (n+1) c1)) base s m N p Tp B X cap Rb cur q L g T R A wv G R':=by
 have hww:z.ownsRow base 47 1 wv (n+1) ws:=by have:=h.wl.row; rwa [h.gl] at this
 obtain ⟨mi2,ww2,sg2,hgA,K,_⟩:=add_s h.mi h.sg h.sA hww hB kX hown hgrow hat
 have gm:=h.mi.gb.gm
 unfold gmO at gm
 have kt:KT (B :: sv.ownBlock.toList) z [44,51]:=kt_cons gm (by simp) h.sg (by simp)
 refine ⟨_,S ++ [sg],ws,mi2,⟨?_,by simp [h.sl,h.gl],by rw [h.gl]; exact ww2,fun y hy => ?_,h.wA⟩,h.wl.keep K kt (by decide) (by decide),h.wn,h.rd.keep K kt (by decide) (by decide)⟩
 ·rw [hus,← sgsC_snoc] at sg2
  rw [h.gl]
  exact sg2
 ·simp [Value.ownBlock] at hy; subst hy; exact hgA
end Go.Proofs.YtdkpgdkjohjcaaaGreat
namespace Go.Proofs.YtdkpgdkjohjcaaaGreat
open Go.ChangeShapes Go.WideShapes Go.ChangeAt Go.RowKit
attribute [local go_sem ↓] Go.wp_at_zero Go.wp_at_succ
set_option linter.unusedVariables false
noncomputable def reg53:Code:=((Tryz.f3.body.bind (findReg 53)).getD .skip)
theorem sig_reg {base B Pe nn n0 n1 n2 n3 n4 n5 n6 n7:Nat} {z:World} {sa:Option Addr} {sc:Nat} {xs:List Value} {Rz:World→Prop} {K:Act→World→Prop} (u0 u1 u2 u3 u4 u5 u7 u8 u9 u10 u11 u12 u13 u14 u16 u17 u18 u19 u20 u21 u22 u23 u24 u25 u26 u27 u28 u29 u30 u31 u32 u33 u34 u35 u36 u37 u38 u39 u40 u41 u42 u43 u44 u45 u46 u47 u48 u49 u50 u51 u52 u53 u54 u55 u56 u57 u58 u59 u60 u61 u62 u63 u64 u65 u66 u67 u68 u69 u70 u71 u72 u73 u74 u75 u76 u77 u78 u79 u80 u81 u82 u83 u84 u85 u86 u87 u88 u89 u90 u91 u92 u93 u94 u95 u96 u97 u98 u99 u100 u101 u102 u103 u104 u105 u106 u107 u108 u109 u110 u111 u112 u113 u114 u115 u116 u117 u118 u119 u120 u121 u122 u123 u124 u125 u126 u127 u128 u129 u130 u131 u132 u133 u134 u135 u136 u137 u138 u139 u140 u141 u142 u143 u144 u145 u146 u147 u148 u149 u150 u151 u152 u153 u154 u155 u156 u157 u158 u159 u160 u161 u162 u163 u164 u165 u166 u167 u168 u169 u170 u171 u172 u173 u174 u175 u176 u177 u178 u179 u180 u181 u182 u183 u184 u185 u186 u187 u188 u189 u190 u191 u192 u193 u194 u195 u196 u197 u198 u199 u200 u201 u202 u203 u204 u205 u206 u207 u208 u209 u210 u211 u212 u213 u214 u215 u216 u217 u218 u219 u220 u221 u222 u223 u224 u225 u226 u227 u228 u229 u230 u231 u232 u233 u234 u235 u236 u237 u238 u239 u240 u241 u242 u243 u244 u245 u246 u247 u248 u249 u250 u251 u252 u253 u254 u255 u256 u257 u258 u259 u260 u261 u262 u263 u264 u265 u266 u267 u268 u269 u270 u271 u272 u273 u274 u275 u276 u277 u278 u279 u280 u281 u282 u283 u284 u285 u286 u287 u288 u289 u290 u291 u292 u293 u294 u295 u296:Value)
  (HSG:Hid (z.ownsRow base 51 8 (.slice sa nn sc) nn xs)) (HVB:Hid ((Value.slice sa nn sc).ownBlock≠some B)) (HNN:Hid (nn≤1099511627776)) (HBB:Hid (base≤z.heap.size))
  (s2:z.cell? ⟨B,2,none⟩=some (.slice sa nn sc)) (f2:z.frozen? ⟨B,2,none⟩=false) (hB12:B < z.heap.size) (hP12:Pe < z.heap.size)
  (t0:z.cell? ⟨Pe,10,none⟩=some (.int .u64 ((n0:Nat):Int))) (t1:z.cell? ⟨Pe,11,none⟩=some (.int .u64 ((n1:Nat):Int))) (t2:z.cell? ⟨Pe,12,none⟩=some (.int .u64 ((n2:Nat):Int))) (t3:z.cell? ⟨Pe,13,none⟩=some (.int .u64 ((n3:Nat):Int))) (t4:z.cell? ⟨Pe,14,none⟩=some (.int .u64 ((n4:Nat):Int))) (t5:z.cell? ⟨Pe,15,none⟩=some (.int .u64 ((n5:Nat):Int))) (t6:z.cell? ⟨Pe,16,none⟩=some (.int .u64 ((n6:Nat):Int))) (t7:z.cell? ⟨Pe,17,none⟩=some (.int .u64 ((n7:Nat):Int)))
  (HPF:Hid (∀ (Xw z13:World) (g2 c2:Nat),Keep [] z Xw→z13.ownsRow base 51 8 (.slice (some ⟨g2,0,none⟩) (nn+1) c2) (nn+1) (xs ++ [.int .u64 ((n0:Nat):Int),.int .u64 ((n1:Nat):Int),.int .u64 ((n2:Nat):Int),.int .u64 ((n3:Nat):Int),.int .u64 ((n4:Nat):Int),.int .u64 ((n5:Nat):Int),.int .u64 ((n6:Nat):Int),.int .u64 ((n7:Nat):Int)])→Xw.grownBy z13 (Value.slice sa nn sc).ownBlock→((Value.slice sa nn sc).ownBlock=some g2∨z.heap.size≤g2)→Rz (z13.setCell ⟨B,2,none⟩ (.slice (some ⟨g2,0,none⟩) (nn+1) c2))))
  (HJ:Hid (∀ (v269 v270 v271 v272 v273 v274 v275 v276 v277 v278 v279:Value) (w':World),Rz w'→K ⟨#[u0,u1,u2,u3,u4,u5,.pointer (some ⟨B,0,none⟩),u7,u8,u9,u10,u11,u12,u13,u14,.pointer (some ⟨Pe,0,none⟩),u16,u17,u18,u19,u20,u21,u22,u23,u24,u25,u26,u27,u28,u29,u30,u31,u32,u33,u34,u35,u36,u37,u38,u39,u40,u41,u42,u43,u44,u45,u46,u47,u48,u49,u50,u51,u52,u53,u54,u55,u56,u57,u58,u59,u60,u61,u62,u63,u64,u65,u66,u67,u68,u69,u70,u71,u72,u73,u74,u75,u76,u77,u78,u79,u80,u81,u82,u83,u84,u85,u86,u87,u88,u89,u90,u91,u92,u93,u94,u95,u96,u97,u98,u99,u100,u101,u102,u103,u104,u105,u106,u107,u108,u109,u110,u111,u112,u113,u114,u115,u116,u117,u118,u119,u120,u121,u122,u123,u124,u125,u126,u127,u128,u129,u130,u131,u132,u133,u134,u135,u136,u137,u138,u139,u140,u141,u142,u143,u144,u145,u146,u147,u148,u149,u150,u151,u152,u153,u154,u155,u156,u157,u158,u159,u160,u161,u162,u163,u164,u165,u166,u167,u168,u169,u170,u171,u172,u173,u174,u175,u176,u177,u178,u179,u180,u181,u182,u183,u184,u185,u186,u187,u188,u189,u190,u191,u192,u193,u194,u195,u196,u197,u198,u199,u200,u201,u202,u203,u204,u205,u206,u207,u208,u209,u210,u211,u212,u213,u214,u215,u216,u217,u218,u219,u220,u221,u222,u223,u224,u225,u226,u227,u228,u229,u230,u231,u232,u233,u234,u235,u236,u237,u238,u239,u240,u241,u242,u243,u244,u245,u246,u247,u248,u249,u250,u251,u252,u253,u254,u255,u256,u257,u258,u259,u260,u261,u262,u263,u264,u265,u266,u267,u268,v269,v270,v271,v272,v273,v274,v275,v276,v277,v278,v279,u280,u281,u282,u283,u284,u285,u286,u287,u288,u289,u290,u291,u292,u293,u294,u295,u296],[]⟩ w')) :
  Code.wp Tryz.prog reg53 (Exit.then K (fun _ _ _=>False)) ⟨#[u0,u1,u2,u3,u4,u5,.pointer (some ⟨B,0,none⟩),u7,u8,u9,u10,u11,u12,u13,u14,.pointer (some ⟨Pe,0,none⟩),u16,u17,u18,u19,u20,u21,u22,u23,u24,u25,u26,u27,u28,u29,u30,u31,u32,u33,u34,u35,u36,u37,u38,u39,u40,u41,u42,u43,u44,u45,u46,u47,u48,u49,u50,u51,u52,u53,u54,u55,u56,u57,u58,u59,u60,u61,u62,u63,u64,u65,u66,u67,u68,u69,u70,u71,u72,u73,u74,u75,u76,u77,u78,u79,u80,u81,u82,u83,u84,u85,u86,u87,u88,u89,u90,u91,u92,u93,u94,u95,u96,u97,u98,u99,u100,u101,u102,u103,u104,u105,u106,u107,u108,u109,u110,u111,u112,u113,u114,u115,u116,u117,u118,u119,u120,u121,u122,u123,u124,u125,u126,u127,u128,u129,u130,u131,u132,u133,u134,u135,u136,u137,u138,u139,u140,u141,u142,u143,u144,u145,u146,u147,u148,u149,u150,u151,u152,u153,u154,u155,u156,u157,u158,u159,u160,u161,u162,u163,u164,u165,u166,u167,u168,u169,u170,u171,u172,u173,u174,u175,u176,u177,u178,u179,u180,u181,u182,u183,u184,u185,u186,u187,u188,u189,u190,u191,u192,u193,u194,u195,u196,u197,u198,u199,u200,u201,u202,u203,u204,u205,u206,u207,u208,u209,u210,u211,u212,u213,u214,u215,u216,u217,u218,u219,u220,u221,u222,u223,u224,u225,u226,u227,u228,u229,u230,u231,u232,u233,u234,u235,u236,u237,u238,u239,u240,u241,u242,u243,u244,u245,u246,u247,u248,u249,u250,u251,u252,u253,u254,u255,u256,u257,u258,u259,u260,u261,u262,u263,u264,u265,u266,u267,u268,u269,u270,u271,u272,u273,u274,u275,u276,u277,u278,u279,u280,u281,u282,u283,u284,u285,u286,u287,u288,u289,u290,u291,u292,u293,u294,u295,u296],[]⟩ z:=by
 have HS2:Hid (z.cell? ⟨B,2,none⟩=some (.slice sa nn sc)∧z.frozen? ⟨B,2,none⟩=false∧B < z.heap.size):=⟨s2,f2,hB12⟩
 obtain ⟨isg,hisg,sz0,sz1,sz2⟩:=info_parts info_sig2
 conv=>arg 2; whnf
 go_region_law ((refine step_lies_any _ (by rfl) _ _ _ (by rfl) base 51 isg _ 8 64 Tryz.underlying40 hisg sz0 sz1 sz2 rfl (by decide) (.slice sa nn sc) nn xs (by rfl) ((HSG.out.alloc _).drew) ⟨z.heap.size,0,none⟩ 1 1 [.int .u64 ((n0:Nat):Int),.int .u64 ((n1:Nat):Int),.int .u64 ((n2:Nat):Int),.int .u64 ((n3:Nat):Int),.int .u64 ((n4:Nat):Int),.int .u64 ((n5:Nat):Int),.int .u64 ((n6:Nat):Int),.int .u64 ((n7:Nat):Int)] (by rfl) (by rfl) (World.news_of_block (cs:=#[.int .u64 ((n0:Nat):Int),.int .u64 ((n1:Nat):Int),.int .u64 ((n2:Nat):Int),.int .u64 ((n3:Nat):Int),.int .u64 ((n4:Nat):Int),.int .u64 ((n5:Nat):Int),.int .u64 ((n6:Nat):Int),.int .u64 ((n7:Nat):Int)]) (t:=51) (fr:=(0,0)) (heap_alloc_new z _)) (by simp [Value.oneCell']) (by decide) (nn_len HNN.out) (nn_64 HNN.out) (ad_base HBB.out _) (z.heap.size+1) (ad_size _ _) ?_; intro g2 c2 z13 hown13 hgrow13 hat13 hlt13; have hs1:z13.cell? ⟨B,2,none⟩=some (.slice sa nn sc):=(hgrow13.cell_far _ (ad_lt HS2.out.2.2 _) (Ne.symm HVB.out)).trans (ad_cell HS2.out.2.2 HS2.out.1 _); have hs2:z13.frozen? ⟨B,2,none⟩=false:=(hgrow13.frozen_far _ (ad_lt HS2.out.2.2 _) (Ne.symm HVB.out)).trans (ad_frozen HS2.out.2.2 HS2.out.2.1 _)))
 all_goals exact HJ.out _ _ _ _ _ _ _ _ _ _ _ _ (HPF.out _ _ _ _ (((Keep.refl [] z).alloc _).drewN 1) hown13 hgrow13 (at_or hat13))
theorem list297 (f:Nat→Value):(List.range 297).map f = [f 0,f 1,f 2,f 3,f 4,f 5,f 6,f 7,f 8,f 9,f 10,f 11,f 12,f 13,f 14,f 15,f 16,f 17,f 18,f 19,f 20,f 21,f 22,f 23,f 24,f 25,f 26,f 27,f 28,f 29,f 30,f 31,f 32,f 33,f 34,f 35,f 36,f 37,f 38,f 39,f 40,f 41,f 42,f 43,f 44,f 45,f 46,f 47,f 48,f 49,f 50,f 51,f 52,f 53,f 54,f 55,f 56,f 57,f 58,f 59,f 60,f 61,f 62,f 63,f 64,f 65,f 66,f 67,f 68,f 69,f 70,f 71,f 72,f 73,f 74,f 75,f 76,f 77,f 78,f 79,f 80,f 81,f 82,f 83,f 84,f 85,f 86,f 87,f 88,f 89,f 90,f 91,f 92,f 93,f 94,f 95,f 96,f 97,f 98,f 99,f 100,f 101,f 102,f 103,f 104,f 105,f 106,f 107,f 108,f 109,f 110,f 111,f 112,f 113,f 114,f 115,f 116,f 117,f 118,f 119,f 120,f 121,f 122,f 123,f 124,f 125,f 126,f 127,f 128,f 129,f 130,f 131,f 132,f 133,f 134,f 135,f 136,f 137,f 138,f 139,f 140,f 141,f 142,f 143,f 144,f 145,f 146,f 147,f 148,f 149,f 150,f 151,f 152,f 153,f 154,f 155,f 156,f 157,f 158,f 159,f 160,f 161,f 162,f 163,f 164,f 165,f 166,f 167,f 168,f 169,f 170,f 171,f 172,f 173,f 174,f 175,f 176,f 177,f 178,f 179,f 180,f 181,f 182,f 183,f 184,f 185,f 186,f 187,f 188,f 189,f 190,f 191,f 192,f 193,f 194,f 195,f 196,f 197,f 198,f 199,f 200,f 201,f 202,f 203,f 204,f 205,f 206,f 207,f 208,f 209,f 210,f 211,f 212,f 213,f 214,f 215,f 216,f 217,f 218,f 219,f 220,f 221,f 222,f 223,f 224,f 225,f 226,f 227,f 228,f 229,f 230,f 231,f 232,f 233,f 234,f 235,f 236,f 237,f 238,f 239,f 240,f 241,f 242,f 243,f 244,f 245,f 246,f 247,f 248,f 249,f 250,f 251,f 252,f 253,f 254,f 255,f 256,f 257,f 258,f 259,f 260,f 261,f 262,f 263,f 264,f 265,f 266,f 267,f 268,f 269,f 270,f 271,f 272,f 273,f 274,f 275,f 276,f 277,f 278,f 279,f 280,f 281,f 282,f 283,f 284,f 285,f 286,f 287,f 288,f 289,f 290,f 291,f 292,f 293,f 294,f 295,f 296]:=by kernel_rfl
theorem arr297 (xs:Array Value) (hs:xs.size=297):xs = #[g9 xs 0,g9 xs 1,g9 xs 2,g9 xs 3,g9 xs 4,g9 xs 5,g9 xs 6,g9 xs 7,g9 xs 8,g9 xs 9,g9 xs 10,g9 xs 11,g9 xs 12,g9 xs 13,g9 xs 14,g9 xs 15,g9 xs 16,g9 xs 17,g9 xs 18,g9 xs 19,g9 xs 20,g9 xs 21,g9 xs 22,g9 xs 23,g9 xs 24,g9 xs 25,g9 xs 26,g9 xs 27,g9 xs 28,g9 xs 29,g9 xs 30,g9 xs 31,g9 xs 32,g9 xs 33,g9 xs 34,g9 xs 35,g9 xs 36,g9 xs 37,g9 xs 38,g9 xs 39,g9 xs 40,g9 xs 41,g9 xs 42,g9 xs 43,g9 xs 44,g9 xs 45,g9 xs 46,g9 xs 47,g9 xs 48,g9 xs 49,g9 xs 50,g9 xs 51,g9 xs 52,g9 xs 53,g9 xs 54,g9 xs 55,g9 xs 56,g9 xs 57,g9 xs 58,g9 xs 59,g9 xs 60,g9 xs 61,g9 xs 62,g9 xs 63,g9 xs 64,g9 xs 65,g9 xs 66,g9 xs 67,g9 xs 68,g9 xs 69,g9 xs 70,g9 xs 71,g9 xs 72,g9 xs 73,g9 xs 74,g9 xs 75,g9 xs 76,g9 xs 77,g9 xs 78,g9 xs 79,g9 xs 80,g9 xs 81,g9 xs 82,g9 xs 83,g9 xs 84,g9 xs 85,g9 xs 86,g9 xs 87,g9 xs 88,g9 xs 89,g9 xs 90,g9 xs 91,g9 xs 92,g9 xs 93,g9 xs 94,g9 xs 95,g9 xs 96,g9 xs 97,g9 xs 98,g9 xs 99,g9 xs 100,g9 xs 101,g9 xs 102,g9 xs 103,g9 xs 104,g9 xs 105,g9 xs 106,g9 xs 107,g9 xs 108,g9 xs 109,g9 xs 110,g9 xs 111,g9 xs 112,g9 xs 113,g9 xs 114,g9 xs 115,g9 xs 116,g9 xs 117,g9 xs 118,g9 xs 119,g9 xs 120,g9 xs 121,g9 xs 122,g9 xs 123,g9 xs 124,g9 xs 125,g9 xs 126,g9 xs 127,g9 xs 128,g9 xs 129,g9 xs 130,g9 xs 131,g9 xs 132,g9 xs 133,g9 xs 134,g9 xs 135,g9 xs 136,g9 xs 137,g9 xs 138,g9 xs 139,g9 xs 140,g9 xs 141,g9 xs 142,g9 xs 143,g9 xs 144,g9 xs 145,g9 xs 146,g9 xs 147,g9 xs 148,g9 xs 149,g9 xs 150,g9 xs 151,g9 xs 152,g9 xs 153,g9 xs 154,g9 xs 155,g9 xs 156,g9 xs 157,g9 xs 158,g9 xs 159,g9 xs 160,g9 xs 161,g9 xs 162,g9 xs 163,g9 xs 164,g9 xs 165,g9 xs 166,g9 xs 167,g9 xs 168,g9 xs 169,g9 xs 170,g9 xs 171,g9 xs 172,g9 xs 173,g9 xs 174,g9 xs 175,g9 xs 176,g9 xs 177,g9 xs 178,g9 xs 179,g9 xs 180,g9 xs 181,g9 xs 182,g9 xs 183,g9 xs 184,g9 xs 185,g9 xs 186,g9 xs 187,g9 xs 188,g9 xs 189,g9 xs 190,g9 xs 191,g9 xs 192,g9 xs 193,g9 xs 194,g9 xs 195,g9 xs 196,g9 xs 197,g9 xs 198,g9 xs 199,g9 xs 200,g9 xs 201,g9 xs 202,g9 xs 203,g9 xs 204,g9 xs 205,g9 xs 206,g9 xs 207,g9 xs 208,g9 xs 209,g9 xs 210,g9 xs 211,g9 xs 212,g9 xs 213,g9 xs 214,g9 xs 215,g9 xs 216,g9 xs 217,g9 xs 218,g9 xs 219,g9 xs 220,g9 xs 221,g9 xs 222,g9 xs 223,g9 xs 224,g9 xs 225,g9 xs 226,g9 xs 227,g9 xs 228,g9 xs 229,g9 xs 230,g9 xs 231,g9 xs 232,g9 xs 233,g9 xs 234,g9 xs 235,g9 xs 236,g9 xs 237,g9 xs 238,g9 xs 239,g9 xs 240,g9 xs 241,g9 xs 242,g9 xs 243,g9 xs 244,g9 xs 245,g9 xs 246,g9 xs 247,g9 xs 248,g9 xs 249,g9 xs 250,g9 xs 251,g9 xs 252,g9 xs 253,g9 xs 254,g9 xs 255,g9 xs 256,g9 xs 257,g9 xs 258,g9 xs 259,g9 xs 260,g9 xs 261,g9 xs 262,g9 xs 263,g9 xs 264,g9 xs 265,g9 xs 266,g9 xs 267,g9 xs 268,g9 xs 269,g9 xs 270,g9 xs 271,g9 xs 272,g9 xs 273,g9 xs 274,g9 xs 275,g9 xs 276,g9 xs 277,g9 xs 278,g9 xs 279,g9 xs 280,g9 xs 281,g9 xs 282,g9 xs 283,g9 xs 284,g9 xs 285,g9 xs 286,g9 xs 287,g9 xs 288,g9 xs 289,g9 xs 290,g9 xs 291,g9 xs 292,g9 xs 293,g9 xs 294,g9 xs 295,g9 xs 296]:=by
 have h1:xs.toList=(List.range 297).map (g9 xs):=by
  apply List.ext_getElem
  ·simp [hs]
  ·intro i h1 h2
   have h3:i < xs.size:=by simpa using h1
   simp [g9,Array.getD,h3]
 have h2:=h1.trans (list297 (g9 xs))
 exact (Array.toArray_toList (xs:=xs)).symm.trans (congrArg List.toArray h2)
theorem sets297 (u0 u1 u2 u3 u4 u5 u6 u7 u8 u9 u10 u11 u12 u13 u14 u15 u16 u17 u18 u19 u20 u21 u22 u23 u24 u25 u26 u27 u28 u29 u30 u31 u32 u33 u34 u35 u36 u37 u38 u39 u40 u41 u42 u43 u44 u45 u46 u47 u48 u49 u50 u51 u52 u53 u54 u55 u56 u57 u58 u59 u60 u61 u62 u63 u64 u65 u66 u67 u68 u69 u70 u71 u72 u73 u74 u75 u76 u77 u78 u79 u80 u81 u82 u83 u84 u85 u86 u87 u88 u89 u90 u91 u92 u93 u94 u95 u96 u97 u98 u99 u100 u101 u102 u103 u104 u105 u106 u107 u108 u109 u110 u111 u112 u113 u114 u115 u116 u117 u118 u119 u120 u121 u122 u123 u124 u125 u126 u127 u128 u129 u130 u131 u132 u133 u134 u135 u136 u137 u138 u139 u140 u141 u142 u143 u144 u145 u146 u147 u148 u149 u150 u151 u152 u153 u154 u155 u156 u157 u158 u159 u160 u161 u162 u163 u164 u165 u166 u167 u168 u169 u170 u171 u172 u173 u174 u175 u176 u177 u178 u179 u180 u181 u182 u183 u184 u185 u186 u187 u188 u189 u190 u191 u192 u193 u194 u195 u196 u197 u198 u199 u200 u201 u202 u203 u204 u205 u206 u207 u208 u209 u210 u211 u212 u213 u214 u215 u216 u217 u218 u219 u220 u221 u222 u223 u224 u225 u226 u227 u228 u229 u230 u231 u232 u233 u234 u235 u236 u237 u238 u239 u240 u241 u242 u243 u244 u245 u246 u247 u248 u249 u250 u251 u252 u253 u254 u255 u256 u257 u258 u259 u260 u261 u262 u263 u264 u265 u266 u267 u268 u269 u270 u271 u272 u273 u274 u275 u276 u277 u278 u279 u280 u281 u282 u283 u284 u285 u286 u287 u288 u289 u290 u291 u292 u293 u294 u295 u296:Value) (v269 v270 v271 v272 v273 v274 v275 v276 v277 v278 v279:Value):((((((((((((#[u0,u1,u2,u3,u4,u5,u6,u7,u8,u9,u10,u11,u12,u13,u14,u15,u16,u17,u18,u19,u20,u21,u22,u23,u24,u25,u26,u27,u28,u29,u30,u31,u32,u33,u34,u35,u36,u37,u38,u39,u40,u41,u42,u43,u44,u45,u46,u47,u48,u49,u50,u51,u52,u53,u54,u55,u56,u57,u58,u59,u60,u61,u62,u63,u64,u65,u66,u67,u68,u69,u70,u71,u72,u73,u74,u75,u76,u77,u78,u79,u80,u81,u82,u83,u84,u85,u86,u87,u88,u89,u90,u91,u92,u93,u94,u95,u96,u97,u98,u99,u100,u101,u102,u103,u104,u105,u106,u107,u108,u109,u110,u111,u112,u113,u114,u115,u116,u117,u118,u119,u120,u121,u122,u123,u124,u125,u126,u127,u128,u129,u130,u131,u132,u133,u134,u135,u136,u137,u138,u139,u140,u141,u142,u143,u144,u145,u146,u147,u148,u149,u150,u151,u152,u153,u154,u155,u156,u157,u158,u159,u160,u161,u162,u163,u164,u165,u166,u167,u168,u169,u170,u171,u172,u173,u174,u175,u176,u177,u178,u179,u180,u181,u182,u183,u184,u185,u186,u187,u188,u189,u190,u191,u192,u193,u194,u195,u196,u197,u198,u199,u200,u201,u202,u203,u204,u205,u206,u207,u208,u209,u210,u211,u212,u213,u214,u215,u216,u217,u218,u219,u220,u221,u222,u223,u224,u225,u226,u227,u228,u229,u230,u231,u232,u233,u234,u235,u236,u237,u238,u239,u240,u241,u242,u243,u244,u245,u246,u247,u248,u249,u250,u251,u252,u253,u254,u255,u256,u257,u258,u259,u260,u261,u262,u263,u264,u265,u266,u267,u268,u269,u270,u271,u272,u273,u274,u275,u276,u277,u278,u279,u280,u281,u282,u283,u284,u285,u286,u287,u288,u289,u290,u291,u292,u293,u294,u295,u296] : Array Value).setIfInBounds 269 v269).setIfInBounds 270 v270).setIfInBounds 271 v271).setIfInBounds 272 v272).setIfInBounds 273 v273).setIfInBounds 274 v274).setIfInBounds 275 v275).setIfInBounds 276 v276).setIfInBounds 277 v277).setIfInBounds 278 v278).setIfInBounds 279 v279) = #[u0,u1,u2,u3,u4,u5,u6,u7,u8,u9,u10,u11,u12,u13,u14,u15,u16,u17,u18,u19,u20,u21,u22,u23,u24,u25,u26,u27,u28,u29,u30,u31,u32,u33,u34,u35,u36,u37,u38,u39,u40,u41,u42,u43,u44,u45,u46,u47,u48,u49,u50,u51,u52,u53,u54,u55,u56,u57,u58,u59,u60,u61,u62,u63,u64,u65,u66,u67,u68,u69,u70,u71,u72,u73,u74,u75,u76,u77,u78,u79,u80,u81,u82,u83,u84,u85,u86,u87,u88,u89,u90,u91,u92,u93,u94,u95,u96,u97,u98,u99,u100,u101,u102,u103,u104,u105,u106,u107,u108,u109,u110,u111,u112,u113,u114,u115,u116,u117,u118,u119,u120,u121,u122,u123,u124,u125,u126,u127,u128,u129,u130,u131,u132,u133,u134,u135,u136,u137,u138,u139,u140,u141,u142,u143,u144,u145,u146,u147,u148,u149,u150,u151,u152,u153,u154,u155,u156,u157,u158,u159,u160,u161,u162,u163,u164,u165,u166,u167,u168,u169,u170,u171,u172,u173,u174,u175,u176,u177,u178,u179,u180,u181,u182,u183,u184,u185,u186,u187,u188,u189,u190,u191,u192,u193,u194,u195,u196,u197,u198,u199,u200,u201,u202,u203,u204,u205,u206,u207,u208,u209,u210,u211,u212,u213,u214,u215,u216,u217,u218,u219,u220,u221,u222,u223,u224,u225,u226,u227,u228,u229,u230,u231,u232,u233,u234,u235,u236,u237,u238,u239,u240,u241,u242,u243,u244,u245,u246,u247,u248,u249,u250,u251,u252,u253,u254,u255,u256,u257,u258,u259,u260,u261,u262,u263,u264,u265,u266,u267,u268,v269,v270,v271,v272,v273,v274,v275,v276,v277,v278,v279,u280,u281,u282,u283,u284,u285,u286,u287,u288,u289,u290,u291,u292,u293,u294,u295,u296]:=by kernel_rfl
theorem sig_reg2 {base B Pe nn n0 n1 n2 n3 n4 n5 n6 n7:Nat} {z:World} {sa:Option Addr} {sc:Nat} {xs:List Value} {Rz:World→Prop} {K:Act→World→Prop} (a:Act) (hsz:a.tmps.size=297) (hd:a.defers = []) (h6:g9 a.tmps 6 = .pointer (some ⟨B,0,none⟩)) (h15:g9 a.tmps 15 = .pointer (some ⟨Pe,0,none⟩))
  (HSG:Hid (z.ownsRow base 51 8 (.slice sa nn sc) nn xs)) (HVB:Hid ((Value.slice sa nn sc).ownBlock≠some B)) (HNN:Hid (nn≤1099511627776)) (HBB:Hid (base≤z.heap.size))
  (s2:z.cell? ⟨B,2,none⟩=some (.slice sa nn sc)) (f2:z.frozen? ⟨B,2,none⟩=false) (hB12:B < z.heap.size) (hP12:Pe < z.heap.size)
  (t0:z.cell? ⟨Pe,10,none⟩=some (.int .u64 ((n0:Nat):Int))) (t1:z.cell? ⟨Pe,11,none⟩=some (.int .u64 ((n1:Nat):Int))) (t2:z.cell? ⟨Pe,12,none⟩=some (.int .u64 ((n2:Nat):Int))) (t3:z.cell? ⟨Pe,13,none⟩=some (.int .u64 ((n3:Nat):Int))) (t4:z.cell? ⟨Pe,14,none⟩=some (.int .u64 ((n4:Nat):Int))) (t5:z.cell? ⟨Pe,15,none⟩=some (.int .u64 ((n5:Nat):Int))) (t6:z.cell? ⟨Pe,16,none⟩=some (.int .u64 ((n6:Nat):Int))) (t7:z.cell? ⟨Pe,17,none⟩=some (.int .u64 ((n7:Nat):Int)))
  (HPF:Hid (∀ (Xw z13:World) (g2 c2:Nat),Keep [] z Xw→z13.ownsRow base 51 8 (.slice (some ⟨g2,0,none⟩) (nn+1) c2) (nn+1) (xs ++ [.int .u64 ((n0:Nat):Int),.int .u64 ((n1:Nat):Int),.int .u64 ((n2:Nat):Int),.int .u64 ((n3:Nat):Int),.int .u64 ((n4:Nat):Int),.int .u64 ((n5:Nat):Int),.int .u64 ((n6:Nat):Int),.int .u64 ((n7:Nat):Int)])→Xw.grownBy z13 (Value.slice sa nn sc).ownBlock→((Value.slice sa nn sc).ownBlock=some g2∨z.heap.size≤g2)→Rz (z13.setCell ⟨B,2,none⟩ (.slice (some ⟨g2,0,none⟩) (nn+1) c2))))
  (HJ:Hid (∀ (v269 v270 v271 v272 v273 v274 v275 v276 v277 v278 v279:Value) (w':World),Rz w'→K ⟨(((((((((((a.tmps.setIfInBounds 269 v269).setIfInBounds 270 v270).setIfInBounds 271 v271).setIfInBounds 272 v272).setIfInBounds 273 v273).setIfInBounds 274 v274).setIfInBounds 275 v275).setIfInBounds 276 v276).setIfInBounds 277 v277).setIfInBounds 278 v278).setIfInBounds 279 v279),[]⟩ w')) :
  Code.wp Tryz.prog reg53 (Exit.then K (fun _ _ _=>False)) a z:=by
 obtain ⟨t,df⟩:=a
 dsimp only at hsz hd h6 h15
 subst hd
 replace HJ:=HJ.out
 dsimp only at HJ
 have e:=arr297 t hsz
 rw [h6,h15] at e
 refine Eq.mpr (congrArg (fun x=>Code.wp Tryz.prog reg53 (Exit.then K (fun _ _ _=>False)) ⟨x,[]⟩ z) e) ?_
 refine sig_reg _ _ _ _ _ _ _ _ _ _ _ _ _ _ _ _ _ _ _ _ _ _ _ _ _ _ _ _ _ _ _ _ _ _ _ _ _ _ _ _ _ _ _ _ _ _ _ _ _ _ _ _ _ _ _ _ _ _ _ _ _ _ _ _ _ _ _ _ _ _ _ _ _ _ _ _ _ _ _ _ _ _ _ _ _ _ _ _ _ _ _ _ _ _ _ _ _ _ _ _ _ _ _ _ _ _ _ _ _ _ _ _ _ _ _ _ _ _ _ _ _ _ _ _ _ _ _ _ _ _ _ _ _ _ _ _ _ _ _ _ _ _ _ _ _ _ _ _ _ _ _ _ _ _ _ _ _ _ _ _ _ _ _ _ _ _ _ _ _ _ _ _ _ _ _ _ _ _ _ _ _ _ _ _ _ _ _ _ _ _ _ _ _ _ _ _ _ _ _ _ _ _ _ _ _ _ _ _ _ _ _ _ _ _ _ _ _ _ _ _ _ _ _ _ _ _ _ _ _ _ _ _ _ _ _ _ _ _ _ _ _ _ _ _ _ _ _ _ _ _ _ _ _ _ _ _ _ _ _ _ _ _ _ _ _ _ _ _ _ _ _ _ _ _ _ _ _ _ _ _ _ _ _ _ _ _ _ _ _ _ _ _ _ _ _ HSG HVB HNN HBB s2 f2 hB12 hP12 t0 t1 t2 t3 t4 t5 t6 t7 HPF ?_
 intro v269 v270 v271 v272 v273 v274 v275 v276 v277 v278 v279 w' hR
 have h9:=HJ v269 v270 v271 v272 v273 v274 v275 v276 v277 v278 v279 w' hR
 have e9:=(congrArg (fun x:Array Value=>(((((((((((x.setIfInBounds 269 v269).setIfInBounds 270 v270).setIfInBounds 271 v271).setIfInBounds 272 v272).setIfInBounds 273 v273).setIfInBounds 274 v274).setIfInBounds 275 v275).setIfInBounds 276 v276).setIfInBounds 277 v277).setIfInBounds 278 v278).setIfInBounds 279 v279)) e).trans (sets297 _ _ _ _ _ _ _ _ _ _ _ _ _ _ _ _ _ _ _ _ _ _ _ _ _ _ _ _ _ _ _ _ _ _ _ _ _ _ _ _ _ _ _ _ _ _ _ _ _ _ _ _ _ _ _ _ _ _ _ _ _ _ _ _ _ _ _ _ _ _ _ _ _ _ _ _ _ _ _ _ _ _ _ _ _ _ _ _ _ _ _ _ _ _ _ _ _ _ _ _ _ _ _ _ _ _ _ _ _ _ _ _ _ _ _ _ _ _ _ _ _ _ _ _ _ _ _ _ _ _ _ _ _ _ _ _ _ _ _ _ _ _ _ _ _ _ _ _ _ _ _ _ _ _ _ _ _ _ _ _ _ _ _ _ _ _ _ _ _ _ _ _ _ _ _ _ _ _ _ _ _ _ _ _ _ _ _ _ _ _ _ _ _ _ _ _ _ _ _ _ _ _ _ _ _ _ _ _ _ _ _ _ _ _ _ _ _ _ _ _ _ _ _ _ _ _ _ _ _ _ _ _ _ _ _ _ _ _ _ _ _ _ _ _ _ _ _ _ _ _ _ _ _ _ _ _ _ _ _ _ _ _ _ _ _ _ _ _ _ _ _ _ _ _ _ _ _ _ _ _ _ _ _ _ _ _ _ _ _ _ _ _ _ _ _ _ _ v269 v270 v271 v272 v273 v274 v275 v276 v277 v278 v279)
 exact Eq.mp (congrArg (fun x=>K ⟨x,[]⟩ w') e9) h9
theorem nn_152 {n:Nat} (h:n≤100000000):((n+1)+(n+1) / 4+192) * 152≤281474976710656:=by omega
theorem nn_len2 {n:Nat} (h:n≤100000000):n+1≤maxLen:=nn_len (by omega)
noncomputable def reg36:Code:=((Tryz.f3.body.bind (findReg 36)).getD .skip)
theorem rd_reg {base B Pe Rb k nn:Nat} {z:World} {sa:Option Addr} {sc:Nat} {xs el:List Value} {Rz:World→Prop} {K:Act→World→Prop} (u0 u1 u2 u3 u4 u5 u7 u9 u10 u11 u12 u13 u14 u16 u17 u18 u19 u20 u21 u22 u23 u24 u25 u26 u27 u28 u29 u30 u31 u32 u33 u34 u35 u36 u37 u38 u39 u40 u41 u42 u43 u44 u45 u46 u47 u48 u49 u50 u51 u52 u53 u54 u55 u56 u57 u58 u59 u60 u61 u62 u63 u64 u65 u66 u67 u68 u69 u70 u71 u72 u73 u74 u75 u76 u77 u78 u79 u80 u81 u82 u83 u84 u85 u86 u87 u88 u89 u90 u91 u92 u93 u94 u95 u96 u97 u98 u99 u100 u101 u102 u103 u104 u105 u106 u107 u108 u109 u110 u111 u112 u113 u114 u115 u116 u117 u118 u119 u120 u121 u122 u123 u124 u125 u126 u127 u128 u129 u130 u131 u132 u133 u134 u135 u136 u137 u138 u139 u140 u141 u142 u143 u144 u145 u146 u147 u148 u149 u150 u151 u152 u153 u154 u155 u156 u157 u158 u159 u160 u161 u162 u163 u164 u165 u166 u167 u168 u169 u170 u171 u172 u173 u174 u175 u176 u177 u178 u179 u180 u181 u182 u183 u184 u185 u186 u187 u188 u189 u190 u191 u192 u193 u194 u195 u196 u197 u198 u199 u200 u201 u202 u203 u204 u205 u206 u207 u208 u209 u210 u211 u212 u213 u214 u215 u216 u217 u218 u219 u220 u221 u222 u223 u224 u225 u226 u227 u228 u229 u230 u231 u232 u233 u234 u235 u236 u237 u238 u239 u240 u241 u242 u243 u244 u245 u246 u247 u248 u249 u250 u251 u252 u253 u254 u255 u256 u257 u258 u259 u260 u261 u262 u263 u264 u265 u266 u267 u268 u269 u270 u271 u272 u273 u274 u275 u276 u277 u278 u279 u280 u281 u282 u283 u284 u285 u286 u287 u288 u289 u290 u291 u292 u293 u294 u295 u296:Value)
  (HRO:Hid (z.ownsRow base 58 19 (.slice sa nn sc) nn xs)) (HVB:Hid ((Value.slice sa nn sc).ownBlock≠some B∧(Value.slice sa nn sc).ownBlock≠some Rb∧(Value.slice sa nn sc).ownBlock≠some Pe∧Rb≠B∧Rb≠Pe)) (HNN:Hid (nn≤100000000)) (HBB:Hid (base≤z.heap.size))
  (s4:z.cell? ⟨B,4,none⟩=some (.slice (some ⟨Rb,0,none⟩) 4 4)) (hB12:B < z.heap.size) (r0:z.cell? ⟨Rb,k,none⟩=some (.slice sa nn sc)) (r1:z.frozen? ⟨Rb,k,none⟩=false) (hR12:Rb < z.heap.size) (k4:(k:Int) < 4) (k0:(0:Int)≤(k:Int))
  (HEP:Hid (z.rangeAt Pe 0 el∧Pe < z.heap.size)) (he19:el.length=19) (HEO:Hid (∀ u ∈ el,u.oneCell'=true))
  (HPF:Hid (∀ (Xw z13:World) (g2 c2:Nat),Keep [] z Xw→z13.ownsRow base 58 19 (.slice (some ⟨g2,0,none⟩) (nn+1) c2) (nn+1) (xs++el)→Xw.grownBy z13 (Value.slice sa nn sc).ownBlock→((Value.slice sa nn sc).ownBlock=some g2∨z.heap.size≤g2)→Rz (z13.setCell ⟨Rb,k,none⟩ (.slice (some ⟨g2,0,none⟩) (nn+1) c2))))
  (HJ:Hid (∀ (v146 v147 v148 v149 v150 v151 v152 v153 v154 v155 v156 v157 v158 v159 v160 v161:Value) (w':World),Rz w'→K ⟨#[u0,u1,u2,u3,u4,u5,.pointer (some ⟨B,0,none⟩),u7,.int .i64 (k:Int),u9,u10,u11,u12,u13,u14,.pointer (some ⟨Pe,0,none⟩),u16,u17,u18,u19,u20,u21,u22,u23,u24,u25,u26,u27,u28,u29,u30,u31,u32,u33,u34,u35,u36,u37,u38,u39,u40,u41,u42,u43,u44,u45,u46,u47,u48,u49,u50,u51,u52,u53,u54,u55,u56,u57,u58,u59,u60,u61,u62,u63,u64,u65,u66,u67,u68,u69,u70,u71,u72,u73,u74,u75,u76,u77,u78,u79,u80,u81,u82,u83,u84,u85,u86,u87,u88,u89,u90,u91,u92,u93,u94,u95,u96,u97,u98,u99,u100,u101,u102,u103,u104,u105,u106,u107,u108,u109,u110,u111,u112,u113,u114,u115,u116,u117,u118,u119,u120,u121,u122,u123,u124,u125,u126,u127,u128,u129,u130,u131,u132,u133,u134,u135,u136,u137,u138,u139,u140,u141,u142,u143,u144,u145,v146,v147,v148,v149,v150,v151,v152,v153,v154,v155,v156,v157,v158,v159,v160,v161,u162,u163,u164,u165,u166,u167,u168,u169,u170,u171,u172,u173,u174,u175,u176,u177,u178,u179,u180,u181,u182,u183,u184,u185,u186,u187,u188,u189,u190,u191,u192,u193,u194,u195,u196,u197,u198,u199,u200,u201,u202,u203,u204,u205,u206,u207,u208,u209,u210,u211,u212,u213,u214,u215,u216,u217,u218,u219,u220,u221,u222,u223,u224,u225,u226,u227,u228,u229,u230,u231,u232,u233,u234,u235,u236,u237,u238,u239,u240,u241,u242,u243,u244,u245,u246,u247,u248,u249,u250,u251,u252,u253,u254,u255,u256,u257,u258,u259,u260,u261,u262,u263,u264,u265,u266,u267,u268,u269,u270,u271,u272,u273,u274,u275,u276,u277,u278,u279,u280,u281,u282,u283,u284,u285,u286,u287,u288,u289,u290,u291,u292,u293,u294,u295,u296],[]⟩ w')) :
  Code.wp Tryz.prog reg36 (Exit.then K (fun _ _ _=>False)) ⟨#[u0,u1,u2,u3,u4,u5,.pointer (some ⟨B,0,none⟩),u7,.int .i64 (k:Int),u9,u10,u11,u12,u13,u14,.pointer (some ⟨Pe,0,none⟩),u16,u17,u18,u19,u20,u21,u22,u23,u24,u25,u26,u27,u28,u29,u30,u31,u32,u33,u34,u35,u36,u37,u38,u39,u40,u41,u42,u43,u44,u45,u46,u47,u48,u49,u50,u51,u52,u53,u54,u55,u56,u57,u58,u59,u60,u61,u62,u63,u64,u65,u66,u67,u68,u69,u70,u71,u72,u73,u74,u75,u76,u77,u78,u79,u80,u81,u82,u83,u84,u85,u86,u87,u88,u89,u90,u91,u92,u93,u94,u95,u96,u97,u98,u99,u100,u101,u102,u103,u104,u105,u106,u107,u108,u109,u110,u111,u112,u113,u114,u115,u116,u117,u118,u119,u120,u121,u122,u123,u124,u125,u126,u127,u128,u129,u130,u131,u132,u133,u134,u135,u136,u137,u138,u139,u140,u141,u142,u143,u144,u145,u146,u147,u148,u149,u150,u151,u152,u153,u154,u155,u156,u157,u158,u159,u160,u161,u162,u163,u164,u165,u166,u167,u168,u169,u170,u171,u172,u173,u174,u175,u176,u177,u178,u179,u180,u181,u182,u183,u184,u185,u186,u187,u188,u189,u190,u191,u192,u193,u194,u195,u196,u197,u198,u199,u200,u201,u202,u203,u204,u205,u206,u207,u208,u209,u210,u211,u212,u213,u214,u215,u216,u217,u218,u219,u220,u221,u222,u223,u224,u225,u226,u227,u228,u229,u230,u231,u232,u233,u234,u235,u236,u237,u238,u239,u240,u241,u242,u243,u244,u245,u246,u247,u248,u249,u250,u251,u252,u253,u254,u255,u256,u257,u258,u259,u260,u261,u262,u263,u264,u265,u266,u267,u268,u269,u270,u271,u272,u273,u274,u275,u276,u277,u278,u279,u280,u281,u282,u283,u284,u285,u286,u287,u288,u289,u290,u291,u292,u293,u294,u295,u296],[]⟩ z:=by
 have HS2:Hid (z.cell? ⟨B,4,none⟩=some (.slice (some ⟨Rb,0,none⟩) 4 4)∧B < z.heap.size∧z.cell? ⟨Rb,k,none⟩=some (.slice sa nn sc)∧z.frozen? ⟨Rb,k,none⟩=false∧Rb < z.heap.size):=⟨s4,hB12,r0,r1,hR12⟩
 obtain ⟨i0,hi,hz0,hz1,hz2⟩:=info_parts info_ev2
 have HI:Hid ((Tryz.prog.info? 58).map (·.size)=some el.length):=by rw [Hid,hi]; simp [hz1,he19]
 conv=>arg 2; whnf
 refine wp_region_held_drew (S:=fun w' => w'.cell? ⟨B,4,none⟩=some (.slice (some ⟨Rb,0,none⟩) 4 4)∧w'.rangeAt Pe 0 el) (by kernel_rfl) ⟨s4,HEP.out.1⟩ (fun hHeld => ?_)
 refine wpAnyH_take (i:=0) (v:=.pointer (some ⟨B,0,none⟩)) rfl (by kernel_rfl) (by kernel_rfl) (by kernel_rfl) (fun _ _ _ h=>h) (Or.inl ⟨by rfl,by intro w hSw; obtain ⟨hSa,hSb⟩:=hSw; clear hSb; go_simp⟩) hHeld ?_
 try simp only [Act.put,List.setIfInBounds_toArray]
 refine wpAnyH_take (i:=1) (v:=.pointer (some ⟨B,0,none⟩)) rfl (by kernel_rfl) (by kernel_rfl) (by kernel_rfl) (fun _ _ _ h=>h) (Or.inl ⟨by rfl,by intro w hSw; obtain ⟨hSa,hSb⟩:=hSw; clear hSb; go_simp⟩) hHeld ?_
 try simp only [Act.put]
 refine wpAnyH_take (i:=2) (v:=.pointer (some ⟨B,4,none⟩)) rfl (by kernel_rfl) (by kernel_rfl) (by kernel_rfl) (fun _ _ _ h=>h) (Or.inl ⟨by rfl,by intro w hSw; obtain ⟨hSa,hSb⟩:=hSw; clear hSb; go_simp⟩) hHeld ?_
 try simp only [Act.put]
 refine wpAnyH_take (i:=3) (v:=.slice (some ⟨Rb,0,none⟩) 4 4) rfl (by kernel_rfl) (by kernel_rfl) (by kernel_rfl) (fun _ _ _ h=>h) (Or.inl ⟨by rfl,by intro w hSw; obtain ⟨hSa,hSb⟩:=hSw; clear hSb; go_simp⟩) hHeld ?_
 try simp only [Act.put]
 refine wpAnyH_take (i:=4) (v:=.int .i64 (k:Int)) rfl (by kernel_rfl) (by kernel_rfl) (by kernel_rfl) (fun _ _ _ h=>h) (Or.inl ⟨by rfl,by intro w hSw; obtain ⟨hSa,hSb⟩:=hSw; clear hSb; go_simp⟩) hHeld ?_
 try simp only [Act.put]
 refine wpAnyH_take (i:=5) (v:=.pointer (some ⟨B,0,none⟩)) rfl (by kernel_rfl) (by kernel_rfl) (by kernel_rfl) (fun _ _ _ h=>h) (Or.inl ⟨by rfl,by intro w hSw; obtain ⟨hSa,hSb⟩:=hSw; clear hSb; go_simp⟩) hHeld ?_
 try simp only [Act.put]
 refine wpAnyH_take (i:=6) (v:=.pointer (some ⟨B,0,none⟩)) rfl (by kernel_rfl) (by kernel_rfl) (by kernel_rfl) (fun _ _ _ h=>h) (Or.inl ⟨by rfl,by intro w hSw; obtain ⟨hSa,hSb⟩:=hSw; clear hSb; go_simp⟩) hHeld ?_
 try simp only [Act.put]
 refine wpAnyH_take (i:=7) (v:=.pointer (some ⟨B,4,none⟩)) rfl (by kernel_rfl) (by kernel_rfl) (by kernel_rfl) (fun _ _ _ h=>h) (Or.inl ⟨by rfl,by intro w hSw; obtain ⟨hSa,hSb⟩:=hSw; clear hSb; go_simp⟩) hHeld ?_
 try simp only [Act.put]
 refine wpAnyH_take (i:=8) (v:=.slice (some ⟨Rb,0,none⟩) 4 4) rfl (by kernel_rfl) (by kernel_rfl) (by kernel_rfl) (fun _ _ _ h=>h) (Or.inl ⟨by rfl,by intro w hSw; obtain ⟨hSa,hSb⟩:=hSw; clear hSb; go_simp⟩) hHeld ?_
 try simp only [Act.put]
 refine wpAnyH_take (i:=9) (v:=.int .i64 (k:Int)) rfl (by kernel_rfl) (by kernel_rfl) (by kernel_rfl) (fun _ _ _ h=>h) (Or.inl ⟨by rfl,by intro w hSw; obtain ⟨hSa,hSb⟩:=hSw; clear hSb; go_simp⟩) hHeld ?_
 try simp only [Act.put]
 refine wpAnyH_take (i:=10) (v:=.pointer (some ⟨Rb,k,none⟩)) rfl (by kernel_rfl) (by kernel_rfl) (by kernel_rfl) (fun _ _ _ h=>h) (Or.inl ⟨by rfl,by intro w hSw; obtain ⟨hSa,hSb⟩:=hSw; clear hSb; go_simp⟩) hHeld ?_
 try simp only [Act.put]
 refine wpAnyH_take (i := 12) (oi := { dst := some 158, op := .load 58 (.tmp 15), type := 58, pos := "law.go:285", after := #[], guard := none }) (v := .agg el.toArray) rfl (by kernel_rfl) (by kernel_rfl) (by kernel_rfl) (fun _ _ _ h => h) ?y1 hHeld ?_
 case y1=>exact yieldsIf_load_mid (by rfl) 58 (.tmp 15) rfl Pe 0 (by kernel_rfl) el _ (fun w h=>h.2) Tryz.underlying58 (by kernel_rfl) HI.out
 try simp only [Act.put]
 refine wpAnyH_ready (rs:=[11,13]) (by kernel_rfl) (by simp) ?_
 refine AllReadyH.cons rfl (fun K1 hK => ?_) (AllReadyH.cons rfl (fun K1 hK => ?_) AllReadyH.nil)
 ·go_simp
  refine hK.out _ _ hHeld (fun hHeld => ?_)
  clear hK K1
  try simp only [Act.put,List.setIfInBounds_toArray,List.set_cons_zero,List.set_cons_succ]
  refine wpAnyH_ready (rs:=[13]) (by kernel_rfl) (by simp) ?_
  refine AllReadyH.cons rfl (fun K1 hK => ?_) AllReadyH.nil
  refine step_build_one (by rfl) _ 58 _ (by rfl) el.toArray (by kernel_rfl) i0 _ Tryz.underlying45 hi hz0 (by rw [hz1]; simp [he19]) (by simp [he19,Value.cells]) (by simp [he19]) (by simp [he19]) ?_
  rw [show World.alloc (World.drew z) (.cells el.toArray 58)=World.drew (World.alloc z (.cells el.toArray 58)) from rfl]
  refine hK.out _ _ ⟨ad_cell HS2.out.2.1 HS2.out.1 _,fun j v hj=>ad_cell HEP.out.2 (HEP.out.1 j v hj) _⟩ (fun hHeld => ?_)
  clear hK K1
  try simp only [Act.put,List.setIfInBounds_toArray]
  refine wpAnyH_ready (rs:=[14]) (by kernel_rfl) (by simp) ?_
  refine AllReadyH.cons rfl (fun K1 hK => ?_) AllReadyH.nil
  refine step_lies_any _ (by rfl) _ _ _ (by rfl) base 58 i0 _ 19 152 Tryz.underlying45 hi hz0 hz1 hz2 rfl (by decide) (.slice sa nn sc) nn xs (by kernel_rfl) ((HRO.out.alloc _).drew) ⟨z.heap.size,0,none⟩ 1 1 el (by kernel_rfl) (by simp [he19]) (by have h9:=World.news_of_block (cs:=el.toArray) (t:=58) (fr:=(0,0)) (heap_alloc_new z (.cells el.toArray 58)); simpa using h9) HEO.out (by decide) (nn_len2 HNN.out) (nn_152 HNN.out) (ad_base HBB.out _) (z.heap.size+1) (ad_size _ _) ?_
  intro g2 c2 z13 hown13 hgrow13 hat13 hlt13
  have hs0:z13.cell? ⟨B,4,none⟩=some (.slice (some ⟨Rb,0,none⟩) 4 4):=(hgrow13.cell_far _ (ad_lt HS2.out.2.1 _) (Ne.symm HVB.out.1)).trans (ad_cell HS2.out.2.1 HS2.out.1 _)
  have hs1:z13.cell? ⟨Rb,k,none⟩=some (.slice sa nn sc):=(hgrow13.cell_far _ (ad_lt HS2.out.2.2.2.2 _) (Ne.symm HVB.out.2.1)).trans (ad_cell HS2.out.2.2.2.2 HS2.out.2.2.1 _)
  have hs2:z13.frozen? ⟨Rb,k,none⟩=false:=(hgrow13.frozen_far _ (ad_lt HS2.out.2.2.2.2 _) (Ne.symm HVB.out.2.1)).trans (ad_frozen HS2.out.2.2.2.2 HS2.out.2.2.2.1 _)
  have hs3:z13.rangeAt Pe 0 el:=fun j v hj=>(hgrow13.cell_far _ (ad_lt HEP.out.2 _) (Ne.symm HVB.out.2.2.1)).trans (ad_cell HEP.out.2 (HEP.out.1 j v hj) _)
  refine hK.out _ _ ⟨hs0,hs3⟩ (fun hHeld => ?_)
  clear hK K1
  try simp only [Act.put]
  refine wpAnyH_ready (rs:=[15]) (by kernel_rfl) (by simp) ?_
  refine AllReadyH.cons rfl (fun K1 hK => ?_) AllReadyH.nil
  go_simp
  refine hK.out _ _ hHeld (fun hHeld => ?_)
  clear hK K1
  try simp only [Act.put,List.setIfInBounds_toArray,List.set_cons_zero,List.set_cons_succ]
  refine wpAnyH_ready (rs:=[16]) (by kernel_rfl) (by simp) ?_
  refine AllReadyH.cons rfl (fun K1 hK => ?_) AllReadyH.nil
  go_simp
  refine hK.out _ _ ⟨(World.cell?_of_block (heap_set_other k _ HVB.out.2.2.2.1)).trans hs0,fun j v hj=>(World.cell?_of_block (heap_set_other k _ HVB.out.2.2.2.2)).trans (hs3 j v hj)⟩ (fun hHeld => ?_)
  clear hK K1
  try simp only [Act.put,List.setIfInBounds_toArray,List.set_cons_zero,List.set_cons_succ]
  refine wpAnyH_done (by kernel_rfl) ?_ _
  exact HJ.out _ _ _ _ _ _ _ _ _ _ _ _ _ _ _ _ _ (HPF.out _ _ _ _ (((Keep.refl [] z).alloc _).drewN 1) hown13 hgrow13 (at_or hat13))
 ·refine step_build_one (by rfl) _ 58 _ (by rfl) el.toArray (by kernel_rfl) i0 _ Tryz.underlying45 hi hz0 (by rw [hz1]; simp [he19]) (by simp [he19,Value.cells]) (by simp [he19]) (by simp [he19]) ?_
  rw [show World.alloc (World.drew z) (.cells el.toArray 58)=World.drew (World.alloc z (.cells el.toArray 58)) from rfl]
  refine hK.out _ _ ⟨ad_cell HS2.out.2.1 HS2.out.1 _,fun j v hj=>ad_cell HEP.out.2 (HEP.out.1 j v hj) _⟩ (fun hHeld => ?_)
  clear hK K1
  try simp only [Act.put]
  refine wpAnyH_ready (rs:=[11]) (by kernel_rfl) (by simp) ?_
  refine AllReadyH.cons rfl (fun K1 hK => ?_) AllReadyH.nil
  have r0':(World.drew (World.alloc z (.cells el.toArray 58))).cell? ⟨Rb,k,none⟩=some (.slice sa nn sc):=ad_cell HS2.out.2.2.2.2 HS2.out.2.2.1 _
  go_simp
  refine hK.out _ _ ⟨ad_cell HS2.out.2.1 HS2.out.1 _,fun j v hj=>ad_cell HEP.out.2 (HEP.out.1 j v hj) _⟩ (fun hHeld => ?_)
  clear hK K1
  try simp only [Act.put,List.setIfInBounds_toArray,List.set_cons_zero,List.set_cons_succ]
  refine wpAnyH_ready (rs:=[14]) (by kernel_rfl) (by simp) ?_
  refine AllReadyH.cons rfl (fun K1 hK => ?_) AllReadyH.nil
  refine step_lies_any _ (by rfl) _ _ _ (by rfl) base 58 i0 _ 19 152 Tryz.underlying45 hi hz0 hz1 hz2 rfl (by decide) (.slice sa nn sc) nn xs (by kernel_rfl) ((HRO.out.alloc _).drew) ⟨z.heap.size,0,none⟩ 1 1 el (by kernel_rfl) (by simp [he19]) (by have h9:=World.news_of_block (cs:=el.toArray) (t:=58) (fr:=(0,0)) (heap_alloc_new z (.cells el.toArray 58)); simpa using h9) HEO.out (by decide) (nn_len2 HNN.out) (nn_152 HNN.out) (ad_base HBB.out _) (z.heap.size+1) (ad_size _ _) ?_
  intro g2 c2 z13 hown13 hgrow13 hat13 hlt13
  have hs0:z13.cell? ⟨B,4,none⟩=some (.slice (some ⟨Rb,0,none⟩) 4 4):=(hgrow13.cell_far _ (ad_lt HS2.out.2.1 _) (Ne.symm HVB.out.1)).trans (ad_cell HS2.out.2.1 HS2.out.1 _)
  have hs1:z13.cell? ⟨Rb,k,none⟩=some (.slice sa nn sc):=(hgrow13.cell_far _ (ad_lt HS2.out.2.2.2.2 _) (Ne.symm HVB.out.2.1)).trans (ad_cell HS2.out.2.2.2.2 HS2.out.2.2.1 _)
  have hs2:z13.frozen? ⟨Rb,k,none⟩=false:=(hgrow13.frozen_far _ (ad_lt HS2.out.2.2.2.2 _) (Ne.symm HVB.out.2.1)).trans (ad_frozen HS2.out.2.2.2.2 HS2.out.2.2.2.1 _)
  have hs3:z13.rangeAt Pe 0 el:=fun j v hj=>(hgrow13.cell_far _ (ad_lt HEP.out.2 _) (Ne.symm HVB.out.2.2.1)).trans (ad_cell HEP.out.2 (HEP.out.1 j v hj) _)
  refine hK.out _ _ ⟨hs0,hs3⟩ (fun hHeld => ?_)
  clear hK K1
  try simp only [Act.put,List.setIfInBounds_toArray]
  refine wpAnyH_ready (rs:=[15]) (by kernel_rfl) (by simp) ?_
  refine AllReadyH.cons rfl (fun K1 hK => ?_) AllReadyH.nil
  go_simp
  refine hK.out _ _ hHeld (fun hHeld => ?_)
  clear hK K1
  try simp only [Act.put,List.setIfInBounds_toArray,List.set_cons_zero,List.set_cons_succ]
  refine wpAnyH_ready (rs:=[16]) (by kernel_rfl) (by simp) ?_
  refine AllReadyH.cons rfl (fun K1 hK => ?_) AllReadyH.nil
  go_simp
  refine hK.out _ _ ⟨(World.cell?_of_block (heap_set_other k _ HVB.out.2.2.2.1)).trans hs0,fun j v hj=>(World.cell?_of_block (heap_set_other k _ HVB.out.2.2.2.2)).trans (hs3 j v hj)⟩ (fun hHeld => ?_)
  clear hK K1
  try simp only [Act.put,List.setIfInBounds_toArray,List.set_cons_zero,List.set_cons_succ]
  refine wpAnyH_done (by kernel_rfl) ?_ _
  exact HJ.out _ _ _ _ _ _ _ _ _ _ _ _ _ _ _ _ _ (HPF.out _ _ _ _ (((Keep.refl [] z).alloc _).drewN 1) hown13 hgrow13 (at_or hat13))
theorem sets297b (u0 u1 u2 u3 u4 u5 u6 u7 u8 u9 u10 u11 u12 u13 u14 u15 u16 u17 u18 u19 u20 u21 u22 u23 u24 u25 u26 u27 u28 u29 u30 u31 u32 u33 u34 u35 u36 u37 u38 u39 u40 u41 u42 u43 u44 u45 u46 u47 u48 u49 u50 u51 u52 u53 u54 u55 u56 u57 u58 u59 u60 u61 u62 u63 u64 u65 u66 u67 u68 u69 u70 u71 u72 u73 u74 u75 u76 u77 u78 u79 u80 u81 u82 u83 u84 u85 u86 u87 u88 u89 u90 u91 u92 u93 u94 u95 u96 u97 u98 u99 u100 u101 u102 u103 u104 u105 u106 u107 u108 u109 u110 u111 u112 u113 u114 u115 u116 u117 u118 u119 u120 u121 u122 u123 u124 u125 u126 u127 u128 u129 u130 u131 u132 u133 u134 u135 u136 u137 u138 u139 u140 u141 u142 u143 u144 u145 u146 u147 u148 u149 u150 u151 u152 u153 u154 u155 u156 u157 u158 u159 u160 u161 u162 u163 u164 u165 u166 u167 u168 u169 u170 u171 u172 u173 u174 u175 u176 u177 u178 u179 u180 u181 u182 u183 u184 u185 u186 u187 u188 u189 u190 u191 u192 u193 u194 u195 u196 u197 u198 u199 u200 u201 u202 u203 u204 u205 u206 u207 u208 u209 u210 u211 u212 u213 u214 u215 u216 u217 u218 u219 u220 u221 u222 u223 u224 u225 u226 u227 u228 u229 u230 u231 u232 u233 u234 u235 u236 u237 u238 u239 u240 u241 u242 u243 u244 u245 u246 u247 u248 u249 u250 u251 u252 u253 u254 u255 u256 u257 u258 u259 u260 u261 u262 u263 u264 u265 u266 u267 u268 u269 u270 u271 u272 u273 u274 u275 u276 u277 u278 u279 u280 u281 u282 u283 u284 u285 u286 u287 u288 u289 u290 u291 u292 u293 u294 u295 u296:Value) (v146 v147 v148 v149 v150 v151 v152 v153 v154 v155 v156 v157 v158 v159 v160 v161:Value):(((((((((((((((((#[u0,u1,u2,u3,u4,u5,u6,u7,u8,u9,u10,u11,u12,u13,u14,u15,u16,u17,u18,u19,u20,u21,u22,u23,u24,u25,u26,u27,u28,u29,u30,u31,u32,u33,u34,u35,u36,u37,u38,u39,u40,u41,u42,u43,u44,u45,u46,u47,u48,u49,u50,u51,u52,u53,u54,u55,u56,u57,u58,u59,u60,u61,u62,u63,u64,u65,u66,u67,u68,u69,u70,u71,u72,u73,u74,u75,u76,u77,u78,u79,u80,u81,u82,u83,u84,u85,u86,u87,u88,u89,u90,u91,u92,u93,u94,u95,u96,u97,u98,u99,u100,u101,u102,u103,u104,u105,u106,u107,u108,u109,u110,u111,u112,u113,u114,u115,u116,u117,u118,u119,u120,u121,u122,u123,u124,u125,u126,u127,u128,u129,u130,u131,u132,u133,u134,u135,u136,u137,u138,u139,u140,u141,u142,u143,u144,u145,u146,u147,u148,u149,u150,u151,u152,u153,u154,u155,u156,u157,u158,u159,u160,u161,u162,u163,u164,u165,u166,u167,u168,u169,u170,u171,u172,u173,u174,u175,u176,u177,u178,u179,u180,u181,u182,u183,u184,u185,u186,u187,u188,u189,u190,u191,u192,u193,u194,u195,u196,u197,u198,u199,u200,u201,u202,u203,u204,u205,u206,u207,u208,u209,u210,u211,u212,u213,u214,u215,u216,u217,u218,u219,u220,u221,u222,u223,u224,u225,u226,u227,u228,u229,u230,u231,u232,u233,u234,u235,u236,u237,u238,u239,u240,u241,u242,u243,u244,u245,u246,u247,u248,u249,u250,u251,u252,u253,u254,u255,u256,u257,u258,u259,u260,u261,u262,u263,u264,u265,u266,u267,u268,u269,u270,u271,u272,u273,u274,u275,u276,u277,u278,u279,u280,u281,u282,u283,u284,u285,u286,u287,u288,u289,u290,u291,u292,u293,u294,u295,u296] : Array Value).setIfInBounds 146 v146).setIfInBounds 147 v147).setIfInBounds 148 v148).setIfInBounds 149 v149).setIfInBounds 150 v150).setIfInBounds 151 v151).setIfInBounds 152 v152).setIfInBounds 153 v153).setIfInBounds 154 v154).setIfInBounds 155 v155).setIfInBounds 156 v156).setIfInBounds 157 v157).setIfInBounds 158 v158).setIfInBounds 159 v159).setIfInBounds 160 v160).setIfInBounds 161 v161) = #[u0,u1,u2,u3,u4,u5,u6,u7,u8,u9,u10,u11,u12,u13,u14,u15,u16,u17,u18,u19,u20,u21,u22,u23,u24,u25,u26,u27,u28,u29,u30,u31,u32,u33,u34,u35,u36,u37,u38,u39,u40,u41,u42,u43,u44,u45,u46,u47,u48,u49,u50,u51,u52,u53,u54,u55,u56,u57,u58,u59,u60,u61,u62,u63,u64,u65,u66,u67,u68,u69,u70,u71,u72,u73,u74,u75,u76,u77,u78,u79,u80,u81,u82,u83,u84,u85,u86,u87,u88,u89,u90,u91,u92,u93,u94,u95,u96,u97,u98,u99,u100,u101,u102,u103,u104,u105,u106,u107,u108,u109,u110,u111,u112,u113,u114,u115,u116,u117,u118,u119,u120,u121,u122,u123,u124,u125,u126,u127,u128,u129,u130,u131,u132,u133,u134,u135,u136,u137,u138,u139,u140,u141,u142,u143,u144,u145,v146,v147,v148,v149,v150,v151,v152,v153,v154,v155,v156,v157,v158,v159,v160,v161,u162,u163,u164,u165,u166,u167,u168,u169,u170,u171,u172,u173,u174,u175,u176,u177,u178,u179,u180,u181,u182,u183,u184,u185,u186,u187,u188,u189,u190,u191,u192,u193,u194,u195,u196,u197,u198,u199,u200,u201,u202,u203,u204,u205,u206,u207,u208,u209,u210,u211,u212,u213,u214,u215,u216,u217,u218,u219,u220,u221,u222,u223,u224,u225,u226,u227,u228,u229,u230,u231,u232,u233,u234,u235,u236,u237,u238,u239,u240,u241,u242,u243,u244,u245,u246,u247,u248,u249,u250,u251,u252,u253,u254,u255,u256,u257,u258,u259,u260,u261,u262,u263,u264,u265,u266,u267,u268,u269,u270,u271,u272,u273,u274,u275,u276,u277,u278,u279,u280,u281,u282,u283,u284,u285,u286,u287,u288,u289,u290,u291,u292,u293,u294,u295,u296]:=by kernel_rfl
theorem rd_reg2 {base B Pe Rb k nn:Nat} {z:World} {sa:Option Addr} {sc:Nat} {xs el:List Value} {Rz:World→Prop} {K:Act→World→Prop} (a:Act) (hsz:a.tmps.size=297) (hd:a.defers = []) (h6:g9 a.tmps 6 = .pointer (some ⟨B,0,none⟩)) (h8:g9 a.tmps 8 = .int .i64 (k:Int)) (h15:g9 a.tmps 15 = .pointer (some ⟨Pe,0,none⟩))
  (HRO:Hid (z.ownsRow base 58 19 (.slice sa nn sc) nn xs)) (HVB:Hid ((Value.slice sa nn sc).ownBlock≠some B∧(Value.slice sa nn sc).ownBlock≠some Rb∧(Value.slice sa nn sc).ownBlock≠some Pe∧Rb≠B∧Rb≠Pe)) (HNN:Hid (nn≤100000000)) (HBB:Hid (base≤z.heap.size))
  (s4:z.cell? ⟨B,4,none⟩=some (.slice (some ⟨Rb,0,none⟩) 4 4)) (hB12:B < z.heap.size) (r0:z.cell? ⟨Rb,k,none⟩=some (.slice sa nn sc)) (r1:z.frozen? ⟨Rb,k,none⟩=false) (hR12:Rb < z.heap.size) (k4:(k:Int) < 4) (k0:(0:Int)≤(k:Int))
  (HEP:Hid (z.rangeAt Pe 0 el∧Pe < z.heap.size)) (he19:el.length=19) (HEO:Hid (∀ u ∈ el,u.oneCell'=true))
  (HPF:Hid (∀ (Xw z13:World) (g2 c2:Nat),Keep [] z Xw→z13.ownsRow base 58 19 (.slice (some ⟨g2,0,none⟩) (nn+1) c2) (nn+1) (xs++el)→Xw.grownBy z13 (Value.slice sa nn sc).ownBlock→((Value.slice sa nn sc).ownBlock=some g2∨z.heap.size≤g2)→Rz (z13.setCell ⟨Rb,k,none⟩ (.slice (some ⟨g2,0,none⟩) (nn+1) c2))))
  (HJ:Hid (∀ (v146 v147 v148 v149 v150 v151 v152 v153 v154 v155 v156 v157 v158 v159 v160 v161:Value) (w':World),Rz w'→K ⟨((((((((((((((((a.tmps.setIfInBounds 146 v146).setIfInBounds 147 v147).setIfInBounds 148 v148).setIfInBounds 149 v149).setIfInBounds 150 v150).setIfInBounds 151 v151).setIfInBounds 152 v152).setIfInBounds 153 v153).setIfInBounds 154 v154).setIfInBounds 155 v155).setIfInBounds 156 v156).setIfInBounds 157 v157).setIfInBounds 158 v158).setIfInBounds 159 v159).setIfInBounds 160 v160).setIfInBounds 161 v161),[]⟩ w')) :
  Code.wp Tryz.prog reg36 (Exit.then K (fun _ _ _=>False)) a z:=by
 obtain ⟨t,df⟩:=a
 dsimp only at hsz hd h6 h8 h15
 subst hd
 replace HJ:=HJ.out
 dsimp only at HJ
 have e:=arr297 t hsz
 rw [h6,h8,h15] at e
 refine Eq.mpr (congrArg (fun x=>Code.wp Tryz.prog reg36 (Exit.then K (fun _ _ _=>False)) ⟨x,[]⟩ z) e) ?_
 refine rd_reg _ _ _ _ _ _ _ _ _ _ _ _ _ _ _ _ _ _ _ _ _ _ _ _ _ _ _ _ _ _ _ _ _ _ _ _ _ _ _ _ _ _ _ _ _ _ _ _ _ _ _ _ _ _ _ _ _ _ _ _ _ _ _ _ _ _ _ _ _ _ _ _ _ _ _ _ _ _ _ _ _ _ _ _ _ _ _ _ _ _ _ _ _ _ _ _ _ _ _ _ _ _ _ _ _ _ _ _ _ _ _ _ _ _ _ _ _ _ _ _ _ _ _ _ _ _ _ _ _ _ _ _ _ _ _ _ _ _ _ _ _ _ _ _ _ _ _ _ _ _ _ _ _ _ _ _ _ _ _ _ _ _ _ _ _ _ _ _ _ _ _ _ _ _ _ _ _ _ _ _ _ _ _ _ _ _ _ _ _ _ _ _ _ _ _ _ _ _ _ _ _ _ _ _ _ _ _ _ _ _ _ _ _ _ _ _ _ _ _ _ _ _ _ _ _ _ _ _ _ _ _ _ _ _ _ _ _ _ _ _ _ _ _ _ _ _ _ _ _ _ _ _ _ _ _ _ _ _ _ _ _ _ _ _ _ _ _ _ _ _ _ _ _ _ _ _ _ _ _ _ _ _ _ _ _ _ _ _ _ _ _ _ _ _ HRO HVB HNN HBB s4 hB12 r0 r1 hR12 k4 k0 HEP he19 HEO HPF ?_
 intro v146 v147 v148 v149 v150 v151 v152 v153 v154 v155 v156 v157 v158 v159 v160 v161 w' hR
 have h9:=HJ v146 v147 v148 v149 v150 v151 v152 v153 v154 v155 v156 v157 v158 v159 v160 v161 w' hR
 have e9:=(congrArg (fun x:Array Value=>((((((((((((((((x.setIfInBounds 146 v146).setIfInBounds 147 v147).setIfInBounds 148 v148).setIfInBounds 149 v149).setIfInBounds 150 v150).setIfInBounds 151 v151).setIfInBounds 152 v152).setIfInBounds 153 v153).setIfInBounds 154 v154).setIfInBounds 155 v155).setIfInBounds 156 v156).setIfInBounds 157 v157).setIfInBounds 158 v158).setIfInBounds 159 v159).setIfInBounds 160 v160).setIfInBounds 161 v161)) e).trans (sets297b _ _ _ _ _ _ _ _ _ _ _ _ _ _ _ _ _ _ _ _ _ _ _ _ _ _ _ _ _ _ _ _ _ _ _ _ _ _ _ _ _ _ _ _ _ _ _ _ _ _ _ _ _ _ _ _ _ _ _ _ _ _ _ _ _ _ _ _ _ _ _ _ _ _ _ _ _ _ _ _ _ _ _ _ _ _ _ _ _ _ _ _ _ _ _ _ _ _ _ _ _ _ _ _ _ _ _ _ _ _ _ _ _ _ _ _ _ _ _ _ _ _ _ _ _ _ _ _ _ _ _ _ _ _ _ _ _ _ _ _ _ _ _ _ _ _ _ _ _ _ _ _ _ _ _ _ _ _ _ _ _ _ _ _ _ _ _ _ _ _ _ _ _ _ _ _ _ _ _ _ _ _ _ _ _ _ _ _ _ _ _ _ _ _ _ _ _ _ _ _ _ _ _ _ _ _ _ _ _ _ _ _ _ _ _ _ _ _ _ _ _ _ _ _ _ _ _ _ _ _ _ _ _ _ _ _ _ _ _ _ _ _ _ _ _ _ _ _ _ _ _ _ _ _ _ _ _ _ _ _ _ _ _ _ _ _ _ _ _ _ _ _ _ _ _ _ _ _ _ _ _ _ _ _ _ _ _ _ _ _ _ _ _ _ _ _ _ v146 v147 v148 v149 v150 v151 v152 v153 v154 v155 v156 v157 v158 v159 v160 v161)
 exact Eq.mp (congrArg (fun x=>K ⟨x,[]⟩ w') e9) h9
end Go.Proofs.YtdkpgdkjohjcaaaGreat
namespace Go.Proofs.YtdkpgdkjohjcaaaGreat
open Go.RowKit (wrap64)
def oA:Out:=doX 4 4 (newX 4 9 false 2) [] 1 ⟨1,0,0,0⟩
def oB:Out:=doX 4 4 oA.x oA.L 1 ⟨3,3,7,0⟩
def oC:Out:=doX 4 4 oB.x oB.L 1 ⟨2,3,0,0⟩
def oD:Out:=doX 4 4 oC.x oC.L 1 ⟨4,0,0,0⟩
def oS:Nat→Out
 | 0=>oD
 | n+1=>stepX 4 4 (oS n).x (oS n).L 1
theorem oA_k:oA.k=3:=by kernel_rfl
theorem oB_k:oB.k=3:=by kernel_rfl
theorem oC_v:oC.v=7:=by kernel_rfl
theorem oD_k:oD.k=2:=by kernel_rfl
theorem oD_p:oD.x.phase=4:=by kernel_rfl
theorem oS_12:(oS 12).x.phase=0:=by kernel_rfl
theorem oS_w:wordOf (oS 12).L ⟨4,3,0⟩=7:=by kernel_rfl
theorem wd_nil:Wd []:=fun a=>by rw [wordOf_nil]; unfold W64 first; split <;> omega
theorem sh_a:XOk oA.x∧Wd oA.L∧oA.L.length≤1∧oA.x.ev.length≤2:=by
 obtain ⟨a,b,c,d⟩:=xok_do (c:=4) (r:=4) (t:=1) (a:=⟨1,0,0,0⟩) (xok_new (s:=4) (m:=2) (n:=9) (mu:=false) (by omega) (by omega) (by omega) (by omega) (by omega) (by omega)) wd_nil (by omega) (by unfold W64; decide)
 exact ⟨a,b,c,d⟩
theorem sh_b:XOk oB.x∧Wd oB.L∧oB.L.length≤2∧oB.x.ev.length≤4:=by
 obtain ⟨h1,h2,h3,h4⟩:=sh_a
 obtain ⟨a,b,c,d⟩:=xok_do (c:=4) (r:=4) (t:=1) (a:=⟨3,3,7,0⟩) h1 h2 (by omega) (by unfold W64; decide)
 exact ⟨a,b,Nat.le_trans c (by omega),Nat.le_trans d (by omega)⟩
theorem sh_c:XOk oC.x∧Wd oC.L∧oC.L.length≤3∧oC.x.ev.length≤6:=by
 obtain ⟨h1,h2,h3,h4⟩:=sh_b
 obtain ⟨a,b,c,d⟩:=xok_do (c:=4) (r:=4) (t:=1) (a:=⟨2,3,0,0⟩) h1 h2 (by omega) (by unfold W64; decide)
 exact ⟨a,b,Nat.le_trans c (by omega),Nat.le_trans d (by omega)⟩
theorem sh_s (n:Nat):XOk (oS n).x∧Wd (oS n).L∧(oS n).L.length≤4+n∧(oS n).x.ev.length≤8+n:=by
 induction n with
 | zero =>
  obtain ⟨h1,h2,h3,h4⟩:=sh_c
  obtain ⟨a,b,c,d⟩:=xok_do (c:=4) (r:=4) (t:=1) (a:=⟨4,0,0,0⟩) h1 h2 (by omega) (by unfold W64; decide)
  exact ⟨a,b,Nat.le_trans c (by omega),Nat.le_trans d (by omega)⟩
 | succ n ih =>
  obtain ⟨h1,h2,h3,h4⟩:=ih
  obtain ⟨a,b,c,d⟩:=xok_step (c:=4) (r:=4) (t:=1) h1 h2
  exact ⟨a,b,Nat.le_trans c (by omega),Nat.le_trans d (by omega)⟩
end Go.Proofs.YtdkpgdkjohjcaaaGreat
