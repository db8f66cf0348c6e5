/- The program's memory: a word found, an access noted. -/
import Derived.Test.YtdkpgdkjohjcaaaGreatJRngAMemB
import Derived.Test.YtdkpgdkjohjcaaaGreatAppW
import Derived.Deep.AppendLies
import Derived.Deep.DrawnRows
import Derived.Deep.RegionLaw
set_option maxHeartbeats 3200000
set_option maxRecDepth 100000
namespace Go.Proofs.YtdkpgdkjohjcaaaGreat
open Go.ChangeShapes Go.WideShapes Go.ChangeAt Go.RowKit
attribute [local go_sem ↓] Go.wp_at_zero Go.wp_at_succ
theorem word_any {w:World} {c r M H S C:Nat} {f:Ad→Int} {v:Value} (h:MemW w c r M H S C f v) (hr:r < 1000000) (hc:c < 1000000) (a:Ad) :
  Calls Tryz.prog 37 #[.pointer (some ⟨M,0,none⟩),.agg (adC a)] w fun e w' => e = .returned (ptr_ c r M H S C a)∧Below w.heap.size w w':=by
 have h1:w.cell? ⟨M,1,none⟩=some (.slice (some ⟨H,0,none⟩) r r):=by rw [cell_at h.m]; rfl
 have h2:w.cell? ⟨M,2,none⟩=some (.slice (some ⟨S,0,none⟩) r r):=by rw [cell_at h.m]; rfl
 have h3:w.cell? ⟨M,3,none⟩=some (.slice (some ⟨C,0,none⟩) c c):=by rw [cell_at h.m]; rfl
 obtain ⟨k,i,j⟩:=a
 show Calls Tryz.prog 37 #[.pointer (some ⟨M,0,none⟩),.agg #[.int .i64 k,.int .i64 i,.int .i64 j]] w fun e w' => _
 have yes : ∀ (q:Addr),isAd c r ⟨k,i,j⟩=true→at_ M H S C ⟨k,i,j⟩=q→ptr_ c r M H S C ⟨k,i,j⟩ = .pointer (some q):=fun q e1 e2=>by simp [ptr_,e1,e2]
 have no:isAd c r ⟨k,i,j⟩=false→ptr_ c r M H S C ⟨k,i,j⟩ = .pointer none:=fun e1=>by simp [ptr_,e1]
 by_cases k1:k=1
 ·by_cases hi:i=0
  ·by_cases hj:j=0
   ·rw [yes ⟨M,0,none⟩ (by simp [isAd,k1,hi,hj]) (by simp [at_,k1])]
    exact word_newest w M H S C c r k i j h1 h2 h3 hr hc k1 hi hj
   ·rw [no (by simp [isAd,k1,hi,hj])]
    exact word_newest2 w M H S C c r k i j h1 h2 h3 hr hc k1 hi hj
  ·rw [no (by simp [isAd,k1,hi])]
   exact word_newest1 w M H S C c r k i j h1 h2 h3 hr hc k1 hi
 by_cases k2:k=2
 ·by_cases hi:0≤i∧i < (r:Int)
  ·by_cases hj:j=0
   ·rw [yes ⟨H,i.toNat,none⟩ (by simp [isAd,k2,hi,hj]) (by simp [at_,k2])]
    exact word_head w M H S C c r k i j h1 h2 h3 hr hc k2 i.toNat (by omega) (by omega) hj
   ·rw [no (by simp [isAd,k2,hj])]
    exact word_head2 w M H S C c r k i j h1 h2 h3 hr hc k2 hi hj
  ·rw [no (by simp [isAd,k2]; omega)]
   exact word_head1 w M H S C c r k i j h1 h2 h3 hr hc k2 hi
 by_cases k3:k=3
 ·by_cases hi:0≤i∧i < (r:Int)
  ·by_cases hj:0≤j∧j < 8
   ·rw [yes ⟨S,i.toNat * 8+j.toNat,none⟩ (by simp [isAd,k3,hi,hj]) (by simp [at_,k3])]
    exact word_sig w M H S C c r k i j h1 h2 h3 hr hc k3 i.toNat j.toNat (by omega) (by omega) (by omega) (by omega)
   ·rw [no (by simp [isAd,k3]; omega)]
    exact word_sig2 w M H S C c r k i j h1 h2 h3 hr hc k3 hi hj
  ·rw [no (by simp [isAd,k3]; omega)]
   exact word_sig1 w M H S C c r k i j h1 h2 h3 hr hc k3 hi
 by_cases k4:k=4
 ·by_cases hi:0≤i∧i < (c:Int)
  ·by_cases hj:j=0
   ·rw [yes ⟨C,i.toNat,none⟩ (by simp [isAd,k4,hi,hj]) (by simp [at_,k4])]
    exact word_cell w M H S C c r k i j h1 h2 h3 hr hc k4 i.toNat (by omega) (by omega) hj
   ·rw [no (by simp [isAd,k4,hj])]
    exact word_cell2 w M H S C c r k i j h1 h2 h3 hr hc k4 hi hj
  ·rw [no (by simp [isAd,k4]; omega)]
   exact word_cell1 w M H S C c r k i j h1 h2 h3 hr hc k4 hi
 rw [no (by simp [isAd,k1,k2,k3,k4])]
 exact word_none w M H S C c r k i j h1 h2 h3 hr hc ⟨k1,k2,k3,k4⟩
theorem fr_drew (w:World) (a:Addr):w.drew.frozen? a=w.frozen? a:=rfl
theorem info_parts {t:TypeId} {z:Value} {s b:Nat} (h:(Tryz.prog.info? t).map (fun i=>(i.zero,i.size,i.bytes))=some (some z,s,b)) : ∃ i,Tryz.prog.info? t=some i∧i.zero=some z∧i.size=s∧i.bytes=b:=by
 cases hi:Tryz.prog.info? t with
 | none=>rw [hi] at h; cases h
 | some i=>rw [hi] at h; simp at h; exact ⟨i,rfl,h.1,h.2.1,h.2.2⟩
theorem info_acc:(Tryz.prog.info? 175).map (fun i=>(i.zero,i.size,i.bytes))=some (some (.agg #[.int .i64 0,.int .i64 0,.int .i64 0,.int .i64 0,.int .i64 0,.int .i64 0,.int .i64 0,.bool false]),8,64):=by kernel_rfl
theorem note_end {w w1:World} {base c r M H S C gg cap' n:Nat} {f:Ad→Int} {v:Value} {L:List Ac} {x:Ac} {o1 o2:Obj} (h:MemW w c r M H S C f v) (hown:w.ownsRow base 175 8 v L.length (logC L)) (hn:L.length=n)
  (hown1:w1.ownsRow base 175 8 (.slice (some ⟨gg,0,none⟩) (n+1) cap') (n+1) (logC L++(acC x).toList)) (hgrow:((w.alloc o1).alloc o2).drew.grownBy w1 v.ownBlock) (hat:v.ownBlock=some gg∨gg=w.heap.size+2) :
  ∃ v', MemW (w1.setCell ⟨M, 4, none⟩ (.slice (some ⟨gg, 0, none⟩) (n + 1) cap')) c r M H S C f v' ∧ (w1.setCell ⟨M, 4, none⟩ (.slice (some ⟨gg, 0, none⟩) (n + 1) cap')).ownsRow base 175 8 v' (L ++ [x]).length (logC (L ++ [x])) ∧
   (v'.ownBlock=v.ownBlock ∨ ∃ g,v'.ownBlock=some g∧w.heap.size≤g)∧Keep (M :: v.ownBlock.toList) w (w1.setCell ⟨M,4,none⟩ (.slice (some ⟨gg,0,none⟩) (n+1) cap')):=by
 have k0:Keep v.ownBlock.toList w w1:=by
  have:Keep v.ownBlock.toList w ((w.alloc o1).alloc o2).drew:=((Keep.refl _ _).alloc o1).alloc o2 |>.drewN 1
  exact this.grown hgrow (fun b hb=>Or.inl (by rw [hb]; simp))
 have nm : ∀ {b:Nat} {cs:Array Value} {t:TypeId},w.heap[b]? = some (.cells cs t (0,0))→t≠175→b ∉ v.ownBlock.toList:=fun hb ht hm=>own_ne hown hb ht (by simpa using hm)
 have h1:=h.keep k0 (nm h.m (by decide)) (nm h.h (by decide)) (nm h.s (by decide)) (nm h.c (by decide))
 have mh:M≠H:=ne_of_type h.m h.h (by decide)
 have ms:M≠S:=ne_of_type h.m h.s (by decide)
 have mc:M≠C:=ne_of_type h.m h.c (by decide)
 have hg1:(Value.slice (some ⟨gg,0,none⟩) (n+1) cap').ownBlock≠some M:=own_ne hown1 h1.m (by decide)
 have kset:Keep [M] w1 (w1.setCell ⟨M,4,none⟩ (.slice (some ⟨gg,0,none⟩) (n+1) cap')):=(Keep.refl _ _).setCell _ _ (Or.inl (by simp))
 refine ⟨.slice (some ⟨gg, 0, none⟩) (n + 1) cap', ⟨?_, ?_, ?_, ?_, h.ne⟩, ?_, ?_, ?_⟩
 ·rw [heap_set h1.m]; rfl
 ·rw [heap_set_other _ _ mh]; exact h1.h
 ·rw [heap_set_other _ _ ms]; exact h1.s
 ·rw [heap_set_other _ _ mc]; exact h1.c
 ·rw [logC_app,logC_one,List.length_append,hn]
  exact own_keep hown1 kset (fun b hb hm=>by simp at hm; subst hm; exact hg1 hb)
 ·rcases hat with e | e
  ·exact Or.inl (by rw [e]; rfl)
  ·exact Or.inr ⟨gg,rfl,by omega⟩
 ·exact (k0.mono (fun b hb=>by simp at hb ⊢; exact Or.inr hb)).trans kset (fun b hb=>by simp at hb; subst hb; exact Or.inl (by simp))
theorem note_any {w:World} {base c r M H S C:Nat} {f:Ad→Int} {v:Value} {L:List Ac} (h:MemW w c r M H S C f v) (hown:w.ownsRow base 175 8 v L.length (logC L)) (hb:base≤w.heap.size) (hL:L.length < 3298534883328) (x:Ac) :
  Calls Tryz.prog 90 #[.pointer (some ⟨M, 0, none⟩), .agg (acC x)] w fun e w' => ∃ v', e = .returned (.tuple #[]) ∧ MemW w' c r M H S C f v' ∧ w'.ownsRow base 175 8 v' (L ++ [x]).length (logC (L ++ [x])) ∧ (v'.ownBlock = v.ownBlock ∨ ∃ g, v'.ownBlock = some g ∧ w.heap.size ≤ g) ∧ Keep (M :: v.ownBlock.toList) w w' := by
 obtain ⟨i0,hi,hz0,hz1,hz2⟩:=info_parts info_acc
 have hM:M < w.heap.size:=(Array.getElem?_eq_some_iff.1 h.m).1
 have hc4:w.cell? ⟨M,4,none⟩=some v:=by rw [cell_at h.m]; rfl
 have hf4:w.frozen? ⟨M,4,none⟩=false:=frozen_at h.m 4
 obtain ⟨a,cap,rfl⟩ : ∃ a cap,v = .slice a L.length cap:=by
  rcases hown.2 with ⟨e,h0⟩ | ⟨g,cp,cur,e,_⟩
  ·exact ⟨none,0,by rw [e,h0]⟩
  ·exact ⟨_,_,e⟩
 have hMv:(Value.slice a L.length cap).ownBlock≠some M:=fun e=>by
  rcases hown.2 with ⟨e1,h0⟩ | ⟨g,cp,cur,e1,_,hg,_⟩
  ·rw [e1] at e; simp [Value.ownBlock] at e
  ·rw [e1] at e
   simp [Value.ownBlock] at e
   subst e
   rw [h.m] at hg
   simp at hg
 have hNv:(Value.slice a L.length cap).ownBlock≠some w.heap.size:=fun e=>by
  have:=hown.lt _ e
  omega
 obtain ⟨t,k,⟨ak,ai,aj⟩,o,z,y⟩:=x
 have hM2:M < w.heap.size+1:=by omega
 have HH:Hid (MemW w c r M H S C f (.slice a L.length cap)):=h
 have HOWN:Hid (w.ownsRow base 175 8 (.slice a L.length cap) L.length (logC L)):=hown
 have hlen:(logC L).length=L.length * 8:=logC_len L
 clear h hown
 generalize hxs:logC L=xs at *
 generalize hn:L.length=n at *
 unfold acC
 go_enter Tryz.func90,Tryz.ntmps90
 go_wp2_with fail
 go_region_law
  ((refine step_lies_wide _ (by rfl) _ _ _ (by rfl) base 175 i0 _ 8 64 Tryz.underlying83 hi hz0 hz1 hz2 rfl (by omega) (.slice a n cap) n xs (by rfl) (((HOWN.out.alloc _).alloc _).drew)
        ⟨w.heap.size+1,0,none⟩ 1 1 [.int .i64 t,.int .i64 k,.int .i64 ak,.int .i64 ai,.int .i64 aj,.int .i64 o,.int .i64 z,.bool y] (by rfl) (by rfl) (World.news_of_block (cs:=#[.int .i64 t,.int .i64 k,.int .i64 ak,.int .i64 ai,.int .i64 aj,.int .i64 o,.int .i64 z,.bool y]) (t:=175) (fr:=(0,0)) (heap_alloc2_new w _ _)) (by simp [Value.oneCell'])
        (by omega) (by unfold maxLen; omega) (by omega) (by simp; omega) (w.heap.size+2) (by simp) ?_; intro gg cap' w1 hown1 hgrow hat hlt; have hs1:w1.cell? ⟨M,4,none⟩=some (.slice a n cap):=(by rw [hgrow.cell_far _ (by simp; omega) (Ne.symm hMv)]; simp [hM,hM2,World.cell?_alloc_past,hc4]); have hs2:w1.frozen? ⟨M,4,none⟩=false:=(by rw [hgrow.frozen_far _ (by simp; omega) (Ne.symm hMv)]; rw [fr_drew,World.frozen?_alloc_past _ _ _ (by simp; omega),World.frozen?_alloc_past _ _ _ hM]; exact hf4)))
 all_goals
  subst hxs
  obtain ⟨v', e1, e2, e3, e4⟩ := note_end (x := ⟨t, k, ⟨ak, ai, aj⟩, o, z, y⟩) HH.out (by rw [hn]; exact HOWN.out) hn hown1 hgrow hat
  refine bodyPost_end (results_none rfl _ _ _) rfl ?_
  exact ⟨v', rfl, e1, e2, e3, e4⟩
structure MemAt' (w:World) (base:Nat) (p:Value) (c r:Nat) (L:List Ac) (F:List Nat) (M H S C:Nat) (v:Value):Prop where
 p:p = .pointer (some ⟨M,0,none⟩)
 m:MemW w c r M H S C (wordOf L) v
 own:w.ownsRow base 175 8 v L.length (logC L)
 F:F=M :: H :: S :: C :: v.ownBlock.toList
 bM:base≤M
 bH:base≤H
 bS:base≤S
 bC:base≤C
 c:c < 1000000
 r:r < 1000000
def MemAt (w:World) (base:Nat) (p:Value) (c r:Nat) (L:List Ac) (F:List Nat):Prop:=∃ M H S C v,MemAt' w base p c r L F M H S C v
def Next (F F' : List Nat) (w w' : World) : Prop := Keep F w w' ∧ ∀ b ∈ F', b ∈ F ∨ w.heap.size ≤ b
theorem Next.trans {F F' F'':List Nat} {w w1 w2:World} (h:Next F F' w w1) (k:Next F' F'' w1 w2):Next F F'' w w2 :=
 ⟨h.1.trans k.1 (fun b hb=>h.2 b hb),fun b hb=>by
    rcases k.2 b hb with h1 | h1
    · exact h.2 b h1
    · exact Or.inr (Nat.le_trans h.1.size h1)⟩
theorem Next.of_below {w w':World} (h:Below w.heap.size w w') (F:List Nat):Next F F w w':=⟨Keep.of_below h F,fun _ h=>Or.inl h⟩
theorem MemAt.lt {w:World} {base:Nat} {p:Value} {c r:Nat} {L:List Ac} {F:List Nat} (h:MemAt w base p c r L F) : ∀ b ∈ F,base≤b∧b < w.heap.size:=by
 obtain ⟨M,H,S,C,v,h⟩:=h
 intro b hb
 rw [h.F] at hb
 simp only [List.mem_cons,Option.mem_toList] at hb
 rcases hb with rfl | rfl | rfl | rfl | hb
 ·exact ⟨h.bM,heap_lt h.m.m⟩
 ·exact ⟨h.bH,heap_lt h.m.h⟩
 ·exact ⟨h.bS,heap_lt h.m.s⟩
 ·exact ⟨h.bC,heap_lt h.m.c⟩
 ·exact own_block h.own b (by simpa using hb)
theorem MemAt.keep {w w':World} {base:Nat} {p:Value} {c r:Nat} {L:List Ac} {F G:List Nat} (h:MemAt w base p c r L F) (k:Keep G w w') (hd : ∀ b ∈ F,b ∉ G):MemAt w' base p c r L F:=by
 obtain ⟨M,H,S,C,v,h⟩:=h
 have hF:=h.F
 refine ⟨M,H,S,C,v,h.p,h.m.keep k (hd _ ?_) (hd _ ?_) (hd _ ?_) (hd _ ?_),own_keep h.own k (fun b hb=>hd b ?_),h.F,h.bM,h.bH,h.bS,h.bC,h.c,h.r⟩
 all_goals rw [hF]; simp
 rw [hb]; simp
theorem MemAt.below {w w':World} {base:Nat} {p:Value} {c r:Nat} {L:List Ac} {F:List Nat} (h:MemAt w base p c r L F) (k:Below w.heap.size w w'):MemAt w' base p c r L F:=h.keep (Keep.of_below k []) (fun _ _=>by simp)
theorem next_note {w w1 w2:World} {base:Nat} {c r:Nat} {L:List Ac} {F:List Nat} {M H S C:Nat} {v v':Value} {x:Ac} (h:MemAt' w base (.pointer (some ⟨M,0,none⟩)) c r L F M H S C v) (k1:Keep [M,H,S,C] w w1) (m2:MemW w2 c r M H S C (wordOf (L ++ [x])) v')
  (o2:w2.ownsRow base 175 8 v' (L ++ [x]).length (logC (L ++ [x]))) (hat:v'.ownBlock=v.ownBlock ∨ ∃ g,v'.ownBlock=some g∧w1.heap.size≤g) (k2:Keep (M :: v.ownBlock.toList) w1 w2) :
  ∃ F', MemAt w2 base (.pointer (some ⟨M, 0, none⟩)) c r (L ++ [x]) F' ∧ Next F F' w w2 := by
 refine ⟨_, ⟨M, H, S, C, v', rfl, m2, o2, rfl, h.bM, h.bH, h.bS, h.bC, h.c, h.r⟩, ?_, ?_⟩
 ·have k1':Keep F w w1:=k1.mono (fun b hb=>by rw [h.F]; simp at hb ⊢; rcases hb with rfl | rfl | rfl | rfl <;> simp)
  exact k1'.trans k2 (fun b hb=>Or.inl (by rw [h.F]; simp at hb ⊢; rcases hb with rfl | hb <;> simp [*]))
 ·intro b hb
  rw [h.F]
  simp only [List.mem_cons,Option.mem_toList] at hb ⊢
  rcases hb with rfl | rfl | rfl | rfl | hb
  ·simp
  ·simp
  ·simp
  ·simp
  ·rcases hat with e | ⟨g,e,hg⟩
   ·rw [← e]; exact Or.inl (Or.inr (Or.inr (Or.inr (Or.inr hb))))
   ·rw [e] at hb; simp at hb; subst hb; exact Or.inr (Nat.le_trans k1.size hg)
theorem box_cells {w w1:World} {a:Ad} (hb:Below (w.alloc (.cells (adC a) 34)).heap.size (w.alloc (.cells (adC a) 34)) w1):w1.cell? ⟨w.heap.size,0,none⟩=some (.int .i64 a.k)∧w1.cell? ⟨w.heap.size,1,none⟩=some (.int .i64 a.i)∧w1.cell? ⟨w.heap.size,2,none⟩=some (.int .i64 a.j):=by
 have h:w1.heap[w.heap.size]? = some (.cells (adC a) 34 (0,0)):=by
  rw [hb.block _ (by simp)]; exact heap_alloc_new _ _
 exact ⟨by rw [cell_at h]; rfl,by rw [cell_at h]; rfl,by rw [cell_at h]; rfl⟩
theorem peek_any {w:World} {base:Nat} {p:Value} {c r:Nat} {L:List Ac} {F:List Nat} (h:MemAt w base p c r L F) (a:Ad) :
  Calls Tryz.prog 23 #[p,.agg (adC a)] w fun e w' => e = .returned (.tuple #[.int .i64 (if isAd c r a then wordOf L a else 0),.int .i64 (if isAd c r a then 0 else 1)])∧Below w.heap.size w w':=by
 obtain ⟨M,H,S,C,v,h⟩:=h
 obtain rfl:=h.p
 have hm:=h.m
 have HB:Hid (∀ o,Calls Tryz.prog 37 #[.pointer (some ⟨M,0,none⟩),.agg (adC a)] (w.alloc o) fun e w' => e = .returned (ptr_ c r M H S C a)∧Below (w.alloc o).heap.size (w.alloc o) w'):=fun o=>word_any (hm.keep (Keep.of_below (below_a1 _ _) []) (by simp) (by simp) (by simp) (by simp)) h.r h.c a
 obtain ⟨k,i,j⟩:=a
 by_cases ha:isAd c r ⟨k,i,j⟩=true
 ·have hcell:=hm.cell ha
  have HP:Hid (ptr_ c r M H S C ⟨k,i,j⟩ = .pointer (some (at_ M H S C ⟨k,i,j⟩))):=by unfold ptr_; rw [Hid,if_pos ha]
  rw [if_pos ha,if_pos ha]
  generalize at_ M H S C ⟨k,i,j⟩=q at *
  generalize wordOf L ⟨k,i,j⟩=z at *
  unfold adC
  unfold adC at HB
  go_enter Tryz.func23,Tryz.ntmps23
  go_wp2_with fail
  refine (HB.out _).mono ?_
  rintro e w1 ⟨rfl,hb1⟩
  have hc1:w1.cell? q=some (.int .i64 z):=by
   have hlt:=World.block_lt_of_cell? _ _ hcell
   rw [hb1.cell (p:=q) (by simp; omega),World.cell?_alloc_some _ _ _ (by rw [hcell]; rfl)]
   exact hcell
  have HBL:Hid (Below w.heap.size w w1):=below_then (below_a1 _ _) hb1
  clear hb1
  rw [HP.out]
  go_wp2
  go_ret2
  exact ⟨rfl,HBL.out⟩
 ·have HP:Hid (ptr_ c r M H S C ⟨k,i,j⟩ = .pointer none):=by unfold ptr_; rw [Hid,if_neg ha]
  rw [if_neg ha,if_neg ha]
  unfold adC
  unfold adC at HB
  go_enter Tryz.func23,Tryz.ntmps23
  go_wp2_with fail
  refine (HB.out _).mono ?_
  rintro e w1 ⟨rfl,hb1⟩
  have HBL:Hid (Below w.heap.size w w1):=below_then (below_a1 _ _) hb1
  clear hb1
  rw [HP.out]
  go_wp2
  go_ret2
  exact ⟨rfl,HBL.out⟩
def loadL (c r:Nat) (L:List Ac) (t:Int) (a:Ad):List Ac:=if isAd c r a then L ++ [Ac.mk t 1 a 0 (wordOf L a) false] else L
def storeL (c r:Nat) (L:List Ac) (t:Int) (a:Ad) (z:Int):List Ac:=if isAd c r a then L ++ [Ac.mk t 2 a 0 z false] else L
def swapL (c r:Nat) (L:List Ac) (t:Int) (a:Ad) (o z:Int):List Ac:=if isAd c r a then L ++ [Ac.mk t 3 a o z (wordOf L a == o)] else L
theorem sizes_any {w:World} {base:Nat} {p:Value} {c r:Nat} {L:List Ac} {F:List Nat} (h:MemAt w base p c r L F) :
  Calls Tryz.prog 44 #[p] w fun e w' => e = .returned (.tuple #[.int .i64 (c:Int),.int .i64 (r:Int)])∧Below w.heap.size w w':=by
 obtain ⟨M,H,S,C,v,h⟩:=h
 obtain rfl:=h.p
 have h1:w.cell? ⟨M,1,none⟩=some (.slice (some ⟨H,0,none⟩) r r):=by rw [cell_at h.m.m]; rfl
 have h3:w.cell? ⟨M,3,none⟩=some (.slice (some ⟨C,0,none⟩) c c):=by rw [cell_at h.m.m]; rfl
 clear h
 go_enter Tryz.func44,Tryz.ntmps44
 go_wp2
 first | (go_ret2; exact ⟨rfl,Below.refl _ _⟩) | (go_quiet (fail); go_wp2; go_ret2; exact ⟨rfl,below_drawn (Below.refl _ _) _⟩)
theorem load_any {w:World} {base:Nat} {p:Value} {c r:Nat} {L:List Ac} {F:List Nat} (h:MemAt w base p c r L F) (hb:base≤w.heap.size) (hL:L.length < 3298534883328) (t:Int) (a:Ad) :
  Calls Tryz.prog 110 #[p, .int .i64 t, .agg (adC a)] w fun e w' => e = .returned (.tuple #[.int .i64 (if isAd c r a then wordOf L a else 0), .int .i64 (if isAd c r a then 0 else 1)]) ∧ ∃ F', MemAt w' base p c r (loadL c r L t a) F' ∧ Next F F' w w' := by
 obtain ⟨M,H,S,C,v,h⟩:=h
 obtain rfl:=h.p
 have hm:=h.m
 have HH:Hid (MemAt' w base (.pointer (some ⟨M,0,none⟩)) c r L F M H S C v):=h
 have HB:Hid (∀ o,Calls Tryz.prog 37 #[.pointer (some ⟨M,0,none⟩),.agg (adC a)] (w.alloc o) fun e w' => e = .returned (ptr_ c r M H S C a)∧Below (w.alloc o).heap.size (w.alloc o) w'):=fun o=>word_any (hm.keep (Keep.of_below (below_a1 _ _) []) (by simp) (by simp) (by simp) (by simp)) h.r h.c a
 clear h
 unfold loadL
 obtain ⟨k,i,j⟩:=a
 by_cases ha:isAd c r ⟨k,i,j⟩=true
 ·have hcell:=hm.cell ha
  have HP:Hid (ptr_ c r M H S C ⟨k,i,j⟩ = .pointer (some (at_ M H S C ⟨k,i,j⟩))):=by unfold ptr_; rw [Hid,if_pos ha]
  have HN:Hid (∀ (w1 w2:World) (v':Value),Keep [M,H,S,C] w w1→MemW w2 c r M H S C (wordOf L) v'→w2.ownsRow base 175 8 v' (L ++ [Ac.mk t 1 ⟨k,i,j⟩ 0 (wordOf L ⟨k,i,j⟩) false]).length (logC (L ++ [Ac.mk t 1 ⟨k,i,j⟩ 0 (wordOf L ⟨k,i,j⟩) false]))→(v'.ownBlock=v.ownBlock ∨ ∃ g,v'.ownBlock=some g∧w1.heap.size≤g)→Keep (M :: v.ownBlock.toList) w1 w2 →
        ∃ F', MemAt w2 base (.pointer (some ⟨M, 0, none⟩)) c r (L ++ [Ac.mk t 1 ⟨k, i, j⟩ 0 (wordOf L ⟨k, i, j⟩) false]) F' ∧ Next F F' w w2) := fun w1 w2 v' k1 m2 o2 hat k2 => next_note HH.out k1 (by rw [wordOf_miss (by rfl)]; exact m2) o2 hat k2
  rw [if_pos ha,if_pos ha,if_pos ha]
  have HCELL:Hid (∀ (w':World) (v':Value),MemW w' c r M H S C (wordOf L) v'→w'.cell? (at_ M H S C ⟨k,i,j⟩)=some (.int .i64 (wordOf L ⟨k,i,j⟩))):=fun w' v' hm' => hm'.cell ha
  generalize at_ M H S C ⟨k,i,j⟩=q at *
  generalize wordOf L ⟨k,i,j⟩=z at *
  unfold adC
  unfold adC at HB
  go_enter Tryz.func110,Tryz.ntmps110
  go_wp2_with fail
  refine (HB.out _).mono ?_
  rintro e w1 ⟨rfl,hb1⟩
  obtain ⟨b0,b1,b2⟩:=box_cells (a:=⟨k,i,j⟩) hb1
  have HBL:Hid (Below w.heap.size w w1):=below_then (below_a1 _ _) hb1
  have HM1:Hid (MemW w1 c r M H S C (wordOf L) v):=hm.keep (Keep.of_below HBL.out []) (by simp) (by simp) (by simp) (by simp)
  have HO1:Hid (w1.ownsRow base 175 8 v L.length (logC L)):=own_keep HH.out.own (Keep.of_below HBL.out []) (fun _ _=>by simp)
  have hsz:base≤w1.heap.size:=Nat.le_trans hb HBL.out.size
  have hc1:w1.cell? q=some (.int .i64 z):=HCELL.out _ _ HM1.out
  have HNT : Hid (Calls Tryz.prog 90 #[.pointer (some ⟨M, 0, none⟩), .agg #[.int .i64 t, .int .i64 1, .int .i64 k, .int .i64 i, .int .i64 j, .int .i64 0, .int .i64 z, .bool false]] w1.drew fun e w' => ∃ v', e = .returned (.tuple #[]) ∧ MemW w' c r M H S C (wordOf L) v' ∧ w'.ownsRow base 175 8 v' (L ++ [Ac.mk t 1 ⟨k, i, j⟩ 0 z false]).length (logC (L ++ [Ac.mk t 1 ⟨k, i, j⟩ 0 z false])) ∧ (v'.ownBlock = v.ownBlock ∨ ∃ g, v'.ownBlock = some g ∧ w1.heap.size ≤ g) ∧ Keep (M :: v.ownBlock.toList) w1.drew w') :=
   note_any (w:=w1.drew) (x:=Ac.mk t 1 ⟨k,i,j⟩ 0 z false) (HM1.out.keep ((Keep.refl [] _).drewN 1) (by simp) (by simp) (by simp) (by simp)) (own_keep HO1.out ((Keep.refl [] _).drewN 1) (fun _ _=>by simp)) hsz hL
  clear hb1
  rw [HP.out]
  go_wp2_with fail
  go_region_with ((go_at_call 90; refine HNT.out.mono ?_; rintro e w2 ⟨v', rfl, m2, o2, hat, k2⟩))
  all_goals
   have hc2:w2.cell? q=some (.int .i64 z):=HCELL.out _ _ m2
   have HE:=HN.out w1.drew w2 v' ((Keep.of_below HBL.out _).drewN 1) m2 o2 hat k2
   have HE' : Hid (∃ F', MemAt w2 base (.pointer (some ⟨M, 0, none⟩)) c r (L ++ [Ac.mk t 1 ⟨k, i, j⟩ 0 z false]) F' ∧ Next F F' w w2) := HE
   clear HE m2 o2 hat k2 HNT hc1 b0 b1 b2
   go_wp2
   go_ret2
   exact ⟨rfl,HE'.out⟩
 ·have HP:Hid (ptr_ c r M H S C ⟨k,i,j⟩ = .pointer none):=by unfold ptr_; rw [Hid,if_neg ha]
  rw [if_neg ha,if_neg ha,if_neg ha]
  unfold adC
  unfold adC at HB
  go_enter Tryz.func110,Tryz.ntmps110
  go_wp2_with fail
  refine (HB.out _).mono ?_
  rintro e w1 ⟨rfl,hb1⟩
  have HBL:Hid (Below w.heap.size w w1):=below_then (below_a1 _ _) hb1
  clear hb1
  rw [HP.out]
  go_wp2
  go_ret2
  exact ⟨rfl,F,MemAt.below ⟨M,H,S,C,v,HH.out⟩ HBL.out,Next.of_below HBL.out F⟩
theorem store_any {w:World} {base:Nat} {p:Value} {c r:Nat} {L:List Ac} {F:List Nat} (h:MemAt w base p c r L F) (hb:base≤w.heap.size) (hL:L.length < 3298534883328) (t:Int) (a:Ad) (z:Int) :
  Calls Tryz.prog 86 #[p, .int .i64 t, .agg (adC a), .int .i64 z] w fun e w' => e = .returned (.int .i64 (if isAd c r a then 0 else 1)) ∧ ∃ F', MemAt w' base p c r (storeL c r L t a z) F' ∧ Next F F' w w' := by
 obtain ⟨M,H,S,C,v,h⟩:=h
 obtain rfl:=h.p
 have hm:=h.m
 have HH:Hid (MemAt' w base (.pointer (some ⟨M,0,none⟩)) c r L F M H S C v):=h
 have HB:Hid (∀ o,Calls Tryz.prog 37 #[.pointer (some ⟨M,0,none⟩),.agg (adC a)] (w.alloc o) fun e w' => e = .returned (ptr_ c r M H S C a)∧Below (w.alloc o).heap.size (w.alloc o) w'):=fun o=>word_any (hm.keep (Keep.of_below (below_a1 _ _) []) (by simp) (by simp) (by simp) (by simp)) h.r h.c a
 clear h
 obtain ⟨k,i,j⟩:=a
 unfold storeL
 by_cases ha:isAd c r ⟨k,i,j⟩=true
 ·have HP:Hid (ptr_ c r M H S C ⟨k,i,j⟩ = .pointer (some (at_ M H S C ⟨k,i,j⟩))):=by unfold ptr_; rw [Hid,if_pos ha]
  have HQB:Hid ((at_ M H S C ⟨k,i,j⟩).block ∈ [M,H,S,C]):=at_block _ _ _ _ _
  have HCELL:Hid (∀ (w':World) (v':Value),MemW w' c r M H S C (wordOf L) v'→w'.cell? (at_ M H S C ⟨k,i,j⟩)=some (.int .i64 (wordOf L ⟨k,i,j⟩))∧w'.frozen? (at_ M H S C ⟨k,i,j⟩)=false):=fun w' v' hm' => ⟨hm'.cell ha,hm'.frozen ha⟩
  have HSET:Hid (∀ (w':World) (v':Value),MemW w' c r M H S C (wordOf L) v'→MemW (w'.setCell (at_ M H S C ⟨k,i,j⟩) (.int .i64 z)) c r M H S C (wordOf (L ++ [Ac.mk t 2 ⟨k,i,j⟩ 0 z false])) v'):=fun w' v' hm' => by
   rw [wordOf_hit (x:=Ac.mk t 2 ⟨k,i,j⟩ 0 z false) (Or.inl rfl)]
   exact hm'.set ha z
  rw [if_pos ha,if_pos ha]
  have hcl:=(HCELL.out w v hm).1
  generalize at_ M H S C ⟨k,i,j⟩=q at *
  generalize wordOf L ⟨k,i,j⟩=u at *
  unfold adC
  unfold adC at HB
  go_enter Tryz.func86,Tryz.ntmps86
  go_wp2_with fail
  refine (HB.out _).mono ?_
  rintro e w1 ⟨rfl,hb1⟩
  obtain ⟨b0,b1,b2⟩:=box_cells (a:=⟨k,i,j⟩) hb1
  have HBL:Hid (Below w.heap.size w w1):=below_then (below_a1 _ _) hb1
  have HM1:Hid (MemW w1 c r M H S C (wordOf L) v):=hm.keep (Keep.of_below HBL.out []) (by simp) (by simp) (by simp) (by simp)
  have HO1:Hid (w1.ownsRow base 175 8 v L.length (logC L)):=own_keep HH.out.own (Keep.of_below HBL.out []) (fun _ _=>by simp)
  have hsz:base≤w1.heap.size:=Nat.le_trans hb HBL.out.size
  obtain ⟨hc1,hf1⟩:=HCELL.out _ _ HM1.out
  have hqne:q.block≠w.heap.size:=fun e=>by
   have:=World.block_lt_of_cell? _ _ hcl
   omega
  have HKS:Hid (Keep [M,H,S,C] w (w1.setCell q (.int .i64 z))):=(Keep.of_below HBL.out _).setCell _ _ (Or.inl HQB.out)
  have HMS:Hid (MemW (w1.setCell q (.int .i64 z)) c r M H S C (wordOf (L ++ [Ac.mk t 2 ⟨k,i,j⟩ 0 z false])) v):=HSET.out _ _ HM1.out
  have HOS:Hid (World.ownsRow (w1.setCell q (.int .i64 z)) base 175 8 v L.length (logC L)):=own_keep HO1.out ((Keep.refl [M,H,S,C] _).setCell _ _ (Or.inl HQB.out)) (fun b hb hm=>by
      simp only [List.mem_cons,List.not_mem_nil,or_false] at hm
      rcases hm with rfl | rfl | rfl | rfl
      · exact own_ne HO1.out HM1.out.m (by decide) hb
      · exact own_ne HO1.out HM1.out.h (by decide) hb
      · exact own_ne HO1.out HM1.out.s (by decide) hb
      · exact own_ne HO1.out HM1.out.c (by decide) hb)
  have HNT : Hid (Calls Tryz.prog 90 #[.pointer (some ⟨M, 0, none⟩), .agg #[.int .i64 t, .int .i64 2, .int .i64 k, .int .i64 i, .int .i64 j, .int .i64 0, .int .i64 z, .bool false]] (w1.setCell q (.int .i64 z)) fun e w' => ∃ v', e = .returned (.tuple #[]) ∧ MemW w' c r M H S C (wordOf (L ++ [Ac.mk t 2 ⟨k, i, j⟩ 0 z false])) v' ∧ w'.ownsRow base 175 8 v' (L ++ [Ac.mk t 2 ⟨k, i, j⟩ 0 z false]).length (logC (L ++ [Ac.mk t 2 ⟨k, i, j⟩ 0 z false])) ∧ (v'.ownBlock = v.ownBlock ∨ ∃ g, v'.ownBlock = some g ∧ (World.heap (w1.setCell q (.int .i64 z))).size ≤ g) ∧ Keep (M :: v.ownBlock.toList) (w1.setCell q (.int .i64 z)) w') :=
   note_any (w:=(w1.setCell q (.int .i64 z))) (x:=Ac.mk t 2 ⟨k,i,j⟩ 0 z false) HMS.out HOS.out (by first | exact hsz | simpa using hsz) hL
  have hd0:World.cell? (w1.setCell q (.int .i64 z)) ⟨w.heap.size,0,none⟩=some (.int .i64 k):=by first | exact b0 | (rw [World.cell?_setCell_other _ _ _ _ (fun e=>hqne (by rw [e]))]; exact b0)
  have hd1:World.cell? (w1.setCell q (.int .i64 z)) ⟨w.heap.size,1,none⟩=some (.int .i64 i):=by first | exact b1 | (rw [World.cell?_setCell_other _ _ _ _ (fun e=>hqne (by rw [e]))]; exact b1)
  have hd2:World.cell? (w1.setCell q (.int .i64 z)) ⟨w.heap.size,2,none⟩=some (.int .i64 j):=by first | exact b2 | (rw [World.cell?_setCell_other _ _ _ _ (fun e=>hqne (by rw [e]))]; exact b2)
  clear hb1
  rw [HP.out]
  go_wp2_with fail
  refine HNT.out.mono ?_
  rintro e w2 ⟨v', rfl, m2, o2, hat, k2⟩
  have HE' : Hid (∃ F', MemAt w2 base (.pointer (some ⟨M, 0, none⟩)) c r (L ++ [Ac.mk t 2 ⟨k, i, j⟩ 0 z false]) F' ∧ Next F F' w w2) := next_note HH.out HKS.out m2 o2 hat k2
  clear m2 o2 hat k2 HNT hc1 b0 b1 b2 hd0 hd1 hd2
  go_wp2
  go_ret
  exact ⟨rfl,HE'.out⟩
 ·have HP:Hid (ptr_ c r M H S C ⟨k,i,j⟩ = .pointer none):=by unfold ptr_; rw [Hid,if_neg ha]
  rw [if_neg ha,if_neg ha]
  unfold adC
  unfold adC at HB
  go_enter Tryz.func86,Tryz.ntmps86
  go_wp2_with fail
  refine (HB.out _).mono ?_
  rintro e w1 ⟨rfl,hb1⟩
  have HBL:Hid (Below w.heap.size w w1):=below_then (below_a1 _ _) hb1
  clear hb1
  rw [HP.out]
  go_wp2
  go_ret
  exact ⟨rfl,F,MemAt.below ⟨M,H,S,C,v,HH.out⟩ HBL.out,Next.of_below HBL.out F⟩
theorem swap_any {w:World} {base:Nat} {p:Value} {c r:Nat} {L:List Ac} {F:List Nat} (h:MemAt w base p c r L F) (hb:base≤w.heap.size) (hL:L.length < 3298534883328) (t:Int) (a:Ad) (o z:Int) :
  Calls Tryz.prog 157 #[p, .int .i64 t, .agg (adC a), .int .i64 o, .int .i64 z] w fun e w' => e = .returned (.tuple #[.bool (isAd c r a && wordOf L a == o), .int .i64 (if isAd c r a then 0 else 1)]) ∧ ∃ F', MemAt w' base p c r (swapL c r L t a o z) F' ∧ Next F F' w w' := by
 obtain ⟨M,H,S,C,v,h⟩:=h
 obtain rfl:=h.p
 have hm:=h.m
 have HH:Hid (MemAt' w base (.pointer (some ⟨M,0,none⟩)) c r L F M H S C v):=h
 have HB:Hid (∀ o,Calls Tryz.prog 37 #[.pointer (some ⟨M,0,none⟩),.agg (adC a)] (w.alloc o) fun e w' => e = .returned (ptr_ c r M H S C a)∧Below (w.alloc o).heap.size (w.alloc o) w'):=fun o=>word_any (hm.keep (Keep.of_below (below_a1 _ _) []) (by simp) (by simp) (by simp) (by simp)) h.r h.c a
 clear h
 obtain ⟨k,i,j⟩:=a
 unfold swapL
 by_cases ha:isAd c r ⟨k,i,j⟩=true
 ·by_cases hyes:wordOf L ⟨k,i,j⟩=o
  ·have HP:Hid (ptr_ c r M H S C ⟨k,i,j⟩ = .pointer (some (at_ M H S C ⟨k,i,j⟩))):=by unfold ptr_; rw [Hid,if_pos ha]
   have HQB:Hid ((at_ M H S C ⟨k,i,j⟩).block ∈ [M,H,S,C]):=at_block _ _ _ _ _
   have HCELL:Hid (∀ (w':World) (v':Value),MemW w' c r M H S C (wordOf L) v'→w'.cell? (at_ M H S C ⟨k,i,j⟩)=some (.int .i64 (wordOf L ⟨k,i,j⟩))∧w'.frozen? (at_ M H S C ⟨k,i,j⟩)=false):=fun w' v' hm' => ⟨hm'.cell ha,hm'.frozen ha⟩
   have HSET:Hid (∀ (w':World) (v':Value),MemW w' c r M H S C (wordOf L) v'→MemW (w'.setCell (at_ M H S C ⟨k,i,j⟩) (.int .i64 z)) c r M H S C (wordOf (L ++ [Ac.mk t 3 ⟨k,i,j⟩ o z true])) v'):=fun w' v' hm' => by
    rw [wordOf_hit (x:=Ac.mk t 3 ⟨k,i,j⟩ o z true) (Or.inr ⟨rfl,rfl⟩)]
    exact hm'.set ha z
   rw [if_pos ha,if_pos ha,ha,Bool.true_and,show (wordOf L ⟨k,i,j⟩ == o)=true by simpa using hyes]
   have hcl:=(HCELL.out w v hm).1
   generalize at_ M H S C ⟨k,i,j⟩=q at *
   generalize wordOf L ⟨k,i,j⟩=u at *
   have hyb:(u == o)=true:=by simpa using hyes
   clear hyes
   unfold adC
   unfold adC at HB
   go_enter Tryz.func157,Tryz.ntmps157
   go_wp2_with fail
   refine (HB.out _).mono ?_
   rintro e w1 ⟨rfl,hb1⟩
   obtain ⟨b0,b1,b2⟩:=box_cells (a:=⟨k,i,j⟩) hb1
   have HBL:Hid (Below w.heap.size w w1):=below_then (below_a1 _ _) hb1
   have HM1:Hid (MemW w1 c r M H S C (wordOf L) v):=hm.keep (Keep.of_below HBL.out []) (by simp) (by simp) (by simp) (by simp)
   have HO1:Hid (w1.ownsRow base 175 8 v L.length (logC L)):=own_keep HH.out.own (Keep.of_below HBL.out []) (fun _ _=>by simp)
   have hsz:base≤w1.heap.size:=Nat.le_trans hb HBL.out.size
   obtain ⟨hc1,hf1⟩:=HCELL.out _ _ HM1.out
   have hqne:q.block≠w.heap.size:=fun e=>by
    have:=World.block_lt_of_cell? _ _ hcl
    omega
   have HKS:Hid (Keep [M,H,S,C] w (w1.setCell q (.int .i64 z))):=(Keep.of_below HBL.out _).setCell _ _ (Or.inl HQB.out)
   have HMS:Hid (MemW (w1.setCell q (.int .i64 z)) c r M H S C (wordOf (L ++ [Ac.mk t 3 ⟨k,i,j⟩ o z true])) v):=HSET.out _ _ HM1.out
   have HOS:Hid (World.ownsRow (w1.setCell q (.int .i64 z)) base 175 8 v L.length (logC L)):=own_keep HO1.out ((Keep.refl [M,H,S,C] _).setCell _ _ (Or.inl HQB.out)) (fun b hb hm=>by
        simp only [List.mem_cons,List.not_mem_nil,or_false] at hm
        rcases hm with rfl | rfl | rfl | rfl
        · exact own_ne HO1.out HM1.out.m (by decide) hb
        · exact own_ne HO1.out HM1.out.h (by decide) hb
        · exact own_ne HO1.out HM1.out.s (by decide) hb
        · exact own_ne HO1.out HM1.out.c (by decide) hb)
   have HNT : Hid (Calls Tryz.prog 90 #[.pointer (some ⟨M, 0, none⟩), .agg #[.int .i64 t, .int .i64 3, .int .i64 k, .int .i64 i, .int .i64 j, .int .i64 o, .int .i64 z, .bool true]] (w1.setCell q (.int .i64 z)) fun e w' => ∃ v', e = .returned (.tuple #[]) ∧ MemW w' c r M H S C (wordOf (L ++ [Ac.mk t 3 ⟨k, i, j⟩ o z true])) v' ∧ w'.ownsRow base 175 8 v' (L ++ [Ac.mk t 3 ⟨k, i, j⟩ o z true]).length (logC (L ++ [Ac.mk t 3 ⟨k, i, j⟩ o z true])) ∧ (v'.ownBlock = v.ownBlock ∨ ∃ g, v'.ownBlock = some g ∧ (World.heap (w1.setCell q (.int .i64 z))).size ≤ g) ∧ Keep (M :: v.ownBlock.toList) (w1.setCell q (.int .i64 z)) w') :=
    note_any (w:=(w1.setCell q (.int .i64 z))) (x:=Ac.mk t 3 ⟨k,i,j⟩ o z true) HMS.out HOS.out (by first | exact hsz | simpa using hsz) hL
   have hd0:World.cell? (w1.setCell q (.int .i64 z)) ⟨w.heap.size,0,none⟩=some (.int .i64 k):=by first | exact b0 | (rw [World.cell?_setCell_other _ _ _ _ (fun e=>hqne (by rw [e]))]; exact b0)
   have hd1:World.cell? (w1.setCell q (.int .i64 z)) ⟨w.heap.size,1,none⟩=some (.int .i64 i):=by first | exact b1 | (rw [World.cell?_setCell_other _ _ _ _ (fun e=>hqne (by rw [e]))]; exact b1)
   have hd2:World.cell? (w1.setCell q (.int .i64 z)) ⟨w.heap.size,2,none⟩=some (.int .i64 j):=by first | exact b2 | (rw [World.cell?_setCell_other _ _ _ _ (fun e=>hqne (by rw [e]))]; exact b2)
   clear hb1
   rw [HP.out]
   go_wp2_with fail
   refine HNT.out.mono ?_
   rintro e w2 ⟨v', rfl, m2, o2, hat, k2⟩
   have HE' : Hid (∃ F', MemAt w2 base (.pointer (some ⟨M, 0, none⟩)) c r (L ++ [Ac.mk t 3 ⟨k, i, j⟩ o z true]) F' ∧ Next F F' w w2) := next_note HH.out HKS.out m2 o2 hat k2
   clear m2 o2 hat k2 HNT hc1 b0 b1 b2 hd0 hd1 hd2
   go_wp2
   go_ret2
   exact ⟨rfl,HE'.out⟩
  ·have HP:Hid (ptr_ c r M H S C ⟨k,i,j⟩ = .pointer (some (at_ M H S C ⟨k,i,j⟩))):=by unfold ptr_; rw [Hid,if_pos ha]
   have HQB:Hid ((at_ M H S C ⟨k,i,j⟩).block ∈ [M,H,S,C]):=at_block _ _ _ _ _
   have HCELL:Hid (∀ (w':World) (v':Value),MemW w' c r M H S C (wordOf L) v'→w'.cell? (at_ M H S C ⟨k,i,j⟩)=some (.int .i64 (wordOf L ⟨k,i,j⟩))∧w'.frozen? (at_ M H S C ⟨k,i,j⟩)=false):=fun w' v' hm' => ⟨hm'.cell ha,hm'.frozen ha⟩
   have HSET:Hid (∀ (w':World) (v':Value),MemW w' c r M H S C (wordOf L) v'→MemW w' c r M H S C (wordOf (L ++ [Ac.mk t 3 ⟨k,i,j⟩ o z false])) v'):=fun w' v' hm' => by
    rw [wordOf_miss (x:=Ac.mk t 3 ⟨k,i,j⟩ o z false) (by rfl)]
    exact hm'
   rw [if_pos ha,if_pos ha,ha,Bool.true_and,show (wordOf L ⟨k,i,j⟩ == o)=false by simpa using hyes]
   have hcl:=(HCELL.out w v hm).1
   generalize at_ M H S C ⟨k,i,j⟩=q at *
   generalize wordOf L ⟨k,i,j⟩=u at *
   have hyb:(u == o)=false:=by simpa using hyes
   clear hyes
   unfold adC
   unfold adC at HB
   go_enter Tryz.func157,Tryz.ntmps157
   go_wp2_with fail
   refine (HB.out _).mono ?_
   rintro e w1 ⟨rfl,hb1⟩
   obtain ⟨b0,b1,b2⟩:=box_cells (a:=⟨k,i,j⟩) hb1
   have HBL:Hid (Below w.heap.size w w1):=below_then (below_a1 _ _) hb1
   have HM1:Hid (MemW w1 c r M H S C (wordOf L) v):=hm.keep (Keep.of_below HBL.out []) (by simp) (by simp) (by simp) (by simp)
   have HO1:Hid (w1.ownsRow base 175 8 v L.length (logC L)):=own_keep HH.out.own (Keep.of_below HBL.out []) (fun _ _=>by simp)
   have hsz:base≤w1.heap.size:=Nat.le_trans hb HBL.out.size
   obtain ⟨hc1,hf1⟩:=HCELL.out _ _ HM1.out
   have hqne:q.block≠w.heap.size:=fun e=>by
    have:=World.block_lt_of_cell? _ _ hcl
    omega
   have HKS:Hid (Keep [M,H,S,C] w w1):=Keep.of_below HBL.out _
   have HMS:Hid (MemW w1 c r M H S C (wordOf (L ++ [Ac.mk t 3 ⟨k,i,j⟩ o z false])) v):=HSET.out _ _ HM1.out
   have HOS:Hid (World.ownsRow w1 base 175 8 v L.length (logC L)):=HO1.out
   have HNT : Hid (Calls Tryz.prog 90 #[.pointer (some ⟨M, 0, none⟩), .agg #[.int .i64 t, .int .i64 3, .int .i64 k, .int .i64 i, .int .i64 j, .int .i64 o, .int .i64 z, .bool false]] w1 fun e w' => ∃ v', e = .returned (.tuple #[]) ∧ MemW w' c r M H S C (wordOf (L ++ [Ac.mk t 3 ⟨k, i, j⟩ o z false])) v' ∧ w'.ownsRow base 175 8 v' (L ++ [Ac.mk t 3 ⟨k, i, j⟩ o z false]).length (logC (L ++ [Ac.mk t 3 ⟨k, i, j⟩ o z false])) ∧ (v'.ownBlock = v.ownBlock ∨ ∃ g, v'.ownBlock = some g ∧ (World.heap w1).size ≤ g) ∧ Keep (M :: v.ownBlock.toList) w1 w') :=
    note_any (w:=w1) (x:=Ac.mk t 3 ⟨k,i,j⟩ o z false) HMS.out HOS.out (by first | exact hsz | simpa using hsz) hL
   have hd0:World.cell? w1 ⟨w.heap.size,0,none⟩=some (.int .i64 k):=by first | exact b0 | (rw [World.cell?_setCell_other _ _ _ _ (fun e=>hqne (by rw [e]))]; exact b0)
   have hd1:World.cell? w1 ⟨w.heap.size,1,none⟩=some (.int .i64 i):=by first | exact b1 | (rw [World.cell?_setCell_other _ _ _ _ (fun e=>hqne (by rw [e]))]; exact b1)
   have hd2:World.cell? w1 ⟨w.heap.size,2,none⟩=some (.int .i64 j):=by first | exact b2 | (rw [World.cell?_setCell_other _ _ _ _ (fun e=>hqne (by rw [e]))]; exact b2)
   clear hb1
   rw [HP.out]
   go_wp2_with fail
   refine HNT.out.mono ?_
   rintro e w2 ⟨v', rfl, m2, o2, hat, k2⟩
   have HE' : Hid (∃ F', MemAt w2 base (.pointer (some ⟨M, 0, none⟩)) c r (L ++ [Ac.mk t 3 ⟨k, i, j⟩ o z false]) F' ∧ Next F F' w w2) := next_note HH.out HKS.out m2 o2 hat k2
   clear m2 o2 hat k2 HNT hc1 b0 b1 b2 hd0 hd1 hd2
   go_wp2
   go_ret2
   exact ⟨rfl,HE'.out⟩
 ·have HP:Hid (ptr_ c r M H S C ⟨k,i,j⟩ = .pointer none):=by unfold ptr_; rw [Hid,if_neg ha]
  rw [if_neg ha,if_neg ha,show isAd c r ⟨k,i,j⟩=false by simpa using ha,Bool.false_and]
  unfold adC
  unfold adC at HB
  go_enter Tryz.func157,Tryz.ntmps157
  go_wp2_with fail
  refine (HB.out _).mono ?_
  rintro e w1 ⟨rfl,hb1⟩
  have HBL:Hid (Below w.heap.size w w1):=below_then (below_a1 _ _) hb1
  clear hb1
  rw [HP.out]
  go_wp2
  go_ret2
  exact ⟨rfl,F,MemAt.below ⟨M,H,S,C,v,HH.out⟩ HBL.out,Next.of_below HBL.out F⟩
theorem info_i64:(Tryz.prog.info? 2).map (fun i=>(i.zero,i.size,i.bytes))=some (some (.int .i64 0),1,8):=by kernel_rfl
theorem info_a8:(Tryz.prog.info? 126).map (fun i=>(i.zero,i.size,i.bytes))=some (some (.agg #[.int .i64 0,.int .i64 0,.int .i64 0,.int .i64 0,.int .i64 0,.int .i64 0,.int .i64 0,.int .i64 0]),8,64):=by kernel_rfl
def zeros (n:Nat):Array Value:=((List.range n).map fun _=>Value.int .i64 0).toArray
theorem zeros_one (n:Nat):madeCells (Value.cells (.int .i64 0)) n=zeros n:=by
 apply Array.ext_getElem?
 intro i
 unfold madeCells zeros
 by_cases h:i < n
 ·have e:i % 1=0:=Nat.mod_one i
  simp [h,Value.cells,e]
 ·simp [h]
theorem zeros_eight (n:Nat):madeCells (Value.cells (.agg #[.int .i64 0,.int .i64 0,.int .i64 0,.int .i64 0,.int .i64 0,.int .i64 0,.int .i64 0,.int .i64 0])) n=zeros n:=by
 apply Array.ext_getElem?
 intro i
 unfold madeCells zeros
 by_cases h:i < n
 ·have e:i % 8 < 8:=Nat.mod_lt _ (by decide)
  simp [h,Value.cells]
  generalize i % 8=q at e
  rcases q with _ | _ | _ | _ | _ | _ | _ | _ | q
  all_goals first | rfl | omega
 ·simp [h]
theorem make_words (w:World) (n:Nat) (hn:n < 1000000) :
  (Instr.makeSlice 67 (.int .i64 (n:Int)) (.int .i64 (n:Int))).run Tryz.prog w = .ok (.slice (some ⟨w.heap.size,0,none⟩) n n) (w.alloc (.cells (zeros n) 2)):=by
 obtain ⟨i0,hi,hz0,hz1,hz2⟩:=info_parts info_i64
 have:=run_make (P:=Tryz.prog) w 67 2 i0 _ Tryz.underlying67 hi hz0 .i64 .i64 (n:Int) (n:Int) (by omega) (by omega) (by rw [hz2]; omega) (by omega)
 rw [this]
 simp [hz1,zeros_one]
theorem make_rows (w:World) (n:Nat) (hn:n < 1000000) :
  (Instr.makeSlice 82 (.int .i64 (n:Int)) (.int .i64 (n:Int))).run Tryz.prog w = .ok (.slice (some ⟨w.heap.size,0,none⟩) n n) (w.alloc (.cells (zeros (n * 8)) 126)):=by
 obtain ⟨i0,hi,hz0,hz1,hz2⟩:=info_parts info_a8
 have:=run_make (P:=Tryz.prog) w 82 126 i0 _ Tryz.underlying82 hi hz0 .i64 .i64 (n:Int) (n:Int) (by omega) (by omega) (by rw [hz2]; omega) (by omega)
 rw [this]
 simp [hz1,zeros_eight]
def upTo (j:Nat) (a:Ad):Int:=if a.k=2∧a.i < (j:Int) then 1 else 0
theorem upTo_zero (r:Nat):headC (upTo 0) r=zeros r:=map_same_range (fun q _=>by simp [upTo])
theorem upTo_sig (j r:Nat):sigC (upTo j) r=zeros (r * 8):=map_same_range (fun q _=>by simp [upTo])
theorem upTo_cell (j c:Nat):cellC (upTo j) c=zeros c:=map_same_range (fun q _=>by simp [upTo])
theorem upTo_set (j r:Nat) (h:j < r):(headC (upTo j) r).setIfInBounds j (.int .i64 1)=headC (upTo (j+1)) r :=
 map_set_range h (by
    have:(j:Int) < ((j+1:Nat):Int):=by omega
    simp only [upTo,true_and,if_pos this]) (fun q hq=>by
    have:((q:Int) < ((j+1:Nat):Int))=((q:Int) < (j:Int)):=by apply propext; omega
    simp only [upTo,true_and,this])
theorem upTo_all (r:Nat):headC (upTo r) r=headC (wordOf []) r:=map_same_range (fun q hq=>by
  have:(q:Int) < (r:Int):=by omega
  simp [upTo,wordOf_nil,first,this])
structure Laying (w wr:World) (c r j:Nat) (H S C:Nat):Prop where
 m:MemW wr c r (w.heap.size+1+1+1) H S C (upTo j) (.slice none 0 0)
 b:Below w.heap.size w wr
 bH:w.heap.size≤H
 bS:w.heap.size≤S
 bC:w.heap.size≤C
theorem Laying.next {w wr:World} {c r j H S C:Nat} (h:Laying w wr c r j H S C) (hj:j < r):Laying w (wr.setCell ⟨H,j,none⟩ (.int .i64 1)) c r (j+1) H S C:=by
 have mh:w.heap.size+1+1+1≠H:=ne_of_type h.m.m h.m.h (by decide)
 have hs:H≠S:=ne_of_type h.m.h h.m.s (by decide)
 refine ⟨⟨?_, ?_, ?_, ?_,h.m.ne⟩,h.b.setCell (by simpa using h.bH) _,h.bH,h.bS,h.bC⟩
 ·rw [heap_set_other _ _ mh.symm]; exact h.m.m
 ·rw [heap_set h.m.h,upTo_set _ _ hj]
 ·rw [heap_set_other _ _ hs,upTo_sig]; have:=h.m.s; rwa [upTo_sig] at this
 ·rw [heap_set_other _ _ h.m.ne,upTo_cell]; have:=h.m.c; rwa [upTo_cell] at this
theorem Laying.done {w wr:World} {c r H S C:Nat} (h:Laying w wr c r r H S C) (hc:c < 1000000) (hr:r < 1000000) : ∃ F,MemAt wr w.heap.size (.pointer (some ⟨w.heap.size+1+1+1,0,none⟩)) c r [] F:=by
 refine ⟨_,_,H,S,C,.slice none 0 0,rfl,⟨?_, ?_, ?_, ?_,h.m.ne⟩,World.ownsRow_nil _ _ _ _,rfl,by omega,h.bH,h.bS,h.bC,hc,hr⟩
 ·exact h.m.m
 ·rw [← upTo_all]; exact h.m.h
 ·rw [show sigC (wordOf []) r=sigC (upTo r) r from map_same_range (fun q _=>by simp [upTo,wordOf_nil,first])]; exact h.m.s
 ·rw [show cellC (wordOf []) c=cellC (upTo r) c from map_same_range (fun q _=>by simp [upTo,wordOf_nil,first])]; exact h.m.c
theorem h3_0 (w:World) (a b c:Obj):(((w.alloc a).alloc b).alloc c).heap[w.heap.size]? = some a:=by
 rw [Below.heap_alloc _ _ _ (by simp; omega)]; exact heap_alloc2_old _ _ _
theorem h3_1 (w:World) (a b c:Obj):(((w.alloc a).alloc b).alloc c).heap[w.heap.size+1]? = some b:=by
 rw [Below.heap_alloc _ _ _ (by simp)]; exact heap_alloc2_new _ _ _
theorem h3_2 (w:World) (a b c:Obj):(((w.alloc a).alloc b).alloc c).heap[w.heap.size+1+1]? = some c:=by
 have:=heap_alloc2_new (w.alloc a) b c
 simpa using this
theorem laying_start {w:World} {o1 o2 o3:Obj} {c r H S C:Nat} (h1:(((w.alloc o1).alloc o2).alloc o3).heap[H]? = some (.cells (zeros r) 2)) (h2:(((w.alloc o1).alloc o2).alloc o3).heap[S]? = some (.cells (zeros (r * 8)) 126)) (h3:(((w.alloc o1).alloc o2).alloc o3).heap[C]? = some (.cells (zeros c) 2))
  (hne:H≠C) (bH:w.heap.size≤H) (bS:w.heap.size≤S) (bC:w.heap.size≤C) :
  Laying w ((((w.alloc o1).alloc o2).alloc o3).alloc (.cells #[.int .i64 0,.slice (some ⟨H,0,none⟩) r r,.slice (some ⟨S,0,none⟩) r r,.slice (some ⟨C,0,none⟩) c c,.slice none 0 0] 85)).drew c r 0 H S C:=by
 have hb:Below w.heap.size w ((((w.alloc o1).alloc o2).alloc o3).alloc (.cells #[.int .i64 0,.slice (some ⟨H,0,none⟩) r r,.slice (some ⟨S,0,none⟩) r r,.slice (some ⟨C,0,none⟩) c c,.slice none 0 0] 85)).drew :=
  below_drawn (below_alloc (below_alloc (below_alloc (below_a1 _ _) _) _) _) 1
 refine ⟨⟨?_, ?_, ?_, ?_,hne⟩,hb,bH,bS,bC⟩
 ·have:=heap_alloc_new (((w.alloc o1).alloc o2).alloc o3) (.cells #[.int .i64 0,.slice (some ⟨H,0,none⟩) r r,.slice (some ⟨S,0,none⟩) r r,.slice (some ⟨C,0,none⟩) c c,.slice none 0 0] 85)
  have hs:(((w.alloc o1).alloc o2).alloc o3).heap.size=w.heap.size+1+1+1:=by simp
  have e:upTo 0 ⟨1,0,0⟩=0:=by simp [upTo]
  rw [hs] at this
  rw [e]
  exact this
 ·rw [upTo_zero]
  have hl:=heap_lt h1
  exact (Below.heap_alloc _ _ _ hl).trans h1
 ·rw [upTo_sig]
  have hl:=heap_lt h2
  exact (Below.heap_alloc _ _ _ hl).trans h2
 ·rw [upTo_cell]
  have hl:=heap_lt h3
  exact (Below.heap_alloc _ _ _ hl).trans h3
theorem new_yes (w:World) (c r:Nat) (hc:1≤c∧c≤1024) (hr:1≤r∧r≤16) :
  Calls Tryz.prog 20 #[.int .i64 (c:Int),.int .i64 (r:Int)] w fun e w' => ∃ p F,e = .returned (.tuple #[p,.int .i64 0])∧p ≠ .pointer none∧MemAt w' w.heap.size p c r [] F∧Below w.heap.size w w':=by
 have c1 : ¬ ((c:Int) < 1):=by omega
 have c2 : ¬ ((1024:Int) < (c:Int)):=by omega
 have r1 : ¬ ((r:Int) < 1):=by omega
 have r2 : ¬ ((16:Int) < (r:Int)):=by omega
 have m1:=fun w=>make_words w r (by omega)
 have m2:=fun w=>make_words w c (by omega)
 have m3:=fun w=>make_rows w r (by omega)
 go_enter Tryz.func20,Tryz.ntmps20
 go_wp2_with fail
 go_region
 all_goals
  go_wp2
  go_loopw [35] (fun i wr => ∃ j:Nat,j≤r∧i = .int .i64 j ∧ ∃ H S C,Laying w wr c r j H S C) (fun i _=>r - (intOf i).toNat)
  case atStart=>exact ⟨0,Nat.zero_le _,rfl,_,_,_,laying_start (by first | exact h3_0 _ _ _ _ | exact h3_1 _ _ _ _ | exact h3_2 _ _ _ _) (by first | exact h3_0 _ _ _ _ | exact h3_1 _ _ _ _ | exact h3_2 _ _ _ _) (by first | exact h3_0 _ _ _ _ | exact h3_1 _ _ _ _ | exact h3_2 _ _ _ _) (by omega) (by omega) (by omega) (by omega)⟩
  case round =>
   obtain ⟨j,hj,rfl,H,S,C,hlay⟩:=hrel
   have HL:Hid (Laying w wr c r j H S C):=hlay
   have hcell:wr.cell? ⟨w.heap.size+1+1+1,1,none⟩=some (.slice (some ⟨H,0,none⟩) r r):=by rw [cell_at hlay.m.m]; rfl
   by_cases hlt:j < r
   ·have hch:wr.cell? ⟨H,j,none⟩=some (.int .i64 (upTo j ⟨2,j,0⟩)):=by rw [cell_at hlay.m.h,headC_get _ _ _ hlt]
    have hfh:wr.frozen? ⟨H,j,none⟩=false:=frozen_at hlay.m.h j
    have hd:decide ((j:Int) < (r:Int))=true:=by simp; omega
    generalize upTo j ⟨2,j,0⟩=z at *
    clear hlay
    go_wp2
    go_roundw
    case rel=>exact ⟨j+1,by omega,by go_num,H,S,C,HL.out.next hlt⟩
    case measure=>simp [intOf]; omega
   ·obtain rfl:j=r:=by omega
    clear hlay
    go_wp2
    go_ret2
    obtain ⟨F,hF⟩:=HL.out.done (by omega) (by omega)
    exact ⟨_,F,rfl,by simp,hF,HL.out.b⟩
end Go.Proofs.YtdkpgdkjohjcaaaGreat
namespace Go.Proofs.YtdkpgdkjohjcaaaGreat
open Go.ChangeShapes Go.WideShapes Go.ChangeAt Go.RowKit
def takes (c r:Int):Bool:=decide (1≤c) && decide (c≤1024) && decide (1≤r) && decide (r≤16)
theorem MemAt.ptr {w:World} {base:Nat} {p:Value} {c r:Nat} {L:List Ac} {F:List Nat} (h:MemAt w base p c r L F) : ∃ M,p = .pointer (some ⟨M,0,none⟩):=by
 obtain ⟨M,H,S,C,v,h⟩:=h
 exact ⟨M,h.p⟩
theorem Next.row {F F':List Nat} {w w':World} {B:Nat} {o:Obj} (h:Next F F' w w') (hb:w.heap[B]? = some o) (hB:B ∉ F):w'.heap[B]? = some o:=by
 rw [h.1.block B (heap_lt hb) hB]; exact hb
theorem keep1 {w0 w:World} {X:Nat} (k:Keep [X] w0 w) (i:Nat) (v:Value):Keep [X] w0 (w.setCell ⟨X,i,none⟩ v):=k.setCell _ _ (Or.inl (by simp))
def ansC (k:Int) (y:Bool):Value:=.agg #[.int .i64 k,.int .i64 0,.int .i64 0,.bool y]
theorem ret_ans {fn:Func} {p:Tmp} {R:Ending→World→Prop} {a:Act} {w:World} {g:Nat} {cs:Array Value} (h:fn.results = #[.cell p 55]) (hp:a.tmps.getD p undef = .pointer (some ⟨g,0,none⟩))
  (hg:w.heap[g]? = some (.cells cs 55 (0,0))) (hz:cs.size=4) (hd:a.defers = []) (hR:R (.returned (.agg cs)) w):bodyPost Tryz.prog fn R .ret a w :=
 bodyPost_ret (results_cell_row h _ _ g 55 cs (0,0) _ hp hg Tryz.underlying55 rfl (by rw [hz]; kernel_rfl)) hd hR
theorem ans_cells {w:World} {B:Nat} {k:Int} {y:Bool} (h:w.heap[B]? = some (.cells #[.int .i64 k,.int .i64 0,.int .i64 0,.bool y] 55 (0,0))) :
  (w.cell? ⟨B,0,none⟩=some (.int .i64 k)∧w.cell? ⟨B,1,none⟩=some (.int .i64 0)∧w.cell? ⟨B,2,none⟩=some (.int .i64 0)∧w.cell? ⟨B,3,none⟩=some (.bool y)) ∧
  (w.frozen? ⟨B,0,none⟩=false∧w.frozen? ⟨B,1,none⟩=false∧w.frozen? ⟨B,2,none⟩=false∧w.frozen? ⟨B,3,none⟩=false) :=
 ⟨⟨by rw [cell_at h]; rfl,by rw [cell_at h]; rfl,by rw [cell_at h]; rfl,by rw [cell_at h]; rfl⟩,frozen_at h 0,frozen_at h 1,frozen_at h 2,frozen_at h 3⟩
theorem row_on {w w':World} {b:Nat} {o:Obj} (h:w.heap[b]? = some o) (hb:Below w.heap.size w w'):w'.heap[b]? = some o:=by
 rw [hb.block _ (heap_lt h)]; exact h
def laid4 (w:World) (B:Nat) (k:Int) (y:Bool):World:=(((w.setCell ⟨B,0,none⟩ (.int .i64 k)).setCell ⟨B,1,none⟩ (.int .i64 0)).setCell ⟨B,2,none⟩ (.int .i64 0)).setCell ⟨B,3,none⟩ (.bool y)
theorem ans_set {w:World} {B:Nat} {cs:Array Value} (hz:cs.size=4) (h:w.heap[B]? = some (.cells cs 55 (0,0))) (k:Int) (y:Bool) :
  (laid4 w B k y).heap[B]? = some (.cells #[.int .i64 k,.int .i64 0,.int .i64 0,.bool y] 55 (0,0)):=by
 have h1:=heap_set (i:=0) (v:=.int .i64 k) h
 have h2:=heap_set (i:=1) (v:=.int .i64 0) h1
 have h3:=heap_set (i:=2) (v:=.int .i64 0) h2
 have h4:=heap_set (i:=3) (v:=.bool y) h3
 unfold laid4
 rw [h4]
 obtain ⟨l⟩:=cs
 match l,hz with
 | [_,_,_,_],_=>rfl
theorem keep4 {w0 w:World} {F:List Nat} {B:Nat} (hk:Keep F w0 w) (hB:w0.heap.size≤B) (k:Int) (y:Bool):Keep F w0 (laid4 w B k y) :=
 (((hk.setCell _ _ (Or.inr hB)).setCell _ _ (Or.inr hB)).setCell _ _ (Or.inr hB)).setCell _ _ (Or.inr hB)
theorem keepB {w:World} {B:Nat} (k:Int) (y:Bool):Keep [B] w (laid4 w B k y) :=
 ((((Keep.refl [B] w).setCell _ _ (Or.inl (by simp))).setCell _ _ (Or.inl (by simp))).setCell _ _ (Or.inl (by simp))).setCell _ _ (Or.inl (by simp))
theorem below4 {w0 w:World} {A B:Nat} (hk:Below A w0 w) (hB:A≤B) (k:Int) (y:Bool):Below A w0 (laid4 w B k y) :=
 (((hk.setCell hB _).setCell hB _).setCell hB _).setCell hB _
def Kept (w:World) (F:List Nat) (R:List (Nat × Obj)):Prop:=∀ z ∈ R,w.heap[z.1]? = some z.2∧z.1 ∉ F
theorem Kept.next {w w':World} {F F':List Nat} {R:List (Nat × Obj)} (h:Kept w F R) (hn:Next F F' w w'):Kept w' F' R:=fun z hz=>by
 obtain ⟨h1,h2⟩:=h z hz
 refine ⟨by rw [hn.1.block _ (heap_lt h1) h2]; exact h1,fun e => ?_⟩
 rcases hn.2 _ e with h3 | h3
 ·exact h2 h3
 ·have:=heap_lt h1; omega
theorem Kept.later {w w':World} {F:List Nat} {R:List (Nat × Obj)} (h:Kept w F R) (hb:Below w.heap.size w w'):Kept w' F R:=h.next (Next.of_below hb F)
theorem Kept.more {w:World} {F:List Nat} {R:List (Nat × Obj)} (h:Kept w F R) (hF : ∀ q ∈ F,q < w.heap.size) (o:Obj):Kept (w.alloc o) F ((w.heap.size,o) :: R):=fun z hz=>by
 rcases List.mem_cons.1 hz with rfl | hz
 ·exact ⟨heap_alloc_new _ _,fun e=>by have:=hF _ e; simp at this⟩
 ·exact (h.later (below_a1 _ _)) z hz
theorem nextX {F F':List Nat} {X:Nat} {w w':World} (h:Next F F' w w'):Next (X :: F) (X :: F') w w' :=
 ⟨h.1.mono (fun q hq=>by simp [hq]),fun q hq=>by
    rcases List.mem_cons.1 hq with rfl | hq
    · exact Or.inl (by simp)
    · rcases h.2 q hq with h1 | h1
      · exact Or.inl (by simp [h1])
      · exact Or.inr h1⟩
theorem wordOf_load (c r:Nat) (L:List Ac) (t:Int) (a:Ad):wordOf (loadL c r L t a)=wordOf L:=by
 unfold loadL
 split
 ·exact wordOf_miss rfl
 ·rfl
end Go.Proofs.YtdkpgdkjohjcaaaGreat
