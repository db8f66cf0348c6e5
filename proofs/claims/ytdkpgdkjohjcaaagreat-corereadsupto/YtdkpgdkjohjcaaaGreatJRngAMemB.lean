/- Heads, stamps and slots: what each small function of the program and of the document's answer does. -/
import Derived.Test.YtdkpgdkjohjcaaaGreatRows
import Derived.Test.YtdkpgdkjohjcaaaGreatJMemMMath
import Derived.WalkKit
import Derived.ProofKit
import Derived.OpenShut
import Derived.ShutString
import Derived.WalkSpells
import Derived.WalkLawsBesides
import Derived.Deep.QuietTactic
import Derived.BigQuiet
import Derived.ChangeOld
import Derived.Below
import Derived.WalkSmall
import Derived.Laws.Rows
import Derived.Laws.Tables
import Derived.Deep.WholeRow
import Derived.Laws.AppendOwn
import Derived.Deep.RegionHeld3
namespace Go.Proofs.YtdkpgdkjohjcaaaGreat
open Go.ChangeShapes Go.WideShapes Go.ChangeAt Go.RowKit
theorem stamp_any (x:Int) (w:World):Calls Tryz.prog 108 #[.int .i64 x] w fun e w' => e = .returned (.int .i64 (x / 2))∧w'=w:=by
 go_enter Tryz.func108,Tryz.ntmps108
 go_wp2
 go_ret
 exact ⟨rfl,rfl⟩
theorem done_any (x:Int) (w:World):Calls Tryz.prog 109 #[.int .i64 x] w fun e w' => e = .returned (.bool (x % 2 == 1))∧w'=w:=by
 have h1:=and1 x
 go_enter Tryz.func109,Tryz.ntmps109
 go_wp2
 go_ret
 exact ⟨rfl,rfl⟩
theorem isSize_any (s:Int) (w:World):Calls Tryz.prog 96 #[.int .i64 s] w fun e w' => e = .returned (.bool (sizeOk s))∧w'=w:=by
 unfold sizeOk
 by_cases h1:1≤s
 ·have e1:decide (1≤s)=true:=decide_eq_true h1
  clear h1
  go_enter Tryz.func96,Tryz.ntmps96
  go_wp2
  go_ret
  exact ⟨by simp [e1],rfl⟩
 ·have e1:decide (1≤s)=false:=decide_eq_false h1
  clear h1
  go_enter Tryz.func96,Tryz.ntmps96
  go_wp2
  go_ret
  exact ⟨by simp [e1],rfl⟩
theorem slot_any (st s:Int) (w:World):Calls Tryz.prog 91 #[.int .i64 st,.int .i64 s] w fun e w' => e = .returned (.int .i64 (slotV st s))∧w'=w:=by
 unfold slotV
 by_cases hs:sizeOk s=true
 ·have hb:=sizeOk_iff.mp hs
  by_cases ht:st.tmod s < 0
  ·have ⟨_,_,e⟩:=tmod_low st s (by omega) ht
   have hm1:=Int.emod_nonneg st (show s≠0 by omega)
   have hm2:=Int.emod_lt_of_pos st (show 0 < s by omega)
   have HE:Hid (wrap64 (st.tmod s+s)=st % s):=by unfold wrap64; rw [Hid,e]; omega
   have hd:decide (st.tmod s < 0)=true:=decide_eq_true ht
   have hz : ¬ s=0:=by omega
   rw [if_pos hs,← HE.out]
   clear e hm1 hm2 HE ht hb
   go_enter Tryz.func91,Tryz.ntmps91
   go_wp2_with fail
   refine (isSize_any _ _).mono ?_
   rintro e w' ⟨rfl,rfl⟩
   rw [hs]
   go_wp2
   go_ret
   exact ⟨rfl,rfl⟩
  ·have e:=tmod_high st s (by omega) (by omega)
   have hd:decide (st.tmod s < 0)=false:=decide_eq_false ht
   have hz : ¬ s=0:=by omega
   rw [if_pos hs,← e]
   clear e ht hb
   go_enter Tryz.func91,Tryz.ntmps91
   go_wp2_with fail
   refine (isSize_any _ _).mono ?_
   rintro e w' ⟨rfl,rfl⟩
   rw [hs]
   go_wp2
   go_ret
   exact ⟨rfl,rfl⟩
 ·have hs':sizeOk s=false:=by simpa using hs
  rw [if_neg hs]
  clear hs
  go_enter Tryz.func91,Tryz.ntmps91
  go_wp2_with fail
  refine (isSize_any _ _).mono ?_
  rintro e w' ⟨rfl,rfl⟩
  rw [hs']
  go_wp2
  go_ret
  exact ⟨rfl,rfl⟩
theorem laid_any (h st:Int) (w:World):Calls Tryz.prog 106 #[.int .i64 h,.int .i64 st] w fun e w' => e = .returned (.bool (laidV h st))∧w'=w:=by
 go_enter Tryz.func106,Tryz.ntmps106
 go_wp2_with fail
 refine (stamp_any _ _).mono ?_
 rintro e w' ⟨rfl,rfl⟩
 go_wp2
 go_ret
 exact ⟨rfl,rfl⟩
theorem over_any (h st:Int) (w:World):Calls Tryz.prog 102 #[.int .i64 h,.int .i64 st] w fun e w' => e = .returned (.bool (overV h st))∧w'=w:=by
 unfold overV
 cases d1:decide (st < 1)
 ·cases d2:decide (h / 2 > st)
  ·cases d3:laidV h st
   ·go_enter Tryz.func102,Tryz.ntmps102
    go_wp2_with fail
    refine (stamp_any _ _).mono ?_
    rintro e w' ⟨rfl,rfl⟩
    go_wp2_with fail
    refine (laid_any _ _ _).mono ?_
    rintro e w' ⟨rfl,rfl⟩
    rw [d3]
    go_wp2
    go_ret
    exact ⟨rfl,rfl⟩
   ·go_enter Tryz.func102,Tryz.ntmps102
    go_wp2_with fail
    refine (stamp_any _ _).mono ?_
    rintro e w' ⟨rfl,rfl⟩
    go_wp2_with fail
    refine (laid_any _ _ _).mono ?_
    rintro e w' ⟨rfl,rfl⟩
    rw [d3]
    go_wp2_with fail
    refine (done_any _ _).mono ?_
    rintro e w' ⟨rfl,rfl⟩
    go_wp2
    go_ret
    exact ⟨rfl,rfl⟩
  ·go_enter Tryz.func102,Tryz.ntmps102
   go_wp2_with fail
   refine (stamp_any _ _).mono ?_
   rintro e w' ⟨rfl,rfl⟩
   go_wp2
   go_ret
   exact ⟨rfl,rfl⟩
 ·go_enter Tryz.func102,Tryz.ntmps102
  go_wp2
  go_ret
  exact ⟨rfl,rfl⟩
theorem free_any (h st s:Int) (h0 : -9223372036854775808≤st) (h1:st≤9223372036854775807) (w:World):Calls Tryz.prog 159 #[.int .i64 h,.int .i64 st,.int .i64 s] w fun e w' => e = .returned (.bool (freeV h st s))∧w'=w:=by
 unfold freeV
 cases hs:sizeOk s
 ·clear h0 h1
  go_enter Tryz.func159,Tryz.ntmps159
  go_wp2_with fail
  refine (isSize_any _ _).mono ?_
  rintro e w' ⟨rfl,rfl⟩
  rw [hs]
  go_wp2
  go_ret
  exact ⟨rfl,rfl⟩
 ·have hb:=sizeOk_iff.mp hs
  cases d1:decide (st≤s)
  ·have hd : ¬ st≤s:=by simpa using d1
   have HW:Hid (wrap64 (st - s)=st - s):=by unfold wrap64; rw [Hid]; omega
   clear h0 h1 hb hd
   go_enter Tryz.func159,Tryz.ntmps159
   go_wp2_with fail
   refine (isSize_any _ _).mono ?_
   rintro e w' ⟨rfl,rfl⟩
   rw [hs]
   go_wp2_with fail
   refine (over_any _ _ _).mono ?_
   rintro e w' ⟨rfl,rfl⟩
   rw [HW.out]
   go_wp2
   go_ret
   exact ⟨rfl,rfl⟩
  ·clear h0 h1 hb
   go_enter Tryz.func159,Tryz.ntmps159
   go_wp2_with fail
   refine (isSize_any _ _).mono ?_
   rintro e w' ⟨rfl,rfl⟩
   rw [hs]
   go_wp2
   go_ret
   exact ⟨rfl,rfl⟩
structure Keep (F:List Nat) (w w':World):Prop where
 os:w'.os=w.os
 tape:w'.tape=w.tape
 output:w'.output=w.output
 size:w.heap.size≤w'.heap.size
 block : ∀ b,b < w.heap.size→b ∉ F→w'.heap[b]? = w.heap[b]?
theorem Keep.refl (F:List Nat) (w:World):Keep F w w:=⟨rfl,rfl,rfl,Nat.le_refl _,fun _ _ _=>rfl⟩
theorem Keep.mono {F G:List Nat} {w w':World} (h:Keep F w w') (hs : ∀ b ∈ F,b ∈ G):Keep G w w':=⟨h.os,h.tape,h.output,h.size,fun b hb hn=>h.block b hb fun e=>hn (hs b e)⟩
theorem Keep.trans {F G:List Nat} {w w1 w2:World} (h:Keep F w w1) (k:Keep G w1 w2) (hs : ∀ b ∈ G,b ∈ F∨w.heap.size≤b):Keep F w w2 :=
 ⟨k.os.trans h.os,k.tape.trans h.tape,k.output.trans h.output,Nat.le_trans h.size k.size,fun b hb hn=>by
    rw [k.block b (Nat.lt_of_lt_of_le hb h.size) (fun e=>by rcases hs b e with h1 | h1; exact hn h1; omega),h.block b hb hn]⟩
theorem Keep.of_below {w w':World} (h:Below w.heap.size w w') (F:List Nat):Keep F w w':=⟨h.os,h.tape,h.output,h.size,fun b hb _=>h.block b hb⟩
theorem Keep.below {F:List Nat} {w w':World} {B:Nat} (h:Keep F w w') (hB:B≤w.heap.size) (hF : ∀ b ∈ F,B≤b):Below B w w':=⟨h.os,h.tape,h.output,h.size,fun b hb=>h.block b (by omega) fun e=>by have:=hF b e; omega⟩
theorem Keep.alloc {F:List Nat} {w w':World} (h:Keep F w w') (o:Obj):Keep F w (w'.alloc o) :=
 ⟨h.os,h.tape,h.output,by have:=h.size; simp; omega,fun b hb hn=>by rw [Below.heap_alloc _ _ _ (by have:=h.size; omega)]; exact h.block b hb hn⟩
theorem Keep.drewN {F:List Nat} {w w':World} (h:Keep F w w') (n:Nat):Keep F w (w'.drewN n):=⟨h.os,h.tape,h.output,h.size,h.block⟩
theorem Keep.setCell {F:List Nat} {w w':World} (h:Keep F w w') (a:Addr) (v:Value) (ha:a.block ∈ F∨w.heap.size≤a.block):Keep F w (w'.setCell a v) :=
 ⟨h.os,h.tape,h.output,by simpa [World.setCell] using h.size,fun b hb hn=>by
    rw [← h.block b hb hn]
    unfold World.setCell
    simp only
    rw [Array.getElem?_modify,if_neg (fun e=>by rcases ha with h1 | h1; exact hn (e ▸ h1); omega)]⟩
theorem Keep.grown {F:List Nat} {w w1 w2:World} (h:Keep F w w1) {row:Option Nat} (k:w1.grownBy w2 row) (hr : ∀ b,row=some b→b ∈ F∨w.heap.size≤b):Keep F w w2 :=
 ⟨k.os.trans h.os,k.tape.trans h.tape,k.output.trans h.output,Nat.le_trans h.size k.size,fun b hb hn=>by
    rw [k.block b (Nat.lt_of_lt_of_le hb h.size) (fun e=>by rcases hr b e.symm with h1 | h1; exact hn h1; omega),h.block b hb hn]⟩
structure MemW (w:World) (c r M H S C:Nat) (f:Ad→Int) (v:Value):Prop where
 m:w.heap[M]? = some (.cells #[.int .i64 (f ⟨1,0,0⟩),.slice (some ⟨H,0,none⟩) r r,.slice (some ⟨S,0,none⟩) r r,.slice (some ⟨C,0,none⟩) c c,v] 85 (0,0))
 h:w.heap[H]? = some (.cells (headC f r) 2 (0,0))
 s:w.heap[S]? = some (.cells (sigC f r) 126 (0,0))
 c:w.heap[C]? = some (.cells (cellC f c) 2 (0,0))
 ne:H≠C
theorem MemW.keep {w w':World} {c r M H S C:Nat} {f:Ad→Int} {v:Value} (h:MemW w c r M H S C f v) {F:List Nat} (k:Keep F w w') (h1:M ∉ F) (h2:H ∉ F) (h3:S ∉ F) (h4:C ∉ F):MemW w' c r M H S C f v :=
 have lt : ∀ {b:Nat} {o:Obj},w.heap[b]? = some o→b < w.heap.size:=fun e=>(Array.getElem?_eq_some_iff.1 e).1
 ⟨by rw [k.block _ (lt h.m) h1]; exact h.m,by rw [k.block _ (lt h.h) h2]; exact h.h,by rw [k.block _ (lt h.s) h3]; exact h.s,by rw [k.block _ (lt h.c) h4]; exact h.c,h.ne⟩
def at_ (M H S C:Nat) (a:Ad):Addr:=if a.k=1 then ⟨M,0,none⟩ else if a.k=2 then ⟨H,a.i.toNat,none⟩ else if a.k=3 then ⟨S,a.i.toNat * 8+a.j.toNat,none⟩ else ⟨C,a.i.toNat,none⟩
theorem cell_at {w:World} {b:Nat} {cs:Array Value} {t:TypeId} {fz:Nat × Nat} (h:w.heap[b]? = some (.cells cs t fz)) (i:Nat):w.cell? ⟨b,i,none⟩=cs[i]?:=by
 unfold World.cell?; simp [h]
theorem MemW.cell {w:World} {c r M H S C:Nat} {f:Ad→Int} {v:Value} (h:MemW w c r M H S C f v) {a:Ad} (ha:isAd c r a=true):w.cell? (at_ M H S C a)=some (.int .i64 (f a)):=by
 rcases isAd_cases ha with rfl | ⟨i,hi,rfl⟩ | ⟨i,j,hi,hj,rfl⟩ | ⟨i,hi,rfl⟩
 ·simp [at_,cell_at h.m]
 ·simp [at_,cell_at h.h,headC_get f r i hi]
 ·simp [at_,cell_at h.s,sigC_get f r i j hi hj]
 ·simp [at_,cell_at h.c,cellC_get f c i hi]
theorem frozen_at {w:World} {b:Nat} {cs:Array Value} {t:TypeId} (h:w.heap[b]? = some (.cells cs t (0,0))) (i:Nat):w.frozen? ⟨b,i,none⟩=false:=by
 unfold World.frozen?; simp [h]
theorem MemW.frozen {w:World} {c r M H S C:Nat} {f:Ad→Int} {v:Value} (h:MemW w c r M H S C f v) {a:Ad} (ha:isAd c r a=true):w.frozen? (at_ M H S C a)=false:=by
 rcases isAd_cases ha with rfl | ⟨i,hi,rfl⟩ | ⟨i,j,hi,hj,rfl⟩ | ⟨i,hi,rfl⟩
 ·simp [at_,frozen_at h.m]
 ·simp [at_,frozen_at h.h]
 ·simp [at_,frozen_at h.s]
 ·simp [at_,frozen_at h.c]
theorem heap_set {w:World} {b:Nat} {cs:Array Value} {t:TypeId} {fz:Nat × Nat} (h:w.heap[b]? = some (.cells cs t fz)) (i:Nat) (v:Value):(w.setCell ⟨b,i,none⟩ v).heap[b]? = some (.cells (cs.setIfInBounds i v) t fz):=by
 unfold World.setCell; simp [Array.getElem?_modify,h]
theorem heap_set_other {w:World} {b d:Nat} (i:Nat) (v:Value) (h:b≠d):(w.setCell ⟨b,i,none⟩ v).heap[d]? = w.heap[d]?:=by
 unfold World.setCell; simp [Array.getElem?_modify,h]
theorem ne_of_type {w:World} {b d:Nat} {cs ds:Array Value} {t u:TypeId} (h1:w.heap[b]? = some (.cells cs t (0,0))) (h2:w.heap[d]? = some (.cells ds u (0,0))) (h:t≠u):b≠d:=fun e=>by
 subst e; rw [h1] at h2; simp at h2; exact h h2.2
theorem MemW.set {w:World} {c r M H S C:Nat} {f:Ad→Int} {v:Value} (h:MemW w c r M H S C f v) {a:Ad} (ha:isAd c r a=true) (z:Int):MemW (w.setCell (at_ M H S C a) (.int .i64 z)) c r M H S C (upd f a z) v:=by
 have mh:M≠H:=ne_of_type h.m h.h (by decide)
 have ms:M≠S:=ne_of_type h.m h.s (by decide)
 have mc:M≠C:=ne_of_type h.m h.c (by decide)
 have hs:H≠S:=ne_of_type h.h h.s (by decide)
 have sc:S≠C:=ne_of_type h.s h.c (by decide)
 rcases isAd_cases ha with rfl | ⟨i,hi,rfl⟩ | ⟨i,j,hi,hj,rfl⟩ | ⟨i,hi,rfl⟩
 ·refine ⟨?_, ?_, ?_, ?_,h.ne⟩
  ·rw [show at_ M H S C ⟨1,0,0⟩=⟨M,0,none⟩ by simp [at_],heap_set h.m,upd_same]; rfl
  ·rw [show at_ M H S C ⟨1,0,0⟩=⟨M,0,none⟩ by simp [at_],heap_set_other _ _ mh,headC_other _ _ _ _ (by decide)]; exact h.h
  ·rw [show at_ M H S C ⟨1,0,0⟩=⟨M,0,none⟩ by simp [at_],heap_set_other _ _ ms,sigC_other _ _ _ _ (by decide)]; exact h.s
  ·rw [show at_ M H S C ⟨1,0,0⟩=⟨M,0,none⟩ by simp [at_],heap_set_other _ _ mc,cellC_other _ _ _ _ (by decide)]; exact h.c
 ·have e:at_ M H S C ⟨2,i,0⟩=⟨H,i,none⟩:=by simp [at_]
  refine ⟨?_, ?_, ?_, ?_,h.ne⟩
  ·rw [e,heap_set_other _ _ mh.symm,upd_other (by simp)]; exact h.m
  ·rw [e,heap_set h.h,headC_set _ _ _ _ hi]
  ·rw [e,heap_set_other _ _ hs,sigC_other _ _ _ _ (by show (2:Int)≠3; decide)]; exact h.s
  ·rw [e,heap_set_other _ _ h.ne,cellC_other _ _ _ _ (by show (2:Int)≠4; decide)]; exact h.c
 ·have e:at_ M H S C ⟨3,i,j⟩=⟨S,i * 8+j,none⟩:=by simp [at_]
  refine ⟨?_, ?_, ?_, ?_,h.ne⟩
  ·rw [e,heap_set_other _ _ ms.symm,upd_other (by simp)]; exact h.m
  ·rw [e,heap_set_other _ _ hs.symm,headC_other _ _ _ _ (by show (3:Int)≠2; decide)]; exact h.h
  ·rw [e,heap_set h.s,sigC_set _ _ _ _ _ hi hj]
  ·rw [e,heap_set_other _ _ sc,cellC_other _ _ _ _ (by show (3:Int)≠4; decide)]; exact h.c
 ·have e:at_ M H S C ⟨4,i,0⟩=⟨C,i,none⟩:=by simp [at_]
  refine ⟨?_, ?_, ?_, ?_,h.ne⟩
  ·rw [e,heap_set_other _ _ mc.symm,upd_other (by simp)]; exact h.m
  ·rw [e,heap_set_other _ _ h.ne.symm,headC_other _ _ _ _ (by show (4:Int)≠2; decide)]; exact h.h
  ·rw [e,heap_set_other _ _ sc.symm,sigC_other _ _ _ _ (by show (4:Int)≠3; decide)]; exact h.s
  ·rw [e,heap_set h.c,cellC_set _ _ _ _ hi]
theorem at_block (M H S C:Nat) (a:Ad):(at_ M H S C a).block ∈ [M,H,S,C]:=by
 unfold at_
 split
 ·simp
 ·split
  ·simp
  ·split <;> simp
theorem heap_lt {w:World} {b:Nat} {o:Obj} (h:w.heap[b]? = some o):b < w.heap.size:=(Array.getElem?_eq_some_iff.1 h).1
theorem own_keep {w w':World} {F:List Nat} {base:Nat} {e:TypeId} {s n:Nat} {v:Value} {xs:List Value} (h:w.ownsRow base e s v n xs) (k:Keep F w w') (hv : ∀ b,v.ownBlock=some b→b ∉ F):w'.ownsRow base e s v n xs:=by
 refine ⟨h.1, ?_⟩
 rcases h.2 with ⟨h1, h2⟩ | ⟨g, cap, cur, hv', hb, hg, rest⟩
 ·exact Or.inl ⟨h1,h2⟩
 ·exact Or.inr ⟨g, cap, cur, hv', hb, by rw [k.block g (heap_lt hg) (hv g (by rw [hv']; rfl))]; exact hg, rest⟩
theorem own_ne {w:World} {base:Nat} {e:TypeId} {s n:Nat} {v:Value} {xs:List Value} (h:w.ownsRow base e s v n xs) {b:Nat} {cs:Array Value} {t:TypeId} (hb:w.heap[b]? = some (.cells cs t (0,0))) (ht:t≠e):v.ownBlock≠some b:=fun hv=>by
 rcases h.2 with ⟨h1, _⟩ | ⟨g, cap, cur, hv', _, hg, _⟩
 ·rw [h1] at hv; simp [Value.ownBlock] at hv
 ·rw [hv'] at hv
  simp [Value.ownBlock] at hv
  subst hv
  rw [hb] at hg
  simp at hg
  exact ht hg.2
theorem own_slice {w:World} {base:Nat} {e:TypeId} {s n:Nat} {v:Value} {xs:List Value} (h:w.ownsRow base e s v n xs) : ∃ a cap,v = .slice a n cap:=by
 rcases h.2 with ⟨e,h0⟩ | ⟨g,cp,cur,e,_⟩
 ·exact ⟨none,0,by rw [e,h0]⟩
 ·exact ⟨_,_,e⟩
theorem own_block {w:World} {base:Nat} {e:TypeId} {s n:Nat} {v:Value} {xs:List Value} (h:w.ownsRow base e s v n xs) (b:Nat) (hv:v.ownBlock=some b):base≤b∧b < w.heap.size:=by
 rcases h.2 with ⟨h1, _⟩ | ⟨g, cap, cur, hv', hb, hg, _⟩
 ·rw [h1] at hv; simp [Value.ownBlock] at hv
 ·rw [hv'] at hv
  simp [Value.ownBlock] at hv
  subst hv
  exact ⟨hb,heap_lt hg⟩
theorem below_any (i n:Int) (w:World):Calls Tryz.prog 53 #[.int .i64 i,.int .i64 n] w fun e w' => e = .returned (.bool (decide (0≤i) && decide (i < n)))∧w'=w:=by
 by_cases h:0≤i
 ·by_cases h2:i < n
  ·go_enter Tryz.func53,Tryz.ntmps53
   go_wp2
   go_ret
   exact ⟨by simp; omega,rfl⟩
  ·go_enter Tryz.func53,Tryz.ntmps53
   go_wp2
   go_ret
   exact ⟨by simp; omega,rfl⟩
 ·go_enter Tryz.func53,Tryz.ntmps53
  go_wp2
  go_ret
  exact ⟨by simp; omega,rfl⟩
set_option linter.unusedVariables false
theorem below_alloc {w w':World} (h:Below w.heap.size w w') (o:Obj):Below w.heap.size w (w'.alloc o):=h.alloc h.size o
theorem below_drawn {w w':World} (h:Below w.heap.size w w') (n:Nat):Below w.heap.size w (w'.drewN n):=⟨h.os,h.tape,h.output,h.size,h.block⟩
theorem below_a1 (w:World) (o1:Obj):Below w.heap.size w (w.alloc o1):=below_alloc (Below.refl _ _) _
theorem below_then {w w1 w2:World} (h:Below w.heap.size w w1) (k:Below w1.heap.size w1 w2):Below w.heap.size w w2:=h.trans (k.mono h.size)
def ptr_ (c r M H S C:Nat) (a:Ad):Value:=if isAd c r a then .pointer (some (at_ M H S C a)) else .pointer none
theorem below_s (x y:Int) (b:Bool) (h:(decide (0≤x) && decide (x < y))=b) (w:World):Calls Tryz.prog 53 #[.int .i64 x,.int .i64 y] w fun e w' => e = .returned (.bool b)∧w'=w :=
 (below_any _ _ _).mono fun e w' ⟨h1,h2⟩=>⟨by rw [h1,h],h2⟩
theorem word_none (w:World) (M H S C c r:Nat) (k i j:Int) (h1:w.cell? ⟨M,1,none⟩=some (.slice (some ⟨H,0,none⟩) r r)) (h2:w.cell? ⟨M,2,none⟩=some (.slice (some ⟨S,0,none⟩) r r)) (h3:w.cell? ⟨M,3,none⟩=some (.slice (some ⟨C,0,none⟩) c c)) (hr:r < 1000000) (hc:c < 1000000) (hk:k≠1∧k≠2∧k≠3∧k≠4) :
  Calls Tryz.prog 37 #[.pointer (some ⟨M,0,none⟩),.agg #[.int .i64 k,.int .i64 i,.int .i64 j]] w fun e w' => e = .returned (.pointer none)∧Below w.heap.size w w':=by
 have n1:(k == 1)=false:=by simp; omega
 have n2:(k == 2)=false:=by simp; omega
 have n3:(k == 3)=false:=by simp; omega
 have n4:(k == 4)=false:=by simp; omega
 clear hk
 have hM:M < w.heap.size:=World.block_lt_of_cell? w _ h1
 go_enter Tryz.func37,Tryz.ntmps37
 go_wp2
 go_quiet (fail)
 go_wp2
 go_quiet (fail)
 go_wp2
 go_quiet (fail)
 go_wp2
 go_ret
 exact ⟨rfl,below_drawn (below_drawn (below_drawn (below_a1 _ _) _) _) _⟩
theorem word_newest (w:World) (M H S C c r:Nat) (k i j:Int) (h1:w.cell? ⟨M,1,none⟩=some (.slice (some ⟨H,0,none⟩) r r)) (h2:w.cell? ⟨M,2,none⟩=some (.slice (some ⟨S,0,none⟩) r r)) (h3:w.cell? ⟨M,3,none⟩=some (.slice (some ⟨C,0,none⟩) c c)) (hr:r < 1000000) (hc:c < 1000000) (hk:k=1) (hi:i=0) (hj:j=0) :
  Calls Tryz.prog 37 #[.pointer (some ⟨M,0,none⟩),.agg #[.int .i64 k,.int .i64 i,.int .i64 j]] w fun e w' => e = .returned (.pointer (some ⟨M,0,none⟩))∧Below w.heap.size w w':=by
 subst hk hi hj
 have hM:M < w.heap.size:=World.block_lt_of_cell? w _ h1
 go_enter Tryz.func37,Tryz.ntmps37
 go_wp2
 go_ret
 exact ⟨rfl,below_a1 _ _⟩
theorem word_newest1 (w:World) (M H S C c r:Nat) (k i j:Int) (h1:w.cell? ⟨M,1,none⟩=some (.slice (some ⟨H,0,none⟩) r r)) (h2:w.cell? ⟨M,2,none⟩=some (.slice (some ⟨S,0,none⟩) r r)) (h3:w.cell? ⟨M,3,none⟩=some (.slice (some ⟨C,0,none⟩) c c)) (hr:r < 1000000) (hc:c < 1000000) (hk:k=1) (hi:i≠0) :
  Calls Tryz.prog 37 #[.pointer (some ⟨M,0,none⟩),.agg #[.int .i64 k,.int .i64 i,.int .i64 j]] w fun e w' => e = .returned (.pointer none)∧Below w.heap.size w w':=by
 subst hk
 have ni:(i == 0)=false:=by simpa using hi
 clear hi
 have hM:M < w.heap.size:=World.block_lt_of_cell? w _ h1
 go_enter Tryz.func37,Tryz.ntmps37
 go_wp2
 go_quiet (fail)
 go_wp2
 go_quiet (fail)
 go_wp2
 go_quiet (fail)
 go_wp2
 go_ret
 exact ⟨rfl,below_drawn (below_drawn (below_drawn (below_a1 _ _) _) _) _⟩
theorem word_newest2 (w:World) (M H S C c r:Nat) (k i j:Int) (h1:w.cell? ⟨M,1,none⟩=some (.slice (some ⟨H,0,none⟩) r r)) (h2:w.cell? ⟨M,2,none⟩=some (.slice (some ⟨S,0,none⟩) r r)) (h3:w.cell? ⟨M,3,none⟩=some (.slice (some ⟨C,0,none⟩) c c)) (hr:r < 1000000) (hc:c < 1000000) (hk:k=1) (hi:i=0) (hj:j≠0) :
  Calls Tryz.prog 37 #[.pointer (some ⟨M,0,none⟩),.agg #[.int .i64 k,.int .i64 i,.int .i64 j]] w fun e w' => e = .returned (.pointer none)∧Below w.heap.size w w':=by
 subst hk hi
 have nj:(j == 0)=false:=by simpa using hj
 clear hj
 have hM:M < w.heap.size:=World.block_lt_of_cell? w _ h1
 go_enter Tryz.func37,Tryz.ntmps37
 go_wp2
 go_quiet (fail)
 go_wp2
 go_quiet (fail)
 go_wp2
 go_quiet (fail)
 go_wp2
 go_ret
 exact ⟨rfl,below_drawn (below_drawn (below_drawn (below_a1 _ _) _) _) _⟩
theorem word_head (w:World) (M H S C c r:Nat) (k i j:Int) (h1:w.cell? ⟨M,1,none⟩=some (.slice (some ⟨H,0,none⟩) r r)) (h2:w.cell? ⟨M,2,none⟩=some (.slice (some ⟨S,0,none⟩) r r)) (h3:w.cell? ⟨M,3,none⟩=some (.slice (some ⟨C,0,none⟩) c c)) (hr:r < 1000000) (hc:c < 1000000) (hk:k=2) (n:Nat) (hi:i=(n:Int)) (hn:n < r) (hj:j=0) :
  Calls Tryz.prog 37 #[.pointer (some ⟨M,0,none⟩),.agg #[.int .i64 k,.int .i64 i,.int .i64 j]] w fun e w' => e = .returned (.pointer (some ⟨H,n,none⟩))∧Below w.heap.size w w':=by
 subst hk hi hj
 have HB:Hid (∀ (x0:World),Calls Tryz.prog 53 #[.int .i64 (n:Int),.int .i64 (r:Int)] x0 fun e x1=>e = .returned (.bool true)∧x1=x0):=fun x0=>below_s (n:Int) (r:Int) true (by simp; omega) x0
 have hx:((n:Int) < (r:Int)):=by omega
 have hM:M < w.heap.size:=World.block_lt_of_cell? w _ h1
 go_enter Tryz.func37,Tryz.ntmps37
 go_wp2
 go_quiet ((go_at_call 53; refine (HB.out _).mono ?_; rintro e x0 ⟨rfl,rfl⟩; exact ⟨rfl,_,rfl⟩))
 go_wp2
 go_quiet (fail)
 go_wp2
 go_ret
 exact ⟨rfl,below_drawn (below_drawn (below_a1 _ _) _) _⟩
theorem word_head1 (w:World) (M H S C c r:Nat) (k i j:Int) (h1:w.cell? ⟨M,1,none⟩=some (.slice (some ⟨H,0,none⟩) r r)) (h2:w.cell? ⟨M,2,none⟩=some (.slice (some ⟨S,0,none⟩) r r)) (h3:w.cell? ⟨M,3,none⟩=some (.slice (some ⟨C,0,none⟩) c c)) (hr:r < 1000000) (hc:c < 1000000) (hk:k=2) (hi : ¬ (0≤i∧i < (r:Int))) :
  Calls Tryz.prog 37 #[.pointer (some ⟨M,0,none⟩),.agg #[.int .i64 k,.int .i64 i,.int .i64 j]] w fun e w' => e = .returned (.pointer none)∧Below w.heap.size w w':=by
 subst hk
 have HB:Hid (∀ (x0:World),Calls Tryz.prog 53 #[.int .i64 i,.int .i64 (r:Int)] x0 fun e x1=>e = .returned (.bool false)∧x1=x0):=fun x0=>below_s i (r:Int) false (by simp; omega) x0
 clear hi
 have hM:M < w.heap.size:=World.block_lt_of_cell? w _ h1
 go_enter Tryz.func37,Tryz.ntmps37
 go_wp2
 go_quiet ((go_at_call 53; refine (HB.out _).mono ?_; rintro e x0 ⟨rfl,rfl⟩; exact ⟨rfl,_,rfl⟩))
 go_wp2
 go_quiet (fail)
 go_wp2
 go_quiet (fail)
 go_wp2
 go_ret
 exact ⟨rfl,below_drawn (below_drawn (below_drawn (below_a1 _ _) _) _) _⟩
theorem word_head2 (w:World) (M H S C c r:Nat) (k i j:Int) (h1:w.cell? ⟨M,1,none⟩=some (.slice (some ⟨H,0,none⟩) r r)) (h2:w.cell? ⟨M,2,none⟩=some (.slice (some ⟨S,0,none⟩) r r)) (h3:w.cell? ⟨M,3,none⟩=some (.slice (some ⟨C,0,none⟩) c c)) (hr:r < 1000000) (hc:c < 1000000) (hk:k=2) (hi:0≤i∧i < (r:Int)) (hj:j≠0) :
  Calls Tryz.prog 37 #[.pointer (some ⟨M,0,none⟩),.agg #[.int .i64 k,.int .i64 i,.int .i64 j]] w fun e w' => e = .returned (.pointer none)∧Below w.heap.size w w':=by
 subst hk
 have HB:Hid (∀ (x0:World),Calls Tryz.prog 53 #[.int .i64 i,.int .i64 (r:Int)] x0 fun e x1=>e = .returned (.bool true)∧x1=x0):=fun x0=>below_s i (r:Int) true (by simp; omega) x0
 have nj:(j == 0)=false:=by simpa using hj
 clear hi hj
 have hM:M < w.heap.size:=World.block_lt_of_cell? w _ h1
 go_enter Tryz.func37,Tryz.ntmps37
 go_wp2
 go_quiet ((go_at_call 53; refine (HB.out _).mono ?_; rintro e x0 ⟨rfl,rfl⟩; exact ⟨rfl,_,rfl⟩))
 go_wp2
 go_quiet (fail)
 go_wp2
 go_quiet (fail)
 go_wp2
 go_ret
 exact ⟨rfl,below_drawn (below_drawn (below_drawn (below_a1 _ _) _) _) _⟩
theorem word_cell (w:World) (M H S C c r:Nat) (k i j:Int) (h1:w.cell? ⟨M,1,none⟩=some (.slice (some ⟨H,0,none⟩) r r)) (h2:w.cell? ⟨M,2,none⟩=some (.slice (some ⟨S,0,none⟩) r r)) (h3:w.cell? ⟨M,3,none⟩=some (.slice (some ⟨C,0,none⟩) c c)) (hr:r < 1000000) (hc:c < 1000000) (hk:k=4) (n:Nat) (hi:i=(n:Int)) (hn:n < c) (hj:j=0) :
  Calls Tryz.prog 37 #[.pointer (some ⟨M,0,none⟩),.agg #[.int .i64 k,.int .i64 i,.int .i64 j]] w fun e w' => e = .returned (.pointer (some ⟨C,n,none⟩))∧Below w.heap.size w w':=by
 subst hk hi hj
 have HB:Hid (∀ (x0:World),Calls Tryz.prog 53 #[.int .i64 (n:Int),.int .i64 (c:Int)] x0 fun e x1=>e = .returned (.bool true)∧x1=x0):=fun x0=>below_s (n:Int) (c:Int) true (by simp; omega) x0
 have hx:((n:Int) < (c:Int)):=by omega
 have hM:M < w.heap.size:=World.block_lt_of_cell? w _ h1
 go_enter Tryz.func37,Tryz.ntmps37
 go_wp2
 go_quiet (fail)
 go_wp2
 go_quiet (fail)
 go_wp2
 go_quiet ((go_at_call 53; refine (HB.out _).mono ?_; rintro e x0 ⟨rfl,rfl⟩; exact ⟨rfl,_,rfl⟩))
 go_wp2
 go_quiet (fail)
 go_wp2
 go_ret
 exact ⟨rfl,below_drawn (below_drawn (below_drawn (below_drawn (below_a1 _ _) _) _) _) _⟩
theorem word_cell1 (w:World) (M H S C c r:Nat) (k i j:Int) (h1:w.cell? ⟨M,1,none⟩=some (.slice (some ⟨H,0,none⟩) r r)) (h2:w.cell? ⟨M,2,none⟩=some (.slice (some ⟨S,0,none⟩) r r)) (h3:w.cell? ⟨M,3,none⟩=some (.slice (some ⟨C,0,none⟩) c c)) (hr:r < 1000000) (hc:c < 1000000) (hk:k=4) (hi : ¬ (0≤i∧i < (c:Int))) :
  Calls Tryz.prog 37 #[.pointer (some ⟨M,0,none⟩),.agg #[.int .i64 k,.int .i64 i,.int .i64 j]] w fun e w' => e = .returned (.pointer none)∧Below w.heap.size w w':=by
 subst hk
 have HB:Hid (∀ (x0:World),Calls Tryz.prog 53 #[.int .i64 i,.int .i64 (c:Int)] x0 fun e x1=>e = .returned (.bool false)∧x1=x0):=fun x0=>below_s i (c:Int) false (by simp; omega) x0
 clear hi
 have hM:M < w.heap.size:=World.block_lt_of_cell? w _ h1
 go_enter Tryz.func37,Tryz.ntmps37
 go_wp2
 go_quiet (fail)
 go_wp2
 go_quiet (fail)
 go_wp2
 go_quiet ((go_at_call 53; refine (HB.out _).mono ?_; rintro e x0 ⟨rfl,rfl⟩; exact ⟨rfl,_,rfl⟩))
 go_wp2
 go_ret
 exact ⟨rfl,below_drawn (below_drawn (below_drawn (below_a1 _ _) _) _) _⟩
theorem word_cell2 (w:World) (M H S C c r:Nat) (k i j:Int) (h1:w.cell? ⟨M,1,none⟩=some (.slice (some ⟨H,0,none⟩) r r)) (h2:w.cell? ⟨M,2,none⟩=some (.slice (some ⟨S,0,none⟩) r r)) (h3:w.cell? ⟨M,3,none⟩=some (.slice (some ⟨C,0,none⟩) c c)) (hr:r < 1000000) (hc:c < 1000000) (hk:k=4) (hi:0≤i∧i < (c:Int)) (hj:j≠0) :
  Calls Tryz.prog 37 #[.pointer (some ⟨M,0,none⟩),.agg #[.int .i64 k,.int .i64 i,.int .i64 j]] w fun e w' => e = .returned (.pointer none)∧Below w.heap.size w w':=by
 subst hk
 have HB:Hid (∀ (x0:World),Calls Tryz.prog 53 #[.int .i64 i,.int .i64 (c:Int)] x0 fun e x1=>e = .returned (.bool true)∧x1=x0):=fun x0=>below_s i (c:Int) true (by simp; omega) x0
 have nj:(j == 0)=false:=by simpa using hj
 clear hi hj
 have hM:M < w.heap.size:=World.block_lt_of_cell? w _ h1
 go_enter Tryz.func37,Tryz.ntmps37
 go_wp2
 go_quiet (fail)
 go_wp2
 go_quiet (fail)
 go_wp2
 go_quiet ((go_at_call 53; refine (HB.out _).mono ?_; rintro e x0 ⟨rfl,rfl⟩; exact ⟨rfl,_,rfl⟩))
 go_wp2
 go_ret
 exact ⟨rfl,below_drawn (below_drawn (below_drawn (below_a1 _ _) _) _) _⟩
theorem word_sig (w:World) (M H S C c r:Nat) (k i j:Int) (h1:w.cell? ⟨M,1,none⟩=some (.slice (some ⟨H,0,none⟩) r r)) (h2:w.cell? ⟨M,2,none⟩=some (.slice (some ⟨S,0,none⟩) r r)) (h3:w.cell? ⟨M,3,none⟩=some (.slice (some ⟨C,0,none⟩) c c)) (hr:r < 1000000) (hc:c < 1000000) (hk:k=3) (n m:Nat) (hi:i=(n:Int)) (hn:n < r) (hj:j=(m:Int)) (hm:m < 8) :
  Calls Tryz.prog 37 #[.pointer (some ⟨M,0,none⟩),.agg #[.int .i64 k,.int .i64 i,.int .i64 j]] w fun e w' => e = .returned (.pointer (some ⟨S,n * 8+m,none⟩))∧Below w.heap.size w w':=by
 subst hk hi hj
 have d1:(decide (0≤(n:Int)) && decide ((n:Int) < (r:Int)))=true:=by simp; omega
 have d2:(decide (0≤(m:Int)) && decide ((m:Int) < 8))=true:=by simp; omega
 have hx:((n:Int) < (r:Int)):=by omega
 have hy:((m:Int) < 8):=by omega
 have hM:M < w.heap.size:=World.block_lt_of_cell? w _ h1
 go_enter Tryz.func37,Tryz.ntmps37
 go_wp2
 go_quiet (fail)
 go_wp2
 go_quiet ((go_at_call 53; refine (below_any _ _ _).mono ?_; rintro e x0 ⟨rfl,rfl⟩; refine ⟨?_,_,rfl⟩; first | rw [d1] | rw [d2]))
 go_wp2
 go_quiet (fail)
 go_wp2
 go_ret
 exact ⟨rfl,below_drawn (below_drawn (below_drawn (below_a1 _ _) _) _) _⟩
theorem word_sig1 (w:World) (M H S C c r:Nat) (k i j:Int) (h1:w.cell? ⟨M,1,none⟩=some (.slice (some ⟨H,0,none⟩) r r)) (h2:w.cell? ⟨M,2,none⟩=some (.slice (some ⟨S,0,none⟩) r r)) (h3:w.cell? ⟨M,3,none⟩=some (.slice (some ⟨C,0,none⟩) c c)) (hr:r < 1000000) (hc:c < 1000000) (hk:k=3) (hi : ¬ (0≤i∧i < (r:Int))) :
  Calls Tryz.prog 37 #[.pointer (some ⟨M,0,none⟩),.agg #[.int .i64 k,.int .i64 i,.int .i64 j]] w fun e w' => e = .returned (.pointer none)∧Below w.heap.size w w':=by
 subst hk
 have HB:Hid (∀ (x0:World),Calls Tryz.prog 53 #[.int .i64 i,.int .i64 (r:Int)] x0 fun e x1=>e = .returned (.bool false)∧x1=x0):=fun x0=>below_s i (r:Int) false (by simp; omega) x0
 clear hi
 have hM:M < w.heap.size:=World.block_lt_of_cell? w _ h1
 go_enter Tryz.func37,Tryz.ntmps37
 go_wp2
 go_quiet (fail)
 go_wp2
 go_quiet ((go_at_call 53; refine (HB.out _).mono ?_; rintro e x0 ⟨rfl,rfl⟩; exact ⟨rfl,_,rfl⟩))
 go_wp2
 go_quiet (fail)
 go_wp2
 go_ret
 exact ⟨rfl,below_drawn (below_drawn (below_drawn (below_a1 _ _) _) _) _⟩
theorem word_sig2 (w:World) (M H S C c r:Nat) (k i j:Int) (h1:w.cell? ⟨M,1,none⟩=some (.slice (some ⟨H,0,none⟩) r r)) (h2:w.cell? ⟨M,2,none⟩=some (.slice (some ⟨S,0,none⟩) r r)) (h3:w.cell? ⟨M,3,none⟩=some (.slice (some ⟨C,0,none⟩) c c)) (hr:r < 1000000) (hc:c < 1000000) (hk:k=3) (hi:0≤i∧i < (r:Int)) (hj : ¬ (0≤j∧j < 8)) :
  Calls Tryz.prog 37 #[.pointer (some ⟨M,0,none⟩),.agg #[.int .i64 k,.int .i64 i,.int .i64 j]] w fun e w' => e = .returned (.pointer none)∧Below w.heap.size w w':=by
 subst hk
 have d1:(decide (0≤i) && decide (i < (r:Int)))=true:=by simp; omega
 have d2:(decide (0≤j) && decide (j < 8))=false:=by simp; omega
 clear hi hj
 have hM:M < w.heap.size:=World.block_lt_of_cell? w _ h1
 go_enter Tryz.func37,Tryz.ntmps37
 go_wp2
 go_quiet (fail)
 go_wp2
 go_quiet ((go_at_call 53; refine (below_any _ _ _).mono ?_; rintro e x0 ⟨rfl,rfl⟩; refine ⟨?_,_,rfl⟩; first | rw [d1] | rw [d2]))
 go_wp2
 go_quiet (fail)
 go_wp2
 go_ret
 exact ⟨rfl,below_drawn (below_drawn (below_drawn (below_a1 _ _) _) _) _⟩
end Go.Proofs.YtdkpgdkjohjcaaaGreat
