/- The program's machine of layer 7: New, Start, goesOver, see, look. -/
import Derived.Test.YtdkpgdkjohjcaaaGreatJMemMMath
import Derived.Test.YtdkpgdkjohjcaaaGreatJRngAMemB
import Derived.Test.YtdkpgdkjohjcaaaGreatJMemCAns
import Derived.OwnWalk
import Derived.ArgAppend
import Derived.Lib.SlFresh
import Derived.Deep.Slices
set_option maxRecDepth 10000
namespace Go.Proofs.YtdkpgdkjohjcaaaGreat.Be
open Go.ChangeShapes Go.WideShapes Go.ChangeAt Go.RowKit
attribute [local go_sem ↓] Go.wp_at_zero Go.wp_at_succ
def bgC (s:Nat) (b:Bg):Array Value:=#[.int .i64 (s:Int),.int .i64 b.st,.int .i64 b.seen,.int .i64 b.stamp]
def BAt (w:World) (X s:Nat) (b:Bg):Prop:=w.heap[X]? = some (.cells (bgC s b) 142 (0,0))
theorem BAt.keep {w w':World} {X s:Nat} {b:Bg} {F:List Nat} (h:BAt w X s b) (k:Keep F w w') (hx:X ∉ F):BAt w' X s b:=by
 unfold BAt; rw [k.block _ (heap_lt h) hx]; exact h
theorem BAt.below {w w':World} {X s:Nat} {b:Bg} {B:Nat} (h:BAt w X s b) (k:Below B w w') (hx:X < B):BAt w' X s b:=by
 unfold BAt; rw [k.block _ hx]; exact h
theorem BAt.cells {w:World} {X s:Nat} {b:Bg} (h:BAt w X s b):w.cell? ⟨X,0,none⟩=some (.int .i64 (s:Int))∧w.cell? ⟨X,1,none⟩=some (.int .i64 b.st)∧w.cell? ⟨X,2,none⟩=some (.int .i64 b.seen)∧w.cell? ⟨X,3,none⟩=some (.int .i64 b.stamp) :=
 ⟨by rw [cell_at h]; rfl,by rw [cell_at h]; rfl,by rw [cell_at h]; rfl,by rw [cell_at h]; rfl⟩
theorem bnew_yes (w:World) (s:Nat) (h1:1≤s) (h2:s≤16):Calls Tryz.prog 45 #[.int .i64 (s:Int)] w fun e w' => e = .returned (.tuple #[.pointer (some ⟨w.heap.size,0,none⟩),.int .i64 0])∧BAt w' w.heap.size s bgNew∧Below w.heap.size w w':=by
 have d1:decide ((s:Int) < 1)=false:=by simp; omega
 have d2:decide ((16:Int) < (s:Int))=false:=by simp; omega
 clear h1 h2
 go_enter Tryz.func45,Tryz.ntmps45
 go_wp2
 go_ret2
 exact ⟨rfl,heap_alloc_new _ _,below_a1 _ _⟩
theorem start_any {w:World} {X s:Nat} {b:Bg} (h:BAt w X s b):Calls Tryz.prog 59 #[.pointer (some ⟨X,0,none⟩)] w fun e w' => e = .returned (.tuple #[.int .i64 (if b.st=2 then b.stamp else 0),.int .i64 (if b.st=2 then b.seen else 0),.bool (decide (b.st=2))])∧Below w.heap.size w w':=by
 obtain ⟨x0,x1,x2,x3⟩:=h.cells
 obtain ⟨st,seen,stamp⟩:=b
 simp only at x1 x2 x3 ⊢
 by_cases e:st=2
 ·subst e
  clear h
  go_enter Tryz.func59,Tryz.ntmps59
  go_wp2
  first | (go_ret3; exact ⟨rfl,Below.refl _ _⟩) | (go_quiet (fail); go_wp2; go_ret3; exact ⟨rfl,below_drawn (Below.refl _ _) _⟩)
 ·have d:decide (st=2)=false:=by simpa using e
  rw [if_neg e,if_neg e,d]
  clear h
  go_enter Tryz.func59,Tryz.ntmps59
  go_wp2
  first | (go_ret3; exact ⟨rfl,Below.refl _ _⟩) | (go_quiet (fail); go_wp2; go_ret3; exact ⟨rfl,below_drawn (Below.refl _ _) _⟩)
theorem goes_any {w:World} {base:Nat} {p:Value} {c r:Nat} {L:List Ac} {F:List Nat} {X s:Nat} {b:Bg} (hm:MemAt w base p c r L F) (h:BAt w X s b) :
  Calls Tryz.prog 130 #[.pointer (some ⟨X,0,none⟩),p] w fun e w' => e = .returned (.bool (decide (r=s)))∧Below w.heap.size w w':=by
 have HS:Hid (Calls Tryz.prog 44 #[p] w fun e w' => e = .returned (.tuple #[.int .i64 (c:Int),.int .i64 (r:Int)])∧Below w.heap.size w w'):=sizes_any hm
 obtain ⟨M,rfl⟩:=hm.ptr
 have HX:Hid (BAt w X s b):=h
 have hx:X < w.heap.size:=heap_lt h
 have hd:((r:Int) == (s:Int))=decide (r=s):=by rw [Bool.eq_iff_iff]; simp; try omega
 clear hm h
 go_enter Tryz.func130,Tryz.ntmps130
 go_wp2_with fail
 refine HS.out.mono ?_
 rintro e w1 ⟨rfl,hb⟩
 obtain ⟨x0,x1,x2,x3⟩:=(HX.out.below hb hx).cells
 have HB:Hid (Below w.heap.size w w1):=hb
 clear hb
 go_wp2
 go_ret
 exact ⟨rfl,HB.out⟩
theorem bset {w:World} {X s:Nat} {b:Bg} (h:BAt w X s b) (v:Int) :
  (w.setCell ⟨X,1,none⟩ (.int .i64 v)).heap[X]? = some (.cells (bgC s ⟨v,b.seen,b.stamp⟩) 142 (0,0))∧(w.setCell ⟨X,2,none⟩ (.int .i64 v)).heap[X]? = some (.cells (bgC s ⟨b.st,v,b.stamp⟩) 142 (0,0))∧(w.setCell ⟨X,3,none⟩ (.int .i64 v)).heap[X]? = some (.cells (bgC s ⟨b.st,b.seen,v⟩) 142 (0,0)) :=
 ⟨by rw [heap_set h]; rfl,by rw [heap_set h]; rfl,by rw [heap_set h]; rfl⟩
theorem see_any {w:World} {X s:Nat} {b:Bg} (h:BAt w X s b) (v:Int) :
  Calls Tryz.prog 131 #[.pointer (some ⟨X,0,none⟩),.int .i64 v] w fun e w' => e = .returned (.tuple #[])∧BAt w' X s (seeV v)∧Keep [X] w w':=by
 obtain ⟨x0,x1,x2,x3⟩:=h.cells
 have hx:X < w.heap.size:=heap_lt h
 have f1:w.frozen? ⟨X,1,none⟩=false:=frozen_at h 1
 have f2:w.frozen? ⟨X,2,none⟩=false:=frozen_at h 2
 have f3:w.frozen? ⟨X,3,none⟩=false:=frozen_at h 3
 have HX:Hid (BAt w X s b):=h
 clear h
 unfold seeV
 by_cases hv:v < 1
 ·rw [if_pos hv]
  by_cases h0:v < 0
  ·have hm:max v 0=0:=by omega
   go_enter Tryz.func131,Tryz.ntmps131
   go_wp2
   refine bodyPost_end (results_none rfl _ _ _) rfl ?_
   exact ⟨rfl,(bset (bset (bset (bset HX.out v).2.1 0).2.2 1).1 2).1,keep1 (keep1 (keep1 (keep1 (Keep.refl _ _) _ _) _ _) _ _) _ _⟩
  ·have hm:max v 0=v:=by omega
   obtain rfl:v=0:=by omega
   go_enter Tryz.func131,Tryz.ntmps131
   go_wp2
   refine bodyPost_end (results_none rfl _ _ _) rfl ?_
   exact ⟨rfl,(bset (bset (bset (bset HX.out 0).2.1 0).2.2 1).1 2).1,keep1 (keep1 (keep1 (keep1 (Keep.refl _ _) _ _) _ _) _ _) _ _⟩
 ·rw [if_neg hv]
  have hm:max v 0=v:=by omega
  have hz:decide (v=0)=false:=by simp; omega
  go_enter Tryz.func131,Tryz.ntmps131
  go_wp2
  refine bodyPost_end (results_none rfl _ _ _) rfl ?_
  exact ⟨rfl,(bset (bset (bset HX.out v).2.1 v).2.2 1).1,keep1 (keep1 (keep1 (Keep.refl _ _) _ _) _ _) _ _⟩
theorem look_any {w:World} {X s:Nat} {b:Bg} (h:BAt w X s b) (hk:BOk s b) (h1:b.st=1) (v:Int) :
  Calls Tryz.prog 129 #[.pointer (some ⟨X,0,none⟩),.int .i64 v] w fun e w' => e = .returned (.tuple #[])∧BAt w' X s (lookV s b v)∧Keep [X] w w':=by
 obtain ⟨x0,x1,x2,x3⟩:=h.cells
 have hx:X < w.heap.size:=heap_lt h
 have f1:w.frozen? ⟨X,1,none⟩=false:=frozen_at h 1
 have f3:w.frozen? ⟨X,3,none⟩=false:=frozen_at h 3
 have HX:Hid (BAt w X s b):=h
 have hs1:=hk.s1
 have hs2:=hk.s16
 obtain ⟨c1,c2,c3,c4⟩:1≤b.stamp∧b.stamp≤b.seen∧b.seen - (s:Int) < b.stamp∧W64 b.seen:=by
  rcases hk.c with ⟨c,_⟩ | ⟨_,c⟩ | ⟨c,_⟩
  ·omega
  ·exact c
  ·omega
 obtain ⟨c4,c5⟩:=c4
 clear h hk
 obtain ⟨st,seen,stamp⟩:=b
 simp only at x1 x2 x3 c1 c2 c3 c4 c5 h1
 subst h1
 have HV:Hid (∀ w,Calls Tryz.prog 102 #[.int .i64 v,.int .i64 stamp] w fun e w' => e = .returned (.bool (overV v stamp))∧w'=w):=over_any v stamp
 unfold lookV
 simp only
 have w1:wrap64 (stamp - 1)=stamp - 1:=by unfold wrap64; omega
 have w2:wrap64 (seen - (s:Int))=seen - (s:Int):=by unfold wrap64; omega
 generalize overV v stamp=ov at *
 cases ov
 ·rw [if_neg (by simp)]
  by_cases h1:stamp - 1 < 1
  ·rw [if_pos (Or.inl h1)]
   have d1:decide (stamp - 1 < 1)=true:=by simpa using h1
   go_enter Tryz.func129,Tryz.ntmps129
   go_wp2_with fail
   refine (HV.out _).mono ?_
   rintro e w' ⟨rfl,rfl⟩
   go_wp2
   go_quiet (fail)
   go_wp2
   refine bodyPost_end (results_none rfl _ _ _) rfl ?_
   exact ⟨rfl,(bset (bset HX.out (stamp - 1)).2.2 2).1,keep1 ((keep1 (Keep.refl _ _) _ _).drewN _) _ _⟩
  ·have d1:decide (stamp - 1 < 1)=false:=by simpa using h1
   by_cases h2:stamp - 1=seen - (s:Int)
   ·rw [if_pos (Or.inr h2)]
    have hq:(stamp - 1 == seen - (s:Int))=true:=by simpa using h2
    clear h2
    go_enter Tryz.func129,Tryz.ntmps129
    go_wp2_with fail
    refine (HV.out _).mono ?_
    rintro e w' ⟨rfl,rfl⟩
    go_wp2
    go_quiet (fail)
    go_wp2
    refine bodyPost_end (results_none rfl _ _ _) rfl ?_
    exact ⟨rfl,(bset (bset HX.out (stamp - 1)).2.2 2).1,keep1 ((keep1 (Keep.refl _ _) _ _).drewN _) _ _⟩
   ·rw [if_neg (by omega)]
    go_enter Tryz.func129,Tryz.ntmps129
    go_wp2_with fail
    refine (HV.out _).mono ?_
    rintro e w' ⟨rfl,rfl⟩
    go_wp2
    go_quiet (fail)
    go_wp2
    refine bodyPost_end (results_none rfl _ _ _) rfl ?_
    exact ⟨rfl,(bset HX.out (stamp - 1)).2.2,(keep1 (Keep.refl _ _) _ _).drewN _⟩
 ·rw [if_pos rfl]
  go_enter Tryz.func129,Tryz.ntmps129
  go_wp2_with fail
  refine (HV.out _).mono ?_
  rintro e w' ⟨rfl,rfl⟩
  go_wp2
  refine bodyPost_ret (results_none rfl _ _ _) rfl ?_
  exact ⟨rfl,(bset HX.out 2).1,keep1 (Keep.refl _ _) _ _⟩
theorem step_none {w:World} {base:Nat} {p:Value} {c r:Nat} {L:List Ac} {F:List Nat} {X s:Nat} {b:Bg} (hm:MemAt w base p c r L F) (h:BAt w X s b) (hn:r≠s∨b.st=2) (t:Int) :
  Calls Tryz.prog 128 #[.pointer (some ⟨X,0,none⟩),p,.int .i64 t] w fun e w' => e = .returned (ansC 0 false)∧Below w.heap.size w w':=by
 have HG:Hid (∀ o,Calls Tryz.prog 130 #[.pointer (some ⟨X,0,none⟩),p] (w.alloc o) fun e w' => e = .returned (.bool (decide (r=s)))∧Below (w.alloc o).heap.size (w.alloc o) w'):=fun o=>goes_any (hm.below (below_a1 _ _)) (h.below (below_a1 _ _) (heap_lt h))
 obtain ⟨M,rfl⟩:=hm.ptr
 have HX:Hid (BAt w X s b):=h
 have hx:X < w.heap.size:=heap_lt h
 clear hm h
 unfold ansC
 by_cases hr:r=s
 ·have h2:b.st=2:=by
   rcases hn with h | h
   ·exact absurd hr h
   ·exact h
  have hd:decide (r=s)=true:=by simpa using hr
  rw [hd] at HG
  clear hn hr hd
  go_enter Tryz.func128,Tryz.ntmps128
  go_wp2_with fail
  refine (HG.out _).mono ?_
  rintro e w1 ⟨rfl,hb⟩
  have HR:Hid (w1.heap[w.heap.size]? = some (.cells #[.int .i64 0,.int .i64 0,.int .i64 0,.bool false] 55 (0,0))):=row_on (heap_alloc_new _ _) hb
  obtain ⟨⟨a0,a1,a2,a3⟩,g0,g1,g2,g3⟩:=ans_cells HR.out
  have hB:=heap_lt HR.out
  have HB:Hid (Below w.heap.size w w1):=below_then (below_a1 _ _) hb
  obtain ⟨x0,x1,x2,x3⟩:=(HX.out.below HB.out hx).cells
  rw [h2] at x1
  clear hb
  go_wp2
  exact ret_ans rfl rfl (ans_set rfl HR.out 0 false) rfl rfl ⟨rfl,below4 HB.out (Nat.le_refl _) 0 false⟩
 ·have hd:decide (r=s)=false:=by simpa using hr
  rw [hd] at HG
  clear hn hr hd
  go_enter Tryz.func128,Tryz.ntmps128
  go_wp2_with fail
  refine (HG.out _).mono ?_
  rintro e w1 ⟨rfl,hb⟩
  have HR:Hid (w1.heap[w.heap.size]? = some (.cells #[.int .i64 0,.int .i64 0,.int .i64 0,.bool false] 55 (0,0))):=row_on (heap_alloc_new _ _) hb
  obtain ⟨⟨a0,a1,a2,a3⟩,g0,g1,g2,g3⟩:=ans_cells HR.out
  have hB:=heap_lt HR.out
  have HB:Hid (Below w.heap.size w w1):=below_then (below_a1 _ _) hb
  clear hb
  go_wp2
  exact ret_ans rfl rfl (ans_set rfl HR.out 0 false) rfl rfl ⟨rfl,below4 HB.out (Nat.le_refl _) 0 false⟩
structure BMem (w:World) (base:Nat) (p:Value) (c:Nat) (L:List Ac) (F:List Nat) (X s:Nat) (b:Bg):Prop where
 mem:MemAt w base p c s L F
 at_:BAt w X s b
 out:X ∉ F
 lo:base≤X
theorem step_load {w w1 w2:World} {base:Nat} {p:Value} {c s:Nat} {L L':List Ac} {F F':List Nat} {X B:Nat} {b:Bg} {o:Obj} (h:BMem w base p c L F X s b) (hb:Below w.heap.size w w1) (hB:w1.heap[B]? = some o) (hlo:w.heap.size≤B)
  (hm:MemAt w2 base p c s L' F') (hn:Next F F' w1 w2):w2.heap[B]? = some o∧BMem w2 base p c L' F' X s b∧B ∉ F'∧B≠X∧Next (X :: F) (X :: F') w w2:=by
 have hx:X < w.heap.size:=heap_lt h.at_
 have hF : ∀ q ∈ F,q < w.heap.size:=fun q hq=>(h.mem.lt q hq).2
 have hs:=hb.size
 have hB1:=heap_lt hB
 refine ⟨hn.row hB (fun e=>by have:=hF _ e; omega),⟨hm,(h.at_.below hb hx).keep hn.1 h.out, ?_,h.lo⟩, ?_,by omega, ?_, ?_⟩
 ·intro e
  rcases hn.2 X e with h1 | h1
  ·exact h.out h1
  ·omega
 ·intro e
  rcases hn.2 B e with h1 | h1
  ·have:=hF _ h1; omega
  ·omega
 ·exact ((Keep.of_below hb F).trans hn.1 (fun q hq=>Or.inl hq)).mono (fun q hq=>by simp [hq])
 ·intro q hq
  rcases List.mem_cons.1 hq with rfl | hq
  ·exact Or.inl (by simp)
  ·rcases hn.2 q hq with h1 | h1
   ·exact Or.inl (by simp [h1])
   ·exact Or.inr (by omega)
theorem step_moves {w w2 w3:World} {base:Nat} {p:Value} {c s:Nat} {L':List Ac} {F F':List Nat} {X B:Nat} {b b':Bg} {o:Obj} (hB:w2.heap[B]? = some o) (h:BMem w2 base p c L' F' X s b) (hBX:B≠X) (hn:Next (X :: F) (X :: F') w w2)
  (ha:BAt w3 X s b') (hk:Keep [X] w2 w3):w3.heap[B]? = some o∧BMem w3 base p c L' F' X s b'∧Next (X :: F) (X :: F') w w3:=by
 refine ⟨by rw [hk.block B (heap_lt hB) (by simpa using hBX)]; exact hB,⟨h.mem.keep hk (fun q hq e=>by simp at e; exact h.out (e ▸ hq)),ha,h.out,h.lo⟩, ?_,hn.2⟩
 exact hn.1.trans hk (fun q hq=>by simp at hq; subst hq; exact Or.inl (by simp))
theorem step_lays {w w3:World} {base:Nat} {p:Value} {c s:Nat} {L':List Ac} {F F':List Nat} {X B:Nat} {b:Bg} (h:BMem w3 base p c L' F' X s b) (hBX:B≠X) (hBF:B ∉ F') (hlo:w.heap.size≤B) (hn:Next (X :: F) (X :: F') w w3) (k:Int) (y:Bool) :
  BMem (laid4 w3 B k y) base p c L' F' X s b∧Next (X :: F) (X :: F') w (laid4 w3 B k y) :=
 ⟨⟨h.mem.keep (keepB k y) (fun q hq e=>by simp at e; exact hBF (e ▸ hq)),h.at_.keep (keepB k y) (by simpa using fun e=>hBX e.symm),h.out,h.lo⟩,keep4 hn.1 hlo k y,hn.2⟩
set_option maxHeartbeats 1600000 in
theorem step_some {w:World} {base:Nat} {p:Value} {c:Nat} {L:List Ac} {F:List Nat} {X s:Nat} {b:Bg} (h:BMem w base p c L F X s b) (hb:base≤w.heap.size) (hL:L.length < 3298534883328) (hk:BOk s b) (hn:b.st≠2) (t:Int) :
  Calls Tryz.prog 128 #[.pointer (some ⟨X, 0, none⟩), p, .int .i64 t] w fun e w' => e = .returned (ansC (if (stepV s b (wordOf L (adV s b))).st = 2 then 3 else 2) true) ∧ ∃ F', BMem w' base p c (loadL c s L t (adV s b)) F' X s (stepV s b (wordOf L (adV s b))) ∧ Next (X :: F) (X :: F') w w' := by
 have HG:Hid (∀ o,Calls Tryz.prog 130 #[.pointer (some ⟨X,0,none⟩),p] (w.alloc o) fun e w' => e = .returned (.bool true)∧Below (w.alloc o).heap.size (w.alloc o) w'):=fun o=>by
  have:=goes_any (hm:=h.mem.below (below_a1 w o)) (h.at_.below (below_a1 w o) (heap_lt h.at_))
  simpa using this
 have hx:X < w.heap.size:=heap_lt h.at_
 have HH:Hid (BMem w base p c L F X s b):=h
 have HL : Hid (∀ (w' : World), Below w.heap.size w w' → Calls Tryz.prog 110 #[p, .int .i64 t, .agg (adC (adV s b))] w' fun e w'' => e = .returned (.tuple #[.int .i64 (wordOf L (adV s b)), .int .i64 0]) ∧ ∃ F', MemAt w'' base p c s (loadL c s L t (adV s b)) F' ∧ Next F F' w' w'') := fun w' hb' => by
  have:=load_any (h.mem.below hb') (Nat.le_trans hb hb'.size) hL t (adV s b)
  rw [if_pos (adV_is hk),if_pos (adV_is hk)] at this
  exact this
 obtain ⟨M,rfl⟩:=h.mem.ptr
 unfold ansC
 clear h
 rcases bok_st hk with h0 | h1 | h2
 ·have ha:adV s b=⟨1,0,0⟩:=by unfold adV; rw [if_pos h0]
  have HS:Hid (∀ w2 v,BAt w2 X s b→Calls Tryz.prog 131 #[.pointer (some ⟨X,0,none⟩),.int .i64 v] w2 fun e w' => e = .returned (.tuple #[])∧BAt w' X s (stepV s b v)∧Keep [X] w2 w'):=fun w2 v h=>by
   unfold stepV; rw [if_pos h0]; exact see_any h v
  rw [ha] at HL ⊢
  unfold adC at HL
  simp only at HL
  generalize wordOf L ⟨1,0,0⟩=v at *
  generalize loadL c s L t ⟨1,0,0⟩=L' at *
  replace HS:Hid (∀ w2,BAt w2 X s b→Calls Tryz.prog 131 #[.pointer (some ⟨X,0,none⟩),.int .i64 v] w2 fun e w' => e = .returned (.tuple #[])∧BAt w' X s (stepV s b v)∧Keep [X] w2 w'):=fun w2 h=>HS.out w2 v h
  clear ha hn
  generalize stepV s b v=b' at *
  obtain ⟨st', seen', stamp'⟩ := b'
  by_cases e2:st'=2
  ·subst e2
   rw [if_pos rfl]
   go_enter Tryz.func128,Tryz.ntmps128
   go_wp2_with fail
   refine (HG.out _).mono ?_
   rintro e w1 ⟨rfl,hb1⟩
   have HR:Hid (w1.heap[w.heap.size]? = some (.cells #[.int .i64 0,.int .i64 0,.int .i64 0,.bool false] 55 (0,0))):=row_on (heap_alloc_new _ _) hb1
   have HB:Hid (Below w.heap.size w w1):=below_then (below_a1 _ _) hb1
   obtain ⟨x0,x1,x2,x3⟩:=(HH.out.at_.below HB.out hx).cells
   rw [h0] at x1
   clear hb1
   go_wp2_with fail
   refine (HL.out _ HB.out).mono ?_
   rintro e w2 ⟨rfl, F', hm2, hn2⟩
   obtain ⟨r2,m2,o2,n2,nx2⟩:=step_load HH.out HB.out HR.out (Nat.le_refl _) hm2 hn2
   have HR2:Hid (w2.heap[w.heap.size]? = some (.cells #[.int .i64 0,.int .i64 0,.int .i64 0,.bool false] 55 (0,0))):=r2
   have HM2:Hid (BMem w2 base (.pointer (some ⟨M,0,none⟩)) c L' F' X s b):=m2
   have HN2:Hid (Next (X :: F) (X :: F') w w2):=nx2
   clear hm2 hn2 r2 m2 nx2 x0 x1 x2 x3
   go_wp2_with fail
   refine (HS.out _ HM2.out.at_).mono ?_
   rintro e w3 ⟨rfl,ha3,hk3⟩
   obtain ⟨r3,m3,n3⟩:=step_moves HR2.out HM2.out n2 HN2.out ha3 hk3
   have HR3:Hid (w3.heap[w.heap.size]? = some (.cells #[.int .i64 0,.int .i64 0,.int .i64 0,.bool false] 55 (0,0))):=r3
   have HM3 : Hid (BMem w3 base (.pointer (some ⟨M, 0, none⟩)) c L' F' X s ⟨2, seen', stamp'⟩) := m3
   have HN3:Hid (Next (X :: F) (X :: F') w w3):=n3
   obtain ⟨⟨a0,a1,a2,a3⟩,g0,g1,g2,g3⟩:=ans_cells HR3.out
   have hB:=heap_lt HR3.out
   obtain ⟨x0,x1,x2,x3⟩:=ha3.cells
   clear ha3 hk3 r3 m3 n3
   go_wp2
   obtain ⟨f1,f2⟩:=step_lays HM3.out n2 o2 (Nat.le_refl _) HN3.out 3 true
   exact ret_ans rfl rfl (ans_set rfl HR3.out 3 true) rfl rfl ⟨rfl, F', f1, f2⟩
  ·have d2:decide (st'=2)=false:=by simpa using e2
   rw [if_neg e2]
   go_enter Tryz.func128,Tryz.ntmps128
   go_wp2_with fail
   refine (HG.out _).mono ?_
   rintro e w1 ⟨rfl,hb1⟩
   have HR:Hid (w1.heap[w.heap.size]? = some (.cells #[.int .i64 0,.int .i64 0,.int .i64 0,.bool false] 55 (0,0))):=row_on (heap_alloc_new _ _) hb1
   have HB:Hid (Below w.heap.size w w1):=below_then (below_a1 _ _) hb1
   obtain ⟨x0,x1,x2,x3⟩:=(HH.out.at_.below HB.out hx).cells
   rw [h0] at x1
   clear hb1
   go_wp2_with fail
   refine (HL.out _ HB.out).mono ?_
   rintro e w2 ⟨rfl, F', hm2, hn2⟩
   obtain ⟨r2,m2,o2,n2,nx2⟩:=step_load HH.out HB.out HR.out (Nat.le_refl _) hm2 hn2
   have HR2:Hid (w2.heap[w.heap.size]? = some (.cells #[.int .i64 0,.int .i64 0,.int .i64 0,.bool false] 55 (0,0))):=r2
   have HM2:Hid (BMem w2 base (.pointer (some ⟨M,0,none⟩)) c L' F' X s b):=m2
   have HN2:Hid (Next (X :: F) (X :: F') w w2):=nx2
   clear hm2 hn2 r2 m2 nx2 x0 x1 x2 x3
   go_wp2_with fail
   refine (HS.out _ HM2.out.at_).mono ?_
   rintro e w3 ⟨rfl,ha3,hk3⟩
   obtain ⟨r3,m3,n3⟩:=step_moves HR2.out HM2.out n2 HN2.out ha3 hk3
   have HR3:Hid (w3.heap[w.heap.size]? = some (.cells #[.int .i64 0,.int .i64 0,.int .i64 0,.bool false] 55 (0,0))):=r3
   have HM3 : Hid (BMem w3 base (.pointer (some ⟨M, 0, none⟩)) c L' F' X s ⟨st', seen', stamp'⟩) := m3
   have HN3:Hid (Next (X :: F) (X :: F') w w3):=n3
   obtain ⟨⟨a0,a1,a2,a3⟩,g0,g1,g2,g3⟩:=ans_cells HR3.out
   have hB:=heap_lt HR3.out
   obtain ⟨x0,x1,x2,x3⟩:=ha3.cells
   clear ha3 hk3 r3 m3 n3
   go_wp2
   obtain ⟨f1,f2⟩:=step_lays HM3.out n2 o2 (Nat.le_refl _) HN3.out 2 true
   exact ret_ans rfl rfl (ans_set rfl HR3.out 2 true) rfl rfl ⟨rfl, F', f1, f2⟩
 ·have ha:adV s b=⟨2,slotV b.stamp s,0⟩:=by unfold adV; rw [if_neg (by omega)]
  have HS:Hid (∀ w2 v,BAt w2 X s b→Calls Tryz.prog 129 #[.pointer (some ⟨X,0,none⟩),.int .i64 v] w2 fun e w' => e = .returned (.tuple #[])∧BAt w' X s (stepV s b v)∧Keep [X] w2 w'):=fun w2 v h=>by
   unfold stepV; rw [if_neg (by omega),if_pos h1]; exact look_any h hk h1 v
  rw [ha] at HL ⊢
  unfold adC at HL
  simp only at HL
  have HSL:Hid (∀ w,Calls Tryz.prog 91 #[.int .i64 b.stamp,.int .i64 (s:Int)] w fun e w' => e = .returned (.int .i64 (slotV b.stamp s))∧w'=w):=slot_any b.stamp s
  generalize slotV b.stamp s=k at *
  generalize wordOf L ⟨2,k,0⟩=v at *
  generalize loadL c s L t ⟨2,k,0⟩=L' at *
  replace HS:Hid (∀ w2,BAt w2 X s b→Calls Tryz.prog 129 #[.pointer (some ⟨X,0,none⟩),.int .i64 v] w2 fun e w' => e = .returned (.tuple #[])∧BAt w' X s (stepV s b v)∧Keep [X] w2 w'):=fun w2 h=>HS.out w2 v h
  clear ha hn
  generalize stepV s b v=b' at *
  obtain ⟨st', seen', stamp'⟩ := b'
  by_cases e2:st'=2
  ·subst e2
   rw [if_pos rfl]
   go_enter Tryz.func128,Tryz.ntmps128
   go_wp2_with fail
   refine (HG.out _).mono ?_
   rintro e w1 ⟨rfl,hb1⟩
   have HR:Hid (w1.heap[w.heap.size]? = some (.cells #[.int .i64 0,.int .i64 0,.int .i64 0,.bool false] 55 (0,0))):=row_on (heap_alloc_new _ _) hb1
   have HB:Hid (Below w.heap.size w w1):=below_then (below_a1 _ _) hb1
   obtain ⟨x0,x1,x2,x3⟩:=(HH.out.at_.below HB.out hx).cells
   rw [h1] at x1
   clear hb1
   go_wp2_with fail
   go_region_with ((first | (go_at_call 91; refine (HSL.out _).mono ?_; rintro e w' ⟨rfl, rfl⟩) | (go_at_call 110; refine (HL.out _ (below_drawn HB.out 1)).mono ?_; rintro e w2 ⟨rfl, F', hm2, hn2⟩)))
   all_goals
    obtain ⟨r2,m2,o2,n2,nx2⟩:=step_load HH.out (below_drawn HB.out 1) HR.out (Nat.le_refl _) hm2 hn2
    have HR2:Hid (w2.heap[w.heap.size]? = some (.cells #[.int .i64 0,.int .i64 0,.int .i64 0,.bool false] 55 (0,0))):=r2
    have HM2:Hid (BMem w2 base (.pointer (some ⟨M,0,none⟩)) c L' F' X s b):=m2
    have HN2:Hid (Next (X :: F) (X :: F') w w2):=nx2
    clear hm2 hn2 r2 m2 nx2 x0 x1 x2 x3
    go_wp2_with fail
    refine (HS.out _ HM2.out.at_).mono ?_
    rintro e w3 ⟨rfl,ha3,hk3⟩
    obtain ⟨r3,m3,n3⟩:=step_moves HR2.out HM2.out n2 HN2.out ha3 hk3
    have HR3:Hid (w3.heap[w.heap.size]? = some (.cells #[.int .i64 0,.int .i64 0,.int .i64 0,.bool false] 55 (0,0))):=r3
    have HM3 : Hid (BMem w3 base (.pointer (some ⟨M, 0, none⟩)) c L' F' X s ⟨2, seen', stamp'⟩) := m3
    have HN3:Hid (Next (X :: F) (X :: F') w w3):=n3
    obtain ⟨⟨a0,a1,a2,a3⟩,g0,g1,g2,g3⟩:=ans_cells HR3.out
    have hB:=heap_lt HR3.out
    obtain ⟨x0,x1,x2,x3⟩:=ha3.cells
    clear ha3 hk3 r3 m3 n3
    go_wp2
    obtain ⟨f1,f2⟩:=step_lays HM3.out n2 o2 (Nat.le_refl _) HN3.out 3 true
    exact ret_ans rfl rfl (ans_set rfl HR3.out 3 true) rfl rfl ⟨rfl, F', f1, f2⟩
  ·have d2:decide (st'=2)=false:=by simpa using e2
   rw [if_neg e2]
   go_enter Tryz.func128,Tryz.ntmps128
   go_wp2_with fail
   refine (HG.out _).mono ?_
   rintro e w1 ⟨rfl,hb1⟩
   have HR:Hid (w1.heap[w.heap.size]? = some (.cells #[.int .i64 0,.int .i64 0,.int .i64 0,.bool false] 55 (0,0))):=row_on (heap_alloc_new _ _) hb1
   have HB:Hid (Below w.heap.size w w1):=below_then (below_a1 _ _) hb1
   obtain ⟨x0,x1,x2,x3⟩:=(HH.out.at_.below HB.out hx).cells
   rw [h1] at x1
   clear hb1
   go_wp2_with fail
   go_region_with ((first | (go_at_call 91; refine (HSL.out _).mono ?_; rintro e w' ⟨rfl, rfl⟩) | (go_at_call 110; refine (HL.out _ (below_drawn HB.out 1)).mono ?_; rintro e w2 ⟨rfl, F', hm2, hn2⟩)))
   all_goals
    obtain ⟨r2,m2,o2,n2,nx2⟩:=step_load HH.out (below_drawn HB.out 1) HR.out (Nat.le_refl _) hm2 hn2
    have HR2:Hid (w2.heap[w.heap.size]? = some (.cells #[.int .i64 0,.int .i64 0,.int .i64 0,.bool false] 55 (0,0))):=r2
    have HM2:Hid (BMem w2 base (.pointer (some ⟨M,0,none⟩)) c L' F' X s b):=m2
    have HN2:Hid (Next (X :: F) (X :: F') w w2):=nx2
    clear hm2 hn2 r2 m2 nx2 x0 x1 x2 x3
    go_wp2_with fail
    refine (HS.out _ HM2.out.at_).mono ?_
    rintro e w3 ⟨rfl,ha3,hk3⟩
    obtain ⟨r3,m3,n3⟩:=step_moves HR2.out HM2.out n2 HN2.out ha3 hk3
    have HR3:Hid (w3.heap[w.heap.size]? = some (.cells #[.int .i64 0,.int .i64 0,.int .i64 0,.bool false] 55 (0,0))):=r3
    have HM3 : Hid (BMem w3 base (.pointer (some ⟨M, 0, none⟩)) c L' F' X s ⟨st', seen', stamp'⟩) := m3
    have HN3:Hid (Next (X :: F) (X :: F') w w3):=n3
    obtain ⟨⟨a0,a1,a2,a3⟩,g0,g1,g2,g3⟩:=ans_cells HR3.out
    have hB:=heap_lt HR3.out
    obtain ⟨x0,x1,x2,x3⟩:=ha3.cells
    clear ha3 hk3 r3 m3 n3
    go_wp2
    obtain ⟨f1,f2⟩:=step_lays HM3.out n2 o2 (Nat.le_refl _) HN3.out 2 true
    exact ret_ans rfl rfl (ans_set rfl HR3.out 2 true) rfl rfl ⟨rfl, F', f1, f2⟩
 ·exact absurd h2 hn
end Go.Proofs.YtdkpgdkjohjcaaaGreat.Be
namespace Go.Proofs.YtdkpgdkjohjcaaaGreat
open Go.ChangeShapes Go.WideShapes Go.ChangeAt Go.RowKit
theorem own_cells {w:World} {base g cap n s:Nat} {e:TypeId} {xs:List Value} (h:w.ownsRow base e s (.slice (some ⟨g,0,none⟩) n cap) n xs) : ∀ (j:Nat) u,xs[j]? = some u→w.cell? ⟨g,j,none⟩=some u:=by
 intro j u hu
 rcases h.2 with ⟨e, _⟩ | ⟨g', cap', cur, e, _, hg, _, _, _, ht⟩
 ·cases e
 ·simp at e
  obtain ⟨rfl,rfl⟩:=e
  rw [cell_at hg]
  rw [← ht,List.getElem?_take] at hu
  split at hu
  ·simpa using hu
  ·cases hu
instance:Inhabited Ad:=⟨⟨0,0,0⟩⟩
instance:Inhabited Ac:=⟨⟨0,0,⟨0,0,0⟩,0,0,false⟩⟩
theorem add_zero' (y:Addr):y.add 0=y:=by unfold Addr.add; simp
theorem add_pos' (y:Addr) (j:Nat) (h:0 < j):y.add j=⟨y.block,y.off+j,none⟩:=by
 unfold Addr.add
 split
 ·next e=>omega
 ·rfl
theorem add_block (y:Addr) (j:Nat):(y.add j).block=y.block:=by unfold Addr.add; split <;> rfl
theorem list_choose {α:Type} (d:α) (Q:Nat→α→Prop) : ∀ n,(∀ i,i < n → ∃ s,Q i s) → ∃ S:List α,S.length=n ∧ ∀ i,i < n→Q i (S.getD i d)
 | 0,_=>⟨[],rfl,fun i hi=>absurd hi (by omega)⟩
 | n+1,h=>by
  obtain ⟨S,hl,hS⟩:=list_choose d Q n (fun i hi=>h i (by omega))
  obtain ⟨s,hs⟩:=h n (by omega)
  refine ⟨S ++ [s],by simp [hl],fun i hi => ?_⟩
  simp only [List.getD_eq_getElem?_getD]
  by_cases e:i < n
  ·rw [List.getElem?_append_left (by omega)]
   simpa [List.getD_eq_getElem?_getD] using hS i e
  ·obtain rfl:i=n:=by omega
   rw [List.getElem?_append_right (by omega),hl,Nat.sub_self]
   exact hs
theorem cells_int:Tryz.prog.cellsOf 3=1:=by kernel_rfl
theorem cells_addr:Tryz.prog.cellsOf 34=3:=by kernel_rfl
theorem len3 {α:Type} {l:List α} (h:l.length=3) : ∃ a b c,l = [a,b,c]:=by
 match l,h with
 | [a,b,c],_=>exact ⟨a,b,c,rfl⟩
theorem addr_of_cells {H:Type} {enc:TypeId × Value→H} {W:World} {fuel:Nat} {cs:List Value} {x:DataW H × List MemPlace}
  (hf:DataW.trod enc Tryz.prog W 0 (fun _=>true) true fuel 34 cs=some x) : ∃ a:Ad,cs=(adC a).toList:=by
 obtain ⟨xs,m,_,hx,hl,hlen,hfd⟩:=DataW.trod_struct Tryz.underlying34 hf
 have hl3:cs.length=3:=by rw [hl,cells_addr]
 obtain ⟨c0,c1,c2,rfl⟩:=len3 hl3
 obtain ⟨y0,y1,y2,rfl⟩:=len3 hlen
 have g0:=hfd 0 _ rfl
 have g1:=hfd 1 _ rfl
 have g2:=hfd 2 _ rfl
 simp [cells_int] at g0 g1 g2
 obtain ⟨a0,z0,_,_⟩:=DataW.trod_int Tryz.underlying3 g0
 obtain ⟨a1,z1,_,_⟩:=DataW.trod_int Tryz.underlying3 g1
 obtain ⟨a2,z2,_,_⟩:=DataW.trod_int Tryz.underlying3 g2
 simp only [List.cons.injEq,and_true] at z0 z1 z2
 subst z0 z1 z2
 exact ⟨⟨a0,a1,a2⟩,rfl⟩
def One (c r:Nat) (L:List Ac) (x:Ac):Prop:=isAd c r x.a=true∧(x.k=1→x.v=wordOf L x.a)∧(x.k=3→x.y=(wordOf L x.a == x.o))∧(x.k=1∨x.k=2∨x.k=3)
def wd (c r:Nat) (L:List Ac) (a:Ad) (i:Nat):Int:=if isAd c r a then wordOf (L.take i) a else 0
theorem own_base {w:World} {base base' e s n:Nat} {v:Value} {xs:List Value} (h:w.ownsRow base e s v n xs) (hb:base'≤base):w.ownsRow base' e s v n xs:=by
 refine ⟨h.1, ?_⟩
 rcases h.2 with h | ⟨g,cap,cur,h1,h2,h3⟩
 ·exact Or.inl h
 ·exact Or.inr ⟨g,cap,cur,h1,by omega,h3⟩
theorem Next.left {F F' G:List Nat} {w w':World} (h:Next F F' w w'):Next (F++G) (F'++G) w w' :=
 ⟨h.1.mono (fun b hb=>by simp [hb]),fun b hb=>by
    rcases List.mem_append.1 hb with h1 | h1
    · rcases h.2 b h1 with h2 | h2
      · exact Or.inl (by simp [h2])
      · exact Or.inr h2
    · exact Or.inl (by simp [h1])⟩
end Go.Proofs.YtdkpgdkjohjcaaaGreat
namespace Go.Proofs.YtdkpgdkjohjcaaaGreat.Be
open Go.ChangeShapes Go.WideShapes Go.ChangeAt Go.RowKit
attribute [local go_sem ↓] Go.wp_at_zero Go.wp_at_succ
def goesB (r s:Nat) (b:Bg):Bool:=decide (r=s) && decide (b.st≠2)
def nextB (r s:Nat) (b:Bg) (L:List Ac):Bg:=if goesB r s b then stepV s b (wordOf L (adV s b)) else b
def nextL (c r s:Nat) (b:Bg) (L:List Ac) (t:Int):List Ac:=if goesB r s b then loadL c r L t (adV s b) else L
def ansK (r s:Nat) (b:Bg) (L:List Ac):Int:=if goesB r s b then (if (stepV s b (wordOf L (adV s b))).st=2 then 3 else 2) else 0
structure PS (w:World) (base:Nat) (p:Value) (c r:Nat) (L:List Ac) (F:List Nat) (X s:Nat) (b:Bg):Prop where
 mem:MemAt w base p c r L F
 at_:BAt w X s b
 out:X ∉ F
 lo:base≤X
theorem PS.keep {w w':World} {base:Nat} {p:Value} {c r:Nat} {L:List Ac} {F G:List Nat} {X s:Nat} {b:Bg} (h:PS w base p c r L F X s b) (k:Keep G w w') (hd : ∀ q ∈ X :: F,q ∉ G):PS w' base p c r L F X s b :=
 ⟨h.mem.keep k (fun q hq=>hd q (by simp [hq])),h.at_.keep k (hd X (by simp)),h.out,h.lo⟩
theorem PS.below {w w':World} {base:Nat} {p:Value} {c r:Nat} {L:List Ac} {F:List Nat} {X s:Nat} {b:Bg} (h:PS w base p c r L F X s b) (hb:Below w.heap.size w w'):PS w' base p c r L F X s b:=h.keep (Keep.of_below hb []) (fun _ _=>by simp)
theorem pstep {w:World} {base:Nat} {p:Value} {c r:Nat} {L:List Ac} {F:List Nat} {X s:Nat} {b:Bg} (h:PS w base p c r L F X s b) (hb:base≤w.heap.size) (hL:L.length < 3298534883328) (hk:BOk s b) (t:Int) :
  Calls Tryz.prog 128 #[.pointer (some ⟨X, 0, none⟩), p, .int .i64 t] w fun e w' => e = .returned (ansC (ansK r s b L) (goesB r s b)) ∧ ∃ F', PS w' base p c r (nextL c r s b L t) F' X s (nextB r s b L) ∧ Next (X :: F) (X :: F') w w' := by
 by_cases hg:goesB r s b=true
 ·unfold ansK nextL nextB
  rw [if_pos hg,if_pos hg,if_pos hg,hg]
  obtain ⟨rfl,h2⟩:r=s∧b.st≠2:=by simpa [goesB] using hg
  refine (step_some ⟨h.mem,h.at_,h.out,h.lo⟩ hb hL hk h2 t).mono ?_
  rintro e w' ⟨rfl, F', h3, h4⟩
  exact ⟨rfl, F', ⟨h3.mem, h3.at_, h3.out, h3.lo⟩, h4⟩
 ·unfold ansK nextL nextB
  rw [if_neg hg,if_neg hg,if_neg hg,show goesB r s b=false by simpa using hg]
  refine (step_none h.mem h.at_ (by
      by_cases e:r=s
      · right; simpa [goesB,e] using hg
      · exact Or.inl e) t).mono ?_
  rintro e w' ⟨rfl,hb'⟩
  exact ⟨rfl, F, h.below hb', Next.of_below hb' _⟩
end Go.Proofs.YtdkpgdkjohjcaaaGreat.Be
