/- The program's machine of layer 7 beside its memory, whatever the ring's size. -/
import Derived.Test.YtigfjedohdgjfaaGreatDoorJBegABegB
import Derived.Test.YtigfjedohdgjfaaGreatDoorJMemFMemN
namespace Go.Proofs.YtigfjedohdgjfaaGreatDoor.Be
open Go.ChangeShapes Go.WideShapes Go.ChangeAt Go.RowKit
attribute [local go_sem ↓] Go.wp_at_zero Go.wp_at_succ
def goesB (r s:Nat) (b:Bg):Bool:=decide (r=s) && decide (b.st≠2)
def nextB (r s:Nat) (b:Bg) (L:List Ac):Bg:=if goesB r s b then stepV s b (wordOf L (adV s b)) else b
def nextL (c r s:Nat) (b:Bg) (L:List Ac) (t:Int):List Ac:=if goesB r s b then loadL c r L t (adV s b) else L
def ansK (r s:Nat) (b:Bg) (L:List Ac):Int:=if goesB r s b then (if (stepV s b (wordOf L (adV s b))).st=2 then 3 else 2) else 0
structure PS (w:World) (base:Nat) (p:Value) (c r:Nat) (L:List Ac) (F:List Nat) (X s:Nat) (b:Bg):Prop where
 mem:MemAt w base p c r L F
 at_:BAt w X s b
 out:X ∉ F
 lo:base≤X
theorem PS.keep {w w':World} {base:Nat} {p:Value} {c r:Nat} {L:List Ac} {F G:List Nat} {X s:Nat} {b:Bg} (h:PS w base p c r L F X s b) (k:Keep G w w') (hd : ∀ q ∈ X :: F,q ∉ G):PS w' base p c r L F X s b :=
 ⟨h.mem.keep k (fun q hq=>hd q (by simp [hq])),h.at_.keep k (hd X (by simp)),h.out,h.lo⟩
theorem PS.below {w w':World} {base:Nat} {p:Value} {c r:Nat} {L:List Ac} {F:List Nat} {X s:Nat} {b:Bg} (h:PS w base p c r L F X s b) (hb:Below w.heap.size w w'):PS w' base p c r L F X s b:=h.keep (Keep.of_below hb []) (fun _ _=>by simp)
theorem pstep {w:World} {base:Nat} {p:Value} {c r:Nat} {L:List Ac} {F:List Nat} {X s:Nat} {b:Bg} (h:PS w base p c r L F X s b) (hb:base≤w.heap.size) (hL:L.length < 3298534883328) (hk:BOk s b) (t:Int) :
  Calls Tryz.prog 264 #[.pointer (some ⟨X, 0, none⟩), p, .int .i64 t] w fun e w' => e = .returned (ansC (ansK r s b L) (goesB r s b)) ∧ ∃ F', PS w' base p c r (nextL c r s b L t) F' X s (nextB r s b L) ∧ Next (X :: F) (X :: F') w w' := by
 by_cases hg:goesB r s b=true
 ·unfold ansK nextL nextB
  rw [if_pos hg,if_pos hg,if_pos hg,hg]
  obtain ⟨rfl,h2⟩:r=s∧b.st≠2:=by simpa [goesB] using hg
  refine (step_some ⟨h.mem,h.at_,h.out,h.lo⟩ hb hL hk h2 t).mono ?_
  rintro e w' ⟨rfl, F', h3, h4⟩
  exact ⟨rfl, F', ⟨h3.mem, h3.at_, h3.out, h3.lo⟩, h4⟩
 ·unfold ansK nextL nextB
  rw [if_neg hg,if_neg hg,if_neg hg,show goesB r s b=false by simpa using hg]
  refine (step_none h.mem h.at_ (by
      by_cases e:r=s
      · right; simpa [goesB,e] using hg
      · exact Or.inl e) t).mono ?_
  rintro e w' ⟨rfl,hb'⟩
  exact ⟨rfl, F, h.below hb', Next.of_below hb' _⟩
end Go.Proofs.YtigfjedohdgjfaaGreatDoor.Be
