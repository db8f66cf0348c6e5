/- The program's chain (layer 18): a call under way; New, Next. -/
import Derived.Test.YtopokgnngknbdaaGreatDoorChT
import Derived.Deep.RegionHeld3
import Derived.Deep.CutBlock
import Derived.Deep.DeepCutAuto
import Derived.WalkMore
namespace Go.Proofs.YtopokgnngknbdaaGreatDoor.Tl.Ch
open Go.ChangeShapes Go.WideShapes Go.ChangeAt Go.RowKit
attribute [local go_sem ↓] Go.wp_at_zero Go.wp_at_succ
def mcC (f:Value) (x:Wn):Array Value:=#[f,.int .i64 x.kind,.int .i64 x.cell,.int .i64 x.val,.int .i64 x.code]
def McAt (w:World) (X:Nat) (F:List Nat) (m:Mc):Prop:=∃ G f,F=X :: G∧X ∉ G∧(∀ b ∈ G,b < w.heap.size)∧w.heap[X]? = some (.cells (mcC f m.last) 243 (0,0))∧(m.g=none→f = .nilFunc) ∧ ∀ g,m.g=some g→Fv encI An g G w f
theorem McAt.keep {w w':World} {X:Nat} {F H:List Nat} {m:Mc} (h:McAt w X F m) (k:Keep H w w') (hx : ∀ b ∈ F,b ∉ H):McAt w' X F m:=by
 obtain ⟨G,f,rfl,hn,hl,hX,h0,h1⟩:=h
 have hu:Un G w w':=⟨k.size,fun b hb=>k.block b (hl b hb) (hx b (List.mem_cons_of_mem _ hb))⟩
 exact ⟨G,f,rfl,hn,fun b hb=>Nat.lt_of_lt_of_le (hl b hb) k.size,by rw [k.block _ (heap_lt hX) (hx X List.mem_cons_self)]; exact hX,h0,fun g hg=>(h1 g hg).un hu⟩
theorem McAt.lt {w:World} {X:Nat} {F:List Nat} {m:Mc} (h:McAt w X F m) : ∀ b ∈ F,b < w.heap.size:=by
 obtain ⟨G,f,rfl,hn,hl,hX,h0,h1⟩:=h
 exact lo_cons (heap_lt hX) hl
abbrev z4:Array Value:=#[.int .i64 0,.int .i64 0,.int .i64 0,.int .i64 0]
end Go.Proofs.YtopokgnngknbdaaGreatDoor.Tl.Ch
