/- The program's row of counters (layer 15): New, Next, Size. -/
import Derived.Test.YtigfjedohdgjfaaGreatDoorJCtMChM
import Derived.RegionTactic
import Derived.BigRegion
import Derived.Deep.RegionHeld3
namespace Go.Proofs.YtigfjedohdgjfaaGreatDoor.Tl.Ct
open Go.ChangeShapes Go.WideShapes Go.ChangeAt Go.RowKit
attribute [local go_sem ↓] Go.wp_at_zero Go.wp_at_succ
def mcC (m:Mc):Array Value:=#[.int .i64 m.first.kind,.int .i64 m.first.cell,.int .i64 m.first.val,.int .i64 m.first.code,.int .i64 m.told.kind,.int .i64 m.told.cell,.int .i64 m.told.val,.int .i64 m.told.code,.bool m.writes,.int .i64 m.by_]
def McAt (w:World) (X:Nat) (F:List Nat) (m:Mc):Prop:=F = [X] ∧ w.heap[X]? = some (.cells (mcC m) 228 (0,0))
theorem McAt.keep {w w':World} {X:Nat} {F G:List Nat} {m:Mc} (h:McAt w X F m) (k:Keep G w w') (hx : ∀ b ∈ F,b ∉ G):McAt w' X F m:=⟨h.1,by rw [k.block _ (heap_lt h.2) (hx X (by rw [h.1]; simp))]; exact h.2⟩
theorem McAt.lt {w:World} {X:Nat} {F:List Nat} {m:Mc} (h:McAt w X F m) : ∀ b ∈ F,b < w.heap.size:=fun b hb=>by
 rw [h.1] at hb
 simp at hb
 rw [hb]
 exact heap_lt h.2
end Go.Proofs.YtigfjedohdgjfaaGreatDoor.Tl.Ct
namespace Go.Proofs.YtigfjedohdgjfaaGreatDoor.Tl.Qu
open Go.ChangeShapes Go.WideShapes Go.ChangeAt Go.RowKit
attribute [local go_sem ↓] Go.wp_at_zero Go.wp_at_succ
def mcC (m:Mc):Array Value:=#[.int .i64 m.base,.int .i64 m.most,.int .i64 m.call,.int .i64 m.told,.int .i64 m.last.kind,.int .i64 m.last.cell,.int .i64 m.last.val,.int .i64 m.last.code,.int .i64 m.first,.int .i64 m.len,.int .i64 m.val]
def OkM (m:Mc):Prop:=(0≤m.base∧m.base≤1024)∧(0≤m.most∧m.most≤16)∧0≤m.told∧m.told≤6∧(m.last.kind=6∨m.told≤5)
def McAt (w:World) (X:Nat) (F:List Nat) (m:Mc):Prop:=F = [X] ∧ w.heap[X]? = some (.cells (mcC m) 230 (0,0))∧OkM m
theorem McAt.keep {w w':World} {X:Nat} {F G:List Nat} {m:Mc} (h:McAt w X F m) (k:Keep G w w') (hx : ∀ b ∈ F,b ∉ G):McAt w' X F m:=⟨h.1,by rw [k.block _ (heap_lt h.2.1) (hx X (by rw [h.1]; simp))]; exact h.2.1,h.2.2⟩
theorem McAt.lt {w:World} {X:Nat} {F:List Nat} {m:Mc} (h:McAt w X F m) : ∀ b ∈ F,b < w.heap.size:=fun b hb=>by
 rw [h.1] at hb
 simp at hb
 rw [hb]
 exact heap_lt h.2.1
abbrev z4:Array Value:=#[.int .i64 0,.int .i64 0,.int .i64 0,.int .i64 0]
end Go.Proofs.YtigfjedohdgjfaaGreatDoor.Tl.Qu
