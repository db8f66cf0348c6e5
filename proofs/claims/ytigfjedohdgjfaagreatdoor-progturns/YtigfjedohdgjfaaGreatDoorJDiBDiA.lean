/- The program's dict (layer 17): what a call wants behind its look. -/
import Derived.Test.YtigfjedohdgjfaaGreatDoorJCtMChM
import Derived.RegionTactic
import Derived.BigRegion
import Derived.Deep.RegionHeld3
import Derived.Deep.LoopGhost
import Derived.WalkMore
import Derived.Deep.CutBlock
import Derived.Deep.DeepCutAuto
namespace Go.Proofs.YtigfjedohdgjfaaGreatDoor.Tl.Di
open Go.ChangeShapes Go.WideShapes Go.ChangeAt Go.RowKit
attribute [local go_sem ↓] Go.wp_at_zero Go.wp_at_succ
def mcC (m:Mc):Array Value:=#[.int .i64 m.base,.int .i64 m.most,.int .i64 m.call,.int .i64 m.se.key,.int .i64 m.se.most,.int .i64 m.se.left,.int .i64 m.se.slot,.int .i64 m.se.asked,.int .i64 m.se.free,.int .i64 m.se.found,.int .i64 m.told,.int .i64 m.last.kind,.int .i64 m.last.cell,.int .i64 m.last.val,.int .i64 m.last.code,.int .i64 m.val,.int .i64 m.cnt]
structure OkI (m:Mc):Prop where
 b:0≤m.base∧m.base≤1024
 mm:0≤m.most∧m.most≤16
 s:OkS m.se
 t:0≤m.told∧m.told≤6
def McR (w:World) (X:Nat) (F:List Nat) (m:Mc):Prop:=F = [X] ∧ w.heap[X]? = some (.cells (mcC m) 234 (0,0))∧OkI m
theorem McR.keep {w w':World} {X:Nat} {F G:List Nat} {m:Mc} (h:McR w X F m) (k:Keep G w w') (hx : ∀ b ∈ F,b ∉ G):McR w' X F m:=⟨h.1,by rw [k.block _ (heap_lt h.2.1) (hx X (by rw [h.1]; simp))]; exact h.2.1,h.2.2⟩
theorem McR.lt {w:World} {X:Nat} {F:List Nat} {m:Mc} (h:McR w X F m) : ∀ b ∈ F,b < w.heap.size:=fun b hb=>by
 rw [h.1] at hb
 simp at hb
 rw [hb]
 exact heap_lt h.2.1
theorem McR.last {w:World} {X:Nat} {F:List Nat} {m:Mc} (h:McR w X F m):w.cell? ⟨X,11,none⟩=some (.int .i64 m.last.kind)∧w.cell? ⟨X,12,none⟩=some (.int .i64 m.last.cell)∧w.cell? ⟨X,13,none⟩=some (.int .i64 m.last.val)∧w.cell? ⟨X,14,none⟩=some (.int .i64 m.last.code) :=
 ⟨by rw [cell_at h.2.1]; rfl,by rw [cell_at h.2.1]; rfl,by rw [cell_at h.2.1]; rfl,by rw [cell_at h.2.1]; rfl⟩
abbrev z4:Array Value:=#[.int .i64 0,.int .i64 0,.int .i64 0,.int .i64 0]
end Go.Proofs.YtigfjedohdgjfaaGreatDoor.Tl.Di
namespace Go.Proofs.YtigfjedohdgjfaaGreatDoor.Tl.Di
open Go.ChangeShapes Go.WideShapes Go.ChangeAt Go.RowKit
attribute [local go_sem ↓] Go.wp_at_zero Go.wp_at_succ
def McAt (w:World) (X:Nat) (F:List Nat) (m:Mc):Prop:=McR w X F m∧(m.last.kind=6∨m.told≤5)
theorem McAt.keep {w w':World} {X:Nat} {F G:List Nat} {m:Mc} (h:McAt w X F m) (k:Keep G w w') (hx : ∀ b ∈ F,b ∉ G):McAt w' X F m:=⟨h.1.keep k hx,h.2⟩
theorem McAt.lt {w:World} {X:Nat} {F:List Nat} {m:Mc} (h:McAt w X F m) : ∀ b ∈ F,b < w.heap.size:=h.1.lt
end Go.Proofs.YtigfjedohdgjfaaGreatDoor.Tl.Di
