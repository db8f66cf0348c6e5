/- The entries one by one: the program's range over a function of its own. -/
import Derived.Test.YtacioekmeildoaaRngD
import Derived.RangeFuncNested
import Derived.RangeFuncBound
import Derived.RangeFuncCalls
import Derived.RangeFuncLeaves
import Derived.Shelf.Abstract
import Derived.Shelf.RegionOpen
import Derived.OwnWalkIn
import Derived.TacticsInMore
import Derived.LoopNIn
import Derived.LoopIn
namespace Go.Proofs.Ytacioekmeildoaa
open Go.ChangeShapes Go.WideShapes Go.ChangeAt Go.RowKit Go.Shelf

/-- What lies below n₀ lies as it lay, but for one block. -/
structure Save (n₀ X : Nat) (W W' : World) : Prop where
  os : W'.os = W.os
  tape : W'.tape = W.tape
  output : W'.output = W.output
  size : W.heap.size ≤ W'.heap.size
  block : ∀ b, b < n₀ → b ≠ X → W'.heap[b]? = W.heap[b]?
theorem Save.refl (n₀ X : Nat) (W : World) : Save n₀ X W W := ⟨rfl, rfl, rfl, Nat.le_refl _, fun _ _ _ => rfl⟩
theorem Save.trans {n₀ X : Nat} {A B C : World} (h : Save n₀ X A B) (k : Save n₀ X B C) : Save n₀ X A C :=
  ⟨k.os.trans h.os, k.tape.trans h.tape, k.output.trans h.output, Nat.le_trans h.size k.size, fun b hb hx => (k.block b hb hx).trans (h.block b hb hx)⟩
theorem Save.of_below {n₀ X : Nat} {W W' : World} (h : Below W.heap.size W W') (hn : n₀ ≤ W.heap.size) : Save n₀ X W W' := ⟨h.os, h.tape, h.output, h.size, fun b hb _ => h.block b (by omega)⟩
theorem Save.putObj {n₀ X : Nat} (W : World) (l : Nat) (o' : Obj) (hl : n₀ ≤ l) : Save n₀ X W (W.putObj l o') :=
  ⟨rfl, rfl, rfl, by simp, fun b hb _ => World.putObj_heap_other (by omega)⟩
theorem MemAt.save {n₀ X : Nat} {w w' : World} {base : Nat} {p : Value} {c r : Nat} {L : List Ac} {F : List Nat} (h : MemAt w base p c r L F) (k : Save n₀ X w w') (hF : ∀ b ∈ F, b < n₀ ∧ b ≠ X) : MemAt w' base p c r L F :=
  h.keep (G := (List.range w.heap.size).filter fun b => decide (n₀ ≤ b) || b == X) ⟨k.os, k.tape, k.output, k.size, fun b hb hn => by
      simp [hb] at hn
      exact k.block b (by omega) hn.2⟩ (fun b hb hm => by
      have := hF b hb
      simp at hm
      omega)
theorem grown_of_below {w w' : World} (h : Below w.heap.size w w') : w.grownBy w' none := ⟨h.os, h.tape, h.output, h.size, fun k hk _ => h.block k hk⟩

theorem each_any (p : Option Addr) (w : World) : Calls Try.prog 41 #[.pointer p] w fun e w' => e = .returned (.func (.func 49) #[] #[.pointer (some ⟨w.heap.size, 0, none⟩)]) ∧ w' = w.alloc (.cells #[.pointer p] 29) := by
  go_enter Try.func41, Try.ntmps41
  go_wp2
  go_ret
  exact ⟨rfl, rfl⟩
end Go.Proofs.Ytacioekmeildoaa
