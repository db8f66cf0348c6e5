/- P11.3 as plain numbers: behind the heads of all older slots that say complete it is through within len + 11 steps; its cells are what they were to become. -/
import Derived.Test.YtgjahjnomfijfaaGreatJBkABkJ
namespace Go.Proofs.YtgjahjnomfijfaaGreat.Ba
open Go.RowKit (wrap64)
def lastW (W : List Wt) (c : Int) : Option Int := W.foldl (fun o x => if x.c = c then some x.v else o) none
structure EI (c : Nat) (P : Bp) (b : Bk) (L : List Ac) : Prop where
 ok : BkOk P b
 cells : ∀ x v, lastW (P.W.take b.wr) x = some v → wordOf L ⟨4, x, 0⟩ = v
 head : b.nx = 0 → wordOf L (hdB P P.st) = 2 * P.st + 1
def HO (P : Bp) (L : List Ac) : Prop := ∀ k, olderOk P k → overV (wordOf L (hdB P k)) k = true
def tailB (P : Bp) (b : Bk) : Nat := (P.W.length - b.wr) + (if b.kn then 1 else 2)
def mB (P : Bp) (b : Bk) : Nat :=
 if b.nx = 0 then 0 else if b.nx = 1 then (8 - b.wd) + (P.W.length + (if b.kn then 2 else 3)) else if b.nx = 2 then P.W.length + (if b.kn then 2 else 3)
 else if b.nx = 3 then P.W.length + (if b.old = P.st - 1 then 2 else 3) else if b.nx = 4 then P.W.length + 11 - b.wd else if b.nx = 5 then P.W.length + 3 else tailB P b
end Go.Proofs.YtgjahjnomfijfaaGreat.Ba
