/- Layer 6 as plain data: the cells that Read was told, and the signatures of what was read and of what is written. -/
import Derived.Test.YtigfjedohdgjfaaGreatDoorJBlkTabA
import Derived.Test.YtigfjedohdgjfaaGreatDoorSigF
namespace Go.Proofs.YtigfjedohdgjfaaGreatDoor.Tl
set_option linter.unusedVariables false
def told (T:List Int) (c:Int):List Int:=if right c && !T.contains c then T ++ [c] else T
def readR (r:List Nat) (c:Int):List Nat:=if right c then Sg.put r (Sg.sigN c) else r
theorem readR_ok {r:List Nat} (h:Sg.Ok r) (c:Int):Sg.Ok (readR r c):=by
 unfold readR
 split
 ·exact Sg.ok_put h _ (Sg.sigN_lt c)
 ·exact h
def wrS (s:Tb):List Nat:=Sg.ofAll (s.R.map (·.c))
theorem wrS_ok (s:Tb):Sg.Ok (wrS s):=Sg.ok_ofAll _
def writeE (s:Tb) (c:Int):Int:=if putE s c=2 then 5 else putE s c
end Go.Proofs.YtigfjedohdgjfaaGreatDoor.Tl
