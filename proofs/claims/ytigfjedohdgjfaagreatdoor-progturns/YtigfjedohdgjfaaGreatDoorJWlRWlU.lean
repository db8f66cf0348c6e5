/- A ring that transactions write to: what its words say, with where each entry's owner is. -/
import Derived.Test.YtigfjedohdgjfaaGreatDoorWlV
import Derived.Test.YtigfjedohdgjfaaGreatDoorBkM
namespace Go.Proofs.YtigfjedohdgjfaaGreatDoor
open Go.RowKit (wrap64)
structure Rg where
 s:Nat
 mu:Bool
 W:List (List Wt)
 d:Nat
 bk:Nat→Ba.Bk
end Go.Proofs.YtigfjedohdgjfaaGreatDoor
namespace Go.Proofs.YtigfjedohdgjfaaGreatDoor
open Go.RowKit (wrap64)
theorem goB_wr (P:Ba.Bp) (b:Ba.Bk):(Ba.goB P b).wr=b.wr∧(Ba.goB P b).kn=b.kn∧6≤(Ba.goB P b).nx:=by
 unfold Ba.goB
 refine ⟨rfl,rfl, ?_⟩
 simp only
 split
 ·omega
 ·split <;> omega
theorem lookAt_wr (P:Ba.Bp) (b:Ba.Bk) (st:Int):(Ba.lookAtB P b st).wr=b.wr∧3≤(Ba.lookAtB P b st).nx:=by
 unfold Ba.lookAtB
 split
 ·have:=goB_wr P b; omega
 ·exact ⟨rfl,Nat.le_refl _⟩
theorem toWord_wr (P:Ba.Bp) (b:Ba.Bk):(Ba.toWordB P b).wr=b.wr∧3≤(Ba.toWordB P b).nx:=by
 unfold Ba.toWordB
 split
 ·exact ⟨rfl,by simp⟩
 ·exact lookAt_wr P _ _
end Go.Proofs.YtigfjedohdgjfaaGreatDoor
namespace Go.Proofs.YtigfjedohdgjfaaGreatDoor
open Go.RowKit (wrap64)
theorem step_run {P:Ba.Bp} {b:Ba.Bk} {v:Int} (hw:Ba.waitB P b v=false):Ba.stepB P b v=(if b.nx=1 then ⟨if b.wd+1=8 then 2 else 1,b.wd+1,b.old,b.kn,b.wr⟩
  else if b.nx=2 then (if b.kn then Ba.goB P b else Ba.lookAtB P b (P.st - 1))
  else if b.nx=3 then (if overV v b.old then Ba.overB P b else Ba.toWordB P ⟨b.nx,0,b.old,b.kn,b.wr⟩)
  else if b.nx=4 then (if Ba.hitS P.sg b.wd v then ⟨5,b.wd,b.old,b.kn,b.wr⟩ else Ba.toWordB P ⟨b.nx,b.wd+1,b.old,b.kn,b.wr⟩)
  else if b.nx=5 then Ba.overB P b
  else if b.nx=6 then Ba.goB P ⟨b.nx,b.wd,b.old,b.kn,b.wr+1⟩
  else if b.nx=7 then Ba.goB P ⟨b.nx,b.wd,b.old,true,b.wr⟩
  else ⟨0,b.wd,b.old,b.kn,b.wr⟩):=by
 unfold Ba.stepB
 rw [if_neg (by simp [hw])]
theorem step_wait {P:Ba.Bp} {b:Ba.Bk} {v:Int} (hw:Ba.waitB P b v=true):Ba.stepB P b v=b:=by unfold Ba.stepB; rw [if_pos hw]
end Go.Proofs.YtigfjedohdgjfaaGreatDoor
