/- The program's Log. -/
import Derived.Test.YtigfjedohdgjfaaGreatDoorJMemCAns
import Derived.ArgAppend
import Derived.Lib.SlFresh
import Derived.Deep.Slices
namespace Go.Proofs.YtigfjedohdgjfaaGreatDoor
open Go.ChangeShapes Go.WideShapes Go.ChangeAt Go.RowKit
theorem own_cells {w:World} {base g cap n s:Nat} {e:TypeId} {xs:List Value} (h:w.ownsRow base e s (.slice (some ⟨g,0,none⟩) n cap) n xs) : ∀ (j:Nat) u,xs[j]? = some u→w.cell? ⟨g,j,none⟩=some u:=by
 intro j u hu
 rcases h.2 with ⟨e, _⟩ | ⟨g', cap', cur, e, _, hg, _, _, _, ht⟩
 ·cases e
 ·simp at e
  obtain ⟨rfl,rfl⟩:=e
  rw [cell_at hg]
  rw [← ht,List.getElem?_take] at hu
  split at hu
  ·simpa using hu
  ·cases hu
end Go.Proofs.YtigfjedohdgjfaaGreatDoor
namespace Go.Proofs.YtigfjedohdgjfaaGreatDoor
open Go.ChangeShapes Go.WideShapes Go.ChangeAt Go.RowKit
structure Tk where
 k:Int
 t:Int
 a:Ad
 o:Int
 v:Int
 n:Int
instance:Inhabited Ad:=⟨⟨0,0,0⟩⟩
instance:Inhabited Ac:=⟨⟨0,0,⟨0,0,0⟩,0,0,false⟩⟩
def tkC (x:Tk):Array Value:=#[.int .i64 x.k,.int .i64 x.t,.int .i64 x.a.k,.int .i64 x.a.i,.int .i64 x.a.j,.int .i64 x.o,.int .i64 x.v,.int .i64 x.n]
theorem add_zero' (y:Addr):y.add 0=y:=by unfold Addr.add; simp
theorem add_pos' (y:Addr) (j:Nat) (h:0 < j):y.add j=⟨y.block,y.off+j,none⟩:=by
 unfold Addr.add
 split
 ·next e=>omega
 ·rfl
theorem cell_later {w w':World} {B:Nat} (hb:Below B w w') {a:Addr} (ha:a.block < B) {u:Value} (h:w.cell? a=some u):w'.cell? a=some u:=by
 rw [hb.cell (p:=a) ha]; exact h
theorem add_block (y:Addr) (j:Nat):(y.add j).block=y.block:=by unfold Addr.add; split <;> rfl
def One (c r:Nat) (L:List Ac) (x:Ac):Prop:=isAd c r x.a=true∧(x.k=1→x.v=wordOf L x.a)∧(x.k=3→x.y=(wordOf L x.a == x.o))∧(x.k=1∨x.k=2∨x.k=3)
def wd (c r:Nat) (L:List Ac) (a:Ad) (i:Nat):Int:=if isAd c r a then wordOf (L.take i) a else 0
end Go.Proofs.YtigfjedohdgjfaaGreatDoor
namespace Go.Proofs.YtigfjedohdgjfaaGreatDoor
open Go.ChangeShapes Go.WideShapes Go.ChangeAt Go.RowKit
theorem own_base {w:World} {base base' e s n:Nat} {v:Value} {xs:List Value} (h:w.ownsRow base e s v n xs) (hb:base'≤base):w.ownsRow base' e s v n xs:=by
 refine ⟨h.1, ?_⟩
 rcases h.2 with h | ⟨g,cap,cur,h1,h2,h3⟩
 ·exact Or.inl h
 ·exact Or.inr ⟨g,cap,cur,h1,by omega,h3⟩
theorem Next.left {F F' G:List Nat} {w w':World} (h:Next F F' w w'):Next (F++G) (F'++G) w w' :=
 ⟨h.1.mono (fun b hb=>by simp [hb]),fun b hb=>by
    rcases List.mem_append.1 hb with h1 | h1
    · rcases h.2 b h1 with h2 | h2
      · exact Or.inl (by simp [h2])
      · exact Or.inr h2
    · exact Or.inl (by simp [h1])⟩
end Go.Proofs.YtigfjedohdgjfaaGreatDoor
