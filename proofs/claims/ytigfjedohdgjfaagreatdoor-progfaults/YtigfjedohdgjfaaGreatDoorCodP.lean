/- Programs as plain data: Decode, Encode, and what follows. -/
import Derived.Test.YtigfjedohdgjfaaGreatDoorJCodMJCodAShL
import Derived.Laws.BytesArg
namespace Go.Proofs.YtigfjedohdgjfaaGreatDoor.Tl.Cd
def okL (l:List (Int × Int)):Prop:=∀ o ∈ l,okI o.1 o.2
theorem byt_str (l:List Int) (h : ∀ x ∈ l,0≤x∧x < 256) (i:Nat) (x:Int) (hi:l[i]? = some x):(byt (strOfNums l) i:Int)=x:=by
 have hx:=h x (List.mem_of_getElem? hi)
 have e:(strOfNums l)[i]? = some (UInt8.ofNat x.toNat):=by
  have h1:(strOfNums l).data.toList[i]? = some (UInt8.ofNat x.toNat):=by rw [strOfNums_data,List.getElem?_map,hi]; rfl
  have hlt:i < (strOfNums l).size:=by
   have:=(List.getElem?_eq_some_iff.1 hi).1
   rw [strOfNums_size]; exact this
  rw [getElem?_pos (strOfNums l) i hlt]
  rw [Array.getElem?_toList] at h1
  have h2:=Array.getElem?_eq_some_iff.1 h1
  obtain ⟨_,h3⟩:=h2
  rw [← h3]
  rfl
 unfold byt
 rw [e]
 simp only [Option.elim_some,UInt8.toNat_ofNat']
 omega
def bl (s:ByteArray):List Int:=(List.range s.size).map fun i=>(byt s i:Int)
end Go.Proofs.YtigfjedohdgjfaaGreatDoor.Tl.Cd
