/- Programs as plain data: Decode, Encode, and what follows. -/
import Derived.Test.YtigfjedohdgjfaaGreatDoorCodM
import Derived.Laws.BytesArg
namespace Go.Proofs.YtigfjedohdgjfaaGreatDoor.Tl.Cd
def okL (l:List (Int × Int)):Prop:=∀ o ∈ l,okI o.1 o.2
theorem byt_str (l:List Int) (h : ∀ x ∈ l,0≤x∧x < 256) (i:Nat) (x:Int) (hi:l[i]? = some x):(byt (strOfNums l) i:Int)=x:=by
 have hx:=h x (List.mem_of_getElem? hi)
 have e:(strOfNums l)[i]? = some (UInt8.ofNat x.toNat):=by
  have h1:(strOfNums l).data.toList[i]? = some (UInt8.ofNat x.toNat):=by rw [strOfNums_data,List.getElem?_map,hi]; rfl
  have hlt:i < (strOfNums l).size:=by
   have:=(List.getElem?_eq_some_iff.1 hi).1
   rw [strOfNums_size]; exact this
  rw [getElem?_pos (strOfNums l) i hlt]
  rw [Array.getElem?_toList] at h1
  have h2:=Array.getElem?_eq_some_iff.1 h1
  obtain ⟨_,h3⟩:=h2
  rw [← h3]
  rfl
 unfold byt
 rw [e]
 simp only [Option.elim_some,UInt8.toNat_ofNat']
 omega
theorem lay_bd (x:Int) (n:Nat) : ∀ y ∈ layN x n,0≤y∧y < 256:=by
 intro y hy
 unfold layN at hy
 simp only [List.mem_map,List.mem_range] at hy
 obtain ⟨j,_,rfl⟩:=hy
 omega
theorem bytesI_bd {c:Nat} (hc:c≤40) (x:Int) : ∀ y ∈ bytesI c x,0≤y∧y < 256:=by
 intro y hy
 rcases List.mem_cons.1 hy with rfl | hy
 ·omega
 ·exact lay_bd _ _ y hy
def bl (s:ByteArray):List Int:=(List.range s.size).map fun i=>(byt s i:Int)
end Go.Proofs.YtigfjedohdgjfaaGreatDoor.Tl.Cd
