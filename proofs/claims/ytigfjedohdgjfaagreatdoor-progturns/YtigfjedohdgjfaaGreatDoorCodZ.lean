/- The tables of package code, where the row lists them and nothing else (layer 13). -/
import Derived.Test.YtigfjedohdgjfaaGreatDoorJCodAShL
namespace Go.Proofs.YtigfjedohdgjfaaGreatDoor.Tl.Cd
open Go.ChangeShapes Go.WideShapes Go.ChangeAt Go.RowKit
theorem tab_laid {W:World} (h:laidMetH Tryz.prog Rows.progWorksRow.laid W):Tab W:=by
 have h1 : laidMet Tryz.prog (("carousel/code.operandOf", Rows.laid_carousel_code_operandOf) :: [("carousel/code.operands", Rows.laid_carousel_code_operands)]) W := h
 refine ⟨fun i hi => (Lib.tabIs_of_head (k := .u8) (zs := tabK) (rest := [("carousel/code.operands", Rows.laid_carousel_code_operands)]) (g := 1) (t := 162) (e := 5) (by kernel_rfl) (by kernel_rfl) Tryz.underlying162 Tryz.underlying5 (by kernel_rfl) (by kernel_rfl) h1).cell (by kernel_rfl) i hi, fun i hi => ?_⟩
 obtain ⟨ps,⟨_,_,_,_,_,q,_,_,_,_,hq,_⟩,_⟩:=h1
 obtain ⟨g', t', cs, fuel, p, q', hg', ht', hvar, hd, _, _⟩ := hq
 have hg : Tryz.prog.globalNamed "carousel/code.operands" = some 0 := by kernel_rfl
 have hty:(Tryz.prog.globals[0]?).map (·.type)=some 161:=by kernel_rfl
 obtain rfl:=Option.some.inj (hg.symm.trans hg')
 obtain rfl:=Option.some.inj (hty.symm.trans ht')
 have hc:=opnds_of hd
 have:=World.var?_cell hg hvar i
 rw [this,← Array.getElem?_toList,hc,List.getElem?_map]
 have hl:i < tabO.length:=hi
 simp [List.getD,hl]
end Go.Proofs.YtigfjedohdgjfaaGreatDoor.Tl.Cd
