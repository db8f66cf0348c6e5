/- A world in which the variables that the rows of layer 14 list lie as they read; what a row that lists them says. -/
import Derived.Test.YtbjopdmchmekpaaDoorAsT
namespace Go.Proofs.YtbjopdmchmekpaaDoor
open Go.ChangeShapes Go.WideShapes Go.ChangeAt Go.RowKit

def tabA : List Int := [0, 1, 28, 2, 29, 14, 24, 3, 30, 22, 20, 15, 25, 17, 4, 8, 31, 27, 13, 23, 21, 19, 16, 7, 26, 12, 18, 6, 11, 5, 10, 9]
def tabB : List Int := [0, 1, 56, 2, 57, 49, 28, 3, 61, 58, 42, 50, 38, 29, 17, 4, 62, 47, 59, 36, 45, 43, 51, 22, 53, 39, 33, 30, 24, 18, 12, 5, 63, 55, 48, 27, 60, 41, 37, 16, 46, 35, 44, 21, 52, 32, 23, 11, 54, 26, 40, 15, 34, 20, 31, 10, 25, 14, 19, 9, 13, 8, 7, 6]
def putW (h : Array Obj) (g : Nat) (cs : List Value) : Array Obj := h.modify g fun | .cells _ t frozen => .cells cs.toArray t frozen | o => o
def heapS (h : Array Obj) : Array Obj := putW (putW (putW (putW (putW (putW h 0 (wordT.map fun b => Value.string (S b))) 1 (tabO.map fun z => Value.int .i64 z)) 2 (tabK.map fun z => Value.int .u8 z)) 4 (Lib.pow10Tab.map fun z => Value.int .u64 z)) 5 (tabA.map fun z => Value.int .u8 z)) 6 (tabB.map fun z => Value.int .u8 z)
theorem tabS_laid {W : World} (h : laidMet Tryd.prog [("math/bits.deBruijn32tab", Rows.laid_math_bits_deBruijn32tab), ("math/bits.deBruijn64tab", Rows.laid_math_bits_deBruijn64tab), ("internal/strconv.uint64pow10", Rows.laid_internal_strconv_uint64pow10), ("carousel/code.operandOf", Rows.laid_carousel_code_operandOf), ("carousel/code.operands", Rows.laid_carousel_code_operands), ("carousel/asm.words", Rows.laid_carousel_asm_words)] W) : TabS W := tabs_of h.tail.tail h.tail.tail.tail h.tail.tail.tail.tail.tail
def heapE (h : Array Obj) : Array Obj := ((putW (putW (heapS h) 7 [.iface 155 (.pointer (some ⟨h.size, 0, none⟩))]) 8 [.iface 155 (.pointer (some ⟨h.size + 1, 0, none⟩))]).push (.cells #[.string (S [105, 110, 118, 97, 108, 105, 100, 32, 115, 121, 110, 116, 97, 120])] 157)).push (.cells #[.string (S [118, 97, 108, 117, 101, 32, 111, 117, 116, 32, 111, 102, 32, 114, 97, 110, 103, 101])] 157)
/-- The tables, and the two errors of strconv. -/
def TabE (w : World) : Prop := TabS w ∧ ∃ t1 p1 t2 p2, w.var? Tryd.prog "strconv.ErrSyntax" = some #[.iface t1 p1] ∧ w.var? Tryd.prog "strconv.ErrRange" = some #[.iface t2 p2]
theorem TabE.later {w w' : World} (h : TabE w) (hb : Below w.heap.size w w') : TabE w' := by
  obtain ⟨h1, t1, p1, t2, p2, h2, h3⟩ := h
  exact ⟨h1.later hb, t1, p1, t2, p2, var_later hb h2, var_later hb h3⟩
theorem esp_row (u : TypeId) (h : Tryd.prog.typeName? 3 u = some "*errors.errorString") : u = 155 :=
  typeName_ptr_named (P := Tryd.prog) (nm := "errors.errorString") (tp := 155) (by kernel_rfl) (by kernel_rfl) (by decide) u (h.trans (by decide))
theorem tabE_laid {W : World} (h : laidMet Tryd.prog [("math/bits.deBruijn32tab", Rows.laid_math_bits_deBruijn32tab), ("math/bits.deBruijn64tab", Rows.laid_math_bits_deBruijn64tab), ("internal/strconv.uint64pow10", Rows.laid_internal_strconv_uint64pow10), ("carousel/code.operandOf", Rows.laid_carousel_code_operandOf), ("carousel/code.operands", Rows.laid_carousel_code_operands), ("strconv.ErrRange", Rows.laid_strconv_ErrRange), ("strconv.ErrSyntax", Rows.laid_strconv_ErrSyntax), ("carousel/asm.words", Rows.laid_carousel_asm_words)] W) : TabE W := by
  refine ⟨tabs_of h.tail.tail h.tail.tail.tail h.tail.tail.tail.tail.tail.tail.tail, ?_⟩
  obtain ⟨a, _, h1, _⟩ := laid_sentinel (g := 7) (tp := 155) (te := 157) (ts := 9) h.tail.tail.tail.tail.tail.tail (by kernel_rfl) (by kernel_rfl) Tryd.underlying136 esp_row Tryd.underlying155 Tryd.underlying157 rfl rfl Tryd.underlying9 (by kernel_rfl) (by kernel_rfl)
  obtain ⟨b, _, h2, _⟩ := laid_sentinel (g := 8) (tp := 155) (te := 157) (ts := 9) h.tail.tail.tail.tail.tail (by kernel_rfl) (by kernel_rfl) Tryd.underlying136 esp_row Tryd.underlying155 Tryd.underlying157 rfl rfl Tryd.underlying9 (by kernel_rfl) (by kernel_rfl)
  exact ⟨_, _, _, _, h1, h2⟩
end Go.Proofs.YtbjopdmchmekpaaDoor
