/- The tables and variables that the rows of layer 14 list, as they lie. -/
import Derived.Test.YtbjopdmchmekpaaDoorCodA
import Derived.Test.YtbjopdmchmekpaaDoorAsM
import Derived.Stop.LaidErr
namespace Go.Proofs.YtbjopdmchmekpaaDoor
open Go.ChangeShapes Go.WideShapes Go.ChangeAt Go.RowKit

/-- The tables of packages code, asm and of the library's numerals. -/
def TabS (w : World) : Prop := Tab w ∧ (∀ i, i < 41 → w.cell? ⟨0, i, none⟩ = some (.string (S (wordL i)))) ∧ Lib.TabIs Tryd.prog w "internal/strconv.uint64pow10" .u64 Lib.pow10Tab ∧ w.var? Tryd.prog "carousel/asm.words" = some (wordT.map fun b => Value.string (S b)).toArray
theorem var_later {w w' : World} (hb : Below w.heap.size w w') {n : String} {cs : Array Value} (h : w.var? Tryd.prog n = some cs) : w'.var? Tryd.prog n = some cs := by
  unfold World.var? at *
  cases hg : Tryd.prog.globalNamed n with
  | none => simp [hg] at h
  | some g =>
    simp only [hg, Option.bind_some] at h ⊢
    have hlt : g < w.heap.size := by
      rcases Nat.lt_or_ge g w.heap.size with h' | h'
      · exact h'
      · simp [Array.getElem?_eq_none h'] at h
    rw [hb.block g hlt]
    exact h
theorem TabS.later {w w' : World} (h : TabS w) (hb : Below w.heap.size w w') : TabS w' := by
  refine ⟨h.1.later hb, fun i hi => ?_, var_later hb h.2.2.1, var_later hb h.2.2.2⟩
  have := h.2.1 i hi
  rw [hb.cell (p := ⟨0, i, none⟩) (World.block_lt_of_cell? _ _ this)]
  exact this
theorem wcells : Tryd.prog.cellsOf 9 = 1 ∧ Tryd.prog.cellsOf 65 = 41 := ⟨by kernel_rfl, by kernel_rfl⟩
theorem words_of {H : Type} {enc : TypeId × Value → H} {W : World} {base : Nat} {sp : Nat → Bool} {held : Bool} {fuel : Nat} {cs : List Value} {q : List MemPlace}
    (hf : DataW.trod enc Tryd.prog W base sp held fuel 65 cs = some (Rows.laid_carousel_asm_words, q)) (i : Nat) (hi : i < 41) : cs[i]? = some (.string (S (wordL i))) := by
  obtain ⟨xs, m, _, hx, hl, hlen, hel⟩ := DataW.trod_array Tryd.underlying65 hf
  rw [wcells.2] at hl
  simp only [wcells.1] at hel
  have hxe : xs.map (·.1) = wordT.map fun b => DataW.lit (.string b) := by
    have := congrArg Prod.fst hx
    simp only [Rows.laid_carousel_asm_words, DataW.agg.injEq] at this
    rw [← this]
    rfl
  have h := hel i hi
  have hxi : xs[i]? = some xs[i] := by simp [hlen, hi]
  rw [hxi] at h
  have he : (xs.map (·.1))[i]? = some (DataW.lit (.string (wordL i))) := by
    have hw : i < wordT.length := hi
    rw [hxe, List.getElem?_map]
    simp [wordL, List.getD, hw]
  rw [List.getElem?_map, hxi] at he
  simp only [Option.map_some, Option.some.injEq] at he
  generalize xs[i] = x at *
  obtain ⟨x1, x2⟩ := x
  simp only at he
  subst he
  obtain ⟨s, hs, hx', _⟩ := DataW.trod_string Tryd.underlying9 h
  simp only [Prod.mk.injEq, DataW.lit.injEq, Lit.string.injEq] at hx'
  have := congrArg (·[0]?) hs
  simp [List.getElem?_drop] at this
  rw [this, hx'.1, S_list]
/-- The tables, where a row lists them so. -/
theorem tabs_of {W : World} {r1 r2 r3 : List (String × DataW Unit)}
    (hp : laidMet Tryd.prog (("internal/strconv.uint64pow10", Rows.laid_internal_strconv_uint64pow10) :: r1) W) (hk : laidMet Tryd.prog (("carousel/code.operandOf", Rows.laid_carousel_code_operandOf) :: ("carousel/code.operands", Rows.laid_carousel_code_operands) :: r2) W)
    (hw : laidMet Tryd.prog (("carousel/asm.words", Rows.laid_carousel_asm_words) :: r3) W) : TabS W := by
  refine ⟨⟨fun i hi => (Lib.tabIs_of_head (k := .u8) (zs := tabK) (g := 2) (t := 109) (e := 5) (by kernel_rfl) (by kernel_rfl) Tryd.underlying109 Tryd.underlying5 (by kernel_rfl) (by kernel_rfl) hk).cell (by kernel_rfl) i hi, fun i hi => ?_⟩, fun i hi => ?_, ?_, ?_⟩
  · have h1 := hk.tail
    obtain ⟨ps, ⟨g', t', cs, fuel, p, q', hg', ht', hvar, hd, _, _⟩, _⟩ := h1
    have hg : Tryd.prog.globalNamed "carousel/code.operands" = some 1 := by kernel_rfl
    have hty : (Tryd.prog.globals[1]?).map (·.type) = some 108 := by kernel_rfl
    obtain rfl := Option.some.inj (hg.symm.trans hg')
    obtain rfl := Option.some.inj (hty.symm.trans ht')
    have hc := opnds_of hd
    have := World.var?_cell hg hvar i
    rw [this, ← Array.getElem?_toList, hc, List.getElem?_map]
    have hl : i < tabO.length := hi
    simp [List.getD, hl]
  · obtain ⟨ps, ⟨g', t', cs, fuel, p, q', hg', ht', hvar, hd, _, _⟩, _⟩ := hw
    have hg : Tryd.prog.globalNamed "carousel/asm.words" = some 0 := by kernel_rfl
    have hty : (Tryd.prog.globals[0]?).map (·.type) = some 65 := by kernel_rfl
    obtain rfl := Option.some.inj (hg.symm.trans hg')
    obtain rfl := Option.some.inj (hty.symm.trans ht')
    have := World.var?_cell hg hvar i
    rw [this, ← Array.getElem?_toList]
    exact words_of hd i hi
  · exact Lib.tabIs_of_head (k := .u64) (zs := Lib.pow10Tab) (g := 4) (t := 129) (e := 87) (by kernel_rfl) (by kernel_rfl) Tryd.underlying129 Tryd.underlying87 (by kernel_rfl) (by kernel_rfl) hp
  · obtain ⟨ps, ⟨g', t', cs, fuel, p, q', hg', ht', hvar, hd, _, _⟩, _⟩ := hw
    have hty : (Tryd.prog.globals[0]?).map (·.type) = some 65 := by kernel_rfl
    have hg : Tryd.prog.globalNamed "carousel/asm.words" = some 0 := by kernel_rfl
    obtain rfl := Option.some.inj (hg.symm.trans hg')
    obtain rfl := Option.some.inj (hty.symm.trans ht')
    rw [hvar]
    congr 1
    apply Array.ext'
    apply List.ext_getElem?
    intro i
    have hl : cs.toList.length = 41 := by
      obtain ⟨xs, m, _, hx, hl, hlen, hel⟩ := DataW.trod_array Tryd.underlying65 hd
      rw [hl, wcells.2]
    by_cases hi : i < 41
    · rw [words_of hd i hi]
      have hw : i < wordT.length := hi
      simp [wordL, List.getD, hw]
    · rw [List.getElem?_eq_none (by omega), List.getElem?_eq_none (by simp; show 41 ≤ i; omega)]
/-- The block of a variable. -/
theorem var_heap {w : World} {n : String} {g : Nat} {cs : Array Value} (hg : Tryd.prog.globalNamed n = some g) (h : w.var? Tryd.prog n = some cs) : ∃ t fr, w.heap[g]? = some (.cells cs t fr) := by
  unfold World.var? at h
  simp only [hg, Option.bind_some] at h
  split at h
  · rename_i c t fr e
    obtain rfl := Option.some.inj h
    exact ⟨t, fr, e⟩
  · cases h
end Go.Proofs.YtbjopdmchmekpaaDoor
