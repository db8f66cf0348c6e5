/- Places as they lie; has, target, labelAt of the program. -/
import Derived.Test.YtbjopdmchmekpaaDoorAsT
import Derived.Lib.ItoaLen
import Derived.Test.YtbjopdmchmekpaaDoorAsS
import Derived.Laws.Concat
namespace Go.Proofs.YtbjopdmchmekpaaDoor
open Go.ChangeShapes Go.WideShapes Go.ChangeAt Go.RowKit

def plC (f : Nat → Bool) : Array Value := ((List.range 513).map fun i => Value.bool (f i)).toArray
theorem plC_get (f : Nat → Bool) (i : Nat) (h : i < 513) : (plC f)[i]? = some (.bool (f i)) := by simp [plC, h]
theorem plC_set (f : Nat → Bool) (i : Nat) (h : i < 513) (b : Bool) : (plC f).setIfInBounds i (.bool b) = plC (fun j => if j = i then b else f j) :=
  map_set_range h (by simp) (fun q hq => by simp [hq])
theorem plC_congr {f g : Nat → Bool} (h : ∀ i, i < 513 → f i = g i) : plC f = plC g := map_same_range (fun q hq => by rw [h q hq])
theorem plC_size (f : Nat → Bool) : (plC f).size = 513 := by simp [plC]
theorem plC_ne (f : Nat → Bool) : (plC f = #[]) = False := by simp [← Array.size_eq_zero_iff, plC_size]
theorem plC_one (f : Nat → Bool) : (plC f).all (·.oneCell') = true := by
  rw [Array.all_eq_true_iff_forall_mem]
  intro v hv
  simp only [plC, List.mem_toArray, List.mem_map] at hv
  obtain ⟨i, _, rfl⟩ := hv
  rfl
theorem info_pl : (Tryd.prog.info? 59).map (fun i => (i.zero, i.size, i.bytes)) = some (some (.agg (plC fun _ => false)), 513, 513) := by kernel_rfl
theorem zero_pl (w : World) : Sem.run Tryd.prog (zeroValue 59) w = .ok (.agg (plC fun _ => false)) w := by
  obtain ⟨i0, hi, hz0, hz1, hz2⟩ := info_parts info_pl
  simp [zeroValue, typeInfo, hi, hz0]
def PlAt (w : World) (B : Nat) (f : Nat → Bool) : Prop := w.heap[B]? = some (.cells (plC f) 59 (0, 0))
theorem PlAt.cell {w : World} {B : Nat} {f : Nat → Bool} (h : PlAt w B f) (i : Nat) (hi : i < 513) : w.cell? ⟨B, i, none⟩ = some (.bool (f i)) := by rw [cell_at h]; exact plC_get _ _ hi
theorem PlAt.later {w w' : World} {B : Nat} {f : Nat → Bool} (h : PlAt w B f) (k : Below w.heap.size w w') : PlAt w' B f := by unfold PlAt; rw [k.block _ (heap_lt h)]; exact h
def hasP (f : Nat → Bool) (z : Int) : Bool := decide (0 ≤ z) && (decide (z < 513) && f z.toNat)
theorem has_pl {w : World} {B : Nat} {f : Nat → Bool} (h : PlAt w B f) (z : Int) : Calls Tryd.prog 35 #[.pointer (some ⟨B, 0, none⟩), .int .i64 z] w fun e w' => e = .returned (.bool (hasP f z)) ∧ Below w.heap.size w w' := by
  unfold hasP
  by_cases h0 : 0 ≤ z
  · by_cases h1 : z < 513
    · obtain ⟨n, rfl⟩ := Int.eq_ofNat_of_zero_le h0
      have hc := h.cell n (by omega)
      rw [show decide (0 ≤ (n : Int)) = true by simp, show decide ((n : Int) < 513) = true by simp; omega, Int.toNat_natCast]
      simp only [Bool.true_and]
      generalize f n = b at *
      clear h
      go_enter Tryd.func35, Tryd.ntmps35
      go_wp2
      go_ret
      exact ⟨rfl, Below.refl _ _⟩
    · have e : decide (z < 513) = false := by simp; omega
      have h1' : 513 ≤ z := by omega
      rw [e]
      simp only [Bool.false_and, Bool.and_false]
      go_enter Tryd.func35, Tryd.ntmps35
      go_wp2
      go_ret
      exact ⟨rfl, Below.refl _ _⟩
  · have e : decide (0 ≤ z) = false := by simp; omega
    have h1' : z < 0 := by omega
    rw [e]
    simp only [Bool.false_and]
    go_enter Tryd.func35, Tryd.ntmps35
    go_wp2
    go_ret
    exact ⟨rfl, Below.refl _ _⟩

/-- What target answers. -/
def tgA : Option Int → Value
  | some z => .tuple #[.int .i64 z, .bool true]
  | none => .tuple #[.int .i64 0, .bool false]
theorem target_any (c : Nat) (x : Int) (b : Nat) (hb : b ≤ 1000) (hx : c = 24 ∨ c = 25 → -32768 ≤ x ∧ x ≤ 32767) (w : World) : Calls Tryd.prog 34 #[.agg #[.int .i64 (c : Int), .int .i64 x], .int .i64 (b : Int)] w fun e w' => e = .returned (tgA (tgt c x b)) ∧ Below w.heap.size w w' := by
  unfold tgt
  by_cases h1 : c = 24 ∨ c = 25
  · obtain ⟨h2, h3⟩ := hx h1
    have hw : wrap64 ((b : Int) + x) = (b : Int) + x := by unfold wrap64; omega
    rw [if_pos h1]
    rcases h1 with rfl | rfl
    all_goals
      simp only [tgA]
      go_enter Tryd.func34, Tryd.ntmps34
      go_wp2
      go_ret2
      exact ⟨rfl, by first | exact Below.refl _ _ | exact below_a1 _ _⟩
  · rw [if_neg h1]
    by_cases h4 : c = 26
    · subst h4
      rw [if_pos rfl]
      simp only [tgA]
      go_enter Tryd.func34, Tryd.ntmps34
      go_wp2
      go_ret2
      exact ⟨rfl, by first | exact Below.refl _ _ | exact below_a1 _ _⟩
    · rw [if_neg h4]
      have e1 : ((c : Int) == 24) = false := by simp; omega
      have e2 : ((c : Int) == 25) = false := by simp; omega
      have e3 : ((c : Int) == 26) = false := by simp; omega
      have d1 : ¬ (c : Int) = 24 := by omega
      have d2 : ¬ (c : Int) = 25 := by omega
      have d3 : ¬ (c : Int) = 26 := by omega
      generalize (c : Int) = ci at *
      simp only [tgA]
      go_enter Tryd.func34, Tryd.ntmps34
      go_wp2
      go_ret2
      exact ⟨rfl, by first | exact Below.refl _ _ | exact below_a1 _ _⟩

/-! ### numerals -/
theorem below_grow (w : World) (k : Nat) (os : Array Obj) : Below w.heap.size w (Sort.grow (w.drewN k) os) := by
  refine ⟨rfl, rfl, rfl, by simp [Sort.grow], fun b hb => ?_⟩
  show (w.heap ++ os)[b]? = _
  rw [Array.getElem?_append_left hb]
theorem itoa_any (n : Int) (h0 : -9223372036854775808 ≤ n) (h1 : n ≤ 9223372036854775807) {w : World} (hT : TabS w) : Calls Tryd.prog 36 #[.int .i64 n] w fun e w' => e = .returned (.string (S (Lib.itoa n))) ∧ Below w.heap.size w w' := by
  refine (Tryd.strconv_Itoa n h0 h1 w hT.2.2.1).mono ?_
  rintro e w' ⟨rfl, k, os, rfl⟩
  exact ⟨rfl, below_grow _ _ _⟩
theorem fmt_any (n : Int) (h0 : -9223372036854775808 ≤ n) (h1 : n ≤ 9223372036854775807) {w : World} (hT : TabS w) : Calls Tryd.prog 39 #[.int .i64 n, .int .i64 10] w fun e w' => e = .returned (.string (S (Lib.itoa n))) ∧ Below w.heap.size w w' := by
  refine (Tryd.strconv_FormatInt_10 n h0 h1 w hT.2.2.1).mono ?_
  rintro e w' ⟨rfl, k, os, rfl⟩
  exact ⟨rfl, below_grow _ _ _⟩
theorem itoa_len (n : Int) (h0 : -9223372036854775808 ≤ n) (h1 : n ≤ 9223372036854775807) : (Lib.itoa n).length ≤ 21 := Lib.itoa_length_le n h0 h1
end Go.Proofs.YtbjopdmchmekpaaDoor
