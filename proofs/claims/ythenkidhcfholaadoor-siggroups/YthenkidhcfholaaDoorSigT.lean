/- What the program's Text answers. -/
import Derived.Test.YthenkidhcfholaaDoorSigL
namespace Go.Proofs.YthenkidhcfholaaDoor
open Go.ChangeShapes Go.WideShapes Go.ChangeAt Go.RowKit

/-! ### digits -/
def hexd (d : Nat) : Nat := if d < 10 then 48 + d else 87 + d
def hexV (x k : Nat) : Nat := hexd (x / 16 ^ (15 - k) % 16)
def wordHex (x j : Nat) : List Int := (List.range j).map fun k => (hexV x k : Int)
def textTo (s : List Nat) (i : Nat) : List Int := (List.range i).flatMap fun q => wordHex (s.getD q 0) 16
def textOf (s : List Nat) : List Int := textTo s 8

theorem wordHex_zero (x : Nat) : wordHex x 0 = [] := rfl
theorem wordHex_succ (x j : Nat) : wordHex x (j + 1) = wordHex x j ++ [(hexV x j : Int)] := by
  unfold wordHex; rw [List.range_succ, List.map_append]; rfl
theorem wordHex_len (x j : Nat) : (wordHex x j).length = j := by simp [wordHex]
theorem textTo_zero (s : List Nat) : textTo s 0 = [] := rfl
theorem textTo_succ (s : List Nat) (i : Nat) : textTo s (i + 1) = textTo s i ++ wordHex (s.getD i 0) 16 := by
  unfold textTo; rw [List.range_succ, List.flatMap_append]; simp
theorem textTo_len (s : List Nat) (i : Nat) : (textTo s i).length = 16 * i := by
  induction i with
  | zero => rfl
  | succ i ih => rw [textTo_succ, List.length_append, ih, wordHex_len]; omega

/-- A word moved up by digits. -/
def upV (x k : Nat) : Nat := x * 16 ^ k % 18446744073709551616
theorem upV_zero (x : Nat) (h : x < 18446744073709551616) : upV x 0 = x := by unfold upV; simp; omega
theorem upV_lt (x k : Nat) : upV x k < 18446744073709551616 := Nat.mod_lt _ (by decide)
theorem upV_succ (x k : Nat) : upV x k * 16 % 18446744073709551616 = upV x (k + 1) := by
  unfold upV; rw [Nat.pow_succ, ← Nat.mul_assoc]; omega
theorem upV_top (x k : Nat) (h : k < 16) : upV x k / 1152921504606846976 = x / 16 ^ (15 - k) % 16 := by
  unfold upV
  have e1 : (18446744073709551616 : Nat) = 16 ^ k * 16 ^ (16 - k) := by rw [← Nat.pow_add, show k + (16 - k) = 16 by omega]
  have e2 : (1152921504606846976 : Nat) = 16 ^ k * 16 ^ (15 - k) := by rw [← Nat.pow_add, show k + (15 - k) = 15 by omega]
  rw [e1, Nat.mul_comm x, Nat.mul_mod_mul_left, e2, ← Nat.div_div_eq_div_mul, Nat.mul_div_cancel_left _ (Nat.pow_pos (by decide)), show 16 - k = (15 - k) + 1 by omega, Nat.pow_succ, Nat.mod_mul_right_div_self]

/-- The digit at a place of the row of digits. -/
theorem digit_at (i : Nat) (h : i < 16) (w : World) (k : IntKind) : (Instr.index 9 (.string ⟨#[48, 49, 50, 51, 52, 53, 54, 55, 56, 57, 97, 98, 99, 100, 101, 102]⟩) (.int k (i : Int))).run Tryd.prog w = .ok (.int .u8 (hexd i : Int)) w := by
  have h' : ∀ i : Fin 16, (⟨#[48, 49, 50, 51, 52, 53, 54, 55, 56, 57, 97, 98, 99, 100, 101, 102]⟩ : ByteArray)[i.val]?.map (·.toNat) = some (hexd i.val) := by decide
  obtain ⟨b, hb, he⟩ := Option.map_eq_some_iff.1 (h' ⟨i, h⟩)
  have hb' : (⟨#[48, 49, 50, 51, 52, 53, 54, 55, 56, 57, 97, 98, 99, 100, 101, 102]⟩ : ByteArray)[i]? = some b := hb
  simp [Instr.index, run_underlying Tryd.underlying9, asIntOf, hb', he]

theorem info_u8 : (Tryd.prog.info? 5).map (fun i => (i.zero, i.size, i.bytes)) = some (some (.int .u8 0), 1, 1) := by kernel_rfl

/-- 'string(b)' of a row that the call owns. -/
theorem conv_own (w : World) (base : Nat) (v : Value) (n : Nat) (xs : List Int) (hown : w.ownsRow base 5 1 v n (xs.map (Value.int .u8))) :
    (convert 54 9 v).run Tryd.prog w = .ok (.string (strOfNums xs)) w := by
  obtain ⟨hl, h⟩ := hown
  have hl' : xs.length = n := by simpa using hl
  rcases h with ⟨rfl, rfl⟩ | ⟨g, cap, cur, rfl, _, hb, hn, _, hc, ht⟩
  · have : xs = [] := List.length_eq_zero_iff.1 hl'
    subst this
    rw [run_convert_bytes_nil w 54 5 Tryd.underlying54 Tryd.underlying5 0 0 9 Tryd.underlying9]
    rfl
  · refine run_convert_bytes_arg _ 54 5 Tryd.underlying54 Tryd.underlying5 g 0 n cap xs hl' (fun i hi => ?_) 9 Tryd.underlying9
    have hi' : i < xs.length := by omega
    have e1 : (cur.toList.take (n * 1))[i]? = some (Value.int .u8 (xs.getD i 0)) := by
      rw [ht]
      simp [List.getElem?_eq_getElem hi', List.getD]
    rw [List.getElem?_take] at e1
    split at e1
    · simp only [World.cell?, hb, Nat.zero_add]
      simpa using e1
    · cases e1

theorem make128 (w : World) : (Instr.makeSlice 54 (.int .i64 0) (.int .i64 128)).run Tryd.prog w = .ok (.slice (some ⟨w.heap.size, 0, none⟩) 0 128) (w.alloc (.cells (Array.replicate 128 (.int .u8 0)) 5)) := by kernel_rfl

/-- Bytes as the program holds them. -/
def bv (l : List Int) : List Value := l.map (Value.int .u8)
theorem bv_app (a b : List Int) : bv (a ++ b) = bv a ++ bv b := List.map_append

set_option maxRecDepth 10000 in
theorem text_any (s : List Nat) (hs : Ok s) (w : World) :
    Calls Tryd.prog 27 #[sv s] w fun e w' => e = .returned (.string (strOfNums (textOf s))) ∧ Below w.heap.size w w' := by
  have HS : Hid (Ok s) := hs
  have HI : Hid (∀ j : Nat, j < 8 → ∀ w, (Instr.index 25 (.agg (sc s)) (.int .i64 (j : Int))).run Tryd.prog w = .ok (.int .u64 ((s.getD j 0 : Nat) : Int)) w) := fun j hj w => index_sig s j hs.1 hj w
  obtain ⟨i0, hi, hz0, hz1, hz2⟩ := info_parts info_u8
  have hz := sc_size s
  rw [hs.1] at hz
  have hmk := make128
  clear hs
  unfold sv
  generalize sc s = cs at *
  have hpk := pack8 cs hz
  generalize hrep : Array.replicate 128 (Value.int .u8 0) = rep at *
  have HREP : Hid (rep.size = 128) := by rw [← hrep]; simp [Hid]
  clear hrep
  go_enter Tryd.func27, Tryd.ntmps27
  go_wp2
  clear hmk
  go_loopw [3, 8] (fun v i wr => ∃ j : Nat, j ≤ 8 ∧ i = .int .i64 j ∧ wr.ownsRow (w.heap.size + 1) 5 1 v (textTo s j).length (bv (textTo s j)) ∧ Below w.heap.size w wr ∧ w.heap.size + 1 ≤ wr.heap.size) (fun _ i _ => 8 - (intOf i).toNat)
  case atStart =>
    refine ⟨0, by omega, rfl, ?_, below_a2 _ _ _, by simp⟩
    have := World.ownsRow_made (base := w.heap.size + 1) (e := 5) (size := 1) (w.alloc (.cells cs 25)) rep 128 (by simp) (by unfold maxLen; omega) (by rw [HREP.out])
    simpa [textTo, bv] using this
  case round =>
    obtain ⟨j, hj, rfl, hown, hbel, hsz⟩ := hrel
    have HW : Hid (wr.ownsRow (w.heap.size + 1) 5 1 u3 (textTo s j).length (bv (textTo s j))) := hown
    have HL : Hid (Below w.heap.size w wr) := hbel
    clear hown hbel
    by_cases hlt : j < 8
    · have hix := HI.out j hlt
      have hd : decide ((j : Int) < 8) = true := by simp; omega
      have HB : Hid (textTo s (j + 1) = textTo s j ++ wordHex (s.getD j 0) 16) := textTo_succ s j
      have hlen := textTo_len s j
      have hxl := HS.out.2 j
      generalize s.getD j 0 = x at *
      go_wp2
      clear hix
      go_loopw [3, 5, 11] (fun v y i wr => ∃ k : Nat, k ≤ 16 ∧ i = .int .i64 k ∧ y = .int .u64 ((upV x k : Nat) : Int) ∧ wr.ownsRow (w.heap.size + 1) 5 1 v (textTo s j ++ wordHex x k).length (bv (textTo s j ++ wordHex x k)) ∧ Below w.heap.size w wr ∧ w.heap.size + 1 ≤ wr.heap.size) (fun _ _ i _ => 16 - (intOf i).toNat)
      case atStart => exact ⟨0, by omega, rfl, by rw [upV_zero x hxl], by rw [wordHex_zero, List.append_nil]; exact HW.out, HL.out, hsz⟩
      case round =>
        obtain ⟨k, hk, rfl, rfl, hown, hbel, hsz1⟩ := hrel
        have HW1 : Hid (wr.ownsRow (w.heap.size + 1) 5 1 u3 (textTo s j ++ wordHex x k).length (bv (textTo s j ++ wordHex x k))) := hown
        have HL1 : Hid (Below w.heap.size w wr) := hbel
        clear hown hbel
        by_cases hklt : k < 16
        · have HT : Hid (upV x k / 1152921504606846976 = x / 16 ^ (15 - k) % 16) := upV_top x k hklt
          have htop : ((upV x k : Nat) : Int) / 1152921504606846976 = ((x / 16 ^ (15 - k) % 16 : Nat) : Int) := by rw [← HT.out]; omega
          have HU : Hid (upV x k * 16 % 18446744073709551616 = upV x (k + 1)) := upV_succ x k
          have hul := upV_lt x k
          have HN : Hid ((textTo s j ++ wordHex x k) ++ [((hexd (x / 16 ^ (15 - k) % 16) : Nat) : Int)] = textTo s j ++ wordHex x (k + 1)) := by
            rw [wordHex_succ, List.append_assoc]; rfl
          have hln : (textTo s j ++ wordHex x k).length = 16 * j + k := by rw [List.length_append, hlen, wordHex_len]
          have hdg := digit_at (x / 16 ^ (15 - k) % 16) (Nat.mod_lt _ (by decide))
          have hdl : x / 16 ^ (15 - k) % 16 < 16 := Nat.mod_lt _ (by decide)
          generalize x / 16 ^ (15 - k) % 16 = d at *
          generalize upV x k = y at *
          go_wp2_with (at_builtin; refine wpList_append_own _ rfl _ _ 54 rfl (w.heap.size + 1) 5 i0 (.int .u8 0) 1 1 Tryd.underlying54 hi hz0 hz1 hz2 rfl (by decide) _ _ _ rfl (HW1.out.alloc _) ⟨wr.heap.size, 0, none⟩ 1 1 [.int .u8 (hexd d : Int)] rfl rfl ?c1 ?c2 ?c3 ?c4 ?c5 ?_)
          case c1 => exact cell_one_new _ _ _
          case c2 => intro u hu; simp at hu; subst hu; rfl
          case c3 => unfold maxLen; omega
          case c4 => omega
          case c5 => simp; omega
          intro v' w2 hown' hgrow _
          have HW2 : Hid (w2.ownsRow (w.heap.size + 1) 5 1 v' (textTo s j ++ wordHex x (k + 1)).length (bv (textTo s j ++ wordHex x (k + 1)))) := by
            rw [← HN.out, List.length_append, hln, bv_app (textTo s j ++ wordHex x k)]
            exact hown'
          have HL2 : Hid (Below w.heap.size w w2) := (below_alloc HL1.out _).grown hgrow (by simp; omega) (fun b hb => by have := own_block HW1.out b hb; omega)
          have hsz2 : w.heap.size + 1 ≤ w2.heap.size := by have := hgrow.size; simp at this; omega
          clear hown' hgrow
          go_wp2
          go_roundw
          case rel => exact ⟨k + 1, by omega, by go_num, by rw [← HU.out, IntKind.wrap_u64]; go_num, HW2.out, HL2.out, hsz2⟩
          case measure => simp [intOf]; omega
        · have e : k = 16 := by omega
          subst e
          go_wp2
          go_roundw
          case rel => exact ⟨j + 1, by omega, by go_num, by rw [HB.out]; exact HW1.out, HL1.out, hsz1⟩
          case measure => simp [intOf]; omega
    · have e : j = 8 := by omega
      subst e
      have hcv := conv_own wr _ _ _ (textTo s 8) HW.out
      go_wp2
      go_ret
      exact ⟨rfl, HL.out⟩
end Go.Proofs.YthenkidhcfholaaDoor
