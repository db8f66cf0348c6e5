/- Words, sizes and numbers of the program's reader. -/
import Derived.Test.YtbjopdmchmekpaaDoorAsH
import Derived.Test.YtbjopdmchmekpaaDoorAsW
import Derived.Test.YtbjopdmchmekpaaDoorCodG
namespace Go.Proofs.YtbjopdmchmekpaaDoor
open Go.ChangeShapes Go.WideShapes Go.ChangeAt Go.RowKit

def opA : Option Nat → Value
  | some c => .tuple #[.int .i64 (c : Int), .bool true]
  | none => .tuple #[.int .i64 0, .bool false]
theorem wordI_at {t : List UInt8} {i : Nat} (hi : i < 41) (h : wordL i = t) (hb : ∀ j, j < i → wordL j ≠ t) : wordI t = some i := by
  unfold wordI
  have hl : wordT.length = 41 := rfl
  rw [List.findIdx?_eq_some_iff_getElem]
  refine ⟨by omega, ?_, fun j hj => ?_⟩
  · have : wordT[i]'(by omega) = wordL i := by simp [wordL, List.getD, show i < wordT.length from hi]
    rw [this, h]
    simp
  · have hj' : j < wordT.length := by omega
    have : wordT[j] = wordL j := by simp [wordL, List.getD, hj']
    rw [this]
    simpa using hb j hj
theorem wordI_no {t : List UInt8} (hb : ∀ j, j < 41 → wordL j ≠ t) : wordI t = none := by
  unfold wordI
  rw [List.findIdx?_eq_none_iff]
  intro x hx
  obtain ⟨j, hj, rfl⟩ := List.mem_iff_getElem.1 hx
  have : wordT[j] = wordL j := by simp [wordL, List.getD, hj]
  rw [this]
  simpa using hb j hj
theorem S_eq (s : ByteArray) (t : List UInt8) : (S t = s) ↔ t = s.data.toList := by
  constructor
  · intro h; rw [← h]; simp [S]
  · intro h; rw [h, S_list]
theorem ba_toList (s : ByteArray) : s.toList = s.data.toList := by
  have := Lib.extract_toList s 0 s.size
  rw [ByteArray.extract_zero_size] at this
  rw [this, Nat.sub_zero, List.drop_zero, List.take_of_length_le (by rw [ba_len]; exact Nat.le_refl _)]
theorem str_ne {a b : ByteArray} (h : ¬ a = b) : (a.toList == b.toList) = false := by
  rw [ba_toList, ba_toList]
  have : ¬ a.data.toList = b.data.toList := fun e => h (by rw [← S_list a, ← S_list b, e])
  exact beq_eq_false_iff_ne.2 this
theorem index_words {W : Array Value} {i : Nat} {b : ByteArray} (hi : i < 41) (h : W[i]? = some (.string b)) (w : World) : (Instr.index 65 (.agg W) (.int .i64 (i : Int))).run Tryd.prog w = .ok (.string b) w := by
  obtain ⟨i0, hi0, _, hz1, _⟩ := info_parts (t := 9) (z := .string ByteArray.empty) (s := 1) (b := 16) (by kernel_rfl)
  have hp : (part 9 W i).run Tryd.prog w = .ok (.string b) w := run_part_plain w (by kernel_rfl) h
  simp [Instr.index, run_underlying Tryd.underlying65, asIntOf, hi, sizeOf, typeInfo, hi0, hz1, hp]
set_option maxRecDepth 100000 in
theorem opcode_any (s : ByteArray) {w : World} (hT : TabS w) : Calls Tryd.prog 63 #[.string s] w fun e w' => e = .returned (opA (wordI s.data.toList)) ∧ Below w.heap.size w w' := by
  obtain ⟨tt, fr, hg⟩ := var_heap (g := 0) (by kernel_rfl) hT.2.2.2
  have hsz : ((wordT.map fun b => Value.string (S b)).toArray).size = 41 := rfl
  have hat : ∀ i, i < 41 → ((wordT.map fun b => Value.string (S b)).toArray)[i]? = some (.string (S (wordL i))) := fun i hi => by
    have hl : i < wordT.length := hi
    simp [wordL, List.getD, hl]
  obtain ⟨W, hW⟩ : ∃ W, (wordT.map fun b => Value.string (S b)).toArray = W := ⟨_, rfl⟩
  rw [hW] at hg hsz hat
  have HG : Hid (w.heap[0]? = some (.cells W tt fr)) := hg
  have HA : Hid (∀ i, i < 41 → W[i]? = some (.string (S (wordL i)))) := hat
  have HI : Hid ((Tryd.prog.info? 65).map (·.size) = some W.size) := by rw [Hid, hsz]; kernel_rfl
  clear hW hg hat hT
  go_enter Tryd.func63, Tryd.ntmps63
  go_wp2_with (first | (refine wpList_load_row (by rfl) _ _ (by rfl) 0 (by rfl) tt W fr _ HG.out Tryd.underlying65 (by rfl) HI.out ?_) | fail)
  go_loopw [7] (fun u wr => ∃ i : Nat, i ≤ 41 ∧ u = .int .i64 (i : Int) ∧ (∀ j, j < i → wordL j ≠ s.data.toList) ∧ wr = w) (fun u _ => 41 - (intOf u).toNat)
  case atStart => exact ⟨0, by omega, rfl, fun j hj => by omega, rfl⟩
  case round =>
    obtain ⟨i, hi, rfl, hno, hwe⟩ := hrel
    have HN : Hid (∀ j, j < i → wordL j ≠ s.data.toList) := hno
    have HW : Hid (wr = w) := hwe
    clear hno hwe
    by_cases hlt : i < 41
    · have hd : decide ((i : Int) < 41) = true := by simp; omega
      have hwi : W[i]? = some (.string (S (wordL i))) := HA.out i hlt
      have HJ : Hid (i < 41) := hlt
      have hw1 : wrap64 ((i : Int) + 1) = (i : Int) + 1 := by unfold wrap64; omega
      have hix := fun w => index_words hlt hwi w
      obtain ⟨R, hR⟩ : ∃ R, S (wordL i) = R := ⟨_, rfl⟩
      rw [hR] at hix
      clear hwi
      by_cases he : wordL i = s.data.toList
      · have hS : R = s := by rw [← hR]; exact (S_eq s _).2 he
        have HV : Hid (wordI s.data.toList = some i) := wordI_at hlt he HN.out
        subst hS
        clear he hR
        go_wp2
        go_ret2
        rw [HV.out]
        exact ⟨rfl, by rw [HW.out]; exact Below.refl _ _⟩
      · have hS : ¬ R = s := fun e => he ((S_eq s _).1 (hR.trans e))
        have HN2 : Hid (∀ j, j < i + 1 → wordL j ≠ s.data.toList) := fun j hj => by
          rcases Nat.lt_or_eq_of_le (Nat.lt_succ_iff.1 hj) with h3 | h3
          · exact HN.out j h3
          · rw [h3]; exact he
        have hSb : (R.toList == s.toList) = false := str_ne hS
        clear he hR hS
        go_wp2
        go_roundw
        case rel => exact ⟨i + 1, HJ.out, by go_num, HN2.out, HW.out⟩
        case measure => exact meas_i HJ.out
    · obtain rfl : i = 41 := by omega
      have HV : Hid (wordI s.data.toList = none) := wordI_no HN.out
      go_wp2
      go_ret2
      rw [HV.out]
      exact ⟨rfl, by rw [HW.out]; exact Below.refl _ _⟩
theorem encV_one (c : Nat) (hc : c ≤ 40) (x : Int) : encV [((c : Int), x)] = if loC c ≤ x ∧ x ≤ hiC c then (bytesI c x, 0, 0) else ([], 12, 0) := by
  unfold encV encG
  have := wd_cases c
  rw [if_neg (by omega), Int.toNat_natCast]
  by_cases h : loC c ≤ x ∧ x ≤ hiC c
  · rw [if_neg (Classical.not_not.2 h), if_neg (by simp; omega), if_pos h]
    rfl
  · rw [if_pos h, if_neg h]
    rfl
theorem sizeOf_any (c : Nat) (hc : c ≤ 40) (x : Int) {w : World} (hT : TabS w) : Calls Tryd.prog 64 #[.agg #[.int .i64 (c : Int), .int .i64 x]] w fun e w' => e = .returned (if loC c ≤ x ∧ x ≤ hiC c then .tuple #[.int .i64 ((1 + wdC c : Nat) : Int), .int .i64 0] else .tuple #[.int .i64 0, .int .i64 12]) ∧ Below w.heap.size w w' := by
  have hw2 : Below w.heap.size w ((w.alloc (.cells #[.int .i64 (c : Int), .int .i64 x] 53)).alloc (.cells #[.int .i64 (c : Int), .int .i64 x] 53)) := below_alloc (below_a1 _ _) _
  have hol : OLst ((w.alloc (.cells #[.int .i64 (c : Int), .int .i64 x] 53)).alloc (.cells #[.int .i64 (c : Int), .int .i64 x] 53)) (.slice (some ⟨w.heap.size + 1, 0, none⟩) 1 1) [((c : Int), x)] := by
    refine OLst.of_own (base := 0) ⟨rfl, Or.inr ⟨_, _, _, rfl, Nat.zero_le _, heap_alloc2_new _ _ _, Nat.le_refl _, by decide, rfl, rfl⟩⟩ (by simp)
  have HE : Hid (Calls Tryd.prog 14 #[.slice (some ⟨w.heap.size + 1, 0, none⟩) 1 1] ((w.alloc (.cells #[.int .i64 (c : Int), .int .i64 x] 53)).alloc (.cells #[.int .i64 (c : Int), .int .i64 x] 53)) fun e w' => e = .returned (.tuple #[.string (strOfNums (encV [((c : Int), x)]).1), .int .i64 (encV [((c : Int), x)]).2.1, .int .i64 (encV [((c : Int), x)]).2.2]) ∧ Below ((w.alloc (.cells #[.int .i64 (c : Int), .int .i64 x] 53)).alloc (.cells #[.int .i64 (c : Int), .int .i64 x] 53)).heap.size ((w.alloc (.cells #[.int .i64 (c : Int), .int .i64 x] 53)).alloc (.cells #[.int .i64 (c : Int), .int .i64 x] 53)) w') := enc_any (hT.later hw2).1 hol
  have HW2 : Hid (Below w.heap.size w ((w.alloc (.cells #[.int .i64 (c : Int), .int .i64 x] 53)).alloc (.cells #[.int .i64 (c : Int), .int .i64 x] 53))) := hw2
  rw [encV_one c hc x] at HE
  clear hol hw2 hT
  by_cases h : loC c ≤ x ∧ x ≤ hiC c
  · rw [if_pos h] at HE
    rw [if_pos h]
    simp only at HE
    have hsz : (strOfNums (bytesI c x)).size = 1 + wdC c := by rw [strOfNums_size, bytesI_len]
    generalize strOfNums (bytesI c x) = B at *
    generalize 1 + wdC c = n at *
    go_enter Tryd.func64, Tryd.ntmps64
    go_wp2_with fail
    refine HE.out.mono ?_
    rintro e w3 ⟨rfl, hb3⟩
    go_wp2
    go_ret2
    exact ⟨by simp, below_then HW2.out hb3⟩
  · rw [if_neg h] at HE
    rw [if_neg h]
    simp only at HE
    go_enter Tryd.func64, Tryd.ntmps64
    go_wp2_with fail
    refine HE.out.mono ?_
    rintro e w3 ⟨rfl, hb3⟩
    go_wp2
    go_ret2
    exact ⟨rfl, below_then HW2.out hb3⟩
def nuA : Option Int → Value
  | some v => .tuple #[.int .i64 v, .bool true]
  | none => .tuple #[.int .i64 0, .bool false]
theorem number_any (s : ByteArray) (hs : s.size ≤ 1000000000) {w : World} (hT : TabE w) : Calls Tryd.prog 79 #[.string s] w fun e w' => e = .returned (nuA (numV s.data.toList)) ∧ Below w.heap.size w w' := by
  obtain ⟨hT1, t1, p1, t2, p2, hv1, hv2⟩ := hT
  cases hp : Lib.parseIntB 64 s.data.toList with
  | ok v =>
    have hbd := Lib.parseIntB_bounds hp
    have hbd' : -9223372036854775808 ≤ v ∧ v ≤ 9223372036854775807 := by
      simp only [Nat.reduceSub, Nat.reducePow] at hbd
      omega
    have HPI : Hid (Calls Tryd.prog 86 #[.string s, .int .i64 10, .int .i64 64] w fun e w' => e = .returned (.tuple #[.int .i64 v, .nilIface]) ∧ Below w.heap.size w w') := (Tryd.strconv_ParseInt_10_at64_ok s (by omega) v hp w).mono (by
      rintro e w' ⟨rfl, hw⟩
      refine ⟨rfl, ?_⟩
      rcases hw with rfl | ⟨t, rfl⟩
      · exact Below.refl _ _
      · exact Lib.bytesWorld_below ..)
    have HFM : Hid (∀ w', Below w.heap.size w w' → Calls Tryd.prog 39 #[.int .i64 v, .int .i64 10] w' fun e w'' => e = .returned (.string (S (Lib.itoa v))) ∧ Below w'.heap.size w' w'') := fun w' hb => fmt_any _ hbd'.1 hbd'.2 (hT1.later hb)
    have HV : Hid (numV s.data.toList = if Lib.itoa v = s.data.toList then some v else none) := by rw [Hid, numV, hp]
    obtain ⟨R, hR⟩ : ∃ R, S (Lib.itoa v) = R := ⟨_, rfl⟩
    rw [hR] at HFM
    clear hp hbd hbd' hT1 hv1 hv2
    by_cases he : Lib.itoa v = s.data.toList
    · have hS : R = s := by rw [← hR]; exact (S_eq s _).2 he
      have HV2 : Hid (numV s.data.toList = some v) := by rw [Hid, HV.out, if_pos he]
      rw [HV2.out]
      subst hS
      clear he hR HV
      go_enter Tryd.func79, Tryd.ntmps79
      go_wp2_with fail
      refine HPI.out.mono ?_
      rintro e w1 ⟨rfl, hb1⟩
      go_wp2_with fail
      refine (HFM.out _ hb1).mono ?_
      rintro e w2 ⟨rfl, hb2⟩
      go_wp2
      go_ret2
      exact ⟨rfl, below_then hb1 hb2⟩
    · have hSb : (R.toList == s.toList) = false := str_ne (fun e => he ((S_eq s _).1 (hR.trans e)))
      have hSb2 : (R.toList != s.toList) = true := by simp [bne, hSb]
      have HV2 : Hid (numV s.data.toList = none) := by rw [Hid, HV.out, if_neg he]
      rw [HV2.out]
      clear he hR HV
      go_enter Tryd.func79, Tryd.ntmps79
      go_wp2_with fail
      refine HPI.out.mono ?_
      rintro e w1 ⟨rfl, hb1⟩
      go_wp2_with fail
      refine (HFM.out _ hb1).mono ?_
      rintro e w2 ⟨rfl, hb2⟩
      go_wp2
      go_ret2
      exact ⟨rfl, below_then hb1 hb2⟩
  | «syntax» =>
    have HV : Hid (numV s.data.toList = none) := by rw [Hid, numV, hp]
    have HPI : Hid (Calls Tryd.prog 86 #[.string s, .int .i64 10, .int .i64 64] w fun e w' => ∃ N, e = .returned (.tuple #[.int .i64 0, .iface 146 (.pointer (some ⟨N, 0, none⟩))]) ∧ Below w.heap.size w w') := (Tryd.strconv_ParseInt_10_at64_syntax_var s (by omega) hp t1 p1 w hv1).mono (by
      rintro e w' ⟨N, rfl, _, _, hb⟩
      exact ⟨N, rfl, hb⟩)
    clear hp hT1 hv1 hv2
    rw [HV.out]
    go_enter Tryd.func79, Tryd.ntmps79
    go_wp2_with fail
    refine HPI.out.mono ?_
    rintro e w1 ⟨N, rfl, hb1⟩
    go_wp2
    go_ret2
    exact ⟨rfl, hb1⟩
  | range =>
    have HV : Hid (numV s.data.toList = none) := by rw [Hid, numV, hp]
    have HPI : Hid (Calls Tryd.prog 86 #[.string s, .int .i64 10, .int .i64 64] w fun e w' => ∃ N, e = .returned (.tuple #[.int .i64 (Lib.intSat 64 s.data.toList), .iface 146 (.pointer (some ⟨N, 0, none⟩))]) ∧ Below w.heap.size w w') := (Tryd.strconv_ParseInt_10_at64_range_var s (by omega) hp t2 p2 w hv2).mono (by
      rintro e w' ⟨N, rfl, _, _, hb⟩
      exact ⟨N, rfl, hb⟩)
    clear hp hT1 hv1 hv2
    rw [HV.out]
    generalize Lib.intSat 64 s.data.toList = z at *
    go_enter Tryd.func79, Tryd.ntmps79
    go_wp2_with fail
    refine HPI.out.mono ?_
    rintro e w1 ⟨N, rfl, hb1⟩
    go_wp2
    go_ret2
    exact ⟨rfl, hb1⟩
end Go.Proofs.YtbjopdmchmekpaaDoor
