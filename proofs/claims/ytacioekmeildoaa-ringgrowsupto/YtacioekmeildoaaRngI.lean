/- The document's newest stamp, first stamp, head, signature, and Complete. -/
import Derived.Test.YtacioekmeildoaaRngH
import Derived.Test.YtacioekmeildoaaRefC
namespace Go.Proofs.Ytacioekmeildoaa
open Go.ChangeShapes Go.WideShapes Go.ChangeAt Go.RowKit
attribute [local go_sem ↓] Go.wp_at_zero Go.wp_at_succ

/-- Every word fits. -/
def Bd (f : Ad → Int) : Prop := ∀ a, -9223372036854775808 ≤ f a ∧ f a ≤ 9223372036854775807

theorem rnewest_any {w : World} {base : Nat} {p : Value} {c r : Nat} {L : List Ac} {F : List Nat} (h : RefAt w base p c r L F) (hL : L.length ≤ 2199023255552) :
    Calls Try.prog 35 #[p] w fun e w' => e = .returned (.int .i64 (wordOf L ⟨1, 0, 0⟩)) ∧ Below w.heap.size w w' := by
  have HP : Hid (Calls Try.prog 43 #[p, .agg #[.int .i64 1, .int .i64 0, .int .i64 0]] w fun e w'' => e = .returned (.int .i64 (wordOf L ⟨1, 0, 0⟩)) ∧ Below w.heap.size w w'') := rword_any h hL ⟨1, 0, 0⟩
  obtain ⟨M, rfl⟩ := h.ptr
  clear h hL
  go_enter Try.func35, Try.ntmps35
  go_wp2_with fail
  refine HP.out.mono ?_
  rintro e w1 ⟨rfl, hb1⟩
  have HB : Hid (Below w.heap.size w w1) := hb1
  clear hb1
  go_wp2
  go_ret
  exact ⟨rfl, HB.out⟩

theorem RefAt.size {w : World} {base : Nat} {p : Value} {c r : Nat} {L : List Ac} {F : List Nat} (h : RefAt w base p c r L F) : ∃ M, p = .pointer (some ⟨M, 0, none⟩) ∧ M < w.heap.size ∧ w.cell? ⟨M, 1, none⟩ = some (.int .i64 (r : Int)) := by
  obtain ⟨R, v, h⟩ := h
  exact ⟨R, h.p, heap_lt h.m, by rw [cell_at h.m]; rfl⟩

theorem rfirst_any {w : World} {base : Nat} {p : Value} {c r : Nat} {L : List Ac} {F : List Nat} (h : RefAt w base p c r L F) (hL : L.length ≤ 2199023255552) (hN : wordOf L ⟨1, 0, 0⟩ ≤ 9223372036854775807) :
    Calls Try.prog 44 #[p] w fun e w' => e = .returned (.int .i64 (beforeV (wordOf L) r)) ∧ Below w.heap.size w w' := by
  have HP : Hid (Calls Try.prog 35 #[p] w fun e w'' => e = .returned (.int .i64 (wordOf L ⟨1, 0, 0⟩)) ∧ Below w.heap.size w w'') := rnewest_any h hL
  obtain ⟨M, rfl, hM, hc1⟩ := h.size
  clear h hL
  unfold beforeV lastV
  generalize wordOf L ⟨1, 0, 0⟩ = z at *
  by_cases hz : z ≤ (r : Int)
  · have HE : Hid (max (max z 0 - (r : Int)) 0 = 0) := by rw [Hid]; omega
    have hd : decide (z ≤ (r : Int)) = true := decide_eq_true hz
    rw [HE.out]
    clear HE hz hN
    go_enter Try.func44, Try.ntmps44
    go_wp2_with fail
    refine HP.out.mono ?_
    rintro e w1 ⟨rfl, hb1⟩
    have HB : Hid (Below w.heap.size w w1) := hb1
    have hc2 := cell_later hb1 hM hc1
    clear hb1 hc1
    go_wp2
    go_ret
    exact ⟨rfl, HB.out⟩
  · have HE : Hid (max (max z 0 - (r : Int)) 0 = wrap64 (z - (r : Int))) := by rw [Hid]; unfold wrap64; omega
    have hd : decide (z ≤ (r : Int)) = false := decide_eq_false hz
    rw [HE.out]
    clear HE hz hN
    go_enter Try.func44, Try.ntmps44
    go_wp2_with fail
    refine HP.out.mono ?_
    rintro e w1 ⟨rfl, hb1⟩
    have HB : Hid (Below w.heap.size w w1) := hb1
    have hc2 := cell_later hb1 hM hc1
    clear hb1 hc1
    go_wp2
    go_ret
    exact ⟨rfl, HB.out⟩

theorem rheadw_any {w : World} {base : Nat} {p : Value} {c r : Nat} {L : List Ac} {F : List Nat} (h : RefAt w base p c r L F) (hL : L.length ≤ 2199023255552) (st : Int) :
    Calls Try.prog 45 #[p, .int .i64 st] w fun e w' => e = .returned (.int .i64 (headV' (wordOf L) r st)) ∧ Below w.heap.size w w' := by
  have HP : Hid (Calls Try.prog 43 #[p, .agg #[.int .i64 2, .int .i64 (slotV st r), .int .i64 0]] w fun e w'' => e = .returned (.int .i64 (headV' (wordOf L) r st)) ∧ Below w.heap.size w w'') := rword_any h hL ⟨2, slotV st r, 0⟩
  obtain ⟨M, rfl, hM, hc1⟩ := h.size
  clear h hL
  generalize headV' (wordOf L) r st = z at *
  go_enter Try.func45, Try.ntmps45
  go_wp2_with fail
  refine (rslot_any _ _ _).mono ?_
  rintro e wx ⟨rfl, hx⟩
  rw [hx]
  clear hx wx
  go_wp2_with fail
  refine HP.out.mono ?_
  rintro e w1 ⟨rfl, hb1⟩
  have HB : Hid (Below w.heap.size w w1) := hb1
  clear hb1
  go_wp2
  go_ret
  exact ⟨rfl, HB.out⟩

set_option maxRecDepth 10000 in
set_option maxHeartbeats 1600000 in
theorem rsig_any {w : World} {base : Nat} {p : Value} {c r : Nat} {L : List Ac} {F : List Nat} (h : RefAt w base p c r L F) (hL : L.length ≤ 2199023255552) (st : Int) :
    Calls Try.prog 46 #[p, .int .i64 st] w fun e w' => e = .returned (.agg (sgC (sgV (wordOf L) (slotV st r)))) ∧ Below w.heap.size w w' := by
  have HP : Hid (∀ (w' : World) (j : Nat), Below w.heap.size w w' → Calls Try.prog 43 #[p, .agg #[.int .i64 3, .int .i64 (slotV st r), .int .i64 (j : Int)]] w' fun e w'' => e = .returned (.int .i64 (wordOf L ⟨3, slotV st r, j⟩)) ∧ Below w'.heap.size w' w'') := fun w' j hb => rword_any (h.below hb) hL ⟨3, slotV st r, j⟩
  obtain ⟨M, rfl, hM, hc1⟩ := h.size
  clear h hL
  have HG : Hid (∀ j : Nat, sgV (wordOf L) (slotV st r) (j : Int) = IntKind.u64.wrap (wordOf L ⟨3, slotV st r, j⟩)) := fun _ => rfl
  generalize sgV (wordOf L) (slotV st r) = g at *
  have HN : Hid (∀ w : World, ((w.alloc (.cells (sgC fun _ => 0) 54)).alloc (.cells (sgC fun _ => 0) 54)).heap[w.heap.size]? = some (.cells (sgC fun _ => 0) 54 (0, 0)) ∧ ((w.alloc (.cells (sgC fun _ => 0) 54)).alloc (.cells (sgC fun _ => 0) 54)).heap[w.heap.size + 1]? = some (.cells (sgC fun _ => 0) 54 (0, 0))) := fun w => ⟨heap_alloc2_old _ _ _, heap_alloc2_new _ _ _⟩
  go_enter Try.func46, Try.ntmps46
  go_wp2_with fail
  refine (rslot_any _ _ _).mono ?_
  rintro e wx ⟨rfl, hx⟩
  rw [hx]
  clear hx wx
  generalize slotV st r = sl at *
  go_wp2
  go_loopw [7] (fun i wr => ∃ j : Nat, j ≤ 8 ∧ i = .int .i64 j ∧ wr.heap[w.heap.size]? = some (.cells (sgC fun _ => 0) 54 (0, 0)) ∧ wr.heap[w.heap.size + 1]? = some (.cells (sgC fun q => if q < (j : Int) then g q else 0) 54 (0, 0)) ∧ Below w.heap.size w wr) (fun i _ => 8 - (intOf i).toNat)
  case atStart => exact ⟨0, by omega, rfl, (HN.out w).1, (HN.out w).2, below_alloc (below_a1 _ _) _⟩
  case round =>
    obtain ⟨j, hj, rfl, hr0, hr1, hbel⟩ := hrel
    have HR : Hid (wr.heap[w.heap.size]? = some (.cells (sgC fun _ => 0) 54 (0, 0)) ∧ wr.heap[w.heap.size + 1]? = some (.cells (sgC fun q => if q < (j : Int) then g q else 0) 54 (0, 0))) := ⟨hr0, hr1⟩
    have HL : Hid (Below w.heap.size w wr) := hbel
    clear hr0 hr1 hbel
    by_cases hlt : j < 8
    · have hd : decide ((j : Int) < 8) = true := by simp; omega
      have HP2 : Hid (Calls Try.prog 43 #[.pointer (some ⟨M, 0, none⟩), .agg #[.int .i64 3, .int .i64 sl, .int .i64 (j : Int)]] wr fun e w'' => e = .returned (.int .i64 (wordOf L ⟨3, sl, j⟩)) ∧ Below wr.heap.size wr w'') := HP.out wr j HL.out
      go_wp2_with fail
      refine HP2.out.mono ?_
      rintro e w1 ⟨rfl, hb1⟩
      have HR1 : Hid (w1.heap[w.heap.size]? = some (.cells (sgC fun _ => 0) 54 (0, 0)) ∧ w1.heap[w.heap.size + 1]? = some (.cells (sgC fun q => if q < (j : Int) then g q else 0) 54 (0, 0))) := ⟨row_later HR.out.1 hb1, row_later HR.out.2 hb1⟩
      have HL1 : Hid (Below w.heap.size w w1) := below_then HL.out hb1
      clear hb1
      have hc1 : w1.cell? ⟨w.heap.size + 1, j, none⟩ = some (.int .u64 0) := by rw [cell_at HR1.out.2, sgC_get _ j hlt]; simp
      have hf1 : w1.frozen? ⟨w.heap.size + 1, j, none⟩ = false := frozen_at HR1.out.2 j
      go_wp2
      go_roundw
      case rel => exact ⟨j + 1, by omega, by go_num, by rw [heap_set_other _ _ (by omega)]; exact HR1.out.1, by rw [heap_set HR1.out.2]; rw [← sgC_set g j hlt, HG.out j], below_setCell HL1.out _ (by simp) _⟩
      case measure => simp [intOf]; omega
    · have e : j = 8 := by omega
      subst e
      have hr1 := HR.out.2
      rw [sgC_all] at hr1
      have hz := sgC_size g
      have h1 := sgC_one g
      generalize hcs : sgC g = cs at hr1 hz h1
      have HCS : Hid (sgC g = cs) := hcs
      clear hcs
      have hpk := pack8 cs hz
      have hl3 := row_cells8 hr1 hz
      have hst := store_row (P := Try.prog) HR.out.1 (by rw [hz, sgC_size]) h1
      clear hr1
      go_wp2
      exact ret_sig rfl rfl (setRow_heap _ _ _ _ _ _ HR.out.1) hz rfl ⟨by rw [HCS.out], below_setRow HL.out _ (by omega) _⟩

/-! ### Complete -/
theorem markV_over {h st : Int} : markV h st = 3 ↔ overV h st = true := by
  unfold markV
  cases overV h st
  · cases laidV h st <;> simp
  · simp
theorem cnt_all {f : Ad → Int} {r : Int} (h : okS ((entsV f r).take (manyV f r))) : cntV f r = manyV f r := by
  rw [List.take_of_length_le (by rw [entsV_len]; exact Nat.le_refl _)] at h
  unfold cntV
  rw [takeWhile_whole h, entsV_len]
theorem cnt_stop {f : Ad → Int} {r : Int} {k : Nat} (hk : k < manyV f r) (h : okS ((entsV f r).take k)) (hx : (entryV f r (beforeV f r + 1 + k)).m ≠ 3) : cntV f r = k := by
  unfold cntV
  rw [takeWhile_split (q := (entsV f r).take k) (x := entryV f r (beforeV f r + 1 + k)) (by
    rw [show (entsV f r).take k ++ [entryV f r (beforeV f r + 1 + k)] = (entsV f r).take (k + 1) from (take_map_range (fun i => entryV f r (beforeV f r + 1 + i)) (manyV f r) k hk).symm]
    exact List.take_prefix _ _) h hx]
  simp [entsV_len]
  omega
theorem ok_next {f : Ad → Int} {r : Int} {k : Nat} (hk : k < manyV f r) (h : okS ((entsV f r).take k)) (hx : (entryV f r (beforeV f r + 1 + k)).m = 3) : okS ((entsV f r).take (k + 1)) := by
  rw [show (entsV f r).take (k + 1) = (entsV f r).take k ++ [entryV f r (beforeV f r + 1 + k)] from take_map_range (fun i => entryV f r (beforeV f r + 1 + i)) (manyV f r) k hk]
  exact okS_snoc h hx

set_option maxRecDepth 10000 in
set_option maxHeartbeats 1600000 in
theorem rcomplete_any {w : World} {base : Nat} {p : Value} {c r : Nat} {L : List Ac} {F : List Nat} (h : RefAt w base p c r L F) (hL : L.length ≤ 2199023255552) (hW : Bd (wordOf L)) :
    Calls Try.prog 36 #[p] w fun e w' => e = .returned (.int .i64 (completeV (wordOf L) r)) ∧ Below w.heap.size w w' := by
  have HNW : Hid (Calls Try.prog 35 #[p] w fun e w'' => e = .returned (.int .i64 (wordOf L ⟨1, 0, 0⟩)) ∧ Below w.heap.size w w'') := rnewest_any h hL
  have HFI : Hid (∀ w', Below w.heap.size w w' → Calls Try.prog 44 #[p] w' fun e w'' => e = .returned (.int .i64 (beforeV (wordOf L) r)) ∧ Below w'.heap.size w' w'') := fun w' hb => rfirst_any (h.below hb) hL (hW _).2
  have HHE : Hid (∀ w' st, Below w.heap.size w w' → Calls Try.prog 45 #[p, .int .i64 st] w' fun e w'' => e = .returned (.int .i64 (headV' (wordOf L) r st)) ∧ Below w'.heap.size w' w'') := fun w' st hb => rheadw_any (h.below hb) hL st
  have HOV : Hid (∀ st w', Calls Try.prog 11 #[.int .i64 (headV' (wordOf L) r st), .int .i64 st] w' fun e w'' => e = .returned (.bool (overV (headV' (wordOf L) r st) st)) ∧ w'' = w') := fun st w' => rover_any _ _ (hW _).1 (hW _).2 w'
  obtain ⟨M, rfl, hM, hc1⟩ := h.size
  have hmax := (hW ⟨1, 0, 0⟩).2
  clear h hL hW hM hc1
  have hla : lastV (wordOf L) = max (wordOf L ⟨1, 0, 0⟩) 0 := rfl
  have hbe : 0 ≤ beforeV (wordOf L) r ∧ beforeV (wordOf L) r ≤ lastV (wordOf L) := by unfold beforeV lastV; omega
  have hmm : (manyV (wordOf L) r : Int) = lastV (wordOf L) - beforeV (wordOf L) r := by unfold manyV; omega
  have hle := cntV_le (wordOf L) r
  by_cases hz : wordOf L ⟨1, 0, 0⟩ < 1
  · have HE : Hid (completeV (wordOf L) r = 0) := by unfold completeV; rw [Hid]; omega
    have hd : decide (wordOf L ⟨1, 0, 0⟩ < 1) = true := decide_eq_true hz
    rw [HE.out]
    generalize wordOf L ⟨1, 0, 0⟩ = z at *
    clear hla hmm hz hbe hle HE
    go_enter Try.func36, Try.ntmps36
    go_wp2_with fail
    refine HNW.out.mono ?_
    rintro e w1 ⟨rfl, hb1⟩
    have HB : Hid (Below w.heap.size w w1) := hb1
    clear hb1
    go_wp2
    go_ret
    exact ⟨rfl, HB.out⟩
  · have hd : decide (wordOf L ⟨1, 0, 0⟩ < 1) = false := decide_eq_false hz
    have HA : Hid (okS ((entsV (wordOf L) r).take (manyV (wordOf L) r)) → cntV (wordOf L) r = manyV (wordOf L) r) := cnt_all
    have HSt : Hid (∀ k, k < manyV (wordOf L) r → okS ((entsV (wordOf L) r).take k) → overV (headV' (wordOf L) r (beforeV (wordOf L) r + 1 + k)) (beforeV (wordOf L) r + 1 + k) = false → cntV (wordOf L) r = k) := fun k hk ho hx => cnt_stop hk ho (fun e => by rw [markV_over.mp e] at hx; cases hx)
    have HNx : Hid (∀ k, k < manyV (wordOf L) r → okS ((entsV (wordOf L) r).take k) → overV (headV' (wordOf L) r (beforeV (wordOf L) r + 1 + k)) (beforeV (wordOf L) r + 1 + k) = true → okS ((entsV (wordOf L) r).take (k + 1))) := fun k hk ho hx => ok_next hk ho (markV_over.mpr hx)
    unfold completeV
    have hzn : wordOf L ⟨1, 0, 0⟩ = beforeV (wordOf L) r + (manyV (wordOf L) r : Int) := by omega
    rw [hzn] at HNW hd hmax
    clear hla hzn hz hmm hle
    have hbe0 := hbe.1
    clear hbe
    generalize beforeV (wordOf L) r = be at *
    generalize manyV (wordOf L) r = mm at *
    generalize hcn : cntV (wordOf L) r = cn at *
    have HZ : Hid (okS ((entsV (wordOf L) r).take 0)) := fun e he => by simp at he
    go_enter Try.func36, Try.ntmps36
    go_wp2_with fail
    refine HNW.out.mono ?_
    rintro e w1 ⟨rfl, hb1⟩
    have HB : Hid (Below w.heap.size w w1) := hb1
    clear hb1
    go_wp2_with fail
    refine (HFI.out _ HB.out).mono ?_
    rintro e w2 ⟨rfl, hb2⟩
    have HB2 : Hid (Below w.heap.size w w2) := below_then HB.out hb2
    clear hb2
    go_wp2
    go_loopw [4] (fun cv wr => ∃ k : Nat, k ≤ mm ∧ cv = .int .i64 (be + k) ∧ okS ((entsV (wordOf L) r).take k) ∧ Below w.heap.size w wr) (fun cv _ => (be + mm - intOf cv).toNat)
    case atStart => exact ⟨0, by omega, by simp, HZ.out, HB2.out⟩
    case round =>
      obtain ⟨k, hk, rfl, ho, hb⟩ := hrel
      have HO : Hid (okS ((entsV (wordOf L) r).take k)) := ho
      have HL : Hid (Below w.heap.size w wr) := hb
      clear ho hb
      by_cases hlt : k < mm
      · have hd2 : decide (be + (k : Int) < be + (mm : Int)) = true := by simp; omega
        have hw : wrap64 (be + (k : Int) + 1) = be + 1 + (k : Int) := by unfold wrap64; omega
        have hw' : be + (k : Int) + 1 = be + 1 + (k : Int) := by omega
        have HHE2 : Hid (Calls Try.prog 45 #[.pointer (some ⟨M, 0, none⟩), .int .i64 (be + 1 + (k : Int))] wr fun e w'' => e = .returned (.int .i64 (headV' (wordOf L) r (be + 1 + (k : Int)))) ∧ Below wr.heap.size wr w'') := HHE.out wr _ HL.out
        have HOV2 : Hid (∀ w', Calls Try.prog 11 #[.int .i64 (headV' (wordOf L) r (be + 1 + (k : Int))), .int .i64 (be + 1 + (k : Int))] w' fun e w'' => e = .returned (.bool (overV (headV' (wordOf L) r (be + 1 + (k : Int))) (be + 1 + (k : Int)))) ∧ w'' = w') := HOV.out _
        have HS2 := HSt.out k hlt HO.out
        have HN2 := HNx.out k hlt HO.out
        generalize headV' (wordOf L) r (be + 1 + (k : Int)) = hh at *
        cases hov : overV hh (be + 1 + (k : Int))
        · have HCN : Hid (cn = k) := HS2 hov
          clear HS2 HN2
          go_wp2_with fail
          refine HHE2.out.mono ?_
          rintro e w3 ⟨rfl, hb3⟩
          have HB3 : Hid (Below w.heap.size w w3) := below_then HL.out hb3
          clear hb3
          go_wp2_with fail
          refine (HOV2.out _).mono ?_
          rintro e wx ⟨rfl, hx⟩
          rw [hx, hov]
          clear hx wx
          go_wp2
          go_ret
          exact ⟨by rw [HCN.out]; rfl, HB3.out⟩
        · have HO2 : Hid (okS ((entsV (wordOf L) r).take (k + 1))) := HN2 hov
          clear HS2 HN2
          go_wp2_with fail
          refine HHE2.out.mono ?_
          rintro e w3 ⟨rfl, hb3⟩
          have HB3 : Hid (Below w.heap.size w w3) := below_then HL.out hb3
          clear hb3
          go_wp2_with fail
          refine (HOV2.out _).mono ?_
          rintro e wx ⟨rfl, hx⟩
          rw [hx, hov]
          clear hx wx
          go_wp2
          go_roundw
          case rel => exact ⟨k + 1, by omega, by go_num, HO2.out, HB3.out⟩
          case measure => simp [intOf]; omega
      · have e : k = mm := by omega
        subst e
        have HCN : Hid (cn = k) := HA.out HO.out
        go_wp2
        go_ret
        exact ⟨by rw [HCN.out]; rfl, HL.out⟩
end Go.Proofs.Ytacioekmeildoaa
