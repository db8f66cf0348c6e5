/- What the ring's words say, in the program: a signature, an entry. -/
import Derived.Test.YtacioekmeildoaaRngC
namespace Go.Proofs.Ytacioekmeildoaa
open Go.ChangeShapes Go.WideShapes Go.ChangeAt Go.RowKit
attribute [local go_sem ↓] Go.wp_at_zero Go.wp_at_succ

theorem row_cells8 {w : World} {b : Nat} {cs : Array Value} {t : TypeId} (h : w.heap[b]? = some (.cells cs t (0, 0))) (hz : cs.size = 8) :
    w.cell? ⟨b, 0, none⟩ = some (cs[0]'(by omega)) ∧ w.cell? ⟨b, 1, none⟩ = some (cs[1]'(by omega)) ∧ w.cell? ⟨b, 2, none⟩ = some (cs[2]'(by omega)) ∧ w.cell? ⟨b, 3, none⟩ = some (cs[3]'(by omega)) ∧
    w.cell? ⟨b, 4, none⟩ = some (cs[4]'(by omega)) ∧ w.cell? ⟨b, 5, none⟩ = some (cs[5]'(by omega)) ∧ w.cell? ⟨b, 6, none⟩ = some (cs[6]'(by omega)) ∧ w.cell? ⟨b, 7, none⟩ = some (cs[7]'(by omega)) := by
  refine ⟨?_, ?_, ?_, ?_, ?_, ?_, ?_, ?_⟩ <;> (rw [cell_at h]; simp [hz])

set_option maxRecDepth 10000 in
set_option maxHeartbeats 1600000 in
theorem sigOf_any {w : World} {base : Nat} {p : Value} {c r : Nat} {L : List Ac} {F : List Nat} (h : MemAt w base p c r L F) (sl : Int) (h0 : 0 ≤ sl) (h1 : sl < (r : Int)) :
    Calls Try.prog 53 #[p, .int .i64 sl] w fun e w' => e = .returned (.agg (sgC (sgV (wordOf L) sl))) ∧ Below w.heap.size w w' := by
  have HP : Hid (∀ (w' : World) (j : Nat), Below w.heap.size w w' → j < 8 → Calls Try.prog 39 #[p, .agg #[.int .i64 3, .int .i64 sl, .int .i64 (j : Int)]] w' fun e w'' => e = .returned (.int .i64 (wordOf L ⟨3, sl, j⟩)) ∧ Below w'.heap.size w' w'') := fun w' j hb hj => by
    have := rpk_any (h.below hb) ⟨3, sl, j⟩
    rw [if_pos (isAd_sig c r sl j h0 h1 (by omega) (by omega))] at this
    exact this
  obtain ⟨M, H, S, C, v, h⟩ := h
  obtain rfl := h.p
  clear h h0 h1
  have HG : Hid (∀ j : Nat, sgV (wordOf L) sl (j : Int) = IntKind.u64.wrap (wordOf L ⟨3, sl, j⟩)) := fun _ => rfl
  generalize sgV (wordOf L) sl = g at *
  have HN : Hid (∀ w : World, ((w.alloc (.cells (sgC fun _ => 0) 54)).alloc (.cells (sgC fun _ => 0) 54)).heap[w.heap.size]? = some (.cells (sgC fun _ => 0) 54 (0, 0)) ∧ ((w.alloc (.cells (sgC fun _ => 0) 54)).alloc (.cells (sgC fun _ => 0) 54)).heap[w.heap.size + 1]? = some (.cells (sgC fun _ => 0) 54 (0, 0))) := fun w => ⟨heap_alloc2_old _ _ _, heap_alloc2_new _ _ _⟩
  go_enter Try.func53, Try.ntmps53
  go_wp2
  go_loopw [7] (fun i wr => ∃ j : Nat, j ≤ 8 ∧ i = .int .i64 j ∧ wr.heap[w.heap.size]? = some (.cells (sgC fun _ => 0) 54 (0, 0)) ∧ wr.heap[w.heap.size + 1]? = some (.cells (sgC fun q => if q < (j : Int) then g q else 0) 54 (0, 0)) ∧ Below w.heap.size w wr) (fun i _ => 8 - (intOf i).toNat)
  case atStart => exact ⟨0, by omega, rfl, (HN.out w).1, (HN.out w).2, below_alloc (below_a1 _ _) _⟩
  case round =>
    obtain ⟨j, hj, rfl, hr0, hr1, hbel⟩ := hrel
    have HR : Hid (wr.heap[w.heap.size]? = some (.cells (sgC fun _ => 0) 54 (0, 0)) ∧ wr.heap[w.heap.size + 1]? = some (.cells (sgC fun q => if q < (j : Int) then g q else 0) 54 (0, 0))) := ⟨hr0, hr1⟩
    have HL : Hid (Below w.heap.size w wr) := hbel
    clear hr0 hr1 hbel
    by_cases hlt : j < 8
    · have hd : decide ((j : Int) < 8) = true := by simp; omega
      have HP' := HP.out wr j HL.out hlt
      have HP2 : Hid (Calls Try.prog 39 #[.pointer (some ⟨M, 0, none⟩), .agg #[.int .i64 3, .int .i64 sl, .int .i64 (j : Int)]] wr fun e w'' => e = .returned (.int .i64 (wordOf L ⟨3, sl, j⟩)) ∧ Below wr.heap.size wr w'') := HP'
      clear HP'
      go_wp2_with fail
      refine HP2.out.mono ?_
      rintro e w1 ⟨rfl, hb1⟩
      have HR1 : Hid (w1.heap[w.heap.size]? = some (.cells (sgC fun _ => 0) 54 (0, 0)) ∧ w1.heap[w.heap.size + 1]? = some (.cells (sgC fun q => if q < (j : Int) then g q else 0) 54 (0, 0))) := ⟨row_later HR.out.1 hb1, row_later HR.out.2 hb1⟩
      have HL1 : Hid (Below w.heap.size w w1) := below_then HL.out hb1
      clear hb1
      have hc1 : w1.cell? ⟨w.heap.size + 1, j, none⟩ = some (.int .u64 0) := by rw [cell_at HR1.out.2, sgC_get _ j hlt]; simp
      have hf1 : w1.frozen? ⟨w.heap.size + 1, j, none⟩ = false := frozen_at HR1.out.2 j
      go_wp2
      go_roundw
      case rel => exact ⟨j + 1, by omega, by go_num, by rw [heap_set_other _ _ (by omega)]; exact HR1.out.1, by rw [heap_set HR1.out.2]; rw [← sgC_set g j hlt, HG.out j], below_setCell HL1.out _ (by simp) _⟩
      case measure => simp [intOf]; omega
    · have e : j = 8 := by omega
      subst e
      have hr1 := HR.out.2
      rw [sgC_all] at hr1
      have hz := sgC_size g
      have h1 := sgC_one g
      have HGG : Hid (sgC g = sgC g) := rfl
      generalize hcs : sgC g = cs at hr1 hz h1
      have HCS : Hid (sgC g = cs) := hcs
      clear hcs HGG
      have hpk := pack8 cs hz
      have hl3 := row_cells8 hr1 hz
      have hst := store_row (P := Try.prog) HR.out.1 (by rw [hz, sgC_size]) h1
      clear hr1
      go_wp2
      exact ret_sig rfl rfl (setRow_heap _ _ _ _ _ _ HR.out.1) hz rfl ⟨by rw [HCS.out], below_setRow HL.out _ (by omega) _⟩

/-! ### an entry -/
theorem storeCells_off (g o : Nat) : ∀ (vs : List Value) (i : Nat), storeCells ⟨g, o, none⟩ vs i = storeCells ⟨g, 0, none⟩ vs (o + i)
  | [], i => by simp [storeCells]
  | v :: rest, i => by
    have e : (⟨g, o, none⟩ : Addr).add i = (⟨g, 0, none⟩ : Addr).add (o + i) := by
      unfold Addr.add
      by_cases h : i = 0
      · subst h
        by_cases h' : o = 0
        · subst h'; simp
        · simp [h']
      · simp [h]
    simp only [storeCells]
    rw [e, storeCells_off g o rest (i + 1), Nat.add_assoc]
/-- The signature of an entry is laid into its cells. -/
theorem store_sg {P : Program} {w : World} {b : Nat} {t : TypeId} {st m : Int} {g0 g : Int → Int} (h : w.heap[b]? = some (.cells (enC ⟨st, m, g0⟩) t (0, 0))) {cs : Array Value} (hcs : cs = sgC g) : (storeCells ⟨b, 2, none⟩ cs.toList 0).run P w = .ok () (w.setRow b (enC ⟨st, m, g⟩)) := by
  subst hcs
  rw [storeCells_off, run_storeCells_from b t (sgC g).toList 2 _ w h (by simp [sgC_size, enC_size]) (fun v hv => (Array.all_eq_true_iff_forall_mem.1 (sgC_one g)) v (by simpa using hv))]
  rfl
theorem ret_ent {fn : Func} {p : Tmp} {R : Ending → World → Prop} {a : Act} {w : World} {g : Nat} {cs : Array Value} (h : fn.results = #[.cell p 56]) (hp : a.tmps.getD p undef = .pointer (some ⟨g, 0, none⟩))
    (hg : w.heap[g]? = some (.cells cs 56 (0, 0))) (hz : cs.size = 10) (hd : a.defers = []) (hR : R (.returned (.agg cs)) w) : bodyPost Try.prog fn R .ret a w :=
  bodyPost_ret (results_cell_row h _ _ g 56 cs (0, 0) _ hp hg Try.underlying56 rfl (by rw [hz]; kernel_rfl)) hd hR
theorem pack10 (cs : Array Value) (h : cs.size = 10) : #[cs[0]'(by omega), cs[1]'(by omega), cs[2]'(by omega), cs[3]'(by omega), cs[4]'(by omega), cs[5]'(by omega), cs[6]'(by omega), cs[7]'(by omega), cs[8]'(by omega), cs[9]'(by omega)] = cs := by
  apply Array.ext (by simp [h])
  intro i h1 h2
  have hi : i < 10 := by simpa using h1
  rcases i with _ | _ | _ | _ | _ | _ | _ | _ | _ | _ | i
  all_goals first
    | rfl
    | omega
theorem row_cells10 {w : World} {b : Nat} {cs : Array Value} {t : TypeId} (h : w.heap[b]? = some (.cells cs t (0, 0))) (hz : cs.size = 10) :
    w.cell? ⟨b, 0, none⟩ = some (cs[0]'(by omega)) ∧ w.cell? ⟨b, 1, none⟩ = some (cs[1]'(by omega)) ∧ w.cell? ⟨b, 2, none⟩ = some (cs[2]'(by omega)) ∧ w.cell? ⟨b, 3, none⟩ = some (cs[3]'(by omega)) ∧
    w.cell? ⟨b, 4, none⟩ = some (cs[4]'(by omega)) ∧ w.cell? ⟨b, 5, none⟩ = some (cs[5]'(by omega)) ∧ w.cell? ⟨b, 6, none⟩ = some (cs[6]'(by omega)) ∧ w.cell? ⟨b, 7, none⟩ = some (cs[7]'(by omega)) ∧
    w.cell? ⟨b, 8, none⟩ = some (cs[8]'(by omega)) ∧ w.cell? ⟨b, 9, none⟩ = some (cs[9]'(by omega)) := by
  refine ⟨?_, ?_, ?_, ?_, ?_, ?_, ?_, ?_, ?_, ?_⟩ <;> (rw [cell_at h]; simp [hz])

set_option maxRecDepth 10000 in
set_option maxHeartbeats 1600000 in
theorem entryOf_any {w : World} {base : Nat} {p : Value} {c r : Nat} {L : List Ac} {F : List Nat} (h : MemAt w base p c r L F) (hr0 : 1 ≤ r) (hr : r ≤ 16) (st : Int) :
    Calls Try.prog 50 #[p, .int .i64 st] w fun e w' => e = .returned (.agg (enC (entryV (wordOf L) r st))) ∧ Below w.heap.size w w' := by
  have hok : sizeOk (r : Int) = true := sizeOk_iff.mpr ⟨by omega, by omega⟩
  obtain ⟨hs0, hs1⟩ := slotV_bd st r hok
  have HS : Hid (∀ w' : World, Below w.heap.size w w' → Calls Try.prog 48 #[p] w' fun e w'' => e = .returned (.tuple #[.int .i64 (c : Int), .int .i64 (r : Int)]) ∧ Below w'.heap.size w' w'') := fun w' hb => sizes_any (h.below hb)
  have HP : Hid (∀ w' : World, Below w.heap.size w w' → Calls Try.prog 39 #[p, .agg #[.int .i64 2, .int .i64 (slotV st r), .int .i64 0]] w' fun e w'' => e = .returned (.int .i64 (headV' (wordOf L) r st)) ∧ Below w'.heap.size w' w'') := fun w' hb => by
    have := rpk_any (h.below hb) ⟨2, slotV st r, 0⟩
    rw [if_pos (isAd_head c r _ hs0 hs1)] at this
    exact this
  have HG : Hid (∀ w' : World, Below w.heap.size w w' → Calls Try.prog 53 #[p, .int .i64 (slotV st r)] w' fun e w'' => e = .returned (.agg (sgC (sgV (wordOf L) (slotV st r)))) ∧ Below w'.heap.size w' w'') := fun w' hb => sigOf_any (h.below hb) _ hs0 hs1
  obtain ⟨M, H, S, C, v, h⟩ := h
  obtain rfl := h.p
  clear h hr0 hr hok hs0 hs1
  unfold entryV
  generalize sgV (wordOf L) (slotV st r) = g at *
  generalize headV' (wordOf L) r st = hd at *
  cases hla : laidV hd st
  · simp only [Bool.false_eq_true, if_false]
    go_enter Try.func50, Try.ntmps50
    go_wp2_with fail
    refine (HS.out _ (below_a1 _ _)).mono ?_
    rintro e w1 ⟨rfl, hb1⟩
    have HB1 : Hid (Below w.heap.size w w1) := below_then (below_a1 _ _) hb1
    have HR1 : Hid (w1.heap[w.heap.size]? = some (.cells (enC ⟨0, 0, fun _ => 0⟩) 56 (0, 0))) := row_later (heap_alloc_new _ _) hb1
    clear hb1
    go_wp2_with fail
    refine (slot_any _ _ _).mono ?_
    rintro e wx ⟨rfl, hx⟩
    rw [hx]
    clear hx wx
    go_wp2_with fail
    refine (HP.out _ HB1.out).mono ?_
    rintro e w2 ⟨rfl, hb2⟩
    have HB2 : Hid (Below w.heap.size w w2) := below_then HB1.out hb2
    have HR2 : Hid (w2.heap[w.heap.size]? = some (.cells (enC ⟨0, 0, fun _ => 0⟩) 56 (0, 0))) := row_later HR1.out hb2
    clear hb2
    go_wp2_with fail
    refine (mark_any _ _ _).mono ?_
    rintro e wx ⟨rfl, hx⟩
    rw [hx]
    clear hx wx
    go_wp2_with fail
    refine (laid_any _ _ _).mono ?_
    rintro e wx ⟨rfl, hx⟩
    rw [hx]
    clear hx wx
    rw [hla]
    obtain ⟨w4, hw4⟩ : ∃ w4, w4 = w2.alloc (.cells #[.int .i64 st, .int .i64 (markV hd st), .int .u64 0, .int .u64 0, .int .u64 0, .int .u64 0, .int .u64 0, .int .u64 0, .int .u64 0, .int .u64 0] 56) := ⟨_, rfl⟩
    rw [← hw4]
    have HE4 : Hid (w4.heap[w2.heap.size]? = some (.cells (enC ⟨st, markV hd st, fun _ => 0⟩) 56 (0, 0))) := by rw [hw4]; exact heap_alloc_new _ _
    have HR4 : Hid (w4.heap[w.heap.size]? = some (.cells (enC ⟨0, 0, fun _ => 0⟩) 56 (0, 0))) := by rw [hw4]; exact row_later HR2.out (below_a1 _ _)
    have HB4 : Hid (Below w.heap.size w w4) := by rw [hw4]; exact below_alloc HB2.out _
    clear hw4
    have hz4 := enC_size ⟨st, markV hd st, fun _ => 0⟩
    have h14 := enC_one ⟨st, markV hd st, fun _ => 0⟩
    generalize hce : enC ⟨st, markV hd st, fun _ => 0⟩ = ce at *
    have hpk := pack10 ce hz4
    have hl4 := row_cells10 HE4.out hz4
    have hst2 := store_row (P := Try.prog) HR4.out (by rw [hz4, enC_size]) h14
    go_wp2
    exact ret_ent rfl rfl (setRow_heap _ _ _ _ _ _ HR4.out) hz4 rfl ⟨by rw [hce], below_setRow HB4.out _ (by omega) _⟩
  · simp only [if_true]
    go_enter Try.func50, Try.ntmps50
    go_wp2_with fail
    refine (HS.out _ (below_a1 _ _)).mono ?_
    rintro e w1 ⟨rfl, hb1⟩
    have HB1 : Hid (Below w.heap.size w w1) := below_then (below_a1 _ _) hb1
    have HR1 : Hid (w1.heap[w.heap.size]? = some (.cells (enC ⟨0, 0, fun _ => 0⟩) 56 (0, 0))) := row_later (heap_alloc_new _ _) hb1
    clear hb1
    go_wp2_with fail
    refine (slot_any _ _ _).mono ?_
    rintro e wx ⟨rfl, hx⟩
    rw [hx]
    clear hx wx
    go_wp2_with fail
    refine (HP.out _ HB1.out).mono ?_
    rintro e w2 ⟨rfl, hb2⟩
    have HB2 : Hid (Below w.heap.size w w2) := below_then HB1.out hb2
    have HR2 : Hid (w2.heap[w.heap.size]? = some (.cells (enC ⟨0, 0, fun _ => 0⟩) 56 (0, 0))) := row_later HR1.out hb2
    clear hb2
    go_wp2_with fail
    refine (mark_any _ _ _).mono ?_
    rintro e wx ⟨rfl, hx⟩
    rw [hx]
    clear hx wx
    go_wp2_with fail
    refine (laid_any _ _ _).mono ?_
    rintro e wx ⟨rfl, hx⟩
    rw [hx]
    clear hx wx
    rw [hla]
    go_wp2_with fail
    refine (HG.out _ (below_alloc HB2.out _)).mono ?_
    rintro e w3 ⟨rfl, hb3⟩
    have HB3 : Hid (Below w.heap.size w w3) := below_then (below_alloc HB2.out _) hb3
    have HR3 : Hid (w3.heap[w.heap.size]? = some (.cells (enC ⟨0, 0, fun _ => 0⟩) 56 (0, 0))) := row_later (row_later HR2.out (below_a1 _ _)) hb3
    have HE3 : Hid (w3.heap[w2.heap.size]? = some (.cells (enC ⟨st, markV hd st, fun _ => 0⟩) 56 (0, 0))) := row_later (heap_alloc_new _ _) hb3
    have hne : w2.heap.size ≠ w.heap.size := fun e => by have := heap_lt HR2.out; omega
    clear hb3
    have hz := sgC_size g
    generalize hcs : sgC g = cs at *
    have hst1 := store_sg (P := Try.prog) HE3.out hcs.symm
    clear hcs
    have HE4 : Hid ((w3.setRow w2.heap.size (enC ⟨st, markV hd st, g⟩)).heap[w2.heap.size]? = some (.cells (enC ⟨st, markV hd st, g⟩) 56 (0, 0))) := setRow_heap _ _ _ _ _ _ HE3.out
    have HR4 : Hid ((w3.setRow w2.heap.size (enC ⟨st, markV hd st, g⟩)).heap[w.heap.size]? = some (.cells (enC ⟨0, 0, fun _ => 0⟩) 56 (0, 0))) := by rw [Hid, setRow_other _ _ _ _ hne.symm]; exact HR3.out
    have HB4 : Hid (Below w.heap.size w (w3.setRow w2.heap.size (enC ⟨st, markV hd st, g⟩))) := below_setRow HB3.out _ HB2.out.size _
    generalize w3.setRow w2.heap.size (enC ⟨st, markV hd st, g⟩) = w4 at *
    have hz4 := enC_size ⟨st, markV hd st, g⟩
    have h14 := enC_one ⟨st, markV hd st, g⟩
    generalize hce : enC ⟨st, markV hd st, g⟩ = ce at *
    have hpk := pack10 ce hz4
    have hl4 := row_cells10 HE4.out hz4
    have hst2 := store_row (P := Try.prog) HR4.out (by rw [hz4, enC_size]) h14
    go_wp2
    exact ret_ent rfl rfl (setRow_heap _ _ _ _ _ _ HR4.out) hz4 rfl ⟨by rw [hce], below_setRow HB4.out _ (by omega) _⟩
end Go.Proofs.Ytacioekmeildoaa
