/- readOperand of the program. -/
import Derived.Test.YtbjopdmchmekpaaDoorAsK
namespace Go.Proofs.YtbjopdmchmekpaaDoor
open Go.ChangeShapes Go.WideShapes Go.ChangeAt Go.RowKit

theorem ret_it {fn : Func} {p q : Tmp} {R : Ending → World → Prop} {a : Act} {w : World} {g : Nat} {cs : Array Value} (h : fn.results = #[.tmp p, .cell q 75]) (hp : a.tmps.getD q undef = .pointer (some ⟨g, 0, none⟩))
    (hg : w.heap[g]? = some (.cells cs 75 (0, 0))) (hz : cs.size = 2) (hd : a.defers = []) (hR : R (.returned (.tuple #[a.tmps.getD p undef, .agg cs])) w) : bodyPost Tryd.prog fn R .ret a w := by
  refine bodyPost_ret (v := .tuple #[a.tmps.getD p undef, .agg cs]) ?_ hd hR
  have hp' : a.tmps[q]?.getD undef = .pointer (some ⟨g, 0, none⟩) := by simpa using hp
  have hl := run_loadVar_row (P := Tryd.prog) w g 75 75 cs (0, 0) _ hg Tryd.underlying75 rfl (by rw [hz]; kernel_rfl)
  simp [results, h, hp', asAddr, hl]
def opdV (c : Nat) (y : List UInt8) (q : Nat) : Except (Int × Nat) (Int × Option (List UInt8 × Nat)) :=
  if ldC c && nameV y then .ok (0, some (y, q)) else match numV y with
    | none => .error (9, q)
    | some v => if loC c ≤ v ∧ v ≤ hiC c then .ok (v, none) else .error (12, q)
def tokA : Option (List UInt8 × Nat) → Value
  | some (y, q) => .agg #[.string (S y), .int .i64 (q : Int)]
  | none => .agg #[.string ⟨#[]⟩, .int .i64 0]
def EndO (w : World) (x : Except (Int × Nat) (Int × Option (List UInt8 × Nat))) (e : Ending) (w' : World) : Prop := match x with
  | .error (er, p) => e = .panicked (flt er (p : Int)) ∧ Below w.heap.size w w'
  | .ok (v, nm) => e = .returned (.tuple #[.int .i64 v, tokA nm]) ∧ Below w.heap.size w w'
theorem tk_cell {w w2 : World} {Y : ByteArray} {q : Int} {o : Obj} (hb : Below ((w.alloc (.cells #[.string Y, .int .i64 q] 75)).alloc o).heap.size ((w.alloc (.cells #[.string Y, .int .i64 q] 75)).alloc o) w2) : w2.cell? ⟨w.heap.size, 1, none⟩ = some (.int .i64 q) := by
  rw [hb.cell (p := ⟨w.heap.size, 1, none⟩) (by simp; omega), World.cell?_alloc_past _ _ _ (by simp)]
  exact cell_at (heap_alloc_new _ _) 1
theorem tk_cell2 {w w2 w3 : World} {Y : ByteArray} {q : Int} {o : Obj} (hb : Below ((w.alloc (.cells #[.string Y, .int .i64 q] 75)).alloc o).heap.size ((w.alloc (.cells #[.string Y, .int .i64 q] 75)).alloc o) w2) (hb3 : Below w2.heap.size w2 w3) : w3.cell? ⟨w.heap.size, 1, none⟩ = some (.int .i64 q) := by
  have := tk_cell hb
  rw [hb3.cell (p := ⟨w.heap.size, 1, none⟩) (World.block_lt_of_cell? _ _ this)]
  exact this
theorem readOpd_any (c : Nat) (hc : c ≤ 40) (y : List UInt8) (hy : y.length ≤ 20000000) (q : Nat) {w : World} (hT : TabE w) :
    Calls Tryd.prog 65 #[.int .i64 (c : Int), .agg #[.string (S y), .int .i64 (q : Int)]] w fun e w' => EndO w (opdV c y q) e w' := by
  have HTN : Hid (∀ w, Calls Tryd.prog 78 #[.int .i64 (c : Int)] w fun e w' => e = .returned (.bool (ldC c)) ∧ w' = w) := takesName_any c
  have HNM : Hid (∀ w, Calls Tryd.prog 62 #[.string (S y)] w fun e w' => e = .returned (.bool (nameV y)) ∧ w' = w) := fun w => by
    have := name_any (S y) (by rw [S_size]; omega) w
    simpa [S] using this
  have HNU : Hid (∀ w', Below w.heap.size w w' → Calls Tryd.prog 79 #[.string (S y)] w' fun e w'' => e = .returned (nuA (numV y)) ∧ Below w'.heap.size w' w'') := fun w' hb => by
    have := number_any (S y) (by rw [S_size]; omega) (hT.later hb)
    simpa [S] using this
  have HSO : Hid (∀ x w', Below w.heap.size w w' → Calls Tryd.prog 64 #[.agg #[.int .i64 (c : Int), .int .i64 x]] w' fun e w'' => e = .returned (if loC c ≤ x ∧ x ≤ hiC c then .tuple #[.int .i64 ((1 + wdC c : Nat) : Int), .int .i64 0] else .tuple #[.int .i64 0, .int .i64 12]) ∧ Below w'.heap.size w' w'') := fun x w' hb => sizeOf_any c hc x (hT.later hb).1
  have HGU : Hid (∀ e p w, Calls Tryd.prog 28 #[.int .i64 e, .int .i64 p] w fun r w' => r = .panicked (flt e p) ∧ Below w.heap.size w w') := giveUp_any
  unfold opdV
  clear hT
  cases hl : (ldC c && nameV y) with
  | true =>
    obtain ⟨h1, h2⟩ := Bool.and_eq_true_iff.1 hl
    rw [h1] at HTN
    rw [h2] at HNM
    simp only [if_true]
    generalize hY : S y = Y at *
    go_enter Tryd.func65, Tryd.ntmps65
    go_wp2_with fail
    refine (HTN.out _).mono ?_
    rintro e w1 ⟨rfl, hw1⟩
    obtain rfl := hw1
    go_wp2_with fail
    refine (HNM.out _).mono ?_
    rintro e w1 ⟨rfl, hw1⟩
    obtain rfl := hw1
    go_wp2
    go_region
    all_goals
      go_wp2
      refine ret_it rfl rfl (g := w.heap.size + 1) (cs := #[.string Y, .int .i64 (q : Int)]) (heap_alloc2_new _ _ _) rfl rfl ⟨?_, (below_alloc (below_a1 _ _) _).drew⟩
      rw [← hY]
      rfl
  | false =>
    obtain ⟨RX, hRX⟩ : ∃ RX : Except (Int × Nat) (Int × Option (List UInt8 × Nat)), (if false = true then .ok (0, some (y, q)) else match numV y with
      | none => .error (9, q)
      | some v => if loC c ≤ v ∧ v ≤ hiC c then .ok (v, none) else .error (12, q)) = RX := ⟨_, rfl⟩
    have HV1 : Hid (RX = match numV y with
      | none => .error (9, q)
      | some v => if loC c ≤ v ∧ v ≤ hiC c then .ok (v, none) else .error (12, q)) := by rw [Hid, ← hRX]; rfl
    rw [hRX]
    clear hRX
    have HB0 : Hid (Below w.heap.size w ((w.alloc (.cells #[.string (S y), .int .i64 (q : Int)] 75)).alloc (.cells #[.string ⟨#[]⟩, .int .i64 0] 75))) := below_alloc (below_a1 _ _) _
    generalize hY : S y = Y at *
    go_enter Tryd.func65, Tryd.ntmps65
    go_wp2_with fail
    refine (HTN.out _).mono ?_
    rintro e w1 ⟨rfl, hw1⟩
    obtain rfl := hw1
    cases h1 : ldC c with
    | true =>
      have h2 : nameV y = false := by rw [h1] at hl; simpa using hl
      rw [h2] at HNM
      go_wp2_with fail
      refine (HNM.out _).mono ?_
      rintro e w1 ⟨rfl, hw1⟩
      obtain rfl := hw1
      cases hv : numV y with
      | none =>
        rw [hv] at HNU
        simp only [nuA] at HNU
        go_wp2_with fail
        refine (HNU.out _ HB0.out).mono ?_
        rintro e w2 ⟨rfl, hb2⟩
        have k1 : w2.cell? ⟨w.heap.size, 1, none⟩ = some (.int .i64 (q : Int)) := tk_cell hb2
        go_wp2_with fail
        refine (HGU.out _ _ _).mono ?_
        rintro e w3 ⟨rfl, hb3⟩
        have HF : Hid (EndO w (.error (9, q)) (.panicked (flt 9 (q : Int))) w3) := ⟨rfl, below_then (below_then HB0.out hb2) hb3⟩
        refine ⟨rfl, ?_⟩
        rw [HV1.out, hv]
        exact HF.out
      | some v =>
        rw [hv] at HNU
        simp only [nuA] at HNU
        have HS1 := HSO.out v
        go_wp2_with fail
        refine (HNU.out _ HB0.out).mono ?_
        rintro e w2 ⟨rfl, hb2⟩
        have HB2 : Hid (Below w.heap.size w w2) := below_then HB0.out hb2
        by_cases hr : loC c ≤ v ∧ v ≤ hiC c
        · rw [if_pos hr] at HS1
          have HS2 : Hid (∀ w', Below w.heap.size w w' → Calls Tryd.prog 64 #[.agg #[.int .i64 (c : Int), .int .i64 v]] w' fun e w'' => e = .returned (.tuple #[.int .i64 ((1 + wdC c : Nat) : Int), .int .i64 0]) ∧ Below w'.heap.size w' w'') := HS1
          have HT2 : Hid (w2.heap[w.heap.size + 1]? = some (.cells #[.string ⟨#[]⟩, .int .i64 0] 75 (0, 0))) := by
            rw [Hid, hb2.block _ (heap_lt (heap_alloc2_new _ _ _))]
            exact heap_alloc2_new _ _ _
          generalize ((1 + wdC c : Nat) : Int) = nz at *
          clear hb2 HS1 HSO
          go_wp2_with fail
          refine (HS2.out _ HB2.out).mono ?_
          rintro e w3 ⟨rfl, hb3⟩
          have HT3 : Hid (w3.heap[w.heap.size + 1]? = some (.cells #[.string ⟨#[]⟩, .int .i64 0] 75 (0, 0))) := by
            rw [Hid, hb3.block _ (heap_lt HT2.out)]
            exact HT2.out
          have x0 : w3.cell? ⟨w.heap.size + 1, 0, none⟩ = some (.string ⟨#[]⟩) := by rw [cell_at HT3.out]; rfl
          have x1 : w3.cell? ⟨w.heap.size + 1, 1, none⟩ = some (.int .i64 0) := by rw [cell_at HT3.out]; rfl
          have f0 : w3.frozen? ⟨w.heap.size + 1, 0, none⟩ = false := frozen_at HT3.out 0
          have f1 : w3.frozen? ⟨w.heap.size + 1, 1, none⟩ = false := frozen_at HT3.out 1
          have HB3 : Hid (Below w.heap.size w w3) := below_then HB2.out hb3
          clear hb3
          go_wp2
          have HX1 := heap_set (heap_set HT3.out 0 (.string ⟨#[]⟩)) 1 (.int .i64 0)
          refine ret_it rfl rfl (g := w.heap.size + 1) (cs := #[.string ⟨#[]⟩, .int .i64 0]) ?_ rfl rfl ?_
          · rw [HX1]
            rfl
          · rw [HV1.out, hv]
            simp only [if_pos hr]
            exact ⟨rfl, below_set (below_set HB3.out _ _ _ (Nat.le_succ _)) _ _ _ (Nat.le_succ _)⟩
        · rw [if_neg hr] at HS1
          have HS2 : Hid (∀ w', Below w.heap.size w w' → Calls Tryd.prog 64 #[.agg #[.int .i64 (c : Int), .int .i64 v]] w' fun e w'' => e = .returned (.tuple #[.int .i64 0, .int .i64 12]) ∧ Below w'.heap.size w' w'') := HS1
          clear HS1 HSO
          go_wp2_with fail
          refine (HS2.out _ HB2.out).mono ?_
          rintro e w3 ⟨rfl, hb3⟩
          have k1 : w3.cell? ⟨w.heap.size, 1, none⟩ = some (.int .i64 (q : Int)) := tk_cell2 hb2 hb3
          go_wp2_with fail
          refine (HGU.out _ _ _).mono ?_
          rintro e w4 ⟨rfl, hb4⟩
          have HF : Hid (EndO w (.error (12, q)) (.panicked (flt 12 (q : Int))) w4) := ⟨rfl, below_then (below_then HB2.out hb3) hb4⟩
          refine ⟨rfl, ?_⟩
          rw [HV1.out, hv]
          simp only [if_neg hr]
          exact HF.out
    | false =>
      cases hv : numV y with
      | none =>
        rw [hv] at HNU
        simp only [nuA] at HNU
        go_wp2_with fail
        refine (HNU.out _ HB0.out).mono ?_
        rintro e w2 ⟨rfl, hb2⟩
        have k1 : w2.cell? ⟨w.heap.size, 1, none⟩ = some (.int .i64 (q : Int)) := tk_cell hb2
        go_wp2_with fail
        refine (HGU.out _ _ _).mono ?_
        rintro e w3 ⟨rfl, hb3⟩
        have HF : Hid (EndO w (.error (9, q)) (.panicked (flt 9 (q : Int))) w3) := ⟨rfl, below_then (below_then HB0.out hb2) hb3⟩
        refine ⟨rfl, ?_⟩
        rw [HV1.out, hv]
        exact HF.out
      | some v =>
        rw [hv] at HNU
        simp only [nuA] at HNU
        have HS1 := HSO.out v
        go_wp2_with fail
        refine (HNU.out _ HB0.out).mono ?_
        rintro e w2 ⟨rfl, hb2⟩
        have HB2 : Hid (Below w.heap.size w w2) := below_then HB0.out hb2
        by_cases hr : loC c ≤ v ∧ v ≤ hiC c
        · rw [if_pos hr] at HS1
          have HS2 : Hid (∀ w', Below w.heap.size w w' → Calls Tryd.prog 64 #[.agg #[.int .i64 (c : Int), .int .i64 v]] w' fun e w'' => e = .returned (.tuple #[.int .i64 ((1 + wdC c : Nat) : Int), .int .i64 0]) ∧ Below w'.heap.size w' w'') := HS1
          have HT2 : Hid (w2.heap[w.heap.size + 1]? = some (.cells #[.string ⟨#[]⟩, .int .i64 0] 75 (0, 0))) := by
            rw [Hid, hb2.block _ (heap_lt (heap_alloc2_new _ _ _))]
            exact heap_alloc2_new _ _ _
          generalize ((1 + wdC c : Nat) : Int) = nz at *
          clear hb2 HS1 HSO
          go_wp2_with fail
          refine (HS2.out _ HB2.out).mono ?_
          rintro e w3 ⟨rfl, hb3⟩
          have HT3 : Hid (w3.heap[w.heap.size + 1]? = some (.cells #[.string ⟨#[]⟩, .int .i64 0] 75 (0, 0))) := by
            rw [Hid, hb3.block _ (heap_lt HT2.out)]
            exact HT2.out
          have x0 : w3.cell? ⟨w.heap.size + 1, 0, none⟩ = some (.string ⟨#[]⟩) := by rw [cell_at HT3.out]; rfl
          have x1 : w3.cell? ⟨w.heap.size + 1, 1, none⟩ = some (.int .i64 0) := by rw [cell_at HT3.out]; rfl
          have f0 : w3.frozen? ⟨w.heap.size + 1, 0, none⟩ = false := frozen_at HT3.out 0
          have f1 : w3.frozen? ⟨w.heap.size + 1, 1, none⟩ = false := frozen_at HT3.out 1
          have HB3 : Hid (Below w.heap.size w w3) := below_then HB2.out hb3
          clear hb3
          go_wp2
          have HX1 := heap_set (heap_set HT3.out 0 (.string ⟨#[]⟩)) 1 (.int .i64 0)
          refine ret_it rfl rfl (g := w.heap.size + 1) (cs := #[.string ⟨#[]⟩, .int .i64 0]) ?_ rfl rfl ?_
          · rw [HX1]
            rfl
          · rw [HV1.out, hv]
            simp only [if_pos hr]
            exact ⟨rfl, below_set (below_set HB3.out _ _ _ (Nat.le_succ _)) _ _ _ (Nat.le_succ _)⟩
        · rw [if_neg hr] at HS1
          have HS2 : Hid (∀ w', Below w.heap.size w w' → Calls Tryd.prog 64 #[.agg #[.int .i64 (c : Int), .int .i64 v]] w' fun e w'' => e = .returned (.tuple #[.int .i64 0, .int .i64 12]) ∧ Below w'.heap.size w' w'') := HS1
          clear HS1 HSO
          go_wp2_with fail
          refine (HS2.out _ HB2.out).mono ?_
          rintro e w3 ⟨rfl, hb3⟩
          have k1 : w3.cell? ⟨w.heap.size, 1, none⟩ = some (.int .i64 (q : Int)) := tk_cell2 hb2 hb3
          go_wp2_with fail
          refine (HGU.out _ _ _).mono ?_
          rintro e w4 ⟨rfl, hb4⟩
          have HF : Hid (EndO w (.error (12, q)) (.panicked (flt 12 (q : Int))) w4) := ⟨rfl, below_then (below_then HB2.out hb3) hb4⟩
          refine ⟨rfl, ?_⟩
          rw [HV1.out, hv]
          simp only [if_neg hr]
          exact HF.out
end Go.Proofs.YtbjopdmchmekpaaDoor
