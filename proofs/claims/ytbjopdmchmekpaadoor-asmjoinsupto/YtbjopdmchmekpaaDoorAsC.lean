/- labelled of the program. -/
import Derived.Test.YtbjopdmchmekpaaDoorAsB
import Derived.Deep.CutBlock
import Derived.Deep.DeepCutAuto
namespace Go.Proofs.YtbjopdmchmekpaaDoor
open Go.ChangeShapes Go.WideShapes Go.ChangeAt Go.RowKit

theorem ret_pl {fn : Func} {p : Tmp} {R : Ending → World → Prop} {a : Act} {w : World} {g : Nat} {cs : Array Value} (h : fn.results = #[.cell p 59]) (hp : a.tmps.getD p undef = .pointer (some ⟨g, 0, none⟩))
    (hg : w.heap[g]? = some (.cells cs 59 (0, 0))) (hz : cs.size = 513) (hd : a.defers = []) (hR : R (.returned (.agg cs)) w) : bodyPost Tryd.prog fn R .ret a w := by
  refine bodyPost_ret (v := .agg cs) ?_ hd hR
  have hp' : a.tmps[p]?.getD undef = .pointer (some ⟨g, 0, none⟩) := by simpa using hp
  have hl := run_loadVar_row (P := Tryd.prog) w g 59 59 cs (0, 0) _ hg Tryd.underlying59 rfl (by rw [hz]; kernel_rfl)
  simp [results, h, hp', asAddr, hl]
theorem at_prg {s : ByteArray} {l : List (Int × Int)} (h : Prg s l) (i : Nat) (hi : i < l.length) {w : World} (hT : TabS w) : Calls Tryd.prog 22 #[.string s, .int .i64 (pos l i : Int)] w fun e w' => e = .returned (.tuple #[.agg #[.int .i64 (cd l i : Int), .int .i64 (opd l i)], .int .i64 ((1 + wdC (cd l i) : Nat) : Int), .int .i64 0]) ∧ Below w.heap.size w w' := by
  have := at_any s (by have := h.small; omega) (pos l i : Int) hT.1
  have e : atS s (pos l i : Int) = some (cd l i, opd l i) := by
    unfold atS
    rw [if_neg (by omega), Int.toNat_natCast]
    exact h.at_pos i hi
  rw [e] at this
  exact this
/-- What begins holds while it is written. -/
def bgF (l : List (Int × Int)) (p : Nat) : Nat → Bool := fun j => decide (j < p) && isPos l (j : Int)
theorem bgF_next {s : ByteArray} {l : List (Int × Int)} (h : Prg s l) (i : Nat) (hi : i < l.length) : (plC (bgF l (pos l i))).setIfInBounds (pos l i) (.bool true) = plC (bgF l (pos l (i + 1))) := by
  have hp := h.pos_le i (by omega)
  have hs := h.small
  rw [plC_set _ _ (by omega)]
  apply plC_congr
  intro j hj
  have hps := pos_succ l i hi
  by_cases e : j = pos l i
  · subst e
    simp [bgF, isPos_pos l i (by omega)]
    omega
  · simp only [e, if_false, bgF]
    by_cases hlt : j < pos l i
    · simp [hlt, show j < pos l (i + 1) by omega]
    · by_cases hl2 : j < pos l (i + 1)
      · have : isPos l (j : Int) = false := by
          cases hp2 : isPos l (j : Int) with
          | false => rfl
          | true =>
            obtain ⟨k, hk, hkj⟩ := (isPos_iff l _).1 hp2
            exfalso
            rcases Nat.lt_or_ge i k with h1 | h1
            · have := pos_mono l (i + 1) k h1; omega
            · rcases Nat.lt_or_eq_of_le h1 with h2 | h2
              · have := pos_lt l k i h2 (by omega); omega
              · rw [h2] at hkj; omega
        simp [hlt, hl2, this]
      · simp [hlt, hl2]
theorem bgF_end {s : ByteArray} {l : List (Int × Int)} (h : Prg s l) : (plC (bgF l s.size)).setIfInBounds s.size (.bool true) = plC (fun j => isPos l (j : Int)) := by
  have hs := h.small
  rw [plC_set _ _ (by omega)]
  apply plC_congr
  intro j hj
  by_cases e : j = s.size
  · subst e
    have := isPos_pos l l.length (by omega)
    rw [h.size] at this
    simp [this]
  · simp only [e, if_false, bgF]
    by_cases hlt : j < s.size
    · simp [hlt]
    · have : isPos l (j : Int) = false := by
        cases hp2 : isPos l (j : Int) with
        | false => rfl
        | true =>
          obtain ⟨k, hk, hkj⟩ := (isPos_iff l _).1 hp2
          have := (h.pos_le k hk).1
          omega
      simp [hlt, this]
theorem store_pl {w : World} {B : Nat} {f g : Nat → Bool} (h : PlAt w B f) : (storeCells ⟨B, 0, none⟩ (plC g).toList 0).run Tryd.prog w = .ok () (w.setRow B (plC g)) := by
  have := run_storeCells_from (P := Tryd.prog) B 59 (plC g).toList 0 (plC f) w h (by simp [plC_size]) (fun v hv => (Array.all_eq_true_iff_forall_mem.1 (plC_one g)) v (by simpa using hv))
  simpa using this
theorem below_row' {w w' : World} (h : Below w.heap.size w w') (b : Nat) (hb : w.heap.size ≤ b) (cs : Array Value) : Below w.heap.size w (w'.setRow b cs) := below_row h b hb cs
theorem meas_of {n q r : Nat} {z : Int} (h : wrap64 ((r : Int) + z) = (q : Int)) (hm : n - q < n - r) : n - (intOf (Value.int IntKind.i64 (wrap64 ((r : Int) + z)))).toNat < n - (intOf (Value.int IntKind.i64 (r : Int))).toNat := by
  rw [h]
  exact hm
theorem meas_q {n q r : Nat} (hm : n - q < n - r) : n - (intOf (Value.int IntKind.i64 (q : Int))).toNat < n - (intOf (Value.int IntKind.i64 (r : Int))).toNat := hm
theorem labelled_any {s : ByteArray} {l : List (Int × Int)} (h : Prg s l) {w : World} (hT : TabS w) : Calls Tryd.prog 20 #[.string s] w fun e w' => e = .returned (.agg (plC (mkd l l.length))) ∧ Below w.heap.size w w' := by
  have hz : ∀ w, Sem.run Tryd.prog (zeroValue 59) w = .ok (.agg (plC fun _ => false)) w := zero_pl
  have hzs := plC_size (fun _ => false)
  have hzn := plC_ne (fun _ => false)
  have HT : Hid (TabS w) := hT
  have HP : Hid (Prg s l) := h
  have hs512 : s.size ≤ 512 := h.small
  obtain ⟨Z, hZ⟩ : ∃ Z, plC (fun _ => false) = Z := ⟨_, rfl⟩
  rw [hZ] at hz hzs hzn
  have HZ : Hid (plC (fun _ => false) = Z) := hZ
  clear hT h hZ
  go_enter Tryd.func20, Tryd.ntmps20
  go_wp2
  obtain ⟨X, hX⟩ : ∃ X, w.heap.size = X := ⟨_, rfl⟩
  have HB0 : Hid (Below w.heap.size w (((w.alloc (.cells Z 59)).alloc (.cells Z 59)).alloc (.cells Z 59))) := below_alloc (below_alloc (below_a1 _ _) _) _
  have HR0 : Hid (PlAt (((w.alloc (.cells Z 59)).alloc (.cells Z 59)).alloc (.cells Z 59)) w.heap.size (fun _ => false)) := by
    show _ = _
    rw [Below.heap_alloc _ _ _ (by simp; omega), Below.heap_alloc _ _ _ (by simp), HZ.out]
    exact heap_alloc_new _ _
  have HR1 : Hid (PlAt (((w.alloc (.cells Z 59)).alloc (.cells Z 59)).alloc (.cells Z 59)) (w.heap.size + 1) (fun _ => false)) := by
    show _ = _
    rw [Below.heap_alloc _ _ _ (by simp), HZ.out]
    exact heap_alloc2_new _ _ _
  have HR2 : Hid (PlAt (((w.alloc (.cells Z 59)).alloc (.cells Z 59)).alloc (.cells Z 59)) (w.heap.size + 1 + 1) (fun _ => false)) := by
    show _ = _
    rw [HZ.out]
    have := heap_alloc_new ((w.alloc (.cells Z 59)).alloc (.cells Z 59)) (.cells Z 59)
    simpa using this
  obtain ⟨w0, hw0⟩ : ∃ w0, ((w.alloc (.cells Z 59)).alloc (.cells Z 59)).alloc (.cells Z 59) = w0 := ⟨_, rfl⟩
  rw [hw0] at HB0 HR0 HR1 HR2 ⊢
  rw [hX] at HR0 HR1 HR2 ⊢
  have HX : Hid (w.heap.size = X) := hX
  clear hw0 hX hz hzs hzn
  go_loopw [5] (fun v wr => ∃ i : Nat, i ≤ l.length ∧ v = .int .i64 (pos l i : Int) ∧ PlAt wr X (fun _ => false) ∧ PlAt wr (X + 1) (bgF l (pos l i)) ∧ PlAt wr (X + 1 + 1) (fun _ => false) ∧ Below w.heap.size w wr) (fun v _ => s.size - (intOf v).toNat)
  case atStart =>
    refine ⟨0, by omega, by rw [pos_zero]; rfl, HR0.out, ?_, HR2.out, HB0.out⟩
    have : bgF l (pos l 0) = fun _ => false := by
      funext j
      simp [bgF, pos_zero]
    rw [this]
    exact HR1.out
  case round =>
    obtain ⟨i, hi, rfl, h0, h1, h2, hb⟩ := hrel
    have HB : Hid (Below w.heap.size w wr) := hb
    have K0 : Hid (PlAt wr X (fun _ => false)) := h0
    have K1 : Hid (PlAt wr (X + 1) (bgF l (pos l i))) := h1
    have K2 : Hid (PlAt wr (X + 1 + 1) (fun _ => false)) := h2
    clear hb h0 h1 h2
    obtain ⟨p1, p2, p3⟩ := HP.out.pos_le i hi
    by_cases hlt : pos l i < s.size
    · have hil : i < l.length := by
        rcases Nat.lt_or_eq_of_le hi with h | h
        · exact h
        · rw [h, HP.out.size] at hlt; omega
      have hd : decide ((pos l i : Int) < (s.size : Int)) = true := by simp; omega
      have hc : wr.cell? ⟨X + 1, pos l i, none⟩ = some (.bool (bgF l (pos l i) (pos l i))) := K1.out.cell _ (by omega)
      have hf := frozen_at K1.out (pos l i)
      have hsu := pos_succ l i hil
      have HS : Hid (pos l (i + 1) = pos l i + (1 + wdC (cd l i))) := hsu
      have hwr : wrap64 ((pos l i : Int) + ((1 + wdC (cd l i) : Nat) : Int)) = (pos l (i + 1) : Int) := by
        have := wd_cases (cd l i)
        rw [hsu]; unfold wrap64; omega
      have HA : Hid (∀ w', Below w.heap.size w w' → Calls Tryd.prog 22 #[.string s, .int .i64 (pos l i : Int)] w' fun e w'' => e = .returned (.tuple #[.agg #[.int .i64 (cd l i : Int), .int .i64 (opd l i)], .int .i64 ((1 + wdC (cd l i) : Nat) : Int), .int .i64 0]) ∧ Below w'.heap.size w' w'') := fun w' hb => at_prg HP.out i hil (HT.out.later hb)
      have HN : Hid (PlAt (wr.setCell ⟨X + 1, pos l i, none⟩ (.bool true)) (X + 1) (bgF l (pos l (i + 1)))) := by
        show _ = _
        rw [heap_set K1.out, bgF_next HP.out i hil]
      have HM : Hid (s.size - pos l (i + 1) < s.size - pos l i) := by show _ < _; omega
      generalize ((1 + wdC (cd l i) : Nat) : Int) = z at *
      generalize opd l i = x at *
      generalize (cd l i : Int) = c at *
      generalize bgF l (pos l i) (pos l i) = b0 at *
      have HQ : Hid (bgF l (pos l (i + 1)) = bgF l (pos l (i + 1)) ∧ i + 1 ≤ l.length) := ⟨rfl, hil⟩
      clear hsu p1 p2 p3 hi
      obtain ⟨q, hq⟩ : ∃ q, pos l (i + 1) = q := ⟨_, rfl⟩
      obtain ⟨r, hr⟩ : ∃ r, pos l i = r := ⟨_, rfl⟩
      have HQ1 : Hid (pos l (i + 1) = q) := hq
      rw [hq] at hwr HN HM
      rw [hr] at HA HN HM hwr hc hf hd
      clear hq HS K1
      simp only [hr]
      rw [hr] at hlt
      clear hr
      go_wp2_with fail
      have HBS : Hid (Below w.heap.size w (wr.setCell ⟨X + 1, r, none⟩ (.bool true))) := HB.out.setCell (p := ⟨X + 1, r, none⟩) (by rw [HX.out]; exact Nat.le_succ _) _
      refine (HA.out _ HBS.out).mono ?_
      rintro e w1 ⟨rfl, hb1⟩
      have HB1 : Hid (Below w.heap.size w w1) := below_then HBS.out hb1
      have N0 : Hid (PlAt w1 X (fun _ => false)) := by
        refine PlAt.later (w := wr.setCell ⟨X + 1, r, none⟩ (.bool true)) ?_ hb1
        show _ = _
        rw [heap_set_other _ _ (by omega)]; exact K0.out
      have N1 : Hid (PlAt w1 (X + 1) (bgF l q)) := HN.out.later hb1
      have N2 : Hid (PlAt w1 (X + 1 + 1) (fun _ => false)) := by
        refine PlAt.later (w := wr.setCell ⟨X + 1, r, none⟩ (.bool true)) ?_ hb1
        show _ = _
        rw [heap_set_other _ _ (by omega)]; exact K2.out
      clear hb1 hc hf
      go_wp2
      go_roundw
      case rel =>
        refine ⟨i + 1, HQ.out.2, ?_, ?_⟩
        · rw [HQ1.out, hwr]
        · rw [HQ1.out]
          exact ⟨N0.out.later (below_a1 _ _), N1.out.later (below_a1 _ _), N2.out.later (below_a1 _ _), below_alloc HB1.out _⟩
      case measure => exact meas_of hwr HM.out
    · obtain rfl : i = l.length := p3 (by omega)
      have hps := HP.out.size
      rw [hps] at K1 ⊢
      clear p1 p2 p3 hlt hi hps
      have hc : wr.cell? ⟨X + 1, s.size, none⟩ = some (.bool (bgF l s.size s.size)) := K1.out.cell _ (by omega)
      have hf := frozen_at K1.out s.size
      have hd : decide ((s.size : Int) < (s.size : Int)) = false := by simp
      have hlt5 : (s.size : Int) < 513 := by omega
      have HE : Hid (PlAt (wr.setCell ⟨X + 1, s.size, none⟩ (.bool true)) (X + 1) (fun j => isPos l (j : Int))) := by
        show _ = _
        rw [heap_set K1.out, bgF_end HP.out]
      have HE0 : Hid (PlAt (wr.setCell ⟨X + 1, s.size, none⟩ (.bool true)) X (fun _ => false)) := by
        show _ = _
        rw [heap_set_other _ _ (by omega)]; exact K0.out
      have HE2 : Hid (PlAt (wr.setCell ⟨X + 1, s.size, none⟩ (.bool true)) (X + 1 + 1) (fun _ => false)) := by
        show _ = _
        rw [heap_set_other _ _ (by omega)]; exact K2.out
      have HBS : Hid (Below w.heap.size w (wr.setCell ⟨X + 1, s.size, none⟩ (.bool true))) := HB.out.setCell (p := ⟨X + 1, s.size, none⟩) (by rw [HX.out]; exact Nat.le_succ _) _
      generalize bgF l s.size s.size = b0 at *
      clear K0 K1 K2 HB HR0 HR1 HR2 HB0
      go_wp2
      obtain ⟨w2, hw2⟩ : ∃ w2, wr.setCell ⟨X + 1, s.size, none⟩ (.bool true) = w2 := ⟨_, rfl⟩
      rw [hw2] at HE HE0 HE2 HBS ⊢
      clear hw2 hc hf hd
      go_loopw [9] (fun v wr => ∃ i : Nat, i ≤ l.length ∧ v = .int .i64 (pos l i : Int) ∧ PlAt wr X (fun _ => false) ∧ PlAt wr (X + 1) (fun j => isPos l (j : Int)) ∧ PlAt wr (X + 1 + 1) (mkd l i) ∧ Below w.heap.size w wr) (fun v _ => s.size - (intOf v).toNat)
      case atStart =>
        refine ⟨0, by omega, by rw [pos_zero]; rfl, HE0.out, HE.out, ?_, HBS.out⟩
        have : mkd l 0 = fun _ => false := by
          funext j
          simp [mkd]
        rw [this]
        exact HE2.out
      case round =>
        clear HE HE0 HE2 HBS hlt5
        obtain ⟨i, hi, rfl, h0, h1, h2, hb⟩ := hrel
        have HB : Hid (Below w.heap.size w wr) := hb
        have K0 : Hid (PlAt wr X (fun _ => false)) := h0
        have K1 : Hid (PlAt wr (X + 1) (fun j => isPos l (j : Int))) := h1
        have K2 : Hid (PlAt wr (X + 1 + 1) (mkd l i)) := h2
        clear hb h0 h1 h2
        obtain ⟨p1, p2, p3⟩ := HP.out.pos_le i hi
        by_cases hlt : pos l i < s.size
        · have hil : i < l.length := by
            rcases Nat.lt_or_eq_of_le hi with h | h
            · exact h
            · rw [h, HP.out.size] at hlt; omega
          have hd : decide ((pos l i : Int) < (s.size : Int)) = true := by simp; omega
          have hsu := pos_succ l i hil
          have hwr : wrap64 ((pos l i : Int) + ((1 + wdC (cd l i) : Nat) : Int)) = (pos l (i + 1) : Int) := by
            have := wd_cases (cd l i)
            rw [hsu]; unfold wrap64; omega
          have HA : Hid (∀ w', Below w.heap.size w w' → Calls Tryd.prog 22 #[.string s, .int .i64 (pos l i : Int)] w' fun e w'' => e = .returned (.tuple #[.agg #[.int .i64 (cd l i : Int), .int .i64 (opd l i)], .int .i64 ((1 + wdC (cd l i) : Nat) : Int), .int .i64 0]) ∧ Below w'.heap.size w' w'') := fun w' hb => at_prg HP.out i hil (HT.out.later hb)
          have HTG : Hid (∀ w', Calls Tryd.prog 34 #[.agg #[.int .i64 (cd l i : Int), .int .i64 (opd l i)], .int .i64 (pos l (i + 1) : Int)] w' fun e w'' => e = .returned (tgA (tg l i)) ∧ Below w'.heap.size w' w'') := fun w' => by
            obtain ⟨q1, q2, q3, q4⟩ := HP.out.cd_ok i hil
            have hp := (HP.out.pos_le (i + 1) (by omega)).1
            refine target_any _ _ _ (by omega) (fun hc => ?_) w'
            rcases hc with hc | hc <;> rw [hc] at q3 q4 <;> simp [loC, hiC] at q3 q4 <;> omega
          have HM : Hid (s.size - pos l (i + 1) < s.size - pos l i) := by show _ < _; omega
          have HI : Hid (i + 1 ≤ l.length) := hil
          have HQ : Hid (∀ z, tg l i = some z → isPos l z = true → ∃ k : Nat, z = (k : Int) ∧ k ≤ 512) := fun z _ hz => by
            obtain ⟨k, hk, hkz⟩ := (isPos_iff l z).1 hz
            have := (HP.out.pos_le k hk).1
            exact ⟨pos l k, hkz.symm, by omega⟩
          generalize ((1 + wdC (cd l i) : Nat) : Int) = z at *
          generalize opd l i = x at *
          generalize (cd l i : Int) = c at *
          clear hsu p1 p2 p3 hi
          obtain ⟨q, hq⟩ : ∃ q, pos l (i + 1) = q := ⟨_, rfl⟩
          obtain ⟨r, hr⟩ : ∃ r, pos l i = r := ⟨_, rfl⟩
          have HQ1 : Hid (pos l (i + 1) = q) := hq
          rw [hq] at hwr HM HTG
          rw [hr] at HA HM hwr hd hlt
          simp only [hr]
          clear hq hr
          go_wp2_with fail
          refine (HA.out _ HB.out).mono ?_
          rintro e w3 ⟨rfl, hb3⟩
          have HB3 : Hid (Below wr.heap.size wr w3) := hb3
          clear hb3
          go_wp2_with fail
          refine (HTG.out _).mono ?_
          rintro e w4 ⟨rfl, hb4⟩
          have HB4 : Hid (Below wr.heap.size wr w4) := below_then (below_alloc HB3.out _) hb4
          clear hb4 HB3 HA HTG
          have HB4' : Hid (Below w.heap.size w w4) := below_then HB.out HB4.out
          have N0 : Hid (PlAt w4 X (fun _ => false)) := K0.out.later HB4.out
          have N1 : Hid (PlAt w4 (X + 1) (fun j => isPos l (j : Int))) := K1.out.later HB4.out
          have N2 : Hid (PlAt w4 (X + 1 + 1) (mkd l i)) := K2.out.later HB4.out
          cases hto : tg l i with
          | none =>
            have HK : Hid (mkd l (i + 1) = mkd l i) := by
              show _ = _
              funext j
              rw [mkd_succ, led_none hto]
              simp
            clear hto HQ
            simp only [tgA]
            go_wp2
            go_roundw
            case rel => exact ⟨i + 1, HI.out, by rw [HQ1.out, hwr], N0.out, N1.out, by rw [HK.out]; exact N2.out, HB4'.out⟩
            case measure => exact meas_of hwr HM.out
          | some zz =>
            simp only [tgA]
            have HH : Hid (Calls Tryd.prog 35 #[.pointer (some ⟨X + 1, 0, none⟩), .int .i64 zz] w4 fun e w' => e = .returned (.bool (hasP (fun j => isPos l (j : Int)) zz)) ∧ Below w4.heap.size w4 w') := has_pl N1.out zz
            cases hh : isPos l zz with
            | true =>
              obtain ⟨k, rfl, hk5⟩ := HQ.out zz hto hh
              have hhp : hasP (fun j => isPos l (j : Int)) (k : Int) = true := by
                unfold hasP
                simp [hh]
                omega
              rw [hhp] at HH
              have hled := led_of hto hh
              rw [Int.toNat_natCast] at hled
              have HK : Hid ((plC (mkd l i)).setIfInBounds k (.bool true) = plC (mkd l (i + 1))) := by
                show _ = _
                rw [plC_set _ _ (by omega)]
                apply plC_congr
                intro j hj
                rw [mkd_succ, hled]
                by_cases e : j = k
                · subst e; simp
                · simp [e, show ¬ k = j by omega]
              clear hto HQ hh hhp hled
              go_wp2_with fail
              refine HH.out.mono ?_
              rintro e w5 ⟨rfl, hb5⟩
              have M0 : Hid (PlAt w5 X (fun _ => false)) := N0.out.later hb5
              have M1 : Hid (PlAt w5 (X + 1) (fun j => isPos l (j : Int))) := N1.out.later hb5
              have M2 : Hid (PlAt w5 (X + 1 + 1) (mkd l i)) := N2.out.later hb5
              have HB5 : Hid (Below w.heap.size w w5) := below_then HB4'.out hb5
              have hc : w5.cell? ⟨X + 1 + 1, k, none⟩ = some (.bool (mkd l i k)) := M2.out.cell _ (by omega)
              have hf := frozen_at M2.out k
              have hlt5 : (k : Int) < 513 := by omega
              generalize mkd l i k = b0 at *
              clear hb5 N0 N1 N2 K0 K1 K2 HB HB4 HB4'
              go_wp2
              go_roundw
              case rel =>
                refine ⟨i + 1, HI.out, by rw [HQ1.out], ?_, ?_, ?_, HB5.out.setCell (p := ⟨X + 1 + 1, k, none⟩) (by rw [HX.out]; show X ≤ X + 1 + 1; omega) _⟩
                · show _ = _
                  rw [heap_set_other _ _ (by omega)]; exact M0.out
                · show _ = _
                  rw [heap_set_other _ _ (by omega)]; exact M1.out
                · show _ = _
                  rw [heap_set M2.out, HK.out]
              case measure => exact meas_q HM.out
            | false =>
              have hhp : hasP (fun j => isPos l (j : Int)) zz = false := by
                show (decide (0 ≤ zz) && (decide (zz < 513) && isPos l (zz.toNat : Int))) = false
                by_cases h0 : 0 ≤ zz
                · rw [Int.toNat_of_nonneg h0, hh]; simp
                · simp [h0]
              rw [hhp] at HH
              have HK : Hid (mkd l (i + 1) = mkd l i) := by
                show _ = _
                funext j
                rw [mkd_succ, led_no hto hh]
                simp
              clear hto HQ hh hhp
              go_wp2_with fail
              refine HH.out.mono ?_
              rintro e w5 ⟨rfl, hb5⟩
              have M0 : Hid (PlAt w5 X (fun _ => false)) := N0.out.later hb5
              have M1 : Hid (PlAt w5 (X + 1) (fun j => isPos l (j : Int))) := N1.out.later hb5
              have M2 : Hid (PlAt w5 (X + 1 + 1) (mkd l i)) := N2.out.later hb5
              have HB5 : Hid (Below w.heap.size w w5) := below_then HB4'.out hb5
              clear hb5 N0 N1 N2 K0 K1 K2 HB HB4 HB4'
              go_wp2
              go_roundw
              case rel => exact ⟨i + 1, HI.out, by rw [HQ1.out], M0.out, M1.out, by rw [HK.out]; exact M2.out, HB5.out⟩
              case measure => exact meas_q HM.out
        · obtain rfl : i = l.length := p3 (by omega)
          have hps := HP.out.size
          rw [hps]
          clear p1 p2 p3 hlt hi hps K1
          have hd : decide ((s.size : Int) < (s.size : Int)) = false := by simp
          have hsz := plC_size (mkd l l.length)
          have hne := plC_ne (mkd l l.length)
          have HI : Hid ((Tryd.prog.info? 59).map (·.size) = some (plC (mkd l l.length)).size) := by
            show _ = _
            rw [hsz]; kernel_rfl
          have hst0 : (storeCells ⟨X, 0, none⟩ (plC (mkd l l.length)).toList 0).run Tryd.prog wr = .ok () (wr.setRow X (plC (mkd l l.length))) := store_pl K0.out
          obtain ⟨M, hM⟩ : ∃ M, plC (mkd l l.length) = M := ⟨_, rfl⟩
          have K2' : Hid (wr.heap[X + 1 + 1]? = some (.cells M 59 (0, 0))) := by rw [← hM]; exact K2.out
          rw [hM] at hst0 hsz hne HI
          have HM : Hid (plC (mkd l l.length) = M) := hM
          clear hM
          go_wp2_with (first | (refine wpList_load_row (by rfl) 59 _ (by rfl) (X + 1 + 1) (by rfl) 59 M (0, 0) _ K2'.out Tryd.underlying59 (by rfl) HI.out ?_))
          refine ret_pl rfl rfl (g := X) (cs := M) ?_ hsz rfl ?_
          · exact setRow_heap wr X _ _ _ _ K0.out
          · rw [HM.out]
            exact ⟨rfl, below_row' HB.out X (by rw [HX.out]; exact Nat.le_refl _) M⟩
end Go.Proofs.YtbjopdmchmekpaaDoor
