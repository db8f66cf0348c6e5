/- Print of the program. -/
import Derived.Test.YtbjopdmchmekpaaDoorAsC
import Derived.Test.YtbjopdmchmekpaaDoorCodG
import Derived.Deep.CutRange
namespace Go.Proofs.YtbjopdmchmekpaaDoor
open Go.ChangeShapes Go.WideShapes Go.ChangeAt Go.RowKit

theorem print_no (s : ByteArray) (hs : s.size ≤ 9223372036854775807) (h : (decV s).2.1 ≠ 0) {w : World} (hT : TabS w) : Calls Tryd.prog 9 #[.string s] w fun e w' => e = .returned (.tuple #[.string (S []), .int .i64 (decV s).2.1]) ∧ Below w.heap.size w w' := by
  have HD : Hid (Calls Tryd.prog 19 #[.string s] w fun e w' => ∃ v, e = .returned (.tuple #[v, .int .i64 (decV s).2.1, .int .i64 (decV s).2.2]) ∧ Below w.heap.size w w') := (dec_any s hs hT.1).mono (fun e w' ⟨v, h1, _, h2⟩ => ⟨v, h1, h2⟩)
  have hne : ((decV s).2.1 == 0) = false := by simp [h]
  have hbn : ((decV s).2.1 != 0) = true := by simp [h]
  have hS : S [] = ByteArray.empty := rfl
  rw [hS]
  generalize (decV s).2.1 = z at *
  generalize (decV s).2.2 = z2 at *
  clear hS
  go_enter Tryd.func9, Tryd.ntmps9
  go_wp2_with fail
  refine HD.out.mono ?_
  rintro e w1 ⟨v, rfl, hb1⟩
  go_wp2
  go_ret2
  exact ⟨rfl, hb1⟩
/-! ### a text that grows -/
def bC (l : List UInt8) : List Value := l.map fun b => Value.int .u8 b.toNat
theorem strCells_S (l : List UInt8) : Lib.strCells (S l) = bC l := rfl
theorem bC_app (a b : List UInt8) : bC (a ++ b) = bC a ++ bC b := List.map_append
/-- A text under way, beside a block of places. -/
structure TX (w0 : World) (Bm : Nat) (M : Array Value) (T : List UInt8) (v : Value) (wx : World) : Prop where
  own : wx.ownsRow w0.heap.size 5 1 v T.length (bC T)
  bel : Below w0.heap.size w0 wx
  mar : wx.heap[Bm]? = some (.cells M 59 (0, 0))
theorem TX.later {w0 : World} {Bm : Nat} {M : Array Value} {T : List UInt8} {v : Value} {wx wy : World} (h : TX w0 Bm M T v wx) (hb : Below wx.heap.size wx wy) : TX w0 Bm M T v wy :=
  ⟨own_keep h.own (Keep.of_below hb []) (by simp), below_then h.bel hb, by rw [hb.block _ (heap_lt h.mar)]; exact h.mar⟩
theorem TX.app {w0 : World} {Bm : Nat} {M : Array Value} {T U : List UInt8} {v v' : Value} {wx wy : World} (h : TX w0 Bm M T v wx)
    (h1 : wy.ownsRow w0.heap.size 5 1 v' (T.length + (S U).size) (bC T ++ Lib.strCells (S U))) (h2 : wx.grownBy wy v.ownBlock) : TX w0 Bm M (T ++ U) v' wy := by
  have hb : ∀ b, v.ownBlock = some b → w0.heap.size ≤ b := fun b hb => (own_block h.own b hb).1
  refine ⟨?_, h.bel.grown h2 h.bel.size hb, ?_⟩
  · rw [bC_app, List.length_append, ← strCells_S, ← S_size U]
    exact h1
  · have hk : Keep (match v.ownBlock with | some b => [b] | none => []) wx wy := (Keep.refl _ _).grown h2 (fun b hb => by rw [hb]; exact Or.inl (by simp))
    rw [hk.block _ (heap_lt h.mar) ?_]
    · exact h.mar
    · have := own_ne h.own h.mar (by decide)
      cases hv : v.ownBlock with
      | none => simp
      | some b =>
        rw [hv] at this
        simp
        intro e
        exact this (by rw [e])
theorem TX.other {w0 : World} {Bm : Nat} {M : Array Value} {T : List UInt8} {v : Value} {wx wy : World} (h : TX w0 Bm M T v wx) (h2 : wx.grownBy wy v.ownBlock) {b : Nat} {cs : Array Value} {t : TypeId} (hb : wx.heap[b]? = some (.cells cs t (0, 0))) (ht : t ≠ 5) : wy.heap[b]? = some (.cells cs t (0, 0)) := by
  have hk : Keep (match v.ownBlock with | some b => [b] | none => []) wx wy := (Keep.refl _ _).grown h2 (fun b hb => by rw [hb]; exact Or.inl (by simp))
  rw [hk.block _ (heap_lt hb) ?_]
  · exact hb
  · have := own_ne h.own hb ht
    cases hv : v.ownBlock with
    | none => simp
    | some b =>
      rw [hv] at this
      simp
      intro e
      exact this (by rw [e])
theorem conv_S {w0 : World} {Bm : Nat} {M : Array Value} {T : List UInt8} {v : Value} {wx : World} (h : TX w0 Bm M T v wx) : (convert 61 9 v).run Tryd.prog wx = .ok (.string (S T)) wx := by
  have e : bC T = (T.map fun b => (b.toNat : Int)).map (Value.int .u8) := by simp [bC]
  have := h.own
  rw [e] at this
  rw [conv_own _ _ _ _ _ this]
  congr 2
  apply ByteArray.ext
  apply Array.ext'
  rw [strOfNums_data, List.map_map]
  simp only [S]
  conv => rhs; rw [← List.map_id T]
  apply List.map_congr_left
  intro b _
  simp
theorem sub_meas {n p q k : Nat} (h : q = p + (1 + k)) (hp : p < n) : n - q < n - p := by omega
theorem labT_len (p : Nat) (hp : p ≤ 1000) : (labT p).length ≤ 22 := by
  have := itoa_len (p : Int) (by omega) (by omega)
  simp [labT]
  omega
theorem word_len : ∀ c : Fin 41, (wordL c.val).length ≤ 6 := by decide
theorem Prg.opd_ok {s : ByteArray} {l : List (Int × Int)} (h : Prg s l) (i : Nat) (hi : i < l.length) : -9223372036854775808 ≤ opd l i ∧ opd l i ≤ 9223372036854775807 := by
  obtain ⟨q1, q2, q3, q4⟩ := h.cd_ok i hi
  generalize cd l i = c at *
  unfold loC at q3
  unfold hiC at q4
  constructor
  · repeat' split at q3
    all_goals omega
  · repeat' split at q4
    all_goals omega
theorem opT_len {s : ByteArray} {l : List (Int × Int)} (h : Prg s l) (i : Nat) (hi : i < l.length) : (opT l i).length ≤ 22 := by
  unfold opT
  cases e : led l i with
  | none =>
    obtain ⟨h1, h2⟩ := h.opd_ok i hi
    have := itoa_len (opd l i) h1 h2
    simp only
    omega
  | some k =>
    obtain ⟨j, hj, hk⟩ := (isPos_iff l _).1 (led_pos e).1
    have := (h.pos_le j hj).1
    have hs := h.small
    exact labT_len k (by omega)
theorem insT_len {s : ByteArray} {l : List (Int × Int)} (h : Prg s l) (i : Nat) (hi : i < l.length) : (insT l i).length ≤ 30 := by
  have h1 := word_len ⟨cd l i, by have := (h.cd_ok i hi).1; omega⟩
  have h2 := opT_len h i hi
  unfold insT
  simp only [List.length_append, List.length_singleton]
  split
  · simp only [List.length_cons]; simp only at h1; omega
  · simp only [List.length_nil]; simp only at h1; omega
theorem txT_len {s : ByteArray} {l : List (Int × Int)} (h : Prg s l) (n : Nat) (hn : n ≤ l.length) : (txT l n).length ≤ 60 * n := by
  induction n with
  | zero => simp [txT]
  | succ n ih =>
    have h1 := ih (by omega)
    have h2 := insT_len h n (by omega)
    have h3 := labT_len (pos l n) (by have := (h.pos_le n (by omega)).1; have := h.small; omega)
    rw [txT_succ, List.length_append]
    unfold lnT
    rw [List.length_append]
    split
    · simp only [labL, List.length_append, List.length_cons, List.length_nil]; omega
    · simp only [List.length_nil]; omega
set_option maxRecDepth 100000 in
theorem print_yes {s : ByteArray} {l : List (Int × Int)} (h : Prg s l) {w : World} (hT : TabS w) : Calls Tryd.prog 9 #[.string s] w fun e w' => e = .returned (.tuple #[.string (S (prT l)), .int .i64 0]) ∧ Below w.heap.size w w' := by
  have hs512 : s.size ≤ 512 := h.small
  have HD : Hid (Calls Tryd.prog 19 #[.string s] w fun e w' => ∃ v, e = .returned (.tuple #[v, .int .i64 0, .int .i64 0]) ∧ Below w.heap.size w w') := (dec_any s (by omega) hT.1).mono (fun e w' ⟨v, h1, _, h2⟩ => ⟨v, by rw [h1, h.dec], h2⟩)
  have HL : Hid (∀ w', Below w.heap.size w w' → Calls Tryd.prog 20 #[.string s] w' fun e w'' => e = .returned (.agg (plC (mkd l l.length))) ∧ Below w'.heap.size w' w'') := fun w' hb => labelled_any h (hT.later hb)
  have HT : Hid (TabS w) := hT
  have HP : Hid (Prg s l) := h
  clear hT h
  have hsz := plC_size (mkd l l.length)
  have hne := plC_ne (mkd l l.length)
  obtain ⟨M, hM⟩ : ∃ M, plC (mkd l l.length) = M := ⟨_, rfl⟩
  rw [hM] at hsz hne HL
  have HM : Hid (plC (mkd l l.length) = M) := hM
  have hst : ∀ w2 : World, (storeCells ⟨w2.heap.size, 0, none⟩ M.toList 0).run Tryd.prog (w2.alloc (.cells Tryd.zeroCells59 59)) = .ok () (w2.alloc (.cells M 59)) := fun w2 =>
    run_storeCells_new w2 59 _ _ (by rw [hsz]; kernel_rfl) (by rw [hsz]; kernel_rfl) (by rw [← hM]; exact plC_one _)
  clear hM
  go_enter Tryd.func9, Tryd.ntmps9
  go_wp2_with fail
  refine HD.out.mono ?_
  rintro e w1 ⟨v, rfl, hb1⟩
  go_wp2_with fail
  refine (HL.out _ hb1).mono ?_
  rintro e w2 ⟨rfl, hb2⟩
  have HB2 : Hid (Below w.heap.size w w2) := below_then hb1 hb2
  clear hb1 hb2 HD HL
  go_wp2
  obtain ⟨i0, hi, hz0, hz1, hz2⟩ := info_parts info_u8
  have HU : Hid (Tryd.prog.info? 5 = some i0 ∧ i0.zero = some (.int .u8 0) ∧ i0.size = 1 ∧ i0.bytes = 1) := ⟨hi, hz0, hz1, hz2⟩
  clear hi hz0 hz1 hz2 hst
  have HS : Hid (TX w w2.heap.size M [] (.slice none 0 0) (w2.alloc (.cells M 59))) := ⟨World.ownsRow_nil _ _ _ _, below_alloc HB2.out _, heap_alloc_new _ _⟩
  obtain ⟨w3, hw3⟩ : ∃ w3, w2.alloc (.cells M 59) = w3 := ⟨_, rfl⟩
  obtain ⟨Bm, hBm⟩ : ∃ Bm, w2.heap.size = Bm := ⟨_, rfl⟩
  rw [hw3, hBm] at HS ⊢
  clear hw3 hBm HB2
  go_loopw [8, 9] (fun v u wr => ∃ i : Nat, i ≤ l.length ∧ u = .int .i64 (pos l i : Int) ∧ TX w Bm M (txT l i) v wr) (fun _ u _ => s.size - (intOf u).toNat)
  case atStart => exact ⟨0, by omega, by rw [pos_zero]; rfl, HS.out⟩
  case round =>
    clear HS
    obtain ⟨i, hi, rfl, hx⟩ := hrel
    have HX : Hid (TX w Bm M (txT l i) u8 wr) := hx
    obtain ⟨va, vc, rfl⟩ := own_slice hx.own
    clear hx
    obtain ⟨p1, p2, p3⟩ := HP.out.pos_le i hi
    by_cases hlt : pos l i < s.size
    · have hil : i < l.length := by
        rcases Nat.lt_or_eq_of_le hi with h | h
        · exact h
        · rw [h, HP.out.size] at hlt; omega
      have hd : decide ((pos l i : Int) < (s.size : Int)) = true := by simp; omega
      have hc : wr.cell? ⟨Bm, pos l i, none⟩ = some (.bool (mkd l l.length (pos l i))) := by
        rw [cell_at HX.out.mar, ← HM.out]
        exact plC_get _ _ (by omega)
      have hlt5 : (pos l i : Int) < 513 := by omega
      have htl := txT_len HP.out i hi
      have hll := HP.out.len
      have hlb := labT_len (pos l i) (by omega)
      have HLA : Hid (∀ w', Below w.heap.size w w' → Calls Tryd.prog 21 #[.int .i64 (pos l i : Int)] w' fun e w'' => e = .returned (.string (S (labT (pos l i)))) ∧ Below w'.heap.size w' w'') := fun w' hb => labelAt_any _ (by omega) (HT.out.later hb)
      go_upto_if 30 with fail
      go_cut [8] (fun s8 wx => TX w Bm M (txT l i ++ (if mkd l l.length (pos l i) then labL (pos l i) else [])) s8 wx)
      case first =>
        cases hmk : mkd l l.length (pos l i) with
        | true =>
          have HMK : Hid (mkd l l.length (pos l i) = true) := hmk
          have hadd : ∀ w, (Op.stringOp .add (S (labT (pos l i))) ⟨#[58, 10]⟩).run Tryd.prog w = .ok (.string (S (labL (pos l i)))) w := add_S _ [58, 10] (by simp; omega)
          have HLL : Hid ((S (labL (pos l i))).size = (labT (pos l i)).length + 2) := by show _ = _; rw [S_size]; simp [labL]
          obtain ⟨R, hR⟩ : ∃ R, S (labL (pos l i)) = R := ⟨_, rfl⟩
          have HR : Hid (S (labL (pos l i)) = R) := hR
          rw [hR] at hadd HLL
          rw [hmk] at hc
          clear hR hmk
          go_wp2_with fail
          refine (HLA.out _ HX.out.bel).mono ?_
          rintro e w4 ⟨rfl, hb4⟩
          have HX4 : Hid (TX w Bm M (txT l i) (.slice va (txT l i).length vc) w4) := HX.out.later hb4
          have hsz4 : w.heap.size ≤ w4.heap.size := HX4.out.bel.size
          clear hb4
          obtain ⟨hi0, hz0, hz1, hz2⟩ := HU.out
          go_wp2_with (at_builtin; refine Lib.wpList_append_own_string _ rfl _ _ 61 9 rfl w.heap.size 5 i0 Tryd.underlying61 Tryd.underlying9 hi0 hz0 hz1 hz2 _ _ _ rfl HX4.out.own R rfl ?c1 ?c2 ?c3 ?_)
          case c1 => unfold maxLen; rw [HLL.out]; omega
          case c2 => rw [HLL.out]; omega
          case c3 => exact hsz4
          intro v' w5 hown' hgrow _
          rw [← HR.out] at hown'
          have HX5 : Hid (TX w Bm M (txT l i ++ labL (pos l i)) v' w5) := HX4.out.app hown' hgrow
          clear hown' hgrow hi0 hz0 hz1 hz2
          go_wp2
          go_meet
          rw [HMK.out]
          exact HX5.out
        | false =>
          have HMK : Hid (mkd l l.length (pos l i) = false) := hmk
          rw [hmk] at hc
          clear hmk
          go_wp2
          go_meet
          rw [HMK.out]
          simp only [Bool.false_eq_true, if_false, List.append_nil]
          exact HX.out
      case rest =>
        have HX1 : Hid (TX w Bm M (txT l i ++ (if mkd l l.length (pos l i) then labL (pos l i) else [])) u8 wc) := hcut
        have hab : (if mkd l l.length (pos l i) then labL (pos l i) else []).length ≤ 24 := by
          split
          · simp only [labL, List.length_append, List.length_cons, List.length_nil]; omega
          · simp
        have HLN : Hid (txT l (i + 1) = (txT l i ++ (if mkd l l.length (pos l i) then labL (pos l i) else [])) ++ insT l i) := by
          show _ = _
          rw [txT_succ, lnT, List.append_assoc]
        have hT1 : (txT l i ++ (if mkd l l.length (pos l i) then labL (pos l i) else [])).length ≤ 40000 := by rw [List.length_append]; omega
        obtain ⟨T1, hT1e⟩ : ∃ T1, txT l i ++ (if mkd l l.length (pos l i) then labL (pos l i) else []) = T1 := ⟨_, rfl⟩
        rw [hT1e] at HX1 HLN hT1
        obtain ⟨va1, vc1, rfl⟩ := own_slice HX1.out.own
        clear hcut hT1e hab htl hlb HLA HX hc
        obtain ⟨q1, q2, q3, q4⟩ := HP.out.cd_ok i hil
        have hsu := pos_succ l i hil
        have hw8 := wd_cases (cd l i)
        have hwr : wrap64 ((pos l i : Int) + ((1 + wdC (cd l i) : Nat) : Int)) = (pos l (i + 1) : Int) := by
          rw [hsu]; unfold wrap64; omega
        have HA : Hid (∀ w', Below w.heap.size w w' → Calls Tryd.prog 22 #[.string s, .int .i64 (pos l i : Int)] w' fun e w'' => e = .returned (.tuple #[.agg #[.int .i64 (cd l i : Int), .int .i64 (opd l i)], .int .i64 ((1 + wdC (cd l i) : Nat) : Int), .int .i64 0]) ∧ Below w'.heap.size w' w'') := fun w' hb => at_prg HP.out i hil (HT.out.later hb)
        have HM1 : Hid (s.size - pos l (i + 1) < s.size - pos l i) := sub_meas hsu hlt
        have HO : Hid (∀ w', Below w.heap.size w w' → Calls Tryd.prog 23 #[.agg #[.int .i64 (cd l i : Int), .int .i64 (opd l i)], .int .i64 (pos l (i + 1) : Int), .agg M] w' fun e w'' => e = .returned (.string (S (opT l i))) ∧ Below w'.heap.size w' w'') := fun w' hb => by
          rw [← HM.out]
          exact optext_any HP.out i hil (HT.out.later hb)
        have HW : Hid (∀ w', Below w.heap.size w w' → w'.cell? ⟨0, cd l i, none⟩ = some (.string (S (wordL (cd l i))))) := fun w' hb => (HT.out.later hb).2.1 _ (by omega)
        have hwl := word_len ⟨cd l i, by omega⟩
        have hol := opT_len HP.out i hil
        have HI1 : Hid (i + 1 ≤ l.length) := hil
        have HIN : Hid (insT l i = wordL (cd l i) ++ (if 0 < wdC (cd l i) then 32 :: opT l i else []) ++ [10]) := rfl
        simp only at hwl
        have hc40 : (cd l i : Int) < 41 := by omega
        obtain ⟨z, hz1⟩ : ∃ z, ((1 + wdC (cd l i) : Nat) : Int) = z := ⟨_, rfl⟩
        have HZ : Hid (z = 1 + (wdC (cd l i) : Int)) := by show _ = _; rw [← hz1]; simp
        rw [hz1] at hwr HA
        generalize insT l i = IN at *
        generalize opT l i = OT at *
        generalize opd l i = x at *
        generalize wordL (cd l i) = WD at *
        generalize wdC (cd l i) = n at *
        generalize cd l i = c at *
        clear hsu p1 p2 p3 hi q1 q2 q3 q4 hz1 hll
        obtain ⟨q, hq⟩ : ∃ q, pos l (i + 1) = q := ⟨_, rfl⟩
        obtain ⟨r, hr⟩ : ∃ r, pos l i = r := ⟨_, rfl⟩
        have HQ1 : Hid (pos l (i + 1) = q) := hq
        have HRR : Hid (pos l i = r) := hr
        rw [hq] at hwr HM1 HO
        rw [hr] at HA HM1 hwr hd hlt
        simp only [hr]
        clear hq hr hlt5
        go_wp2_with fail
        refine (HA.out _ HX1.out.bel).mono ?_
        rintro e w4 ⟨rfl, hb4⟩
        have HX4 : Hid (TX w Bm M T1 (.slice va1 T1.length vc1) (w4.alloc (.cells #[.int .i64 (c : Int), .int .i64 x] 53))) := (HX1.out.later hb4).later (below_a1 _ _)
        have hgw : (w4.alloc (.cells #[.int .i64 (c : Int), .int .i64 x] 53)).cell? ⟨0, c, none⟩ = some (.string (S WD)) := HW.out _ HX4.out.bel
        have hsz4 : w.heap.size ≤ (w4.alloc (.cells #[.int .i64 (c : Int), .int .i64 x] 53)).heap.size := HX4.out.bel.size
        clear hb4 HA HX1 HW
        obtain ⟨hi0, hz0, hz1, hz2⟩ := HU.out
        obtain ⟨R, hR⟩ : ∃ R, S WD = R := ⟨_, rfl⟩
        have HR : Hid (S WD = R) := hR
        have HRS : Hid (R.size ≤ 6) := by show _ ≤ _; rw [← hR, S_size]; exact hwl
        rw [hR] at hgw
        clear hR
        go_wp2_with (at_builtin; refine Lib.wpList_append_own_string _ rfl _ _ 61 9 rfl w.heap.size 5 i0 Tryd.underlying61 Tryd.underlying9 hi0 hz0 hz1 hz2 _ _ _ rfl HX4.out.own R rfl ?c4 ?c5 ?c6 ?_)
        case c4 => have := HRS.out; unfold maxLen; omega
        case c5 => have := HRS.out; omega
        case c6 => exact hsz4
        intro v5 w5 hown' hgrow _
        rw [← HR.out] at hown'
        have HX5 : Hid (TX w Bm M (T1 ++ WD) v5 w5) := HX4.out.app hown' hgrow
        have HOB : Hid (w5.heap[w4.heap.size]? = some (.cells #[.int .i64 (c : Int), .int .i64 x] 53 (0, 0))) := HX4.out.other hgrow (heap_alloc_new _ _) (by decide)
        have hT2 : (T1 ++ WD).length ≤ 41000 := by rw [List.length_append]; omega
        have HLN2 : Hid (txT l (i + 1) = (T1 ++ WD) ++ ((if 0 < n then 32 :: OT else []) ++ [10])) := by
          show _ = _
          rw [HLN.out, HIN.out]
          simp only [List.append_assoc]
        obtain ⟨T2, hT2e⟩ : ∃ T2, T1 ++ WD = T2 := ⟨_, rfl⟩
        rw [hT2e] at HX5 HLN2 hT2
        obtain ⟨X4, hX4⟩ : ∃ X4, w4.heap.size = X4 := ⟨_, rfl⟩
        rw [hX4] at HOB ⊢
        obtain ⟨va2, vc2, rfl⟩ := own_slice HX5.out.own
        clear hown' hgrow hi0 hz0 hz1 hz2 HX4 hgw hsz4 hT2e HR HRS HLN HIN hX4
        go_upto_if 53 with fail
        go_cut [8] (fun s8 wx => TX w Bm M (T2 ++ (if 0 < n then 32 :: OT else [])) s8 wx)
        case first =>
          by_cases hn : 0 < n
          · have HNN : Hid (0 < n) := hn
            have hdn : decide ((1 : Int) < z) = true := by rw [HZ.out]; simp; omega
            have hdn' : (1 : Int) < z := by rw [HZ.out]; omega
            have hadd : ∀ w, (Op.stringOp .add ⟨#[32]⟩ (S OT)).run Tryd.prog w = .ok (.string (S (32 :: OT))) w := add_S [32] OT (by simp; omega)
            have HRS : Hid ((S (32 :: OT)).size ≤ 23) := by show _ ≤ _; rw [S_size]; simp; omega
            have h0 : w5.cell? ⟨X4, 0, none⟩ = some (.int .i64 (c : Int)) := by rw [cell_at HOB.out]; rfl
            have h1 : w5.cell? ⟨X4, 1, none⟩ = some (.int .i64 x) := by rw [cell_at HOB.out]; rfl
            have HMI : Hid ((Tryd.prog.info? 59).map (·.size) = some M.size) := by
              show _ = _
              rw [hsz]; kernel_rfl
            obtain ⟨R, hR⟩ : ∃ R, S (32 :: OT) = R := ⟨_, rfl⟩
            have HR : Hid (S (32 :: OT) = R) := hR
            rw [hR] at hadd HRS
            clear hR hn
            go_wp2_with (first | (refine wpList_load_row (by rfl) 59 _ (by rfl) Bm (by rfl) 59 M (0, 0) _ HX5.out.mar Tryd.underlying59 (by rfl) HMI.out ?_) | fail)
            refine (HO.out _ HX5.out.bel).mono ?_
            rintro e w6 ⟨rfl, hb6⟩
            have HX6 : Hid (TX w Bm M T2 (.slice va2 T2.length vc2) w6) := HX5.out.later hb6
            have hsz6 : w.heap.size ≤ w6.heap.size := HX6.out.bel.size
            clear hb6 h0 h1
            obtain ⟨hi0, hz0, hz1, hz2⟩ := HU.out
            go_wp2_with (at_builtin; refine Lib.wpList_append_own_string _ rfl _ _ 61 9 rfl w.heap.size 5 i0 Tryd.underlying61 Tryd.underlying9 hi0 hz0 hz1 hz2 _ _ _ rfl HX6.out.own R rfl ?c7 ?c8 ?c9 ?_)
            case c7 => have := HRS.out; unfold maxLen; omega
            case c8 => have := HRS.out; omega
            case c9 => exact hsz6
            intro v7 w7 hown' hgrow _
            rw [← HR.out] at hown'
            have HX7 : Hid (TX w Bm M (T2 ++ 32 :: OT) v7 w7) := HX6.out.app hown' hgrow
            clear hown' hgrow hi0 hz0 hz1 hz2
            go_wp2
            go_meet
            rw [if_pos HNN.out]
            exact HX7.out
          · have HNN : Hid (¬ 0 < n) := hn
            have hdn : decide ((1 : Int) < z) = false := by rw [HZ.out]; simp; omega
            have hdn' : ¬ (1 : Int) < z := by rw [HZ.out]; omega
            clear hn
            go_wp2
            go_meet
            rw [if_neg HNN.out, List.append_nil]
            exact HX5.out
        case rest =>
          have HX8 : Hid (TX w Bm M (T2 ++ (if 0 < n then 32 :: OT else [])) u8 wc) := hcut
          have hT3 : (T2 ++ (if 0 < n then 32 :: OT else [])).length ≤ 42000 := by
            rw [List.length_append]
            split
            · simp only [List.length_cons]; omega
            · simp only [List.length_nil]; omega
          have HLN3 : Hid (txT l (i + 1) = (T2 ++ (if 0 < n then 32 :: OT else [])) ++ [10]) := by
            show _ = _
            rw [HLN2.out, List.append_assoc]
          obtain ⟨T3, hT3e⟩ : ∃ T3, T2 ++ (if 0 < n then 32 :: OT else []) = T3 := ⟨_, rfl⟩
          rw [hT3e] at HX8 HLN3 hT3
          obtain ⟨va3, vc3, rfl⟩ := own_slice HX8.out.own
          clear hcut hT3e HX5 HLN2 HOB HO
          have HX9 : Hid (TX w Bm M T3 (.slice va3 T3.length vc3) (wc.alloc (.cells #[.int .u8 10] 5))) := HX8.out.later (below_a1 _ _)
          have hsz9 : w.heap.size ≤ (wc.alloc (.cells #[.int .u8 10] 5)).heap.size := HX9.out.bel.size
          obtain ⟨hi0, hz0, hz1, hz2⟩ := HU.out
          go_wp2_with (at_builtin; refine wpList_append_own _ rfl _ _ 61 rfl w.heap.size 5 i0 _ 1 1 Tryd.underlying61 hi0 hz0 hz1 hz2 rfl (by decide) _ _ _ rfl HX9.out.own ⟨wc.heap.size, 0, none⟩ 1 1 [.int .u8 10] rfl rfl ?d1 ?d2 ?d3 ?d4 ?d5 ?_)
          case d1 => exact World.news_of_block (cs := #[.int .u8 10]) (t := 5) (fr := (0, 0)) (heap_alloc_new _ _)
          case d2 => intro u hu; simp at hu; rw [hu]; rfl
          case d3 => unfold maxLen; omega
          case d4 => omega
          case d5 => exact hsz9
          intro v10 w10 hown' hgrow _
          have HX10 : Hid (TX w Bm M (txT l (i + 1)) v10 w10) := by
            rw [Hid, HLN3.out]
            exact HX9.out.app (U := [10]) hown' hgrow
          clear hown' hgrow hi0 hz0 hz1 hz2
          go_wp2
          go_roundw
          case rel => exact ⟨i + 1, HI1.out, by rw [HQ1.out], HX10.out⟩
          case measure =>
            rw [HRR.out]
            exact meas_q HM1.out
    · obtain rfl : i = l.length := p3 (by omega)
      have hps := HP.out.size
      rw [hps]
      have hd : decide ((s.size : Int) < (s.size : Int)) = false := by simp
      have hc : wr.cell? ⟨Bm, s.size, none⟩ = some (.bool (mkd l l.length s.size)) := by
        rw [cell_at HX.out.mar, ← HM.out]
        exact plC_get _ _ (by omega)
      have hlt5 : (s.size : Int) < 513 := by omega
      have htl := txT_len HP.out l.length (Nat.le_refl _)
      have hll := HP.out.len
      have hlb := labT_len s.size (by omega)
      have HLA : Hid (∀ w', Below w.heap.size w w' → Calls Tryd.prog 21 #[.int .i64 (s.size : Int)] w' fun e w'' => e = .returned (.string (S (labT s.size))) ∧ Below w'.heap.size w' w'') := fun w' hb => labelAt_any _ (by omega) (HT.out.later hb)
      have HPR : Hid (prT l = txT l l.length ++ (if mkd l l.length s.size then labL s.size else [])) := by
        show _ = _
        unfold prT
        rw [hps]
      clear p1 p2 p3 hlt hi hps
      cases hmk : mkd l l.length s.size with
      | true =>
        have hadd : ∀ w, (Op.stringOp .add (S (labT s.size)) ⟨#[58, 10]⟩).run Tryd.prog w = .ok (.string (S (labL s.size))) w := add_S _ [58, 10] (by simp; omega)
        have HLL : Hid ((S (labL s.size)).size = (labT s.size).length + 2) := by show _ = _; rw [S_size]; simp [labL]
        obtain ⟨R, hR⟩ : ∃ R, S (labL s.size) = R := ⟨_, rfl⟩
        have HR : Hid (S (labL s.size) = R) := hR
        rw [hmk] at hc HPR
        rw [hR] at hadd HLL
        clear hR hmk
        go_wp2_with fail
        refine (HLA.out _ HX.out.bel).mono ?_
        rintro e w4 ⟨rfl, hb4⟩
        have HX4 : Hid (TX w Bm M (txT l l.length) (.slice va (txT l l.length).length vc) w4) := HX.out.later hb4
        have hsz4 : w.heap.size ≤ w4.heap.size := HX4.out.bel.size
        clear hb4
        obtain ⟨hi0, hz0, hz1, hz2⟩ := HU.out
        go_wp2_with (at_builtin; refine Lib.wpList_append_own_string _ rfl _ _ 61 9 rfl w.heap.size 5 i0 Tryd.underlying61 Tryd.underlying9 hi0 hz0 hz1 hz2 _ _ _ rfl HX4.out.own R rfl ?e1 ?e2 ?e3 ?_)
        case e1 => unfold maxLen; rw [HLL.out]; omega
        case e2 => rw [HLL.out]; omega
        case e3 => exact hsz4
        intro v' w5 hown' hgrow _
        rw [← HR.out] at hown'
        have HX5 : Hid (TX w Bm M (prT l) v' w5) := by
          rw [Hid, HPR.out]
          exact HX4.out.app hown' hgrow
        clear hown' hgrow hi0 hz0 hz1 hz2
        have hcv := conv_S HX5.out
        go_wp2
        go_ret2
        exact ⟨rfl, HX5.out.bel⟩
      | false =>
        rw [hmk] at hc HPR
        clear hmk
        have HX5 : Hid (TX w Bm M (prT l) (.slice va (txT l l.length).length vc) wr) := by
          rw [Hid, HPR.out]
          simp only [Bool.false_eq_true, if_false, List.append_nil]
          exact HX.out
        have hcv := conv_S HX5.out
        go_wp2
        go_ret2
        exact ⟨rfl, HX5.out.bel⟩
/-- Print of the program. -/
theorem print_any (s : ByteArray) (hs : s.size ≤ 9223372036854775807) {w : World} (hT : TabS w) : Calls Tryd.prog 9 #[.string s] w fun e w' => e = .returned (.tuple #[.string (S (prV s).1), .int .i64 (prV s).2]) ∧ Below w.heap.size w w' := by
  unfold prV
  by_cases h : (decV s).2.1 = 0
  · rw [if_pos h]
    exact print_yes (prg_of h) hT
  · rw [if_neg h]
    exact print_no s hs h hT
end Go.Proofs.YtbjopdmchmekpaaDoor
