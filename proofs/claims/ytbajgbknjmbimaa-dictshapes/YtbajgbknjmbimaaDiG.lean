/- DictShapes, walked. -/
import Derived.Test.YtbajgbknjmbimaaDiU
import Derived.Laws.StructEq
namespace Go.Proofs.Ytbajgbknjmbimaa.Di
open Go.ChangeShapes Go.WideShapes Go.ChangeAt Go.RowKit
attribute [local go_sem ↓] Go.wp_at_zero Go.wp_at_succ

theorem len2 {α : Type} {l : List α} (h : l.length = 2) : ∃ a b, l = [a, b] := by
  match l, h with
  | [a, b], _ => exact ⟨a, b, rfl⟩
theorem eq_pair (k v : Int) (w : World) (d : Nat) : (Op.equalIn (d + 2) 59 (.agg #[.int .i64 k, .int .i64 v]) (.agg #[.int .i64 k, .int .i64 v])).run Try.prog w = .ok true w := by
  rw [run_equalIn_struct w (d + 1) 59 _ _ (by kernel_rfl) (by kernel_rfl)]
  have hf : (Try.prog.fieldsOf 59).toList.map (fun f => (f.name, f.type, f.offset)) = [("Key", 2, 0), ("Value", 2, 1)] := by kernel_rfl
  generalize (Try.prog.fieldsOf 59).toList = fs at *
  have hl : fs.length = 2 := by have := congrArg List.length hf; simpa using this
  obtain ⟨f0, f1, rfl⟩ := len2 hl
  simp only [List.map_cons, List.map_nil, List.cons.injEq, Prod.mk.injEq, and_true] at hf
  obtain ⟨⟨n0, t0, o0⟩, n1, t1, o1⟩ := hf
  have p0 : (part 2 (#[.int .i64 k, .int .i64 v] : Array Value) 0).run Try.prog w = .ok (.int .i64 k) w := run_part_plain w (by kernel_rfl) rfl
  have p1 : (part 2 (#[.int .i64 k, .int .i64 v] : Array Value) 1).run Try.prog w = .ok (.int .i64 v) w := run_part_plain w (by kernel_rfl) rfl
  have q2 := fun v : Int => run_equalIn_int (P := Try.prog) w d 2 .i64 .i64 v v Try.underlying2
  simp [Op.eqFields, n0, n1, t0, t1, o0, o1, p0, p1, q2]
theorem neq_pair (k v : Int) (w : World) : (binOp .neq 59 (.agg #[.int .i64 k, .int .i64 v]) (.agg #[.int .i64 k, .int .i64 v])).run Try.prog w = .ok (.bool false) w := by
  rw [run_neq_struct, eq_pair k v w 9998]
  rfl
theorem pl_cell {w : World} {va : Option Addr} {n cap : Nat} {P : List (Int × Int)} (h : Pl w (.slice va n cap) P) {k : Nat} (hk : k < P.length) : ∃ x, va = some x ∧ x.block < w.heap.size ∧ w.cell? (x.add (k * 2)) = some (.int .i64 (P[k]).1) ∧ w.cell? ⟨(x.add (k * 2)).block, (x.add (k * 2)).off + 1, none⟩ = some (.int .i64 (P[k]).2) := by
  obtain ⟨a, c, h1, h2, _, h4, h5⟩ := h
  injection h1 with e1 e2 e3
  subst e1 e3
  cases va with
  | none => have := h4 rfl; omega
  | some x =>
    have g0 := prC_get P k 0 hk (by decide)
    have g1 := prC_get P k 1 hk (by decide)
    have c0 := (h5 x rfl).2 (k * 2 + 0) _ (by rw [g0]; rfl)
    have c1 := (h5 x rfl).2 (k * 2 + 1) _ (by rw [g1]; rfl)
    refine ⟨x, rfl, (h5 x rfl).1, c0, ?_⟩
    rw [← c1]
    congr 1
    rw [add_pos' _ (k * 2 + 1) (by omega)]
    by_cases hk0 : k = 0
    · subst hk0; simp [add_zero']
    · rw [add_pos' _ (k * 2) (by omega)]
      simp [Nat.add_assoc]
theorem gi_wrap {n i : Nat} (hi : i < n) (hn : n ≤ 1000) : wrap64 ((i : Int) + 1) = ((i + 1 : Nat) : Int) := by
  unfold wrap64
  omega
set_option maxRecDepth 100000 in
set_option maxHeartbeats 2000000 in
/-- Two shapes without values, of one kind, with the same pairs. -/
theorem spair_any {w : World} {k : Int} {va vb : Value} {Z : List (Int × Int)} (ha : Pl w va Z) (hb : Pl w vb Z) (hz : Z.length ≤ 1000) : Calls Try.prog 20 #[.agg (shC k (.slice none 0 0) va), .agg (shC k (.slice none 0 0) vb)] w fun e w' => e = .returned (.bool true) ∧ Below w.heap.size w w' := by
  have HS : Hid (∀ w' : World, Calls Try.prog 15 #[.slice none 0 0, .slice none 0 0] w' fun e w'' => e = .returned (.bool true) ∧ Below w'.heap.size w' w'') := fun w' => by have := same_any (Nl.nil (w := w')) (Nl.nil (w := w')); simpa using this
  have HPA : Hid (∀ w' : World, Below w.heap.size w w' → Pl w' va Z) := fun w' h => ha.later h
  have HPB : Hid (∀ w' : World, Below w.heap.size w w' → Pl w' vb Z) := fun w' h => hb.later h
  obtain ⟨aa, ca, rfl, _⟩ := ha
  obtain ⟨ab, cb, rfl, _⟩ := hb
  have HZ : Hid (Z.length ≤ 1000) := hz
  unfold shC
  clear hz
  go_enter Try.func20, Try.ntmps20
  go_wp2_with fail
  refine (HS.out _).mono ?_
  rintro e w1 ⟨rfl, hb⟩
  have hra := row_next1 hb
  have hrb := row_next2 hb
  have a0 : w1.cell? ⟨w.heap.size, 0, none⟩ = some (.int .i64 k) := by rw [cell_at hra]; rfl
  have a2 : w1.cell? ⟨w.heap.size, 2, none⟩ = some (.slice aa Z.length ca) := by rw [cell_at hra]; rfl
  have b0 : w1.cell? ⟨w.heap.size + 1, 0, none⟩ = some (.int .i64 k) := by rw [cell_at hrb]; rfl
  have b2 : w1.cell? ⟨w.heap.size + 1, 2, none⟩ = some (.slice ab Z.length cb) := by rw [cell_at hrb]; rfl
  have HB : Hid (Below w.heap.size w w1) := below_next2 hb
  have HRA : Hid (w1.heap[w.heap.size]? = some (.cells #[.int .i64 k, .slice none 0 0, .slice aa Z.length ca] 43 (0, 0)) ∧ w1.heap[w.heap.size + 1]? = some (.cells #[.int .i64 k, .slice none 0 0, .slice ab Z.length cb] 43 (0, 0))) := ⟨hra, hrb⟩
  clear hb hra hrb HS
  go_wp2_with fail
  go_loopg [6] Z.length (fun gh iv wr => ∃ i : Nat, Z.length - i = gh ∧ i ≤ Z.length ∧ iv = .int .i64 (i : Int) ∧ Below w1.heap.size w1 wr)
  case atStart => exact ⟨0, rfl, Nat.zero_le _, rfl, Below.refl _ _⟩
  case round =>
    obtain ⟨i, rfl, hi, rfl, hbr⟩ := hrel
    have HBR : Hid (Below w1.heap.size w1 wr) := hbr
    have e2 : wr.cell? ⟨w.heap.size, 2, none⟩ = some (.slice aa Z.length ca) := cell_later hbr (heap_lt HRA.out.1) a2
    have f2 : wr.cell? ⟨w.heap.size + 1, 2, none⟩ = some (.slice ab Z.length cb) := cell_later hbr (heap_lt HRA.out.2) b2
    have HWB : Hid (Below w.heap.size w wr) := below_then HB.out hbr
    clear hbr
    by_cases hlt : i < Z.length
    · obtain ⟨x, rfl, hxb, x0, x1⟩ := pl_cell (HPA.out wr HWB.out) hlt
      obtain ⟨y, rfl, hyb, y0, y1⟩ := pl_cell (HPB.out wr HWB.out) hlt
      have d1 : decide ((i : Int) < (Z.length : Int)) = true := by simpa using hlt
      have HIW : Hid (wrap64 ((i : Int) + 1) = ((i + 1 : Nat) : Int)) := gi_wrap hlt HZ.out
      have hne := fun w => neq_pair (Z[i]).1 (Z[i]).2 w
      generalize (Z[i]).1 = zk at *
      generalize (Z[i]).2 = zv at *
      clear hi a0 a2 b0 b2 hxb hyb
      go_wp2_with fail
      go_quiet (fail)
      go_wp2_with fail
      go_roundg (Z.length - (i + 1))
      case rel => exact ⟨i + 1, rfl, hlt, by first | rw [HIW.out] | go_num, HBR.out.trans ((below_drawn (Below.refl _ _) _).mono HBR.out.size)⟩
      case measure => exact mq_less hlt
    · have d1 : decide ((i : Int) < (Z.length : Int)) = false := by simpa using hlt
      clear hi a0 a2 b0 b2
      go_wp2_with fail
      go_ret
      exact ⟨rfl, HWB.out⟩
theorem val_len {m : Int} {l : List Int} : (valS m l).length ≤ 1000 := by
  unfold valS
  split
  · rename_i h
    simp only [Bool.and_eq_true] at h
    have h1 := okS_len h.1
    have h2 := in_len (C := l) (j := m.toNat)
    omega
  · simp
theorem pl_slice {w : World} {v : Value} {P : List (Int × Int)} (h : Pl w v P) : ∃ a cap, v = .slice a P.length cap := by
  obtain ⟨a, cap, hv, _⟩ := h
  exact ⟨a, cap, hv⟩
theorem shP_one (k : Int) {w : World} {base n : Nat} {v : Value} {xs : List Value} (h : w.ownsRow base 59 2 v n xs) : (shC k (.slice none 0 0) v).all (·.oneCell') = true := by
  obtain ⟨a, c, rfl⟩ := own_slice h
  simp [shC, Value.oneCell']
set_option maxRecDepth 100000 in
theorem shapes_walk {w : World} (m : Int) {v : Value} {l : List Int} (hv : Nl w v l) : Calls Try.prog 8 #[.int .i64 m, v] w fun e w' => e = .returned (.bool true) ∧ Below w.heap.size w w' := by
  have HL : Hid (∀ w' : World, Below w.heap.size w w' → Nl w' v l) := fun w' hb => hv.later hb (Nat.le_refl _)
  have HLN : Hid (l.length ≤ 17592186044416 ∧ ∀ x ∈ l, Sx x) := ⟨by obtain ⟨_, _, _, h, _⟩ := hv; exact h, hv.w64⟩
  have HNU : Hid (Calls Try.prog 14 #[v] w fun e w' => ∃ v', e = .returned v' ∧ w'.ownsRow w.heap.size 2 1 v' l.length (numC l) ∧ Below w.heap.size w w') := numbers_any hv
  have HSH : Hid (∀ (w' : World) (v' : Value), Nl w' v' l → Calls Try.prog 18 #[.int .i64 m, v'] w' fun e w'' => ∃ u, e = .returned (.tuple #[.agg (shC (kindS m l) (.slice none 0 0) u), .int .i64 (errS m l)]) ∧ w''.ownsRow w'.heap.size 59 2 u (valS m l).length (prC (valS m l)) ∧ Below w'.heap.size w' w'') := fun w' v' h => shape_any m h
  have HRH : Hid (∀ (w' : World) (v' : Value), Nl w' v' l → Calls Try.prog 19 #[.int .i64 m, v'] w' fun e w'' => ∃ u, e = .returned (.tuple #[.agg (shC (kindS m l) (.slice none 0 0) u), .int .i64 (errS m l)]) ∧ w''.ownsRow w'.heap.size 59 2 u (valS m l).length (prC (valS m l)) ∧ Below w'.heap.size w' w'') := fun w' v' h => rshape_any m h
  have HSS : Hid (∀ (w' : World) (k : Int) (a b : Value), Pl w' a (valS m l) → Pl w' b (valS m l) → Calls Try.prog 20 #[.agg (shC k (.slice none 0 0) a), .agg (shC k (.slice none 0 0) b)] w' fun e w'' => e = .returned (.bool true) ∧ Below w'.heap.size w' w'') := fun w' k a b h1 h2 => spair_any h1 h2 val_len
  have HSA : Hid (∀ (w' : World) (v1 v2 : Value), Nl w' v1 l → Nl w' v2 l → Calls Try.prog 15 #[v1, v2] w' fun e w'' => e = .returned (.bool true) ∧ Below w'.heap.size w' w'') := fun w' v1 v2 h1 h2 => by have := same_any h1 h2; simpa using this
  generalize kindS m l = K at *
  generalize errS m l = E at *
  generalize valS m l = V at *
  clear hv
  go_enter Try.func8, Try.ntmps8
  go_wp2_with fail
  refine HNU.out.mono ?_
  rintro e w1 ⟨v1, rfl, ho1, hb1⟩
  have HB1 : Hid (Below w.heap.size w w1) := hb1
  have HN1 : Hid (Nl w1 v1 l) := Nl.of_own ho1 HLN.out.1 HLN.out.2
  clear hb1 ho1 HNU
  go_wp2_with fail
  refine (HSH.out _ _ (HL.out _ HB1.out)).mono ?_
  rintro e w2 ⟨u2, rfl, ho2, hb2⟩
  have HB2 : Hid (Below w.heap.size w w2) := below_then HB1.out hb2
  have HN2 : Hid (Nl w2 v1 l ∧ Pl w2 u2 V) := ⟨HN1.out.later hb2 (Nat.le_refl _), Pl.of_own ho2⟩
  obtain ⟨w3, hs3, hr3, hb3, hz3⟩ := new_sh (P := Try.prog) (w := w2) (t := 43) (z := #[.int .i64 0, .slice none 0 0, .slice none 0 0]) rfl (shC_size K (.slice none 0 0) u2) (shP_one K ho2)
  have HB3 : Hid (Below w.heap.size w w3) := below_then HB2.out hb3
  have HN3 : Hid (Nl w3 v1 l ∧ Pl w3 u2 V) := ⟨HN2.out.1.later hb3 (Nat.le_refl _), HN2.out.2.later hb3⟩
  have hc2 : (shC K (.slice none 0 0) u2).size = 3 := rfl
  generalize hk2 : shC K (.slice none 0 0) u2 = k2 at *
  have HR3 : Hid (w3.heap[w2.heap.size]? = some (.cells k2 43 (0, 0))) := hr3
  have HK2 : Hid (shC K (.slice none 0 0) u2 = k2) := hk2
  clear hb2 ho2 hb3 hr3 HSH HN1 HN2 HB1 HB2 hk2
  go_wp2_with fail
  refine (HRH.out _ _ HN3.out.1).mono ?_
  rintro e w4 ⟨u4, rfl, ho4, hb4⟩
  have HB4 : Hid (Below w.heap.size w w4) := below_then HB3.out hb4
  have HN4 : Hid (Nl w4 v1 l ∧ Pl w4 u2 V ∧ Pl w4 u4 V) := ⟨HN3.out.1.later hb4 (Nat.le_refl _), HN3.out.2.later hb4, Pl.of_own ho4⟩
  have HR4 : Hid (w4.heap[w2.heap.size]? = some (.cells k2 43 (0, 0))) := by rw [Hid, hb4.block _ (heap_lt HR3.out)]; exact HR3.out
  obtain ⟨w5, hs5, hr5, hb5, hz5⟩ := new_sh (P := Try.prog) (w := w4) (t := 43) (z := #[.int .i64 0, .slice none 0 0, .slice none 0 0]) rfl (shC_size K (.slice none 0 0) u4) (shP_one K ho4)
  have HB5 : Hid (Below w.heap.size w w5) := below_then HB4.out hb5
  have HN5 : Hid (Nl w5 v1 l ∧ Pl w5 u2 V ∧ Pl w5 u4 V) := ⟨HN4.out.1.later hb5 (Nat.le_refl _), HN4.out.2.1.later hb5, HN4.out.2.2.later hb5⟩
  have hr25 : w5.heap[w2.heap.size]? = some (.cells k2 43 (0, 0)) := by rw [hb5.block _ (heap_lt HR4.out)]; exact HR4.out
  have hc4 : (shC K (.slice none 0 0) u4).size = 3 := rfl
  have HR5 : Hid (w5.heap[w2.heap.size]? = some (.cells k2 43 (0, 0)) ∧ w5.heap[w4.heap.size]? = some (.cells (shC K (.slice none 0 0) u4) 43 (0, 0))) := ⟨hr25, hr5⟩
  rw [← HK2.out] at hr25
  have a0 : w5.cell? ⟨w2.heap.size, 0, none⟩ = some (.int .i64 K) := by rw [cell_at hr25]; rfl
  have a2 : w5.cell? ⟨w2.heap.size, 2, none⟩ = some u2 := by rw [cell_at hr25]; rfl
  have a1 : w5.cell? ⟨w2.heap.size, 1, none⟩ = some (.slice none 0 0) := by rw [cell_at hr25]; rfl
  have b0 : w5.cell? ⟨w4.heap.size, 0, none⟩ = some (.int .i64 K) := by rw [cell_at hr5]; rfl
  have b2 : w5.cell? ⟨w4.heap.size, 2, none⟩ = some u4 := by rw [cell_at hr5]; rfl
  have b1 : w5.cell? ⟨w4.heap.size, 1, none⟩ = some (.slice none 0 0) := by rw [cell_at hr5]; rfl
  obtain ⟨ua2, uc2, rfl⟩ := pl_slice HN5.out.2.1
  obtain ⟨ua4, uc4, rfl⟩ := pl_slice HN5.out.2.2
  have HCL : Hid (∀ w', Below w5.heap.size w5 w' → w'.cell? ⟨w2.heap.size, 0, none⟩ = some (.int .i64 K) ∧ w'.cell? ⟨w4.heap.size, 0, none⟩ = some (.int .i64 K)) := fun w' hb => ⟨cell_later hb (heap_lt hr25) a0, cell_later hb (heap_lt hr5) b0⟩
  have hp2 : #[.int .i64 K, .slice none 0 0, .slice ua2 V.length uc2] = k2 := HK2.out
  have HSQ : Hid (Calls Try.prog 20 #[.agg k2, .agg (shC K (.slice none 0 0) (.slice ua4 V.length uc4))] w5 fun e w'' => e = .returned (.bool true) ∧ Below w5.heap.size w5 w'') := by rw [Hid, ← HK2.out]; exact HSS.out w5 K _ _ HN5.out.2.1 HN5.out.2.2
  have hp4 : #[.int .i64 K, .slice none 0 0, .slice ua4 V.length uc4] = shC K (.slice none 0 0) (.slice ua4 V.length uc4) := rfl
  generalize hk4 : shC K (.slice none 0 0) (.slice ua4 V.length uc4) = k4 at *
  clear hb4 ho4 hb5 hr5 hr25 HRH HN3 HN4 HB3 HB4 hk4 HR3 HR4 hs3 hz3
  go_wp2_with fail
  refine HSQ.out.mono ?_
  rintro e w6 ⟨rfl, hb6⟩
  have HB6 : Hid (Below w.heap.size w w6 ∧ Below w5.heap.size w5 w6) := ⟨below_then HB5.out hb6, hb6⟩
  clear hb6 a0 a1 a2 b0 b1 b2 hs5 hz5
  go_wp2_with fail
  refine (HSA.out _ _ _ (HL.out _ HB6.out.1) (HN5.out.1.later HB6.out.2 (Nat.le_refl _))).mono ?_
  rintro e w7 ⟨rfl, hb7⟩
  have HB7 : Hid (Below w.heap.size w w7) := below_then HB6.out.1 hb7
  obtain ⟨q0, q1⟩ := HCL.out w7 (below_then HB6.out.2 hb7)
  clear hb7 HB6 hp2 hp4 HCL
  go_wp2_with fail
  go_ret
  exact ⟨rfl, HB7.out⟩
end Go.Proofs.Ytbajgbknjmbimaa.Di
