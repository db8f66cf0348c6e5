/- ChainShapes, walked. -/
import Derived.Test.YtbbcfimgnbdpeaaChSx
namespace Go.Proofs.Ytbbcfimgnbdpeaa.Ch
open Go.ChangeShapes Go.WideShapes Go.ChangeAt Go.RowKit
attribute [local go_sem ↓] Go.wp_at_zero Go.wp_at_succ

def kindS (m : Int) (l : List Int) : Int := (outS m l).1
def valS (m : Int) (l : List Int) : List Int := (outS m l).2.1
def errS (m : Int) (l : List Int) : Int := (outS m l).2.2
theorem valS_is (m : Int) (C : List Int) : valS m C = [] ∨ ∃ (n : Nat) (L : List Nat), valS m C = kys C L ∧ L.length ≤ 16 ∧ n ≤ 16 ∧ C.length = 2 * n + 3 ∧ ∀ i ∈ L, 1 ≤ i ∧ i ≤ n := by
  unfold valS outS
  split
  · rename_i hq
    obtain ⟨n, rfl, hn, hC⟩ := okS_of hq
    split
    · exact Or.inl rfl
    · rename_i hr
      cases h : hpV C (nth C 2).toNat with
      | none => exact Or.inl rfl
      | some L =>
        obtain ⟨Fr, h1⟩ := hp_iff.1 h
        have h2 := nf_some h1.1
        exact Or.inr ⟨n, L, rfl, by omega, hn, hC, fun i hi => by have := h2.2.2 i hi; omega⟩
  · exact Or.inl rfl
theorem valS_len {m : Int} {l : List Int} : (valS m l).length ≤ 16 := by
  rcases valS_is m l with h | ⟨n, L, h, h1, _⟩
  · rw [h]; simp
  · rw [h, kys_len]; exact h1
theorem valS_w64 {m : Int} {l : List Int} (h : ∀ x ∈ l, Sx x) : ∀ x ∈ valS m l, Sx x := by
  rcases valS_is m l with h0 | ⟨n, L, h0, h1, hn, hC, hr⟩
  · rw [h0]; simp
  · rw [h0]
    intro x hx
    simp only [kys, List.mem_map] at hx
    obtain ⟨i, hi, rfl⟩ := hx
    have := hr i hi
    have h9 : ky i < l.length := by unfold ky; omega
    rw [nth_at h9]
    exact h _ (List.getElem_mem h9)
set_option maxRecDepth 100000 in
theorem shapes_walk {w : World} (m : Int) {v : Value} {l : List Int} (hv : Nl w v l) : Calls Try.prog 8 #[.int .i64 m, v] w fun e w' => e = .returned (.bool true) ∧ Below w.heap.size w w' := by
  have HL : Hid (∀ w' : World, Below w.heap.size w w' → Nl w' v l) := fun w' hb => hv.later hb (Nat.le_refl _)
  have HLN : Hid (l.length ≤ 17592186044416 ∧ ∀ x ∈ l, Sx x) := ⟨by obtain ⟨_, _, _, h, _⟩ := hv; exact h, hv.w64⟩
  have HNU : Hid (Calls Try.prog 14 #[v] w fun e w' => ∃ v', e = .returned v' ∧ w'.ownsRow w.heap.size 2 1 v' l.length (numC l) ∧ Below w.heap.size w w') := numbers_any hv
  have HSH : Hid (∀ (w' : World) (v' : Value), Nl w' v' l → Calls Try.prog 18 #[.int .i64 m, v'] w' fun e w'' => ∃ u, e = .returned (.tuple #[.agg (shC (kindS m l) u (.slice none 0 0)), .int .i64 (errS m l)]) ∧ w''.ownsRow w'.heap.size 2 1 u (valS m l).length (numC (valS m l)) ∧ Below w'.heap.size w' w'') := fun w' v' h => shape_any m h
  have HRH : Hid (∀ (w' : World) (v' : Value), Nl w' v' l → Calls Try.prog 19 #[.int .i64 m, v'] w' fun e w'' => ∃ u, e = .returned (.tuple #[.agg (shC (kindS m l) u (.slice none 0 0)), .int .i64 (errS m l)]) ∧ w''.ownsRow w'.heap.size 2 1 u (valS m l).length (numC (valS m l)) ∧ Below w'.heap.size w' w'') := fun w' v' h => rshape_any m h
  have HSS : Hid (∀ (w' : World) (k : Int) (a b : Value), Nl w' a (valS m l) → Nl w' b (valS m l) → Calls Try.prog 20 #[.agg (shC k a (.slice none 0 0)), .agg (shC k b (.slice none 0 0))] w' fun e w'' => e = .returned (.bool true) ∧ Below w'.heap.size w' w'') := fun w' k a b h1 h2 => sshape_any h1 h2
  have HSA : Hid (∀ (w' : World) (v1 v2 : Value), Nl w' v1 l → Nl w' v2 l → Calls Try.prog 15 #[v1, v2] w' fun e w'' => e = .returned (.bool true) ∧ Below w'.heap.size w' w'') := fun w' v1 v2 h1 h2 => by have := same_any h1 h2; simpa using this
  have HVS : Hid ((valS m l).length ≤ 17592186044416 ∧ ∀ x ∈ valS m l, Sx x) := ⟨by have := valS_len (m := m) (l := l); omega, valS_w64 HLN.out.2⟩
  generalize kindS m l = K at *
  generalize errS m l = E at *
  generalize valS m l = V at *
  clear hv
  go_enter Try.func8, Try.ntmps8
  go_wp2_with fail
  refine HNU.out.mono ?_
  rintro e w1 ⟨v1, rfl, ho1, hb1⟩
  have HB1 : Hid (Below w.heap.size w w1) := hb1
  have HN1 : Hid (Nl w1 v1 l) := Nl.of_own ho1 HLN.out.1 HLN.out.2
  clear hb1 ho1 HNU
  go_wp2_with fail
  refine (HSH.out _ _ (HL.out _ HB1.out)).mono ?_
  rintro e w2 ⟨u2, rfl, ho2, hb2⟩
  have HB2 : Hid (Below w.heap.size w w2) := below_then HB1.out hb2
  have HN2 : Hid (Nl w2 v1 l ∧ Nl w2 u2 V) := ⟨HN1.out.later hb2 (Nat.le_refl _), Nl.of_own ho2 HVS.out.1 HVS.out.2⟩
  obtain ⟨w3, hs3, hr3, hb3, hz3⟩ := new_sh (P := Try.prog) (w := w2) (t := 43) (z := #[.int .i64 0, .slice none 0 0, .slice none 0 0]) rfl (shC_size K u2 (.slice none 0 0)) (shC_one K u2 ho2)
  have HB3 : Hid (Below w.heap.size w w3) := below_then HB2.out hb3
  have HN3 : Hid (Nl w3 v1 l ∧ Nl w3 u2 V) := ⟨HN2.out.1.later hb3 (Nat.le_refl _), HN2.out.2.later hb3 (Nat.le_refl _)⟩
  have hc2 : (shC K u2 (.slice none 0 0)).size = 3 := rfl
  generalize hk2 : shC K u2 (.slice none 0 0) = k2 at *
  have HR3 : Hid (w3.heap[w2.heap.size]? = some (.cells k2 43 (0, 0))) := hr3
  have HK2 : Hid (shC K u2 (.slice none 0 0) = k2) := hk2
  clear hb2 ho2 hb3 hr3 HSH HN1 HN2 HB1 HB2 hk2
  go_wp2_with fail
  refine (HRH.out _ _ HN3.out.1).mono ?_
  rintro e w4 ⟨u4, rfl, ho4, hb4⟩
  have HB4 : Hid (Below w.heap.size w w4) := below_then HB3.out hb4
  have HN4 : Hid (Nl w4 v1 l ∧ Nl w4 u2 V ∧ Nl w4 u4 V) := ⟨HN3.out.1.later hb4 (Nat.le_refl _), HN3.out.2.later hb4 (Nat.le_refl _), Nl.of_own ho4 HVS.out.1 HVS.out.2⟩
  have HR4 : Hid (w4.heap[w2.heap.size]? = some (.cells k2 43 (0, 0))) := by rw [Hid, hb4.block _ (heap_lt HR3.out)]; exact HR3.out
  obtain ⟨w5, hs5, hr5, hb5, hz5⟩ := new_sh (P := Try.prog) (w := w4) (t := 43) (z := #[.int .i64 0, .slice none 0 0, .slice none 0 0]) rfl (shC_size K u4 (.slice none 0 0)) (shC_one K u4 ho4)
  have HB5 : Hid (Below w.heap.size w w5) := below_then HB4.out hb5
  have HN5 : Hid (Nl w5 v1 l ∧ Nl w5 u2 V ∧ Nl w5 u4 V) := ⟨HN4.out.1.later hb5 (Nat.le_refl _), HN4.out.2.1.later hb5 (Nat.le_refl _), HN4.out.2.2.later hb5 (Nat.le_refl _)⟩
  have hr25 : w5.heap[w2.heap.size]? = some (.cells k2 43 (0, 0)) := by rw [hb5.block _ (heap_lt HR4.out)]; exact HR4.out
  have hc4 : (shC K u4 (.slice none 0 0)).size = 3 := rfl
  have HR5 : Hid (w5.heap[w2.heap.size]? = some (.cells k2 43 (0, 0)) ∧ w5.heap[w4.heap.size]? = some (.cells (shC K u4 (.slice none 0 0)) 43 (0, 0))) := ⟨hr25, hr5⟩
  rw [← HK2.out] at hr25
  have a0 : w5.cell? ⟨w2.heap.size, 0, none⟩ = some (.int .i64 K) := by rw [cell_at hr25]; rfl
  have a1 : w5.cell? ⟨w2.heap.size, 1, none⟩ = some u2 := by rw [cell_at hr25]; rfl
  have a2 : w5.cell? ⟨w2.heap.size, 2, none⟩ = some (.slice none 0 0) := by rw [cell_at hr25]; rfl
  have b0 : w5.cell? ⟨w4.heap.size, 0, none⟩ = some (.int .i64 K) := by rw [cell_at hr5]; rfl
  have b1 : w5.cell? ⟨w4.heap.size, 1, none⟩ = some u4 := by rw [cell_at hr5]; rfl
  have b2 : w5.cell? ⟨w4.heap.size, 2, none⟩ = some (.slice none 0 0) := by rw [cell_at hr5]; rfl
  obtain ⟨ua2, uc2, rfl⟩ := nl_slice HN5.out.2.1
  obtain ⟨ua4, uc4, rfl⟩ := nl_slice HN5.out.2.2
  have HCL : Hid (∀ w', Below w5.heap.size w5 w' → w'.cell? ⟨w2.heap.size, 0, none⟩ = some (.int .i64 K) ∧ w'.cell? ⟨w4.heap.size, 0, none⟩ = some (.int .i64 K)) := fun w' hb => ⟨cell_later hb (heap_lt hr25) a0, cell_later hb (heap_lt hr5) b0⟩
  have hp2 : #[.int .i64 K, .slice ua2 V.length uc2, .slice none 0 0] = k2 := HK2.out
  have HSQ : Hid (Calls Try.prog 20 #[.agg k2, .agg (shC K (.slice ua4 V.length uc4) (.slice none 0 0))] w5 fun e w'' => e = .returned (.bool true) ∧ Below w5.heap.size w5 w'') := by rw [Hid, ← HK2.out]; exact HSS.out w5 K _ _ HN5.out.2.1 HN5.out.2.2
  have hp4 : #[.int .i64 K, .slice ua4 V.length uc4, .slice none 0 0] = shC K (.slice ua4 V.length uc4) (.slice none 0 0) := rfl
  generalize hk4 : shC K (.slice ua4 V.length uc4) (.slice none 0 0) = k4 at *
  clear hb4 ho4 hb5 hr5 hr25 HRH HN3 HN4 HB3 HB4 hk4 HR3 HR4 hs3 hz3
  go_wp2_with fail
  refine HSQ.out.mono ?_
  rintro e w6 ⟨rfl, hb6⟩
  have HB6 : Hid (Below w.heap.size w w6 ∧ Below w5.heap.size w5 w6) := ⟨below_then HB5.out hb6, hb6⟩
  clear hb6 a0 a1 a2 b0 b1 b2 hs5 hz5
  go_wp2_with fail
  refine (HSA.out _ _ _ (HL.out _ HB6.out.1) (HN5.out.1.later HB6.out.2 (Nat.le_refl _))).mono ?_
  rintro e w7 ⟨rfl, hb7⟩
  have HB7 : Hid (Below w.heap.size w w7) := below_then HB6.out.1 hb7
  obtain ⟨q0, q1⟩ := HCL.out w7 (below_then HB6.out.2 hb7)
  clear hb7 HB6 hp2 hp4 HCL
  go_wp2_with fail
  go_ret
  exact ⟨rfl, HB7.out⟩
end Go.Proofs.Ytbbcfimgnbdpeaa.Ch
