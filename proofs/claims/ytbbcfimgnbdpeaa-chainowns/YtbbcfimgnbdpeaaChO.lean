/- ChainOwns, walked. -/
import Derived.Test.YtbbcfimgnbdpeaaChE
namespace Go.Proofs.Ytbbcfimgnbdpeaa.Ch
open Go.ChangeShapes Go.WideShapes Go.ChangeAt Go.RowKit
attribute [local go_sem ↓] Go.wp_at_zero Go.wp_at_succ

/-- The list that was handed to New is written over. -/
structure OM (w0 wr : World) (X P : Nat) (pc : Array Value) (F : List Nat) (mc : Mc) (v : Value) (n : Nat) : Prop where
  em : EM w0 wr X P pc F mc
  row : ∃ xs, wr.ownsRow w0.heap.size 2 1 v n xs
  nR : ∀ b, v.ownBlock = some b → b ∉ F
theorem OM.set {w0 wr : World} {X P g cap n : Nat} {pc : Array Value} {F : List Nat} {mc : Mc} (h : OM w0 wr X P pc F mc (.slice (some ⟨g, 0, none⟩) n cap) n) (i : Nat) (x : Value) : OM w0 (wr.setCell ⟨g, i, none⟩ x) X P pc F mc (.slice (some ⟨g, 0, none⟩) n cap) n := by
  obtain ⟨xs, hr⟩ := h.row
  have hg := own_block hr g rfl
  have hk : Keep [g] wr (wr.setCell ⟨g, i, none⟩ x) := (Keep.refl _ _).setCell _ _ (Or.inl (by simp))
  have hgF := h.nR g rfl
  have hPg : P ≠ g := fun e => own_ne hr h.em.par (by decide) (by rw [e]; rfl)
  refine ⟨⟨h.em.bel.trans (hk.below h.em.bel.size (by simpa using hg.1)), h.em.mac.keep hk (fun b hb => by simp; exact fun e => hgF (e ▸ hb)), h.em.low, by rw [hk.block _ (heap_lt h.em.par) (by simpa using hPg)]; exact h.em.par, h.em.nP⟩, own_setCell hr i x, h.nR⟩
theorem OM.cell {w0 wr : World} {X P g cap n : Nat} {pc : Array Value} {F : List Nat} {mc : Mc} (h : OM w0 wr X P pc F mc (.slice (some ⟨g, 0, none⟩) n cap) n) (i : Nat) (hi : i < n) : (∃ u, wr.cell? ⟨g, i, none⟩ = some u) ∧ wr.frozen? ⟨g, i, none⟩ = false := by
  obtain ⟨xs, hr⟩ := h.row
  exact own_some hr i (by omega)
theorem ow_wrap {n i : Nat} (hn : n ≤ 17592186044416) (hi : i < n) : wrap64 ((i : Int) + 1) = ((i + 1 : Nat) : Int) := by
  unfold wrap64
  omega
theorem ow_meas {n i : Nat} (hi : i < n) (hw : wrap64 ((i : Int) + 1) = ((i + 1 : Nat) : Int)) : n - (intOf (Value.int .i64 (wrap64 ((i : Int) + 1)))).toNat < n - (intOf (Value.int .i64 (i : Int))).toNat := by
  rw [hw]
  simp [intOf]
  omega
set_option maxRecDepth 100000 in
set_option maxHeartbeats 2000000 in
theorem owns_walk {w : World} {v : Value} {q : Ask} (ha : AskV w v q) : Calls Try.prog 5 #[v] w fun e w' => e = .returned (.bool true) ∧ Below w.heap.size w w' := by
  have HA : Hid (AskV w v q) := ha
  obtain ⟨va, vw, rfl, hA, hW, _⟩ := ha
  have HAL : Hid (q.A.length ≤ 17592186044416 ∧ ∀ x ∈ q.A, Sx x) := ⟨by obtain ⟨_, _, _, h, _⟩ := hA; exact h, hA.w64⟩
  have HL : Hid (∀ w' : World, Below w.heap.size w w' → Nl w' va q.A) := fun w' hb => hA.later hb (Nat.le_refl _)
  have HNU : Hid (∀ w' : World, Below w.heap.size w w' → Calls Try.prog 14 #[va] w' fun e w'' => ∃ v', e = .returned v' ∧ w''.ownsRow w'.heap.size 2 1 v' q.A.length (numC q.A) ∧ Below w'.heap.size w' w'') := fun w' hb => numbers_any (HL.out w' hb)
  have HSA : Hid (∀ (w' : World) (v' : Value), Nl w' v' q.A → Nl w' va q.A → Calls Try.prog 15 #[v', va] w' fun e w'' => e = .returned (.bool true) ∧ Below w'.heap.size w' w'') := fun w' v' h1 h2 => by have := same_any h1 h2; simpa using this
  have HR : Hid (∀ w' : World, Below w.heap.size w w' → Calls Try.prog 10 #[.int .i64 q.b, .int .i64 q.m, .int .i64 q.c, va] w' fun e w'' => e = .returned (.bool (rightV q.b q.m q.c q.A.length)) ∧ Below w'.heap.size w' w'') := fun w' hb => right_any w' _ _ _ va q.A (hA.later hb (Nat.le_refl _))
  cases hr : rightV q.b q.m q.c q.A.length with
  | false =>
    rw [hr] at HR
    have HN : Hid (∀ (w' : World) (v' : Value), Nl w' v' q.A → Calls Try.prog 9 #[.int .i64 q.b, .int .i64 q.m, .int .i64 q.c, v'] w' fun e w'' => e = .returned (.tuple #[.pointer none, .int .i64 1]) ∧ Below w'.heap.size w' w'') := fun w' v' h => new_no w' _ _ _ v' q.A h hr
    clear hA hW HA hr
    go_enter Try.func5, Try.ntmps5
    go_wp2_with fail
    refine (HNU.out _ (below_a1 _ _)).mono ?_
    rintro e w1 ⟨v1, rfl, ho1, hb1⟩
    have HB1 : Hid (Below w.heap.size w w1) := below_next hb1
    have HN1 : Hid (Nl w1 v1 q.A) := Nl.of_own ho1 HAL.out.1 HAL.out.2
    have hr1 := row_next hb1
    have HR1 : Hid (w1.heap[w.heap.size]? = some (.cells #[.int .i64 q.b, .int .i64 q.m, .int .i64 q.c, va, vw] 24 (0, 0))) := hr1
    have c0 : w1.cell? ⟨w.heap.size, 0, none⟩ = some (.int .i64 q.b) := by rw [cell_at hr1]; rfl
    have c1 : w1.cell? ⟨w.heap.size, 1, none⟩ = some (.int .i64 q.m) := by rw [cell_at hr1]; rfl
    have c2 : w1.cell? ⟨w.heap.size, 2, none⟩ = some (.int .i64 q.c) := by rw [cell_at hr1]; rfl
    clear hb1 hr1 ho1 HNU
    go_wp2_with fail
    refine (HN.out _ _ HN1.out).mono ?_
    rintro e w2 ⟨rfl, hb2⟩
    have HB2 : Hid (Below w.heap.size w w2) := below_then HB1.out hb2
    have HN2 : Hid (Nl w2 v1 q.A) := HN1.out.later hb2 (Nat.le_refl _)
    have HR2 : Hid (w2.heap[w.heap.size]? = some (.cells #[.int .i64 q.b, .int .i64 q.m, .int .i64 q.c, va, vw] 24 (0, 0))) := by rw [Hid, hb2.block _ (heap_lt HR1.out)]; exact HR1.out
    have d3 : w2.cell? ⟨w.heap.size, 3, none⟩ = some va := by rw [cell_at HR2.out]; rfl
    clear hb2 c0 c1 c2 HR1 HN1 HB1 HN
    go_wp2_with fail
    refine (HSA.out _ _ HN2.out (HL.out _ HB2.out)).mono ?_
    rintro e w3 ⟨rfl, hb3⟩
    have HB3 : Hid (Below w.heap.size w w3) := below_then HB2.out hb3
    have hr3 : w3.heap[w.heap.size]? = some (.cells #[.int .i64 q.b, .int .i64 q.m, .int .i64 q.c, va, vw] 24 (0, 0)) := by rw [hb3.block _ (heap_lt HR2.out)]; exact HR2.out
    have e0 : w3.cell? ⟨w.heap.size, 0, none⟩ = some (.int .i64 q.b) := by rw [cell_at hr3]; rfl
    have e1 : w3.cell? ⟨w.heap.size, 1, none⟩ = some (.int .i64 q.m) := by rw [cell_at hr3]; rfl
    have e2 : w3.cell? ⟨w.heap.size, 2, none⟩ = some (.int .i64 q.c) := by rw [cell_at hr3]; rfl
    have e3 : w3.cell? ⟨w.heap.size, 3, none⟩ = some va := by rw [cell_at hr3]; rfl
    clear hb3 hr3 d3 HN2 HR2 HB2
    go_wp2_with fail
    refine (HR.out _ HB3.out).mono ?_
    rintro e w4 ⟨rfl, hb4⟩
    have HB4 : Hid (Below w.heap.size w w4) := below_then HB3.out hb4
    clear hb4 e0 e1 e2 e3
    go_wp2_with fail
    go_ret
    exact ⟨rfl, HB4.out⟩
  | true =>
    rw [hr] at HR
    have HN : Hid (∀ (w' : World) (v' : Value), Nl w' v' q.A → Calls Try.prog 9 #[.int .i64 q.b, .int .i64 q.m, .int .i64 q.c, v'] w' fun e w'' => ∃ X F, e = .returned (.tuple #[.pointer (some ⟨X, 0, none⟩), .int .i64 0]) ∧ McAt w'' X F (mkM q.b q.m q.c q.A) ∧ (∀ q ∈ F, w'.heap.size ≤ q) ∧ Below w'.heap.size w' w'') := fun w' v' h => new_yes w' _ _ _ v' q.A h hr
    have HP : Hid (∀ (w' : World) X F, Below w.heap.size w w' → McAt w' X F (mkM q.b q.m q.c q.A) → (∀ b ∈ F, w.heap.size ≤ b) → Calls Try.prog 11 #[.pointer (some ⟨X, 0, none⟩), .agg #[.int .i64 q.b, .int .i64 q.m, .int .i64 q.c, va, vw]] w' fun e w'' => e = .returned (.bool true) ∧ Below w.heap.size w w'') := fun w' X F hb hm hF => play_any hb HA.out hr hm hF
    clear hA hW HA hr
    go_enter Try.func5, Try.ntmps5
    go_wp2_with fail
    refine (HNU.out _ (below_a1 _ _)).mono ?_
    rintro e w1 ⟨v1, rfl, ho1, hb1⟩
    have HB1 : Hid (Below w.heap.size w w1) := below_next hb1
    have HO1 : Hid (w1.ownsRow w.heap.size 2 1 v1 q.A.length (numC q.A)) := own_base ho1 (by simp)
    have HN1 : Hid (Nl w1 v1 q.A) := Nl.of_own ho1 HAL.out.1 HAL.out.2
    have hr1 := row_next hb1
    have HR1 : Hid (w1.heap[w.heap.size]? = some (.cells #[.int .i64 q.b, .int .i64 q.m, .int .i64 q.c, va, vw] 24 (0, 0))) := hr1
    have c0 : w1.cell? ⟨w.heap.size, 0, none⟩ = some (.int .i64 q.b) := by rw [cell_at hr1]; rfl
    have c1 : w1.cell? ⟨w.heap.size, 1, none⟩ = some (.int .i64 q.m) := by rw [cell_at hr1]; rfl
    have c2 : w1.cell? ⟨w.heap.size, 2, none⟩ = some (.int .i64 q.c) := by rw [cell_at hr1]; rfl
    clear hb1 hr1 ho1 HNU
    go_wp2_with fail
    refine (HN.out _ _ HN1.out).mono ?_
    rintro e w2 ⟨X, F, rfl, hm, hF, hb2⟩
    have HN2 : Hid (Nl w2 v1 q.A) := HN1.out.later hb2 (Nat.le_refl _)
    have HO2 : Hid (OM w w2 X w.heap.size #[.int .i64 q.b, .int .i64 q.m, .int .i64 q.c, va, vw] F (mkM q.b q.m q.c q.A) v1 q.A.length) := by
      have hsz := HB1.out.size
      refine ⟨⟨below_then HB1.out hb2, hm, fun b hb => by have := hF b hb; omega, by rw [hb2.block _ (heap_lt HR1.out)]; exact HR1.out, fun h => by have := hF _ h; have := heap_lt HR1.out; omega⟩, ⟨_, own_keep HO1.out (Keep.of_below hb2 []) (by simp)⟩, fun b hb h => ?_⟩
      have h1 := (own_block HO1.out b hb).2
      have h2 := hF b h
      omega
    have d3 : w2.cell? ⟨w.heap.size, 3, none⟩ = some va := HO2.out.em.parts.2.2.2.1
    clear hb2 c0 c1 c2 HR1 HN1 HB1 HN HO1 hm hF
    go_wp2_with fail
    refine (HSA.out _ _ HN2.out (HL.out _ HO2.out.em.bel)).mono ?_
    rintro e w3 ⟨rfl, hb3⟩
    have HO3 : Hid (OM w w3 X w.heap.size #[.int .i64 q.b, .int .i64 q.m, .int .i64 q.c, va, vw] F (mkM q.b q.m q.c q.A) v1 q.A.length) := by
      obtain ⟨h1, ⟨xs, h2⟩, h3⟩ := HO2.out
      exact ⟨h1.later hb3, ⟨xs, own_keep h2 (Keep.of_below hb3 []) (by simp)⟩, h3⟩
    obtain ⟨e0, e1, e2, e3, e4⟩ := HO3.out.em.parts
    clear hb3 d3 HN2 HO2
    go_wp2_with fail
    refine (HR.out _ HO3.out.em.bel).mono ?_
    rintro e w4 ⟨rfl, hb4⟩
    have HO4 : Hid (OM w w4 X w.heap.size #[.int .i64 q.b, .int .i64 q.m, .int .i64 q.c, va, vw] F (mkM q.b q.m q.c q.A) v1 q.A.length) := by
      obtain ⟨h1, ⟨xs, h2⟩, h3⟩ := HO3.out
      exact ⟨h1.later hb4, ⟨xs, own_keep h2 (Keep.of_below hb4 []) (by simp)⟩, h3⟩
    have hvs : ∃ a cap, v1 = .slice a q.A.length cap := by
      obtain ⟨_, ⟨xs, h2⟩, _⟩ := HO4.out
      exact own_slice h2
    obtain ⟨ra, rcap, rfl⟩ := hvs
    have HAL1 : Hid (q.A.length ≤ 17592186044416) := HAL.out.1
    generalize hn : q.A.length = n at *
    clear hb4 e0 e1 e2 e3 e4 HO3
    go_wp2_with fail
    go_loopw [8] (fun iv wr => ∃ i : Nat, i ≤ n ∧ iv = .int .i64 i ∧ OM w wr X w.heap.size #[.int .i64 q.b, .int .i64 q.m, .int .i64 q.c, va, vw] F (mkM q.b q.m q.c q.A) (.slice ra n rcap) n) (fun iv _ => n - (intOf iv).toNat)
    case atStart => exact ⟨0, by omega, rfl, HO4.out⟩
    case round =>
      obtain ⟨i, hi, rfl, hom⟩ := hrel
      have HOM : Hid (OM w wr X w.heap.size #[.int .i64 q.b, .int .i64 q.m, .int .i64 q.c, va, vw] F (mkM q.b q.m q.c q.A) (.slice ra n rcap) n) := hom
      clear hom
      by_cases hlt : i < n
      · have hd : decide ((i : Int) < (n : Int)) = true := by simp; omega
        have hsl : ∃ g, ra = some ⟨g, 0, none⟩ := by
          obtain ⟨_, ⟨xs, h2⟩, _⟩ := HOM.out
          rcases h2.2 with ⟨h3, h4⟩ | ⟨g, cp, cur, h3, _⟩
          · omega
          · injection h3 with h5
            exact ⟨g, h5⟩
        obtain ⟨g, rfl⟩ := hsl
        obtain ⟨⟨u, hu⟩, hfz⟩ := HOM.out.cell i hlt
        have ea : (⟨g, 0, none⟩ : Addr).add i = ⟨g, i, none⟩ := by unfold Addr.add; split <;> simp_all
        have HS : Hid (OM w (wr.setCell ⟨g, i, none⟩ (.int .i64 7)) X w.heap.size #[.int .i64 q.b, .int .i64 q.m, .int .i64 q.c, va, vw] F (mkM q.b q.m q.c q.A) (.slice (some ⟨g, 0, none⟩) n rcap) n) := HOM.out.set i _
        have hwi := ow_wrap HAL1.out hlt
        go_wp2_with fail
        go_roundw
        case rel => exact ⟨i + 1, hlt, by rw [hwi], HS.out⟩
        case measure => exact ow_meas hlt hwi
      · have hd : decide ((i : Int) < (n : Int)) = false := by simp; omega
        obtain ⟨d0, d1, d2, d3, d4⟩ := HOM.out.em.parts
        go_wp2_with fail
        refine (HP.out _ X F HOM.out.em.bel HOM.out.em.mac HOM.out.em.low).mono ?_
        rintro e w5 ⟨rfl, hb5⟩
        go_wp2_with fail
        go_ret
        exact ⟨rfl, hb5⟩
end Go.Proofs.Ytbbcfimgnbdpeaa.Ch
