/- Does each read of a transaction tell what it must? -/
import Derived.Test.YtadollckekddgaaDoorHiN
import Derived.Maps.Own
import Derived.Maps.OwnOps
import Derived.Maps.OwnSet
namespace Go.Proofs.YtadollckekddgaaDoor.Hi
open Go.ChangeShapes Go.WideShapes Go.ChangeAt Go.RowKit Go.WideMaps Go.Maps
open Go.Maps (Keyed)
set_option linter.unusedVariables false
set_option maxRecDepth 100000
attribute [local go_sem ↓] Go.wp_at_zero Go.wp_at_succ

theorem hint_keyed : Keyed Tryd.prog 3 := int_keyed Tryd.underlying3
theorem hzero_i64 (w : World) : (zeroValue 2).run Tryd.prog w = .ok (.int .i64 0) w := by kernel_rfl
theorem hwf (z : Int) (h : -9223372036854775808 ≤ z ∧ z ≤ 9223372036854775807) : (Lit.int .i64 z).wf = true := by simpa [Lit.wf, IntKind.min, IntKind.max, IntKind.signed, IntKind.bits] using h
/-- What the map says of the first accesses. -/
def MapW (l : List Ac) (D : DataW Unit) : Prop := IsMap D ∧ ∀ c : Int, 0 ≤ c → c < 1024 → Maps.has D (.int .i64 c) = (lastW l c).isSome ∧ ∀ v, lastW l c = some v → D.atKey (.int .i64 c) (.lit (.int .i64 0)) = .lit (.int .i64 v)
theorem mapW_start : MapW [] (.map []) := ⟨isMap_empty, fun c _ _ => ⟨rfl, fun v h => by cases h⟩⟩
theorem mapW_read {l : List Ac} {D : DataW Unit} (h : MapW l D) (a : Ac) (ha : a.wr = false) : MapW (l ++ [a]) D := by
  refine ⟨h.1, fun c h0 h1 => ?_⟩
  rw [lastW_snoc, if_neg (by rw [ha]; simp)]
  exact h.2 c h0 h1
theorem mapW_write {l : List Ac} {D : DataW Unit} (h : MapW l D) (a : Ac) (ha : a.wr = true) (hc : 0 ≤ a.cell ∧ a.cell < 1024) : MapW (l ++ [a]) (D.put (.int .i64 a.cell) (.lit (.int .i64 a.val))) := by
  refine ⟨h.1.put _ _, fun c h0 h1 => ?_⟩
  rw [lastW_snoc]
  by_cases e : a.cell = c
  · subst e
    rw [if_pos ⟨ha, rfl⟩, has_put_same h.1 (hint_keyed.key (keyOf_int_mk Tryd.underlying3 (hwf _ (by omega)))), atKey_put_same h.1 (hint_keyed.key (keyOf_int_mk Tryd.underlying3 (hwf _ (by omega))))]
    exact ⟨rfl, fun v hv => by cases hv; rfl⟩
  · have hne : (Lit.int .i64 c) ≠ Lit.int .i64 a.cell := fun e' => e (by injection e' with _ e'; exact e'.symm)
    rw [if_neg (fun h => e h.2), has_put_other hne, atKey_put_other hne]
    exact h.2 c h0 h1
theorem agrees_step (m : Int → Int) {l : List Ac} {j : Nat} (h : j < l.length) : agreesFrom m (l.take j) (l.drop j) = (((na l j).wr || (na l j).val == (lastW (l.take j) (na l j).cell).getD (m (na l j).cell)) && agreesFrom m (l.take (j + 1)) (l.drop (j + 1))) := by
  have e : l.drop j = na l j :: l.drop (j + 1) := by rw [List.drop_eq_getElem_cons h]; simp [na, h]
  rw [e, take_na h]
  rfl
/-- Values are numbers of 64 bits. -/
def AcOk (t : Tr) : Prop := ∀ y ∈ t.ac, -9223372036854775808 ≤ y.val ∧ y.val ≤ 9223372036854775807
set_option maxHeartbeats 1600000 in
theorem agrees_any {w : World} {B X M : Nat} {t : Tr} {v : Value} {m : Int → Int} (h : XAt w B X t v) (hok : AcOk t) (hm : w.heap[M]? = some (.cells (memC m) 70 (0, 0))) : Calls Tryd.prog 30 #[ptr X, ptr M] w fun e w' => e = .returned (.bool (agreesD m t)) ∧ Below w.heap.size w w' := by
  have hmm := @run_makeMap Tryd.prog
  have hlX := heap_lt h.x
  have hlM := heap_lt hm
  have hc7 : w.cell? ⟨X, 7, none⟩ = some v := by rw [cell_at h.x]; simp [txC]
  have HH : Hid (XAt w B X t v) := h
  have HMM : Hid (w.heap[M]? = some (.cells (memC m) 70 (0, 0))) := hm
  have HOK : Hid (AcOk t) := hok
  have HN : Hid (t.ac.length ≤ 925925926000) := h.n
  obtain ⟨sa, cap, rfl⟩ := own_slice h.a
  unfold ptr
  clear h hm hok
  go_enter Tryd.func30, Tryd.ntmps30
  go_wp2
  go_loopw [16] (fun iv wr => ∃ (j : Nat) (D : DataW Unit), j ≤ t.ac.length ∧ iv = .int .i64 (j : Int) ∧ Hid (MapW (t.ac.take j) D) ∧ Hid (wr.ownsMap Tryd.prog 3 (plainElem Tryd.prog 2) w.heap.size j D) ∧ Hid (Below w.heap.size w wr) ∧ Hid (agreesFrom m (t.ac.take j) (t.ac.drop j) = agreesD m t)) (fun iv _ => t.ac.length - (intOf iv).toNat)
  case atStart => exact ⟨0, .map [], Nat.zero_le _, rfl, mapW_start, World.ownsMap_made _ _ _ _, below_a1 _ _, rfl⟩
  case round =>
    obtain ⟨j, D, hj, rfl, HMW, HOM, HB, HA⟩ := hrel
    by_cases hlt : j < t.ac.length
    · have hjd : decide ((j : Int) < (t.ac.length : Int)) = true := by simp; omega
      have HXr : XAt wr B X t (.slice sa t.ac.length cap) := HH.out.later (Keep.of_below HB.out []) (by simp) (fun b hb => by simp)
      obtain ⟨g, cap', hs, a0, a1, a2⟩ := HXr.acc hlt
      have hsa : sa = some ⟨g, 0, none⟩ := by simp at hs; exact hs.1
      subst hsa
      obtain ⟨hb0, hb1⟩ := HH.out.c _ (na_mem hlt)
      have hvw := HOK.out _ (na_mem hlt)
      have HS := agrees_step m hlt
      rw [HA.out] at HS
      have hw1 : Hid (wrap64 ((j : Int) + 1) = (j : Int) + 1) := inc_cast HN.out (by omega)
      have HMS : Hid (t.ac.length - (j + 1) < t.ac.length - j) := by rw [Hid]; omega
      have hjl : (j : Int) < (t.ac.length : Int) := by omega
      have hj63 : j < maxLen := by have := HN.out; unfold maxLen; omega
      obtain ⟨hhas, hat0⟩ := HMW.out.2 _ hb0 hb1
      have HMR : Hid ((na t.ac j).wr = false → MapW (t.ac.take (j + 1)) D) := fun e => by rw [take_na hlt]; exact mapW_read HMW.out _ e
      have HMP : Hid ((na t.ac j).wr = true → MapW (t.ac.take (j + 1)) (D.put (.int .i64 (na t.ac j).cell) (.lit (.int .i64 (na t.ac j).val)))) := fun e => by rw [take_na hlt]; exact mapW_write HMW.out _ e ⟨hb0, hb1⟩
      have hkey := keyOf_int_mk (P := Tryd.prog) Tryd.underlying3 (hwf (na t.ac j).cell (by omega))
      have hlg := World.block_lt_of_cell? _ _ a0
      obtain ⟨ci, hci⟩ : ∃ ci : Nat, (na t.ac j).cell = (ci : Int) := ⟨(na t.ac j).cell.toNat, by omega⟩
      rw [hci] at a0 HS hb1 hhas hat0 HMP hkey
      have hcb : ci < 1024 := by omega
      have hmc : wr.cell? ⟨M, ci, none⟩ = some (.int .i64 (m ci)) := by
        rw [HB.out.cell (p := ⟨M, ci, none⟩) hlM, cell_at HMM.out]; exact memC_get _ _ hcb
      have hlM2 : M < wr.heap.size := Nat.lt_of_lt_of_le hlM HB.out.size
      have hci1 : (ci : Int) < 1024 := by omega
      obtain ⟨rest, hrest⟩ : ∃ rest, agreesFrom m (t.ac.take (j + 1)) (t.ac.drop (j + 1)) = rest := ⟨_, rfl⟩
      have HR : Hid (agreesFrom m (t.ac.take (j + 1)) (t.ac.drop (j + 1)) = rest) := hrest
      rw [hrest] at HS
      clear hrest
      clear hs HXr hb0 hci HA
      have HVW : Hid (-9223372036854775808 ≤ (na t.ac j).val ∧ (na t.ac j).val ≤ 9223372036854775807) := hvw
      clear hvw hb1
      have HS2 : Hid (agreesD m t = (((na t.ac j).wr || (na t.ac j).val == (lastW (t.ac.take j) (ci : Int)).getD (m (ci : Int))) && rest)) := HS
      clear HS
      obtain ⟨res, hres⟩ : ∃ res, agreesD m t = res := ⟨_, rfl⟩
      have HRES : Hid (agreesD m t = res) := hres
      rw [hres] at HS2
      clear hres
      generalize (na t.ac j).val = av at *
      generalize (na t.ac j).wr = aw at *
      generalize hm0 : m (ci : Int) = mc at *
      clear hm0
      cases aw with
      | true =>
        have HW := HMP.out rfl
        have HE : Hid (rest = res) := by rw [Hid, HS2.out]; simp
        have HW2 : Hid (MapW (t.ac.take (j + 1)) (D.put (.int .i64 (ci : Int)) (.lit (.int .i64 av)))) := HW
        clear HW HS2 HMP HMR hhas hat0
        go_wp2_with (first | (at_mapUpdate; refine wpList_mapUpdate_own _ rfl _ _ _ 108 rfl 3 2 hint_keyed Tryd.underlying108 _ w.heap.size j D rfl (HOM.out.alloc _) hj63 _ _ (.int .i64 (ci : Int)) rfl rfl hkey (.lit (.int .i64 av)) [] (plainElem_int Tryd.underlying2 (hwf _ HVW.out)) ?_; intro w5 hown5 hgrow5) | fail)
        have HO5 : Hid (w5.ownsMap Tryd.prog 3 (plainElem Tryd.prog 2) w.heap.size (j + 1) (D.put (.int .i64 (ci : Int)) (.lit (.int .i64 av)))) := hown5
        have HB5 : Hid (Below w.heap.size w w5) := by
          have k : Keep [w.heap.size] wr w5 := (((Keep.refl [] wr).alloc _).mono (by simp)).grown hgrow5 (fun b hb => Or.inl (by cases hb; simp))
          exact HB.out.trans (k.below HB.out.size (fun x hx => by simp at hx; omega))
        clear hown5 hgrow5
        go_wp2_with fail
        go_roundw
        case rel => exact ⟨j + 1, _, hlt, by rw [hw1.out]; go_num, HW2, HO5, HB5, by rw [HR.out, HRES.out]; exact HE.out⟩
        case measure => rw [hw1.out]; simpa [intOf] using HMS.out
      | false =>
        have HW2 : Hid (MapW (t.ac.take (j + 1)) D) := HMR.out rfl
        clear HMP HMR
        cases hl : lastW (t.ac.take j) (ci : Int) with
        | some u =>
          rw [hl] at hhas HS2
          have hat1 : Hid (D.atKey (.int .i64 (ci : Int)) (.lit (.int .i64 0)) = .lit (.int .i64 u)) := hat0 _ hl
          have hhas1 : Maps.has D (.int .i64 (ci : Int)) = true := hhas
          have HS3 : Hid (res = ((av == u) && rest)) := by rw [Hid, HS2.out]; simp
          clear hat0 hhas hl HS2 hmc
          by_cases hav : av = u
          · subst hav
            have HE : Hid (rest = res) := by rw [Hid, HS3.out]; simp
            have hdv : (av != av) = false := by simp
            clear HS3
            go_wp2_with (first | (at_lookup; refine wpList_lookup_own_ok_int _ rfl _ _ 108 rfl 3 2 .i64 hint_keyed Tryd.underlying108 Tryd.underlying2 (hzero_i64 _) w.heap.size j D rfl (HOM.out.alloc _) _ (.int .i64 (ci : Int)) rfl hkey ?_; intro cc hat hwc; obtain rfl : cc = av := (by rw [hat1.out] at hat; simp at hat; exact hat.symm); clear hat hwc) | fail)
            go_wp2_with fail
            go_roundw
            case rel => exact ⟨j + 1, D, hlt, by rw [hw1.out]; go_num, HW2, (HOM.out.alloc _).mono (by omega), HB.out.trans ((below_a1 _ _).mono HB.out.size), by rw [HR.out, HRES.out]; exact HE.out⟩
            case measure => rw [hw1.out]; simpa [intOf] using HMS.out
          · have HE : Hid (res = false) := by rw [Hid, HS3.out]; simp [hav]
            have hdv : (av != u) = true := by simpa using hav
            clear HS3 hav
            go_wp2_with (first | (at_lookup; refine wpList_lookup_own_ok_int _ rfl _ _ 108 rfl 3 2 .i64 hint_keyed Tryd.underlying108 Tryd.underlying2 (hzero_i64 _) w.heap.size j D rfl (HOM.out.alloc _) _ (.int .i64 (ci : Int)) rfl hkey ?_; intro cc hat hwc; obtain rfl : cc = u := (by rw [hat1.out] at hat; simp at hat; exact hat.symm); clear hat hwc) | fail)
            go_wp2_with fail
            go_ret
            exact ⟨by rw [HRES.out, HE.out]; rfl, HB.out.trans ((below_a1 _ _).mono HB.out.size)⟩
        | none =>
          rw [hl] at hhas HS2
          have hhas1 : Maps.has D (.int .i64 (ci : Int)) = false := hhas
          have HS3 : Hid (res = ((av == mc) && rest)) := by rw [Hid, HS2.out]; simp
          clear hat0 hhas hl HS2
          by_cases hav : av = mc
          · subst hav
            have HE : Hid (rest = res) := by rw [Hid, HS3.out]; simp
            have hdv : (av != av) = false := by simp
            clear HS3
            go_wp2_with (first | (at_lookup; refine wpList_lookup_own_ok_int _ rfl _ _ 108 rfl 3 2 .i64 hint_keyed Tryd.underlying108 Tryd.underlying2 (hzero_i64 _) w.heap.size j D rfl (HOM.out.alloc _) _ (.int .i64 (ci : Int)) rfl hkey ?_; intro cc hat hwc; clear hat hwc) | fail)
            go_quiet (fail)
            go_wp2_with fail
            go_roundw
            case rel => exact ⟨j + 1, D, hlt, by rw [hw1.out]; go_num, HW2, (by have := (HOM.out.alloc (.cells #[.int .i64 (ci : Int), .int .i64 av, .bool false] 87)).mono (Nat.le_succ j); exact this), HB.out.trans ((below_drawn (below_a1 _ _) _).mono HB.out.size), by rw [HR.out, HRES.out]; exact HE.out⟩
            case measure => rw [hw1.out]; simpa [intOf] using HMS.out
          · have HE : Hid (res = false) := by rw [Hid, HS3.out]; simp [hav]
            have hdv : (av != mc) = true := by simpa using hav
            clear HS3 hav
            go_wp2_with (first | (at_lookup; refine wpList_lookup_own_ok_int _ rfl _ _ 108 rfl 3 2 .i64 hint_keyed Tryd.underlying108 Tryd.underlying2 (hzero_i64 _) w.heap.size j D rfl (HOM.out.alloc _) _ (.int .i64 (ci : Int)) rfl hkey ?_; intro cc hat hwc; clear hat hwc) | fail)
            go_quiet (fail)
            go_wp2_with fail
            go_ret
            exact ⟨by rw [HRES.out, HE.out]; rfl, HB.out.trans ((below_drawn (below_a1 _ _) _).mono HB.out.size)⟩
    · obtain rfl : j = t.ac.length := by omega
      have HA2 : Hid (agreesD m t = true) := by
        have := HA.out
        rw [List.take_length, List.drop_length] at this
        rw [Hid, ← this]; rfl
      go_wp2_with fail
      go_ret
      exact ⟨by rw [HA2.out]; rfl, HB.out⟩
end Go.Proofs.YtadollckekddgaaDoor.Hi
