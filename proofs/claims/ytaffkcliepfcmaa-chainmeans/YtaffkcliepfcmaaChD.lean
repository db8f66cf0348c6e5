/- The law's done: a call over cells. -/
import Derived.Test.YtaffkcliepfcmaaChB
import Derived.Test.YtaffkcliepfcmaaCoR
import Derived.Deep.CutBlock
import Derived.Deep.DeepCutAuto
import Derived.Deep.LoopGhost
namespace Go.Proofs.Ytaffkcliepfcmaa.Ch
open Go.ChangeShapes Go.WideShapes Go.ChangeAt Go.RowKit
attribute [local go_sem ↓] Go.wp_at_zero Go.wp_at_succ

theorem own_set {w : World} {base g n cap : Nat} {e : TypeId} {xs : List Value} (h : w.ownsRow base e 1 (.slice (some ⟨g, 0, none⟩) n cap) n xs) (j : Nat) (v : Value) : (w.setCell ⟨g, j, none⟩ v).ownsRow base e 1 (.slice (some ⟨g, 0, none⟩) n cap) n (xs.set j v) := by
  have hl := h.1
  rcases h.2 with ⟨e, _⟩ | ⟨g', cap', cur, e, hb, hg, h1, h2, h3, h4⟩
  · cases e
  · simp at e
    obtain ⟨rfl, rfl⟩ := e
    refine ⟨by rw [List.length_set]; exact hl, Or.inr ⟨g, cap, cur.setIfInBounds j v, rfl, hb, heap_set hg j v, h1, h2, by simpa using h3, ?_⟩⟩
    rw [← h4]
    simp [List.take_set]
theorem numC_set (l : List Int) (j : Nat) (z : Int) : (numC l).set j (.int .i64 z) = numC (l.set j z) := by simp [numC]
/-- A call, done over cells: the cells, the answer, the code; whether it is through in time. -/
def runM (base : Int) : Nat → Mc → List Int → Int → List Int × Int × Int × Bool
  | 0, _, C, _ => (C, 0, 0, false)
  | n + 1, m, C, v =>
    if (tellM m v).kind = 6 then (C, (tellM m v).val, (tellM m v).code, true)
    else if (tellM m v).cell < base ∨ (C.length : Int) ≤ (tellM m v).cell then (C, 0, 0, false)
    else if (tellM m v).kind = 2 then runM base n (goM m v) C (nth C (tellM m v).cell.toNat)
    else runM base n (goM m v) (C.set (tellM m v).cell.toNat (tellM m v).val) 0
/-- A call over cells, as it lies. -/
structure DM (w0 wr : World) (B X g n cap : Nat) (F : List Nat) (mc : Mc) (C : List Int) : Prop where
  kp : Keep [g] w0 wr
  mac : McAt wr X F mc
  low : ∀ q ∈ F, w0.heap.size ≤ q
  row : wr.ownsRow B 2 1 (.slice (some ⟨g, 0, none⟩) n cap) n (numC C)
  lt : g < w0.heap.size
theorem DM.later {w0 wr w' : World} {B X g n cap : Nat} {F : List Nat} {mc : Mc} {C : List Int} (h : DM w0 wr B X g n cap F mc C) (hb : Below wr.heap.size wr w') : DM w0 w' B X g n cap F mc C :=
  ⟨h.kp.trans (Keep.of_below hb []) (by simp), h.mac.later hb, h.low, own_keep h.row (Keep.of_below hb []) (by simp), h.lt⟩
theorem DM.next {w0 wr w' : World} {B X g n cap : Nat} {F F' : List Nat} {mc mc' : Mc} {C : List Int} (h : DM w0 wr B X g n cap F mc C) (hm : McAt w' X F' mc') (hn : Next F F' wr w') : DM w0 w' B X g n cap F' mc' C := by
  have hgF : g ∉ F := fun h1 => by have := h.low g h1; have := h.lt; omega
  refine ⟨h.kp.trans hn.1 (fun b hb => Or.inr (h.low b hb)), hm, fun q hq => ?_, own_keep h.row hn.1 (fun b hb => by simp [Value.ownBlock] at hb; subst hb; exact hgF), h.lt⟩
  rcases hn.2 q hq with h4 | h4
  · exact h.low q h4
  · have := h.kp.size; omega
theorem DM.set {w0 wr : World} {B X g n cap : Nat} {F : List Nat} {mc : Mc} {C : List Int} (h : DM w0 wr B X g n cap F mc C) (j : Nat) (z : Int) : DM w0 (wr.setCell ⟨g, j, none⟩ (.int .i64 z)) B X g n cap F mc (C.set j z) := by
  have hgF : g ∉ F := fun h1 => by have := h.low g h1; have := h.lt; omega
  have hk : Keep [g] wr (wr.setCell ⟨g, j, none⟩ (.int .i64 z)) := (Keep.refl _ _).setCell _ _ (Or.inl (by simp))
  exact ⟨h.kp.trans hk (by simp), h.mac.keep hk (fun b hb => by simp; exact fun e => hgF (e ▸ hb)), h.low, by rw [← numC_set]; exact own_set h.row j _, h.lt⟩
theorem DM.cell {w0 wr : World} {B X g n cap : Nat} {F : List Nat} {mc : Mc} {C : List Int} (h : DM w0 wr B X g n cap F mc C) (j : Nat) (hj : j < n) : wr.cell? ⟨g, j, none⟩ = some (.int .i64 (nth C j)) ∧ wr.frozen? ⟨g, j, none⟩ = false := by
  have hl : C.length = n := by have := h.row.1; rw [numC_len] at this; omega
  exact ⟨own_cells h.row j _ (numC_get C j (by omega)), (own_some h.row j (by omega)).2⟩
theorem dn_less {i k : Nat} (h : i < k) : k - (i + 1) < k - i := by omega
theorem dn_wrap {i k : Nat} (hk : k ≤ 100) (hi : i < k) : wrap64 ((i : Int) + 1) = ((i + 1 : Nat) : Int) := by
  unfold wrap64
  omega
theorem dn_out {m : Int} {i : Nat} (h : 0 ≤ m ∧ m ≤ 16) (hi : i + 0 = mostW m + 1) : decide ((i : Int) ≤ 2 * m + 7) = false := by
  unfold mostW at hi
  simp
  omega
theorem dn_in {m : Int} {i k : Nat} (h : 0 ≤ m ∧ m ≤ 16) (hi : i + (k + 1) = mostW m + 1) : decide ((i : Int) ≤ 2 * m + 7) = true := by
  unfold mostW at hi
  simp
  omega
theorem dn_wr {m : Int} (h : 0 ≤ m ∧ m ≤ 16) : wrap64 (2 * m) = 2 * m ∧ wrap64 (2 * m + 7) = 2 * m + 7 := by
  unfold wrap64
  omega
theorem dn_most {m : Int} (h : 0 ≤ m ∧ m ≤ 16) : mostW m + 1 ≤ 100 := by
  unfold mostW
  omega
set_option maxRecDepth 100000 in
set_option maxHeartbeats 2000000 in
theorem done_run {w : World} {B g n cap : Nat} (b m c : Int) {va : Value} {A C : List Int} (hva : Nl w va A) (hr : rightV b m c A.length = true) (hrow : w.ownsRow B 2 1 (.slice (some ⟨g, 0, none⟩) n cap) n (numC C)) :
    Calls Try.prog 12 #[.slice (some ⟨g, 0, none⟩) n cap, .int .i64 b, .int .i64 m, .int .i64 c, va] w fun e w' => e = .returned (.tuple #[.int .i64 (runM b (mostW m + 1) (mkM b m c A) C 0).2.1, .int .i64 (runM b (mostW m + 1) (mkM b m c A) C 0).2.2.1, .bool (runM b (mostW m + 1) (mkM b m c A) C 0).2.2.2]) ∧ w'.ownsRow B 2 1 (.slice (some ⟨g, 0, none⟩) n cap) n (numC (runM b (mostW m + 1) (mkM b m c A) C 0).1) ∧ Keep [g] w w' := by
  have HN : Hid (Calls Try.prog 5 #[.int .i64 b, .int .i64 m, .int .i64 c, va] w fun e w'' => ∃ X F, e = .returned (.tuple #[.pointer (some ⟨X, 0, none⟩), .int .i64 0]) ∧ McAt w'' X F (mkM b m c A) ∧ (∀ q ∈ F, w.heap.size ≤ q) ∧ Below w.heap.size w w'') := new_yes w _ _ _ va A hva hr
  have HX : Hid (∀ (w : World) (X : Nat) (F : List Nat) (m : Mc) (v : Int), McAt w X F m → Calls Try.prog 21 #[.pointer (some ⟨X, 0, none⟩), .int .i64 v] w fun e w' => e = .returned (.agg (wnC (tellM m v))) ∧ ∃ F', McAt w' X F' (goM m v) ∧ Next F F' w w') := fun w X F m v h => next_any h v
  have HB0 : Hid (0 ≤ b) := (call_of hr).2.2.1
  have HMM : Hid (0 ≤ m ∧ m ≤ 16) := ⟨(call_of hr).1, (call_of hr).2.1⟩
  obtain ⟨rs, hrs⟩ : ∃ rs, runM b (mostW m + 1) (mkM b m c A) C 0 = rs := ⟨_, rfl⟩
  rw [hrs]
  have HRS : Hid (runM b (mostW m + 1) (mkM b m c A) C 0 = rs) := hrs
  have HRW : Hid (w.ownsRow B 2 1 (.slice (some ⟨g, 0, none⟩) n cap) n (numC C) ∧ g < w.heap.size) := ⟨hrow, (own_block hrow g rfl).2⟩
  clear hva hr hrs hrow
  go_enter Try.func12, Try.ntmps12
  go_wp2_with fail
  refine HN.out.mono ?_
  rintro e w1 ⟨X, F, rfl, hm1, hF1, hb1⟩
  have HD1 : Hid (DM w w1 B X g n cap F (mkM b m c A) C) := ⟨Keep.of_below hb1 _, hm1, hF1, own_keep HRW.out.1 (Keep.of_below hb1 []) (by simp), HRW.out.2⟩
  clear hm1 hF1 hb1 HN HRW
  go_wp2_with fail
  go_loopg [15, 16] (mostW m + 1) (fun gh vv iv wr => ∃ (i k : Nat) (F : List Nat) (mc : Mc) (C : List Int) (v : Int), k = gh ∧ i + k = mostW m + 1 ∧ iv = .int .i64 i ∧ vv = .int .i64 v ∧ DM w wr B X g n cap F mc C ∧ runM b k mc C v = rs)
  case atStart => exact ⟨0, mostW m + 1, F, _, C, 0, rfl, by omega, rfl, rfl, HD1.out, HRS.out⟩
  case round =>
    obtain ⟨i, k, F, mc, C, v, rfl, hik, rfl, rfl, hdm, hrun⟩ := hrel
    have HDM : Hid (DM w wr B X g n cap F mc C) := hdm
    have hlen : C.length = n := by have := hdm.row.1; rw [numC_len] at this; omega
    clear hdm
    by_cases hk0 : k = 0
    · subst hk0
      have hbd : decide ((i : Int) ≤ 2 * m + 7) = false := dn_out HMM.out hik
      obtain ⟨hm2, hm5⟩ := dn_wr HMM.out
      have HE : Hid (rs = (C, 0, 0, false)) := hrun.symm
      clear hrun
      go_wp2_with fail
      go_ret3
      exact ⟨by rw [HE.out]; rfl, by rw [HE.out]; exact HDM.out.row, HDM.out.kp⟩
    · obtain ⟨k, rfl⟩ : ∃ k', k = k' + 1 := ⟨k - 1, by omega⟩
      have hbd : decide ((i : Int) ≤ 2 * m + 7) = true := dn_in HMM.out hik
      obtain ⟨hm2, hm5⟩ := dn_wr HMM.out
      have hiw : wrap64 ((i : Int) + 1) = ((i + 1 : Nat) : Int) := dn_wrap (k := mostW m + 1) (dn_most HMM.out) (by omega)
      have HIW : Hid (wrap64 ((i : Int) + 1) = ((i + 1 : Nat) : Int)) := hiw
      have hik' : i + 1 + k = mostW m + 1 := by omega
      have HNX : Hid (Calls Try.prog 21 #[.pointer (some ⟨X, 0, none⟩), .int .i64 v] wr fun e w' => e = .returned (.agg (wnC (tellM mc v))) ∧ ∃ F', McAt w' X F' (goM mc v) ∧ Next F F' wr w') := HX.out wr X F mc v HDM.out.mac
      unfold runM at hrun
      generalize hy : tellM mc v = y at *
      have HRN : Hid ((if y.kind = 6 then (C, y.val, y.code, true) else if y.cell < b ∨ (C.length : Int) ≤ y.cell then (C, 0, 0, false) else if y.kind = 2 then runM b k (goM mc v) C (nth C y.cell.toNat) else runM b k (goM mc v) (C.set y.cell.toNat y.val) 0) = rs) := hrun
      clear hrun hy hik hiw
      go_wp2_with fail
      refine HNX.out.mono ?_
      rintro e w2 ⟨rfl, F', hm2, hn2⟩
      obtain ⟨w3, hs3, hr3, hb3, hz3⟩ := new_wn (P := Try.prog) (w := w2) (t := 51) (z := #[.int .i64 0, .int .i64 0, .int .i64 0, .int .i64 0]) rfl (wnC_size y) (wnC_one y)
      have HD3 : Hid (DM w w3 B X g n cap F' (goM mc v) C) := (HDM.out.next hm2 hn2).later hb3
      obtain ⟨a0, a1, a2, a3⟩ := wn_cells hr3
      have hcz : (wnC y).size = 4 := rfl
      generalize hcy : wnC y = cy at *
      clear hm2 hn2 hr3 hb3 hcy HNX HDM
      by_cases h6 : y.kind = 6
      · have HE : Hid (rs = (C, y.val, y.code, true)) := by have := HRN.out; rw [if_pos h6] at this; exact this.symm
        rw [h6] at a0
        clear HRN h6
        go_wp2_with fail
        go_quiet (fail)
        go_wp2_with fail
        go_ret3
        exact ⟨by rw [HE.out]; rfl, by rw [HE.out]; exact own_keep HD3.out.row (Keep.drewN (Keep.refl [] _) _) (by simp), HD3.out.kp.drewN _⟩
      · have e6 : (y.kind == 6) = false := by simpa using h6
        have h7 := HRN.out
        rw [if_neg h6] at h7
        clear HRN h6
        by_cases hc1 : y.cell < b
        · have d1 : decide (y.cell < b) = true := by simpa using hc1
          have HE : Hid (rs = (C, 0, 0, false)) := by rw [if_pos (Or.inl hc1)] at h7; exact h7.symm
          clear h7 hc1
          go_wp2_with fail
          go_ret3
          exact ⟨by rw [HE.out]; rfl, by rw [HE.out]; exact HD3.out.row, HD3.out.kp⟩
        · have d1 : decide (y.cell < b) = false := by simpa using hc1
          by_cases hc2 : (n : Int) ≤ y.cell
          · have d2 : decide ((n : Int) ≤ y.cell) = true := by simpa using hc2
            have HE : Hid (rs = (C, 0, 0, false)) := by rw [if_pos (Or.inr (by rw [hlen]; exact hc2))] at h7; exact h7.symm
            clear h7 hc1 hc2
            go_wp2_with fail
            go_ret3
            exact ⟨by rw [HE.out]; rfl, by rw [HE.out]; exact HD3.out.row, HD3.out.kp⟩
          · have d2 : decide ((n : Int) ≤ y.cell) = false := by simpa using hc2
            rw [if_neg (by rw [hlen]; omega)] at h7
            obtain ⟨j, hj⟩ : ∃ j : Nat, y.cell = (j : Int) := ⟨y.cell.toNat, by have := HB0.out; omega⟩
            have hjn : j < n := by omega
            obtain ⟨q1, q2⟩ := HD3.out.cell j hjn
            have ea : (⟨g, 0, none⟩ : Addr).add j = ⟨g, j, none⟩ := by unfold Addr.add; split <;> simp_all
            have hjt : y.cell.toNat = j := by omega
            rw [hjt] at h7
            rw [hj] at a1 d1 d2
            by_cases h2 : y.kind = 2
            · rw [if_pos h2] at h7
              have HE : Hid (runM b k (goM mc v) C (nth C j) = rs) := h7
              rw [h2] at a0
              generalize nth C j = z at *
              clear h7 hc1 hc2 hj hjt hlen h2
              go_wp2_with fail
              go_roundg k
              case rel => exact ⟨i + 1, k, F', _, C, z, rfl, hik', by rw [HIW.out], rfl, HD3.out, HE.out⟩
              case measure => exact Nat.lt_succ_self k
            · have e2 : (y.kind == 2) = false := by simpa using h2
              rw [if_neg h2] at h7
              have HE : Hid (runM b k (goM mc v) (C.set j y.val) 0 = rs) := h7
              have HD4 : Hid (DM w (w3.setCell ⟨g, j, none⟩ (.int .i64 y.val)) B X g n cap F' (goM mc v) (C.set j y.val)) := HD3.out.set j y.val
              clear h7 hc1 hc2 hj hjt hlen h2
              go_wp2_with fail
              go_roundg k
              case rel => exact ⟨i + 1, k, F', _, _, 0, rfl, hik', by rw [HIW.out], rfl, HD4.out, HE.out⟩
              case measure => exact Nat.lt_succ_self k
end Go.Proofs.Ytaffkcliepfcmaa.Ch
