/- The chain's small functions: links, cells, ends, reads and writes. -/
import Derived.Test.YtaffkcliepfcmaaChT
import Derived.Deep.RegionHeld3
namespace Go.Proofs.Ytaffkcliepfcmaa.Ch
open Go.ChangeShapes Go.WideShapes Go.ChangeAt Go.RowKit
attribute [local go_sem ↓] Go.wp_at_zero Go.wp_at_succ

theorem leads_any (w : World) (p n : Int) : Calls Try.prog 40 #[.int .i64 p, .int .i64 n] w fun e w' => e = .returned (.tuple #[.int .i64 (leadV p n), .bool (decide (leadV p n ≠ 0))]) ∧ w' = w := by
  by_cases h1 : p < 1
  · have d1 : decide (p < 1) = true := by simpa using h1
    have HV : Hid (leadV p n = 0) := by unfold leadV; rw [if_pos (Or.inl h1)]; exact rfl
    clear h1
    go_enter Try.func40, Try.ntmps40
    go_wp2_with fail
    go_ret2
    exact ⟨by rw [HV.out]; rfl, rfl⟩
  · have d1 : decide (p < 1) = false := by simpa using h1
    by_cases h2 : n < p
    · have d2 : decide (n < p) = true := by simpa using h2
      have HV : Hid (leadV p n = 0) := by unfold leadV; rw [if_pos (Or.inr h2)]; exact rfl
      clear h1 h2
      go_enter Try.func40, Try.ntmps40
      go_wp2_with fail
      go_ret2
      exact ⟨by rw [HV.out]; rfl, rfl⟩
    · have d2 : decide (n < p) = false := by simpa using h2
      have HV : Hid (leadV p n = p ∧ decide (p ≠ 0) = true) := ⟨by unfold leadV; rw [if_neg (by omega)], by simp; omega⟩
      clear h1 h2
      go_enter Try.func40, Try.ntmps40
      go_wp2_with fail
      go_ret2
      exact ⟨by rw [HV.out.1, HV.out.2]; rfl, rfl⟩
theorem keyof_any (w : World) {i : Int} (hi : 0 ≤ i ∧ i ≤ 100) : Calls Try.prog 41 #[.int .i64 i] w fun e w' => e = .returned (.int .i64 (keyV i)) ∧ w' = w := by
  have HW : Hid (wrap64 (1 + wrap64 (2 * i)) = keyV i) := by have : wrap64 (1 + wrap64 (2 * i)) = keyV i := (by unfold wrap64 keyV; omega); exact this
  clear hi
  go_enter Try.func41, Try.ntmps41
  go_wp2_with fail
  go_ret
  exact ⟨by rw [← HW.out]; rfl, rfl⟩
theorem nextof_any (w : World) {i : Int} (hi : 0 ≤ i ∧ i ≤ 100) : Calls Try.prog 39 #[.int .i64 i] w fun e w' => e = .returned (.int .i64 (nxtV i)) ∧ w' = w := by
  have HK : Hid (∀ w : World, Calls Try.prog 41 #[.int .i64 i] w fun e w' => e = .returned (.int .i64 (keyV i)) ∧ w' = w) := fun w => keyof_any w hi
  have HW : Hid (wrap64 (keyV i + 1) = nxtV i) := by have : wrap64 (keyV i + 1) = nxtV i := (by unfold wrap64 nxtV keyV; omega); exact this
  clear hi
  generalize keyV i = y at *
  go_enter Try.func39, Try.ntmps39
  go_wp2_with fail
  refine (HK.out _).mono ?_
  rintro e w1 ⟨rfl, rfl⟩
  go_wp2_with fail
  go_ret
  exact ⟨by rw [← HW.out]; rfl, rfl⟩
def wyC (x : Wy) : Array Value := #[.int .i64 x.cell, .int .i64 x.link, .bool x.stop, .int .i64 x.node, .int .i64 x.key]
theorem at_any (w : World) (x : Wy) (k : Int) : Calls Try.prog 48 #[.agg (wyC x), .int .i64 k] w fun e w' => e = .returned (.bool (wyAt x k)) ∧ Below w.heap.size w w' := by
  obtain ⟨c, l, s, i, y⟩ := x
  unfold wyC wyAt
  cases s
  · go_enter Try.func48, Try.ntmps48
    go_wp2_with fail
    go_ret
    exact ⟨rfl, below_a1 _ _⟩
  · go_enter Try.func48, Try.ntmps48
    go_wp2_with fail
    go_ret
    exact ⟨by have : (y == k) = decide (y = k) := (by by_cases h : y = k <;> simp [h]); simp [this], below_a1 _ _⟩
theorem refused_any (w : World) (c : Int) (F : List Nat) : Calls Try.prog 49 #[.int .i64 c] w (Gv (refT c) F w) := by
  have HC : Hid (#[.int .i64 6, .int .i64 0, .int .i64 0, .int .i64 c, .nilFunc] = tnC (endW 0 c) .nilFunc) := by have : #[.int .i64 6, .int .i64 0, .int .i64 0, .int .i64 c, .nilFunc] = tnC (endW 0 c) .nilFunc := (by simp [tnC, endW]); exact this
  go_enter Try.func49, Try.ntmps49
  go_wp2_with fail
  refine ret_tn rfl rfl (heap_alloc_new _ _) rfl rfl ?_
  rw [HC.out]
  exact gv_fin (below_a1 _ _)
theorem done_any (w : World) (v : Int) (F : List Nat) : Calls Try.prog 61 #[.int .i64 v] w (Gv (doneT v) F w) := by
  have HC : Hid (#[.int .i64 6, .int .i64 0, .int .i64 v, .int .i64 0, .nilFunc] = tnC (endW v 0) .nilFunc) := rfl
  go_enter Try.func61, Try.ntmps61
  go_wp2_with fail
  refine ret_tn rfl rfl (heap_alloc_new _ _) rfl rfl ?_
  rw [HC.out]
  exact gv_fin (below_a1 _ _)
theorem thru_any (w : World) (F : List Nat) : Calls Try.prog 55 #[] w (Gv (doneT 0) F w) := by
  have HD : Hid (∀ w : World, Calls Try.prog 61 #[.int .i64 0] w (Gv (doneT 0) [] w)) := fun w => done_any w 0 []
  go_enter Try.func55, Try.ntmps55
  go_wp2_with fail
  refine (HD.out _).mono ?_
  rintro e w2 h2
  obtain ⟨cs, w3, rfl, hz, hst, hr, _⟩ := gv_put (w := w) (F := F) h2 (heap_alloc_new _ _) rfl (by simp) (below_a1 _ _) (Nat.le_refl _) (by simp)
  clear h2
  go_wp2_with fail
  exact ret_tn rfl rfl hr.out.1 hz rfl hr.out.2
/-- A chain's place, and its capacity. -/
def SiteOk (b n : Int) : Prop := (0 ≤ b ∧ b ≤ 1024) ∧ 0 ≤ n ∧ n ≤ 16
theorem read_any {w : World} {b n c : Int} {f : Value} {g : Int → T} {F : List Nat} (hs : SiteOk b n) (hc : 0 ≤ c ∧ c ≤ 100) (hf : Fv encI An g F w f) : Calls Try.prog 35 #[.agg #[.int .i64 b, .int .i64 n], .int .i64 c, f] w (Gv (readT b c g) F w) := by
  have HF : Hid (Fv encI An g F w f) := hf
  have HW : Hid (wrap64 (b + c) = b + c) := by have : wrap64 (b + c) = b + c := (by have := hs.1; unfold wrap64; omega); exact this
  clear hs hc
  obtain ⟨_, id, first, cap, rfl, _⟩ := hf
  go_enter Try.func35, Try.ntmps35
  go_wp2_with fail
  refine ret_tn rfl rfl (heap_alloc2_new _ _ _) rfl rfl ?_
  have := gv_on (x := readW (b + c)) HF.out (below_then (below_a1 w (.cells #[.int .i64 b, .int .i64 n] 56)) (below_a1 _ (.cells (tnC (readW (b + c)) (.func (.func id) first cap)) 54)))
  simpa [tnC, readW, HW.out, readT] using this
theorem write1_any {w : World} {B : Nat} {f : Value} {t : T} {F : List Nat} (z : Int) (hB : Bx F w B 86 #[f]) (hf : Fv encU (fun _ => True) (fun _ => t) F w f) : Calls Try.prog 80 #[.int .i64 z, .pointer (some ⟨B, 0, none⟩)] w (Gv t F w) := by
  have HF : Hid (∀ q ∈ F, q < w.heap.size) := hf.1
  obtain ⟨_, id, first, cap, rfl, he, hc⟩ := hf
  have HC : Hid (∀ w', Un F w w' → Calls Try.prog id (first ++ cap) w' (Gv t F w')) := fun w' hu => by simpa [encU] using hc () trivial w' hu
  have c0 := hB.cell 0 rfl
  have hx := hB.lt
  clear hc hB
  go_enter Try.func80, Try.ntmps80
  go_wp2_with fail
  refine (HC.out _ (Un.of_below (below_a1 _ _) HF.out)).mono ?_
  rintro e w2 h2
  obtain ⟨cs, w3, rfl, hz, hst, hr, _⟩ := gv_put (w := w) (F := F) h2 (heap_alloc_new _ _) rfl (fun h => by have := HF.out _ h; omega) (below_a1 _ _) (Nat.le_refl _) (fun _ h => Or.inl h)
  clear h2
  go_wp2_with fail
  exact ret_tn rfl rfl hr.out.1 hz rfl hr.out.2
theorem write_any {w : World} {b n c v : Int} {f : Value} {t : T} {F : List Nat} (hs : SiteOk b n) (hc : 0 ≤ c ∧ c ≤ 100) (hf : Fv encU (fun _ => True) (fun _ => t) F w f) : Calls Try.prog 52 #[.agg #[.int .i64 b, .int .i64 n], .int .i64 c, .int .i64 v, f] w (Gv (putT b c v t) F w) := by
  have HF : Hid (Fv encU (fun _ => True) (fun _ => t) F w f) := hf
  have HW : Hid (wrap64 (b + c) = b + c) := by have : wrap64 (b + c) = b + c := (by have := hs.1; unfold wrap64; omega); exact this
  clear hs hc
  obtain ⟨_, id, first, cap, hfv, _⟩ := hf
  subst hfv
  go_enter Try.func52, Try.ntmps52
  go_wp2_with fail
  refine ret_tn rfl rfl (hp_past (hp_at (by simp))) rfl rfl ?_
  rw [HW.out]
  have hb := bl4 w (.cells #[.int .i64 b, .int .i64 n] 56) (.cells #[.func (.func id) first cap] 86) (.cells (tnC (putW (b + c) v) (.func (.func 80) #[] #[.pointer (some ⟨w.heap.size + 1, 0, none⟩)])) 54) (.cells (wnC (putW (b + c) v)) 51)
  have hlo : ∀ q ∈ (w.heap.size + 1) :: F, q < _ := lo_cons (by simp) (lo_nil HF.out.1 hb)
  refine gv_clo (x := putW (b + c) v) (G := (w.heap.size + 1) :: F) (fv_mk hlo (ent Try.func80 (by kernel_rfl) rfl) (fun z _ w' hu => ?_)) hb (nw_cons (by omega) nw_nil)
  exact write1_any z (Bx.un ⟨List.mem_cons_self, hp_past (hp_past (hp_at (by simp)))⟩ hu) (((HF.out.later hb).wide (in_cons in_nil) hlo).un hu)
end Go.Proofs.Ytaffkcliepfcmaa.Ch
