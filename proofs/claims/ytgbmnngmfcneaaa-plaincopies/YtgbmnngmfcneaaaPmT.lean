/- Arity, Load, Store: the document's. -/
import Derived.Test.YtgbmnngmfcneaaaPmS
import Derived.Test.YtgbmnngmfcneaaaPlT
namespace Go.Proofs.Ytgbmnngmfcneaaa.Pl
open Go.ChangeShapes Go.WideShapes Go.ChangeAt Go.RowKit
attribute [local go_sem ↓] Go.wp_at_zero Go.wp_at_succ

theorem ar15_any (w : World) (c : Int) : Calls Try.prog 46 #[.int .i64 c] w fun e w' => e = .returned (.int .i64 (ar1 c)) ∧ w' = w := by
  by_cases hc : c = 1 ∨ c = 2
  · rcases hc with rfl | rfl <;> (go_enter Try.func46, Try.ntmps46; go_wp2; go_ret; exact ⟨rfl, rfl⟩)
  · have HE : Hid (ar1 c = -1) := by have : ar1 c = -1 := (by unfold ar1; rw [if_neg (by omega), if_neg (by omega)]); exact this
    have e1 : (c == 1) = false := by simp; omega
    have e2 : (c == 2) = false := by simp; omega
    clear hc
    go_enter Try.func46, Try.ntmps46
    go_wp2
    go_ret
    exact ⟨by rw [HE.out]; rfl, rfl⟩
theorem ar16_any (w : World) (c : Int) : Calls Try.prog 47 #[.int .i64 c] w fun e w' => e = .returned (.int .i64 (ar2 c)) ∧ w' = w := by
  by_cases hc : c = 3 ∨ c = 2 ∨ c = 5
  · rcases hc with rfl | rfl | rfl <;> (go_enter Try.func47, Try.ntmps47; go_wp2; go_ret; exact ⟨rfl, rfl⟩)
  · have HE : Hid (ar2 c = -1) := by have : ar2 c = -1 := (by unfold ar2; rw [if_neg (by omega), if_neg (by omega), if_neg (by omega)]); exact this
    have e1 : (c == 3) = false := by simp; omega
    have e2 : (c == 2) = false := by simp; omega
    have e5 : (c == 5) = false := by simp; omega
    clear hc
    go_enter Try.func47, Try.ntmps47
    go_wp2
    go_ret
    exact ⟨by rw [HE.out]; rfl, rfl⟩
theorem ar17_any (w : World) (c : Int) : Calls Try.prog 48 #[.int .i64 c] w fun e w' => e = .returned (.int .i64 (ar3 c)) ∧ w' = w := by
  by_cases hc : c = 2 ∨ c = 3 ∨ c = 4 ∨ c = 5
  · rcases hc with rfl | rfl | rfl | rfl <;> (go_enter Try.func48, Try.ntmps48; go_wp2; go_ret; exact ⟨rfl, rfl⟩)
  · have HE : Hid (ar3 c = -1) := by have : ar3 c = -1 := (by unfold ar3; rw [if_neg (by omega), if_neg (by omega), if_neg (by omega), if_neg (by omega)]); exact this
    have e1 : (c == 3) = false := by simp; omega
    have e2 : (c == 2) = false := by simp; omega
    have e4 : (c == 4) = false := by simp; omega
    have e5 : (c == 5) = false := by simp; omega
    clear hc
    go_enter Try.func48, Try.ntmps48
    go_wp2
    go_ret
    exact ⟨by rw [HE.out]; rfl, rfl⟩
theorem ar18_any (w : World) (c : Int) : Calls Try.prog 49 #[.int .i64 c] w fun e w' => e = .returned (.int .i64 (ar4 c)) ∧ w' = w := by
  by_cases hc : c = 1 ∨ c = 4 ∨ c = 6 ∨ c = 8 ∨ c = 7 ∨ c = 5
  · rcases hc with rfl | rfl | rfl | rfl | rfl | rfl <;> (go_enter Try.func49, Try.ntmps49; go_wp2; go_ret; exact ⟨rfl, rfl⟩)
  · have HE : Hid (ar4 c = -1) := by have : ar4 c = -1 := (by unfold ar4; rw [if_neg (by omega), if_neg (by omega), if_neg (by omega), if_neg (by omega), if_neg (by omega), if_neg (by omega)]); exact this
    have e1 : (c == 1) = false := by simp; omega
    have e4 : (c == 4) = false := by simp; omega
    have e6 : (c == 6) = false := by simp; omega
    have e8 : (c == 8) = false := by simp; omega
    have e7 : (c == 7) = false := by simp; omega
    have e5 : (c == 5) = false := by simp; omega
    clear hc
    go_enter Try.func49, Try.ntmps49
    go_wp2
    go_ret
    exact ⟨by rw [HE.out]; rfl, rfl⟩
theorem ar19_any (w : World) (k c : Int) : Calls Try.prog 31 #[.int .i64 k, .int .i64 c] w fun e w' => e = .returned (.int .i64 (arV k c)) ∧ w' = w := by
  have H1 : Hid (∀ w : World, Calls Try.prog 46 #[.int .i64 c] w fun e w' => e = .returned (.int .i64 (ar1 c)) ∧ w' = w) := fun w => ar15_any w c
  have H2 : Hid (∀ w : World, Calls Try.prog 47 #[.int .i64 c] w fun e w' => e = .returned (.int .i64 (ar2 c)) ∧ w' = w) := fun w => ar16_any w c
  have H3 : Hid (∀ w : World, Calls Try.prog 48 #[.int .i64 c] w fun e w' => e = .returned (.int .i64 (ar3 c)) ∧ w' = w) := fun w => ar17_any w c
  have H4 : Hid (∀ w : World, Calls Try.prog 49 #[.int .i64 c] w fun e w' => e = .returned (.int .i64 (ar4 c)) ∧ w' = w) := fun w => ar18_any w c
  by_cases hk : k = 1 ∨ k = 2 ∨ k = 3 ∨ k = 4
  · rcases hk with rfl | rfl | rfl | rfl
    · go_enter Try.func31, Try.ntmps31
      go_wp2_with fail
      refine (H1.out _).mono ?_
      rintro e w1 ⟨rfl, rfl⟩
      go_wp2_with fail
      go_ret
      exact ⟨rfl, rfl⟩
    · go_enter Try.func31, Try.ntmps31
      go_wp2_with fail
      refine (H2.out _).mono ?_
      rintro e w1 ⟨rfl, rfl⟩
      go_wp2_with fail
      go_ret
      exact ⟨rfl, rfl⟩
    · go_enter Try.func31, Try.ntmps31
      go_wp2_with fail
      refine (H3.out _).mono ?_
      rintro e w1 ⟨rfl, rfl⟩
      go_wp2_with fail
      go_ret
      exact ⟨rfl, rfl⟩
    · go_enter Try.func31, Try.ntmps31
      go_wp2_with fail
      refine (H4.out _).mono ?_
      rintro e w1 ⟨rfl, rfl⟩
      go_wp2_with fail
      go_ret
      exact ⟨rfl, rfl⟩
  · have HE : Hid (arV k c = -1) := by have : arV k c = -1 := (by unfold arV; rw [if_neg (by omega), if_neg (by omega), if_neg (by omega), if_neg (by omega)]); exact this
    have e1 : (k == 1) = false := by simp; omega
    have e2 : (k == 2) = false := by simp; omega
    have e3 : (k == 3) = false := by simp; omega
    have e4 : (k == 4) = false := by simp; omega
    clear hk
    go_enter Try.func31, Try.ntmps31
    go_wp2_with fail
    go_ret
    exact ⟨by rw [HE.out]; rfl, rfl⟩
theorem plc_wrap {n : Nat} (h64 : n ≤ 64) (h1 : 1 ≤ n) (p : Int) : wrap64 ((IntKind.u64.wrap p).tmod (n : Int)) = (((p % 18446744073709551616).toNat % n : Nat) : Int) := by
  rw [plc_num]
  have := Nat.mod_lt ((p % 18446744073709551616).toNat) (show 0 < n by omega)
  generalize (p % 18446744073709551616).toNat % n = z at *
  unfold wrap64
  omega
theorem rplace_any {w : World} {B X : Nat} {F Z : List Nat} {raw : List Int} {cs : List Co} (h : DtAt w B X F Z raw cs) (p : Int) : Calls Try.prog 54 #[.pointer (some ⟨X, 0, none⟩), .int .i64 p] w fun e w' => e = .returned (.int .i64 (plc raw p : Int)) ∧ w' = w := by
  obtain ⟨C, vr, rv, cv, V, P, hs, _⟩ := h
  obtain ⟨_, h0, _⟩ := hs.cells
  obtain ⟨a, cap, rfl⟩ := own_slice hs.rr
  have h1 := hs.r1
  have h64 := hs.r64
  clear hs
  unfold plc
  generalize raw.length = n at *
  go_enter Try.func54, Try.ntmps54
  go_wp2_with fail
  go_ret
  exact ⟨by first | (rw [plc_wrap h64 h1]; rfl) | (rw [plc_num]; rfl), rfl⟩
theorem rload_any {w : World} {B X : Nat} {F Z : List Nat} {raw : List Int} {cs : List Co} (h : DtAt w B X F Z raw cs) (p : Int) : Calls Try.prog 42 #[.pointer (some ⟨X, 0, none⟩), .int .i64 p] w fun e w' => e = .returned (.int .i64 (nth raw (plc raw p))) ∧ Below w.heap.size w w' := by
  have HI : Hid (∀ w' : World, Below w.heap.size w w' → Calls Try.prog 54 #[.pointer (some ⟨X, 0, none⟩), .int .i64 p] w' fun e w'' => e = .returned (.int .i64 (plc raw p : Int)) ∧ w'' = w') := fun w' hb => rplace_any (h.later hb) p
  obtain ⟨C, vr, rv, cv, V, P, hs, _⟩ := h
  obtain ⟨_, h0, _⟩ := hs.cells
  have hlt := plc_lt hs.r1 p
  have h64 := hs.r64
  have hl : X < w.heap.size := heap_lt hs.hX
  have hnl := Nl.of_own hs.rr (by omega) hs.rs
  obtain ⟨a, cap, rfl⟩ := own_slice hs.rr
  obtain ⟨_, _, hc⟩ := nl_cells hnl
  obtain ⟨x, rfl, hxb, hx⟩ := hc _ hlt
  clear hs hnl hc
  generalize plc raw p = i at *
  go_enter Try.func42, Try.ntmps42
  go_wp2_with fail
  go_quiet ((go_at_call 54; refine Calls.quiet_of_same (HI.out _ (below_drawn (Below.refl _ _) _))))
  go_wp2_with fail
  go_ret
  exact ⟨rfl, below_drawn (Below.refl _ _) _⟩
theorem rstore_any {w : World} {B X : Nat} {F Z : List Nat} {raw : List Int} {cs : List Co} (h : DtAt w B X F Z raw cs) (p v : Int) (hv : Sx v) : Calls Try.prog 43 #[.pointer (some ⟨X, 0, none⟩), .int .i64 p, .int .i64 v] w fun e w' => e = .returned (.tuple #[]) ∧ DtAt w' B X F Z (setR raw p v) cs ∧ Next F F w w' := by
  have HI : Hid (∀ w' : World, Below w.heap.size w w' → Calls Try.prog 54 #[.pointer (some ⟨X, 0, none⟩), .int .i64 p] w' fun e w'' => e = .returned (.int .i64 (plc raw p : Int)) ∧ w'' = w') := fun w' hb => rplace_any (h.later hb) p
  obtain ⟨C, vr, rv, cv, V, P, hs, hlen⟩ := h
  obtain ⟨_, h0, _⟩ := hs.cells
  have hlt := plc_lt hs.r1 p
  have h64 := hs.r64
  have hl : X < w.heap.size := heap_lt hs.hX
  have hnl := Nl.of_own hs.rr (by omega) hs.rs
  obtain ⟨a, cap, rfl⟩ := own_slice hs.rr
  obtain ⟨_, _, hc⟩ := nl_cells hnl
  obtain ⟨x, rfl, hxb, hx⟩ := hc _ hlt
  obtain ⟨g, rfl⟩ := own_at0 hs.rr
  rw [add_at, Nat.zero_add] at hx
  have hf : w.frozen? ⟨g, plc raw p, none⟩ = false := (own_some hs.rr _ (by omega)).2
  have HF : Hid (∀ n, DtAt ((w.setCell ⟨g, plc raw p, none⟩ (.int .i64 v)).drewN n) B X F Z (setR raw p v) cs ∧ Next F F w ((w.setCell ⟨g, plc raw p, none⟩ (.int .i64 v)).drewN n)) := fun n => by
    obtain ⟨h1, h2⟩ := hs.put (plc raw p) v hv
    have h3 := h1.drewN n
    exact ⟨⟨C, vr, .slice (some ⟨g, 0, none⟩) raw.length cap, cv, V, P, h3, hlen⟩, h2.drewN n, fun b hb => Or.inl hb⟩
  clear hs hnl hc hlen
  generalize plc raw p = i at *
  go_enter Try.func43, Try.ntmps43
  go_wp2_with fail
  go_region_with ((go_at_call 54; refine (HI.out _ (below_drawn (Below.refl _ _) 1)).mono ?_; rintro e w2 ⟨rfl, hw2⟩; obtain rfl := hw2.symm))
  all_goals
    refine bodyPost_end (results_none rfl _ _ _) rfl ?_
    exact ⟨rfl, HF.out 1⟩
end Go.Proofs.Ytgbmnngmfcneaaa.Pl
