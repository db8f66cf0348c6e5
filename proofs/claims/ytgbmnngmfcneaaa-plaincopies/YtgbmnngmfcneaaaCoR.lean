/- What the document's answers of layers 15 to 18 share: Right, Takes, End, Read, Put, SameNumbers. -/
import Derived.Test.YtgbmnngmfcneaaaCoM
import Derived.RegionTactic
import Derived.BigRegion
namespace Go.Proofs.Ytgbmnngmfcneaaa
open Go.ChangeShapes Go.WideShapes Go.ChangeAt Go.RowKit
attribute [local go_sem ↓] Go.wp_at_zero Go.wp_at_succ

theorem rright_any (w : World) (m : Int) : Calls Try.prog 71 #[.int .i64 m] w fun e w' => e = .returned (.bool (decide (0 ≤ m) && decide (m ≤ 16))) ∧ w' = w := by
  by_cases h1 : 0 ≤ m
  · by_cases h2 : m ≤ 16
    · have d1 : decide (0 ≤ m) = true := by simpa using h1
      have d2 : decide (m ≤ 16) = true := by simpa using h2
      clear h1 h2
      go_enter Try.func71, Try.ntmps71
      go_wp2
      go_ret
      exact ⟨by simp [d1, d2], rfl⟩
    · have d1 : decide (0 ≤ m) = true := by simpa using h1
      have d2 : decide (m ≤ 16) = false := by simpa using h2
      clear h1 h2
      go_enter Try.func71, Try.ntmps71
      go_wp2
      go_ret
      exact ⟨by simp [d1, d2], rfl⟩
  · have d1 : decide (0 ≤ m) = false := by simpa using h1
    clear h1
    go_enter Try.func71, Try.ntmps71
    go_wp2
    go_ret
    exact ⟨by simp [d1], rfl⟩
theorem nl_cells {w : World} {a : Option Addr} {n cap : Nat} {l : List Int} (h : Nl w (.slice a n cap) l) : n = l.length ∧ l.length ≤ 17592186044416 ∧ ∀ i, i < l.length → ∃ x, a = some x ∧ x.block < w.heap.size ∧ w.cell? (x.add i) = some (.int .i64 (nth l i)) := by
  obtain ⟨a', cap', hv, hm, hc1, hc2, hr, hl⟩ := h
  injection hv with h1 h2 h3
  subst h1 h2 h3
  refine ⟨rfl, hm, fun i hi => ?_⟩
  obtain ⟨x, hx, hxb, hc⟩ := hl.resolve_left (by omega)
  exact ⟨x, hx, hxb, hc i hi⟩
theorem nl_slice {w : World} {v : Value} {l : List Int} (h : Nl w v l) : ∃ a cap, v = .slice a l.length cap := by
  obtain ⟨a, cap, hv, _⟩ := h
  exact ⟨a, cap, hv⟩
/-- From a place on both lists are the same. -/
def sameF (a b : List Int) (i : Nat) : Prop := ∀ j, i ≤ j → j < a.length → nth a j = nth b j
theorem same_eq {a b : List Int} (h : a.length = b.length) (hs : ∀ j, j < a.length → nth a j = nth b j) : a = b := by
  apply List.ext_getElem h
  intro i h1 h2
  have := hs i h1
  rwa [nth_at h1, nth_at h2] at this
set_option maxRecDepth 10000 in
theorem same_any {w : World} {va vb : Value} {a b : List Int} (ha : Nl w va a) (hb : Nl w vb b) : Calls Try.prog 16 #[va, vb] w fun e w' => e = .returned (.bool (decide (a = b))) ∧ Below w.heap.size w w' := by
  obtain ⟨aa, ca, rfl⟩ := nl_slice ha
  obtain ⟨ab, cb, rfl⟩ := nl_slice hb
  obtain ⟨_, hla, hca⟩ := nl_cells ha
  obtain ⟨_, hlb, hcb⟩ := nl_cells hb
  by_cases hl : a.length = b.length
  · have HE : Hid ((∀ j, j < a.length → nth a j = nth b j) → decide (a = b) = true) := fun h => by simpa using same_eq hl h
    have HN : Hid (∀ j, nth a j ≠ nth b j → decide (a = b) = false) := fun j hj => by simp; intro e; exact hj (by rw [e])
    have HA : Hid (∀ i, i < a.length → ∃ x, aa = some x ∧ x.block < w.heap.size ∧ w.cell? (x.add i) = some (.int .i64 (nth a i))) := hca
    have HB : Hid (∀ i, i < a.length → ∃ x, ab = some x ∧ x.block < w.heap.size ∧ w.cell? (x.add i) = some (.int .i64 (nth b i))) := fun i hi => hcb i (by omega)
    rw [← hl]
    generalize decide (a = b) = q at *
    generalize a.length = n at *
    clear hca hcb ha hb hlb
    go_enter Try.func16, Try.ntmps16
    go_wp2_with fail
    go_loopw [5] (fun iv wr => ∃ i : Nat, i ≤ n ∧ iv = .int .i64 i ∧ (∀ j, j < i → nth a j = nth b j) ∧ Below w.heap.size w wr) (fun iv _ => n - (intOf iv).toNat)
    case atStart => exact ⟨0, Nat.zero_le _, rfl, fun j hj => by omega, Below.refl _ _⟩
    case round =>
      obtain ⟨i, hi, rfl, hs, hbel⟩ := hrel
      have HS : Hid (∀ j, j < i → nth a j = nth b j) := hs
      have HW : Hid (Below w.heap.size w wr) := hbel
      clear hs hbel
      by_cases hlt : i < n
      · obtain ⟨x, rfl, hxb, hx⟩ := HA.out i hlt
        obtain ⟨y, rfl, hyb, hy⟩ := HB.out i hlt
        have x1 : wr.cell? (x.add i) = some (.int .i64 (nth a i)) := cell_later HW.out (by rw [add_block]; exact hxb) hx
        have y1 : wr.cell? (y.add i) = some (.int .i64 (nth b i)) := cell_later HW.out (by rw [add_block]; exact hyb) hy
        have hd : decide ((i : Int) < (n : Int)) = true := by simp; omega
        have hw : wrap64 ((i : Int) + 1) = (i : Int) + 1 := by unfold wrap64; omega
        clear hx hy hxb hyb
        by_cases e : nth a i = nth b i
        · have HS2 : Hid (∀ j, j < i + 1 → nth a j = nth b j) := fun j hj => by
            by_cases e2 : j < i
            · exact HS.out j e2
            · obtain rfl : j = i := by omega
              exact e
          rw [e] at x1
          generalize nth b i = z at *
          clear e HS
          go_wp2_with fail
          go_quiet (fail)
          go_wp2_with fail
          go_roundw
          case rel => exact ⟨i + 1, by omega, by go_num, HS2.out, below_drawn HW.out _⟩
          case measure => simp [intOf]; omega
        · have HQ : Hid (q = false) := HN.out i e
          have e' : (nth a i == nth b i) = false := by simpa using e
          generalize nth a i = z1 at *
          generalize nth b i = z2 at *
          clear e
          go_wp2_with fail
          go_quiet (fail)
          go_wp2_with fail
          go_ret
          exact ⟨by rw [HQ.out]; rfl, below_drawn HW.out _⟩
      · have hd : decide ((i : Int) < (n : Int)) = false := by simp; omega
        have HQ : Hid (q = true) := HE.out (fun j hj => HS.out j (by omega))
        go_wp2_with fail
        go_ret
        exact ⟨by rw [HQ.out]; rfl, HW.out⟩
  · have HN : Hid (decide (a = b) = false) := by simp [Hid]; intro e; exact hl (by rw [e])
    have hd : ((a.length : Int) == (b.length : Int)) = false := by simp; omega
    generalize decide (a = b) = q at *
    clear ha hb hca hcb
    go_enter Try.func16, Try.ntmps16
    go_wp2_with fail
    go_ret
    exact ⟨by rw [HN.out]; rfl, Below.refl _ _⟩
end Go.Proofs.Ytgbmnngmfcneaaa
