/- The program's machine of layer 11: slices.Clone, New. -/
import Derived.Test.YtbmmicfdnfpcaaaBkH
import Derived.Test.YtbmmicfdnfpcaaaSigP
import Derived.Test.YtbmmicfdnfpcaaaSigF
import Derived.Test.YtbmmicfdnfpcaaaGroA
import Derived.Test.YtbmmicfdnfpcaaaMemF
namespace Go.Proofs.Ytbmmicfdnfpcaaa
open Go.ChangeShapes Go.WideShapes Go.ChangeAt Go.RowKit
attribute [local go_sem ↓] Go.wp_at_zero Go.wp_at_succ

/-- A list of writes lies behind a slice. -/
def WL (w : World) (v : Value) (W : List Wt) : Prop := ∃ a cap, v = .slice a W.length cap ∧ W.length ≤ 8796093022208 ∧ (W = [] ∨ ∃ x, a = some x ∧ x.block < w.heap.size ∧ ∀ i, i < W.length → w.cell? (x.add (i * 2)) = some (.int .i64 (W.getD i noWt).c) ∧ w.cell? ((x.add (i * 2)).add 1) = some (.int .i64 (W.getD i noWt).v))
theorem WL.later {w w' : World} {v : Value} {W : List Wt} (h : WL w v W) (hb : Below w.heap.size w w') : WL w' v W := by
  obtain ⟨a, cap, hv, hm, h⟩ := h
  refine ⟨a, cap, hv, hm, ?_⟩
  rcases h with h | ⟨x, h1, h2, h3⟩
  · exact Or.inl h
  · exact Or.inr ⟨x, h1, Nat.lt_of_lt_of_le h2 hb.size, fun i hi => ⟨(hb.cell (p := x.add (i * 2)) (by rw [add_block]; exact h2)).trans (h3 i hi).1, (hb.cell (p := (x.add (i * 2)).add 1) (by rw [add_block, add_block]; exact h2)).trans (h3 i hi).2⟩⟩
theorem WL.of_own {w : World} {base : Nat} {v : Value} {W : List Wt} (h : w.ownsRow base 36 2 v W.length (wtC W)) (hl : W.length ≤ 8796093022208) : WL w v W := by
  obtain ⟨a, cap, rfl⟩ := own_slice h
  refine ⟨a, cap, rfl, hl, ?_⟩
  by_cases h0 : W = []
  · exact Or.inl h0
  · have hp : 0 < W.length := List.length_pos_iff.mpr h0
    obtain ⟨g, cap', e, _, hgl⟩ := h.form hp
    simp at e
    obtain ⟨rfl, rfl⟩ := e
    refine Or.inr ⟨⟨g, 0, none⟩, rfl, hgl, fun i hi => ?_⟩
    have := own_wr h i hi
    rw [Sg.add_at, add_pos' _ _ (by decide)]
    exact this
theorem add_add2 (x : Addr) (a b : Nat) : (x.add a).add b = x.add (a + b) := by
  by_cases hb : b = 0
  · subst hb; rw [add_zero', Nat.add_zero]
  · rw [add_pos' _ _ (by omega), add_pos' _ (a + b) (by omega), add_block]
    by_cases ha : a = 0
    · subst ha; rw [add_zero', Nat.zero_add]
    · rw [add_pos' _ _ (by omega)]
      congr 1
      simp only
      omega
theorem wtC_flat {W : List Wt} {j : Nat} {u : Value} (h : (wtC W)[j]? = some u) : ∃ i, i < W.length ∧ ((j = i * 2 ∧ u = .int .i64 (W.getD i noWt).c) ∨ (j = i * 2 + 1 ∧ u = .int .i64 (W.getD i noWt).v)) := by
  have hj : j < W.length * 2 := by rw [← wtC_len]; exact (List.getElem?_eq_some_iff.1 h).1
  refine ⟨j / 2, by omega, ?_⟩
  have := wtC_get W (j / 2) (by omega)
  by_cases e : j % 2 = 0
  · left
    have ej : j / 2 * 2 = j := by omega
    rw [ej, h] at this
    exact ⟨by omega, by simpa using this.1⟩
  · right
    have ej : j / 2 * 2 + 1 = j := by omega
    rw [ej, h] at this
    exact ⟨by omega, by simpa using this.2⟩
set_option maxRecDepth 10000 in
theorem clone_any {w : World} {v : Value} {W : List Wt} (h : WL w v W) :
    Calls Try.prog 26 #[v] w fun e w' => ∃ u, e = .returned u ∧ w'.ownsRow w.heap.size 36 2 u W.length (wtC W) ∧ Below w.heap.size w w' := by
  obtain ⟨i0, hi, hz0, hz1, hz2⟩ := info_parts info_wr
  obtain ⟨a, cap, rfl, hbig, hl⟩ := h
  have hs1 : ∀ n cap w, (binOp .eql 25 (.slice none n cap) (.slice none 0 0)).run Try.prog w = .ok (.bool true) w := fun _ _ _ => rfl
  have hs2 : ∀ x n cap w, (binOp .eql 25 (.slice (some x) n cap) (.slice none 0 0)).run Try.prog w = .ok (.bool false) w := fun _ _ _ _ => rfl
  by_cases h0 : W = []
  · subst h0
    have HNIL : Hid (∀ w : World, w.ownsRow w.heap.size 36 2 (.slice none 0 0) ([] : List Wt).length (wtC [])) := fun w => World.ownsRow_nil _ _ _ _
    clear hl hbig
    cases a with
    | none =>
      go_enter Try.func26, Try.ntmps26
      go_wp2
      go_ret
      exact ⟨_, rfl, HNIL.out _, Below.refl _ _⟩
    | some x =>
      go_enter Try.func26, Try.ntmps26
      go_wp2
      go_ret
      exact ⟨_, rfl, ⟨rfl, Or.inr ⟨w.heap.size, 0, #[], rfl, Nat.le_refl _, heap_alloc_new _ _, Nat.le_refl _, Nat.zero_le _, rfl, rfl⟩⟩, below_a1 _ _⟩
  · have hp : 0 < W.length := List.length_pos_iff.mpr h0
    obtain ⟨x, rfl, hxb, hcc⟩ : ∃ x, a = some x ∧ x.block < w.heap.size ∧ ∀ i, i < W.length → w.cell? (x.add (i * 2)) = some (.int .i64 (W.getD i noWt).c) ∧ w.cell? ((x.add (i * 2)).add 1) = some (.int .i64 (W.getD i noWt).v) := by
      rcases hl with h | h
      · exact absurd h h0
      · exact h
    have hnews : ∀ j u, (wtC W)[j]? = some u → w.cell? (x.add j) = some u := fun j u hu => by
      obtain ⟨i, hi, ⟨rfl, rfl⟩ | ⟨rfl, rfl⟩⟩ := wtC_flat hu
      · exact (hcc i hi).1
      · rw [← (hcc i hi).2, add_add2]
    have hlen : (wtC W).length = W.length * 2 := wtC_len _
    obtain ⟨v', w', hrun, hown', hgrow⟩ := run_copy_wide0 (P := Try.prog) (w.alloc (.cells #[] 36)) 25 25 36 i0 _ 2 16 Try.underlying25 hi hz0 hz1 hz2 rfl ⟨w.heap.size, 0, none⟩ x W.length cap (wtC W) hlen (fun j u hu => ((below_a1 w _).cell (p := x.add j) (by rw [add_block]; exact hxb)).trans (hnews j u hu)) hp (by unfold maxLen; omega) (by omega)
    have HO : Hid (w'.ownsRow w.heap.size 36 2 v' W.length (wtC W)) := own_base hown' (by simp)
    have HB : Hid (Below w.heap.size w w') := below_then (below_a1 _ _) ⟨hgrow.os, hgrow.tape, hgrow.output, hgrow.size, fun b hb => hgrow.block b hb (by simp)⟩
    obtain ⟨va, vc, rfl⟩ := own_slice HO.out
    generalize wtC W = xs at *
    generalize W.length = n at *
    clear hcc h0 hl hown' hgrow hlen hnews
    go_enter Try.func26, Try.ntmps26
    go_wp2_with (at_builtin; refine Lib.wpList_append_run_sl _ rfl _ _ 25 rfl _ _ rfl rfl hrun ?_)
    go_wp2
    go_ret
    exact ⟨_, rfl, HO.out, HB.out⟩
/-- What New takes. -/
def tkB (ring st : Int) (W : List Wt) : Bool := decide (1 ≤ ring) && decide (ring ≤ 16) && decide (1 ≤ st) && decide (st ≤ 1099511627776) && decide (W.length ≤ 24) && W.all fun x => decide (0 ≤ x.c) && decide (x.c < 1024)
end Go.Proofs.Ytbmmicfdnfpcaaa
