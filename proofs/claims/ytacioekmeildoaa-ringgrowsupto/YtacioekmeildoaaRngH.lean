/- The program's Entries: a list of its own. -/
import Derived.Test.YtacioekmeildoaaRngG
import Derived.Maps.AppendAt
namespace Go.Proofs.Ytacioekmeildoaa
open Go.ChangeShapes Go.WideShapes Go.ChangeAt Go.RowKit Go.Shelf
attribute [local go_sem] Oper.semAt_some

theorem info_ent : (Try.prog.info? 56).map (fun i => (i.zero, i.size, i.bytes)) = some (some (.agg #[.int .i64 0, .int .i64 0, .int .u64 0, .int .u64 0, .int .u64 0, .int .u64 0, .int .u64 0, .int .u64 0, .int .u64 0, .int .u64 0]), 10, 80) := by kernel_rfl
def entC (l : List En) : List Value := l.flatMap fun e => (enC e).toList
theorem entC_len (l : List En) : (entC l).length = l.length * 10 := by
  induction l with
  | nil => rfl
  | cons x l ih => simp only [entC, List.flatMap_cons, List.length_append, List.length_cons] at *; rw [ih]; simp [enC]; omega
theorem entC_snoc (l : List En) (x : En) : entC (l ++ [x]) = entC l ++ (enC x).toList := by simp [entC]

theorem Save.below {n₀ X B : Nat} {W W' : World} (h : Save n₀ X W W') (hX : B ≤ X) (hn : B ≤ n₀) : Below B W W' := ⟨h.os, h.tape, h.output, h.size, fun b hb => h.block b (by omega) (by omega)⟩

theorem row_step {W w1 : World} {n₀ X k m : Nat} {v v' : Value} {xs ys : List Value} {tmp : Obj} (hv : Boxed W X 50 v) (hrow : W.ownsRow n₀ 56 10 v k xs) (hn₀ : n₀ ≤ W.heap.size) (hX : X < n₀) (hown' : w1.ownsRow n₀ 56 10 v' m ys) (hgrow : (W.alloc tmp).grownBy w1 v.ownBlock) :
    Boxed w1 X 50 v ∧ Boxed (w1.setCell ⟨X, 0, none⟩ v') X 50 v' ∧ (w1.setCell ⟨X, 0, none⟩ v').ownsRow n₀ 56 10 v' m ys ∧ KeepsOthers W (w1.setCell ⟨X, 0, none⟩ v') ∧ Save n₀ X W (w1.setCell ⟨X, 0, none⟩ v') := by
  have hlo : ∀ b, v.ownBlock = some b → n₀ ≤ b := fun b hb => (own_block hrow b hb).1
  have hv1 : Boxed w1 X 50 v := (hv.alloc tmp).kept hgrow (fun e => by have := hlo X e.symm; omega)
  refine ⟨hv1, hv1.set v', own_keep hown' ((Keep.refl [X] _).setCell _ _ (Or.inl (by simp))) (fun b hb hm => by
    have := (own_block hown' b hb).1
    simp at hm
    omega), ?_, ?_⟩
  · refine ((KeepsOthers.alloc W tmp).trans (KeepsOthers.of_grownBy hgrow fun j o ej hj => ?_)).trans (KeepsOthers.setCell _ _ _)
    rcases (hrow.alloc tmp).2 with ⟨rfl, _⟩ | ⟨g, cap, cur, rfl, _, hgb, _⟩
    · simp [Value.ownBlock] at ej
    · obtain rfl : g = j := by simpa [Value.ownBlock] using ej
      rw [hgb] at hj; cases hj; rfl
  · refine Save.trans (B := w1) ⟨hgrow.os, hgrow.tape, hgrow.output, ?_, fun b hb hx => ?_⟩ (Save.setCell _ _ _)
    · have := hgrow.size
      simp at this
      omega
    · rw [hgrow.block b (by simp; omega) (fun e => by have := hlo b e.symm; omega), Below.heap_alloc _ _ _ (by omega)]

set_option maxRecDepth 100000 in
set_option maxHeartbeats 2000000 in
theorem entries_any {w : World} {base : Nat} {p : Value} {c r : Nat} {L : List Ac} {F : List Nat} (hM : MemAt w base p c r L F) (hr0 : 1 ≤ r) (hr : r ≤ 16) (hN : wordOf L ⟨1, 0, 0⟩ ≤ 9223372036854775807) :
    Calls Try.prog 26 #[p] w fun e w' => ∃ v, e = .returned v ∧ w'.ownsRow w.heap.size 56 10 v (entsV (wordOf L) r).length (entC (entsV (wordOf L) r)) ∧ Below w.heap.size w w' := by
  refine (callsIn_wide (n := 4)).1 ?_
  obtain ⟨i0, hi, hz0, hz1, hz2⟩ := info_parts info_ent
  have HMM : Hid (∀ w', Below w.heap.size w w' → MemAt w' base p c r L F) := fun w' hb => hM.below hb
  have HFL : Hid (∀ b ∈ F, b < w.heap.size) := fun b hb => (hM.lt b hb).2
  have hmany : manyV (wordOf L) r ≤ 16 := by have := manyV_le (wordOf L) r (by omega); omega
  obtain ⟨M, H, S, C, v, hM⟩ := hM
  obtain rfl := hM.p
  clear hM
  refine callsIn_of_wp_marks Try.func26 rfl trivial ?_ rfl
  simp only [Try.ntmps26, List.size_toArray, List.length_cons, List.length_nil, Nat.reduceAdd, Nat.reduceSub, Array.replicate_succ, Array.replicate_zero, List.push_toArray, List.append_toArray, List.nil_append, List.cons_append]
  gi_wp2_with (refine ⟨trivial, ?_⟩; gi_at_call 41; refine (callsIn_wide.2 (each_any _ _)).mono ?_; rintro e wx ⟨rfl, hx⟩; rw [hx]; clear hx wx)
  have bO : Boxed ((w.alloc (.cells #[.slice none 0 0] 50)).alloc (.cells #[.pointer (some ⟨M, 0, none⟩)] 29)) w.heap.size 50 (.slice none 0 0) := (Boxed.new w 50 (.slice none 0 0)).alloc _
  have bN := Boxed.new (w.alloc (.cells #[.slice none 0 0] 50)) 29 (.pointer (some ⟨M, 0, none⟩))
  rw [World.size_alloc] at bN
  have hB0 : Below w.heap.size w ((w.alloc (.cells #[.slice none 0 0] 50)).alloc (.cells #[.pointer (some ⟨M, 0, none⟩)] 29)) := below_alloc (below_a1 _ _) _
  have hsz : ((w.alloc (.cells #[.slice none 0 0] 50)).alloc (.cells #[.pointer (some ⟨M, 0, none⟩)] 29)).heap.size = w.heap.size + 2 := by simp
  obtain ⟨W0, hW0⟩ : ∃ W0, (w.alloc (.cells #[.slice none 0 0] 50)).alloc (.cells #[.pointer (some ⟨M, 0, none⟩)] 29) = W0 := ⟨_, rfl⟩
  rw [hW0] at bO bN hB0 hsz ⊢
  clear hW0
  refine wpIn_rangeFunc_ownH rfl (by omega) (gf := 49) (lb := #[.pointer (some ⟨w.heap.size + 1, 0, none⟩)]) rfl trivial (enters_of Try.func49 (by kernel_rfl) rfl)
    (each_stops (4 - 1) (by omega) (w.heap.size + 1) (w.heap.size + 2) w.heap.size base hr0 hr hN (by omega) (by omega) (fun b hb => by have := HFL.out b hb; omega) W0 (by omega) bN.cell (HMM.out W0 hB0))
    Save.trans (fun W l o o' hl _ _ _ => Save.putObj W l o' (by omega)) (Below.refl _ _) (fun _ => rfl)
    (fun pre W => w.heap.size + 2 ≤ W.heap.size ∧ (∃ v, Boxed W w.heap.size 50 v ∧ W.ownsRow (w.heap.size + 2) 56 10 v pre.length (entC pre)) ∧ Below w.heap.size w W)
    (fun _ _ _ => False)
    ?hI (fun _ _ _ _ _ hs _ _ => hs) ⟨by omega, ⟨_, bO, World.ownsRow_nil _ _ _ _⟩, hB0⟩
    (fun x a' W => ∃ Bx, w.heap.size + 2 ≤ Bx ∧ W.heap[Bx]? = some (.cells (enC x) 56 (0, 0)) ∧ a' = { tmps := #[.pointer (some ⟨M, 0, none⟩), undef, .slice none 0 0, .pointer (some ⟨w.heap.size, 0, none⟩), .pointer (some ⟨Bx, 0, none⟩), .pointer (some ⟨M, 0, none⟩), .func (.func 49) #[] #[.pointer (some ⟨w.heap.size + 1, 0, none⟩)], .agg (enC x), undef, undef, undef, undef, undef], defers := [] })
    ?hAx ?assign ?body ?done ?stop
  case hI =>
    rintro pre A B row ⟨h1, ⟨v, h2, h3⟩, h4⟩ hg hr
    refine ⟨Nat.le_trans h1 hg.size, ⟨v, cells_kept h2 hg hr, ?_⟩, below_kept h4 (by omega) hg hr⟩
    refine ⟨h3.1, ?_⟩
    rcases h3.2 with h5 | ⟨g, cap, cur, e1, e2, e3, e4⟩
    · exact Or.inl h5
    · exact Or.inr ⟨g, cap, cur, e1, e2, cells_kept e3 hg hr, e4⟩
  case hAx =>
    rintro x a' u A B row ⟨Bx, h1, h2, h3⟩ hg hr
    exact ⟨Bx, h1, cells_kept h2 hg hr, h3⟩
  case assign =>
    rintro l pre x W K ⟨hs, ⟨v, hb, hrow⟩, hB⟩ hK
    have hst := store_new (P := Try.prog) W 56 #[.int .i64 0, .int .i64 0, .int .u64 0, .int .u64 0, .int .u64 0, .int .u64 0, .int .u64 0, .int .u64 0, .int .u64 0, .int .u64 0] (enC x) rfl (enC_one x)
    gi_wp2
    exact hK _ _ ((KeepsOthers.alloc _ _).from _) (Save.alloc _ _ hs) ⟨by simp; omega, ⟨v, hb.alloc _, hrow.alloc _⟩, below_alloc hB _⟩ ⟨W.heap.size, hs, heap_alloc_new _ _, rfl⟩
  case body =>
    rintro l pre x a' W hl ⟨rr, hrr⟩ ⟨hs, ⟨v, hb, hrow⟩, hB⟩ ⟨Bx, hBx, bX, rfl⟩ hlt
    have hcb := hb.cell
    have hlt' : pre.length < 16 := by omega
    have HLT : Hid (pre.length < 16) := hlt'
    clear hlt hlt'
    obtain ⟨st, m, g⟩ := x
    simp only [enC] at bX
    have hl0 : W.cell? ⟨Bx, 0, none⟩ = some (.int .i64 st) := by rw [cell_at bX]; rfl
    have hl1 : W.cell? ⟨Bx, 1, none⟩ = some (.int .i64 m) := by rw [cell_at bX]; rfl
    have hl2 : W.cell? ⟨Bx, 2, none⟩ = some (.int .u64 (g 0)) := by rw [cell_at bX]; rfl
    have hl3 : W.cell? ⟨Bx, 3, none⟩ = some (.int .u64 (g 1)) := by rw [cell_at bX]; rfl
    have hl4 : W.cell? ⟨Bx, 4, none⟩ = some (.int .u64 (g 2)) := by rw [cell_at bX]; rfl
    have hl5 : W.cell? ⟨Bx, 5, none⟩ = some (.int .u64 (g 3)) := by rw [cell_at bX]; rfl
    have hl6 : W.cell? ⟨Bx, 6, none⟩ = some (.int .u64 (g 4)) := by rw [cell_at bX]; rfl
    have hl7 : W.cell? ⟨Bx, 7, none⟩ = some (.int .u64 (g 5)) := by rw [cell_at bX]; rfl
    have hl8 : W.cell? ⟨Bx, 8, none⟩ = some (.int .u64 (g 6)) := by rw [cell_at bX]; rfl
    have hl9 : W.cell? ⟨Bx, 9, none⟩ = some (.int .u64 (g 7)) := by rw [cell_at bX]; rfl
    gi_wp2_with (gi_at_builtin; refine wpListIn_append_own _ rfl _ _ 50 rfl (w.heap.size + 2) 56 i0 _ 10 80 Try.underlying50 hi hz0 hz1 hz2 rfl (by decide) _ _ _ rfl (hrow.alloc _) ⟨W.heap.size, 0, none⟩ 1 1 (enC ⟨st, m, g⟩).toList rfl rfl (World.news_of_block (cs := enC ⟨st, m, g⟩) (t := 56) (fr := (0, 0)) (heap_alloc_new _ _)) (by simp [enC, Value.oneCell']) (by have := HLT.out; unfold maxLen; omega) (by have := HLT.out; omega) (by simp; omega) ?_; intro v' w1 hown' hgrow _; obtain ⟨g', cap', rfl⟩ := ownsRow_succ hown'; obtain ⟨hv1, hv2, hr2, hk2, hb2⟩ := row_step hb hrow hs (by omega) hown' hgrow; have hc1 := hv1.cell; have hf1 := hv1.frozen)
    exact ⟨hk2.from _, hb2, Nat.le_trans hs hb2.size, ⟨_, hv2, by rw [entC_snoc, List.length_append]; exact hr2⟩, hB.trans (hb2.below (Nat.le_refl _) (by omega))⟩
  case done =>
    rintro D ys W hD hys ⟨hs, ⟨v, hb, hrow⟩, hB⟩ hK
    have hcb := hb.cell
    gi_wp2
    refine ⟨by simp, .inl ⟨_, _, rfl, run_takeDeferred hK, ?_⟩⟩
    have hfin := ownsRow_putObj hrow (.deferred none) hK rfl
    exact ⟨_, results_tmp rfl _ _ _, v, rfl, by rw [← hys]; exact ⟨hfin.1, hfin.2.imp id fun ⟨g, cap, cur, e1, e2, e3, e4⟩ => ⟨g, cap, cur, e1, by omega, e3, e4⟩⟩, hB.trans (belowK_b (w := w) (Nat.le_refl _) W D _ _ (by omega) hK rfl rfl)⟩
  case stop =>
    rintro D cd pre W hD hpre h hK
    exact h.elim
end Go.Proofs.Ytacioekmeildoaa
