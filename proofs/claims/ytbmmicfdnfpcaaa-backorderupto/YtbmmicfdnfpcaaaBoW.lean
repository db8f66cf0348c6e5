/- BackOrder: what the law makes; how far both have come; turns that are handed in. -/
import Derived.Test.YtbmmicfdnfpcaaaBoS
import Derived.Test.YtbmmicfdnfpcaaaBkR
namespace Go.Proofs.Ytbmmicfdnfpcaaa
open Go.ChangeShapes Go.WideShapes Go.ChangeAt Go.RowKit

/-- A machine of the law. -/
def orP (s : Nat) (st : Int) (S : List Wt) : Bp := ⟨s, st, inW S 6, sgOf (inW S 6)⟩
theorem orP_ok {s : Nat} {st : Int} {S : List Wt} (h1 : 2 ≤ s) (h2 : s ≤ 16) (h3 : 1 ≤ st) (h4 : st ≤ 1000) (hS : ∀ i, i < S.length → W64 (S.getD i noWt).v) : BpOk (orP s st S) :=
  ⟨by unfold orP; simp only; omega, h2, h3, by unfold orP; simp only; omega, by have := inW_len S 6; unfold orP; simp only; omega, fun x hx => by obtain ⟨a, b, c⟩ := inW_cell hS x hx; exact ⟨a, by omega, c⟩, rfl⟩
theorem orP_tk {s : Nat} {st : Int} {S : List Wt} (h1 : 2 ≤ s) (h2 : s ≤ 16) (h3 : 1 ≤ st) (h4 : st ≤ 1000) (hS : ∀ i, i < S.length → W64 (S.getD i noWt).v) : tkB s st (inW S 6) = true := by
  unfold tkB
  simp only [Bool.and_eq_true, decide_eq_true_eq, List.all_eq_true]
  refine ⟨⟨⟨⟨⟨by omega, by omega⟩, by omega⟩, by omega⟩, by have := inW_len S 6; omega⟩, fun x hx => ?_⟩
  obtain ⟨a, b, _⟩ := inW_cell hS x hx
  exact ⟨a, by omega⟩
theorem orP_two {s : Nat} {A B : List Wt} (h1 : 2 ≤ s) (h2 : s ≤ 16) (hA : ∀ i, i < A.length → W64 (A.getD i noWt).v) (hB : ∀ i, i < B.length → W64 (B.getD i noWt).v) : Oq (orP s 1 A) (orP s 2 B) :=
  ⟨orP_ok h1 h2 (by decide) (by decide) hA, orP_ok h1 h2 (by decide) (by decide) hB, rfl, h1, rfl, rfl⟩
theorem ow_start {w0 wc w1 w2 w3 : World} {M X Y s : Nat} {P Q : Bp} {u v : Value} {F : List Nat} {R : List (Nat × Obj)} (ho : Oq P Q) (hps : P.s = s) (hc1 : ∀ x ∈ P.W, x.c < 8) (hc2 : ∀ x ∈ Q.W, x.c < 8) (hbc : Below w0.heap.size w0 wc)
    (hm : MemAt w1 wc.heap.size (.pointer (some ⟨M, 0, none⟩)) 8 s [] F) (hb1 : Below wc.heap.size wc w1)
    (hX : w1.heap.size ≤ X) (hrx : BRow w2 X P (bkNew P true) u) (hox : w2.ownsRow w1.heap.size 36 2 u P.W.length (wtC P.W)) (hnx : ∀ k, u.ownBlock = some k → k ≠ X) (hb2 : Below w1.heap.size w1 w2)
    (hY : w2.heap.size ≤ Y) (hry : BRow w3 Y Q (bkNew Q true) v) (hoy : w3.ownsRow w2.heap.size 36 2 v Q.W.length (wtC Q.W)) (hny : ∀ k, v.ownBlock = some k → k ≠ Y) (hb3 : Below w2.heap.size w2 w3)
    (hR : ∀ z ∈ R, wc.heap[z.1]? = some z.2) : OW w0 w3 M X Y s P Q u v 0 (bkNew P true) (bkNew Q true) [] R := by
  have hs1 := hb1.size
  have hs2 := hb2.size
  have hs3 := hb3.size
  have hXl := heap_lt hrx
  have hx2 : BS w2 wc.heap.size (.pointer (some ⟨M, 0, none⟩)) 8 s [] F X P (bkNew P true) u := bs_new1 hm hs1 hX hrx hox hnx hb2
  have hy3 : BS w3 wc.heap.size (.pointer (some ⟨M, 0, none⟩)) 8 s [] F Y Q (bkNew Q true) v := bs_new1 (hm.below hb2) (by omega) hY hry hoy hny hb3
  refine ⟨⟨wc.heap.size, F, ⟨hx2.below hb3, hy3, by omega, fun k hk e => by have := (own_block hoy k hk).1; omega, fun k hk e => by have := (own_block hox k hk).2; omega, fun z hz => ?_⟩, hbc.size, by omega⟩, below_then (below_then (below_then hbc hb1) hb2) hb3, oi_start ho, by simp, hps, hc1, hc2⟩
  have hz1 := hR z hz
  have hzl := heap_lt hz1
  exact ⟨row_on (row_on (row_on hz1 hb1) hb2) hb3, by omega, by omega, fun e => by have := (hm.lt _ e).1; omega⟩
/-- How far both have come: n turns that are handed in, then one by one. -/
def OPr (n i : Nat) (P Q : Bp) (b d : Bk) : Prop := (n ≤ i → mB P b ≤ 17 - ((i + 1) / 2 - (n + 1) / 2)) ∧ (n + 36 ≤ i → b.nx = 0 ∧ mB Q d ≤ 17 - (i / 2 - (n + 36) / 2))
theorem opr_start {n : Nat} {P Q : Bp} {b d : Bk} (hb : BkOk P b) (hl : P.W.length ≤ 6) : OPr n 0 P Q b d := by
  have := mB_le hb
  exact ⟨fun _ => by omega, fun h => by omega⟩
theorem opr_old {n i : Nat} {P Q : Bp} {b b' d : Bk} (h : OPr n i P Q b d) (hb : BkOk P b') (hd : BkOk Q d) (hl : P.W.length ≤ 6) (hq : Q.W.length ≤ 6) (he : n ≤ i → i % 2 = 0) (hm : mB P b' ≤ mB P b - 1) (h0 : b.nx = 0 → b' = b) : OPr n (i + 1) P Q b' d := by
  have m1 := mB_le hb
  have m2 := mB_le hd
  have h1 : n ≤ i + 1 → mB P b' ≤ 17 - ((i + 1 + 1) / 2 - (n + 1) / 2) := fun hn => by
    by_cases e : n ≤ i
    · have h3 := h.1 e
      have h4 := he e
      omega
    · omega
  refine ⟨h1, fun hn => ?_⟩
  by_cases e : n + 36 ≤ i
  · obtain ⟨h3, h4⟩ := h.2 e
    have h5 := he (by omega)
    have h6 := h0 h3
    rw [h6]
    exact ⟨h3, by omega⟩
  · have h3 := h1 (by omega)
    refine ⟨mB_zero hb (by omega), by omega⟩
theorem opr_new {n i : Nat} {P Q : Bp} {b d d' : Bk} (h : OPr n i P Q b d) (hb : BkOk P b) (hd : BkOk Q d') (hl : P.W.length ≤ 6) (hq : Q.W.length ≤ 6) (he : n ≤ i → i % 2 = 1) (hm : b.nx = 0 → mB Q d' ≤ mB Q d - 1) : OPr n (i + 1) P Q b d' := by
  have m1 := mB_le hb
  have m2 := mB_le hd
  have h1 : n ≤ i + 1 → mB P b ≤ 17 - ((i + 1 + 1) / 2 - (n + 1) / 2) := fun hn => by
    by_cases e : n ≤ i
    · have h3 := h.1 e
      have h4 := he e
      omega
    · omega
  refine ⟨h1, fun hn => ?_⟩
  by_cases e : n + 36 ≤ i
  · obtain ⟨h3, h4⟩ := h.2 e
    have h5 := he (by omega)
    have h6 := hm h3
    exact ⟨h3, by omega⟩
  · have h3 := h1 (by omega)
    refine ⟨mB_zero hb (by omega), by omega⟩
theorem opr_end {n : Nat} {P Q : Bp} {b d : Bk} (h : OPr n (n + 200) P Q b d) (hd : BkOk Q d) : b.nx = 0 ∧ d.nx = 0 := by
  obtain ⟨h1, h2⟩ := h.2 (by omega)
  exact ⟨h1, mB_zero hd (by omega)⟩
/-- Turns behind a slice. -/
def TL (w : World) (v : Value) (T : List Bool) : Prop := ∃ a cap, v = .slice a T.length cap ∧ T.length ≤ 1048576 ∧ (T = [] ∨ ∃ x, a = some x ∧ x.block < w.heap.size ∧ ∀ i, i < T.length → w.cell? (x.add i) = some (.bool (T.getD i false)))
theorem cells_bool11 : Try.prog.cellsOf 4 = 1 := by kernel_rfl
theorem obulk_one {H : Type} (d : DataW H) : 1 ≤ Rows.uptoBulk d := by
  cases d with
  | lit l => cases l <;> simp [Rows.uptoBulk]
  | nil => simp [Rows.uptoBulk]
  | ptr d => simp [Rows.uptoBulk]
  | slice e s => simp [Rows.uptoBulk]
  | agg p => simp [Rows.uptoBulk]
  | iface t d => simp [Rows.uptoBulk]
  | map e => simp [Rows.uptoBulk]
  | held h => simp [Rows.uptoBulk]
theorem obulk_len {H : Type} (ds : List (DataW H)) : ds.length ≤ Rows.uptoBulkAll ds := by
  induction ds with
  | nil => simp [Rows.uptoBulkAll]
  | cons d r ih => have := obulk_one d; simp [Rows.uptoBulkAll]; omega
theorem open_bools11 {H : Type} {enc : TypeId × Value → H} {W : World} {fuel : Nat} {cs : List Value} {x : DataW H × List MemPlace} (hb : Rows.uptoBulk x.1 ≤ 1048576)
    (hf : DataW.trod enc Try.prog W 0 (fun _ => true) true fuel 75 cs = some x) : ∃ v T, cs = [v] ∧ TL W v T := by
  rcases Go.Deep.open_slice Try.underlying75 hf with ⟨hcs, hx⟩ | ⟨x0, n, c, m, n', D, Pl, hcs, _, hl, hm, hmm, hx, hcell⟩
  · exact ⟨_, [], hcs, none, _, rfl, by simp, Or.inl rfl⟩
  · have hmc : m = c := by simpa using hmm
    subst hmc
    have hn : n ≤ 1048576 := by
      have := obulk_len ((List.range n).map D)
      rw [hx] at hb
      simp only [Rows.uptoBulk] at hb
      simp at this
      omega
    have hrow : ∀ i, i < n → ∃ s : Bool, W.cell? (x0.add i) = some (.bool s) ∧ x0.block < W.heap.size := fun i hi => by
      obtain ⟨cs', hc, ht⟩ := hcell i (by omega)
      obtain ⟨s, hs, _⟩ := DataW.trod_bool Try.underlying4 ht
      subst hs
      rw [cells_bool11, Nat.mul_one] at hc
      have h0 : W.cell? ((x0.add i).add 0) = [Value.bool s][0]? := (World.cells?_some hc).2.2 0 (by decide)
      rw [add_zero'] at h0
      refine ⟨s, h0, ?_⟩
      have := World.block_lt_of_cell? _ _ (h0.trans (show _ = some (Value.bool s) from rfl))
      rwa [add_block] at this
    obtain ⟨S, hSl, hS⟩ := list_choose false _ n hrow
    refine ⟨_, S, hcs, some x0, m, by rw [hSl], by omega, ?_⟩
    by_cases h0 : n = 0
    · exact Or.inl (List.length_eq_zero_iff.1 (by omega))
    · exact Or.inr ⟨x0, rfl, (hS 0 (by omega)).2, fun i hi => (hS i (by omega)).1⟩
theorem open_wlb {H : Type} {enc : TypeId × Value → H} {W : World} {fuel : Nat} {cs : List Value} {x : DataW H × List MemPlace} (hb : Rows.uptoBulk x.1 ≤ 1048576)
    (hf : DataW.trod enc Try.prog W 0 (fun _ => true) true fuel 25 cs = some x) : ∃ v S, cs = [v] ∧ WL W v S ∧ (∀ i, i < S.length → W64 (S.getD i noWt).v) ∧ ∀ i, i < S.length → W64 (S.getD i noWt).c := by
  rcases Go.Deep.open_slice Try.underlying25 hf with ⟨hcs, hx⟩ | ⟨x0, n, c, m, n', D, Pl, hcs, _, hl, hm, hmm, hx, hcell⟩
  · exact ⟨_, [], hcs, ⟨none, _, rfl, by simp, Or.inl rfl⟩, fun i hi => absurd hi (by simp), fun i hi => absurd hi (by simp)⟩
  · have hmc : m = c := by simpa using hmm
    subst hmc
    have hlen : n ≤ 8796093022208 := by
      have := obulk_len ((List.range n).map D)
      rw [hx] at hb
      simp only [Rows.uptoBulk] at hb
      simp at this
      omega
    have hrow : ∀ i, i < n → ∃ s : Wt, (W.cell? (x0.add (i * 2)) = some (.int .i64 s.c) ∧ W.cell? ((x0.add (i * 2)).add 1) = some (.int .i64 s.v)) ∧ (W64 s.v ∧ W64 s.c) ∧ x0.block < W.heap.size := fun i hi => by
      obtain ⟨cs', hc, ht⟩ := hcell i (by omega)
      obtain ⟨s, rfl, hfit⟩ := wr11_of_cells ht
      rw [cells_wr11] at hc
      have hj : ∀ j, j < 2 → W.cell? ((x0.add (i * 2)).add j) = [Value.int .i64 s.c, .int .i64 s.v][j]? := fun j hj => (World.cells?_some hc).2.2 j hj
      refine ⟨s, ⟨?_, ?_⟩, hfit, ?_⟩
      · have := hj 0 (by decide); rw [add_zero'] at this; exact this
      · exact hj 1 (by decide)
      · have := World.block_lt_of_cell? _ _ ((hj 0 (by decide)).trans (show _ = some (Value.int .i64 s.c) from rfl))
        rwa [add_block, add_block] at this
    obtain ⟨S, hSl, hS⟩ := list_choose noWt _ n hrow
    refine ⟨_, S, hcs, ⟨some x0, m, by rw [hSl], by omega, ?_⟩, fun i hi => (hS i (by omega)).2.1.1, fun i hi => (hS i (by omega)).2.1.2⟩
    by_cases h0 : n = 0
    · exact Or.inl (List.length_eq_zero_iff.1 (by omega))
    · exact Or.inr ⟨x0, rfl, (hS 0 (by omega)).2.2, fun i hi => (hS i (by omega)).1⟩
end Go.Proofs.Ytbmmicfdnfpcaaa
