/- Lists of puts that are handed in, the log that they make, and the second form's bound. -/
import Derived.Test.YtacioekmeildoaaRngK
import Derived.Test.YtacioekmeildoaaMemN
import Derived.Deep.Slices
namespace Go.Proofs.Ytacioekmeildoaa
open Go.ChangeShapes Go.WideShapes Go.ChangeAt Go.RowKit

/-- A word, and what it becomes. -/
structure Pt where
  a : Ad
  v : Int
def noPt : Pt := ⟨⟨0, 0, 0⟩, 0⟩
def Fits (z : Int) : Prop := -9223372036854775808 ≤ z ∧ z ≤ 9223372036854775807
def Row4 (w : World) (y : Addr) (x : Pt) : Prop := w.cell? y = some (.int .i64 x.a.k) ∧ w.cell? (y.add 1) = some (.int .i64 x.a.i) ∧ w.cell? (y.add 2) = some (.int .i64 x.a.j) ∧ w.cell? (y.add 3) = some (.int .i64 x.v)
theorem Row4.later {w w' : World} {y : Addr} {x : Pt} {B : Nat} (h : Row4 w y x) (hb : Below B w w') (hy : y.block < B) : Row4 w' y x :=
  ⟨cell_later hb hy h.1, cell_later hb (by rw [add_block]; exact hy) h.2.1, cell_later hb (by rw [add_block]; exact hy) h.2.2.1, cell_later hb (by rw [add_block]; exact hy) h.2.2.2⟩

/-- A list of puts lies behind a slice. -/
def PLst (w : World) (v : Value) (S : List Pt) : Prop := ∃ a cap, v = .slice a S.length cap ∧ (∀ i, i < S.length → Fits (S.getD i noPt).v) ∧ (S = [] ∨ ∃ x, a = some x ∧ x.block < w.heap.size ∧ ∀ i, i < S.length → Row4 w (x.add (i * 4)) (S.getD i noPt))

theorem cells_put : Try.prog.cellsOf 39 = 4 := by kernel_rfl
theorem cells_addr4 : Try.prog.cellsOf 37 = 3 := by kernel_rfl
theorem cells_i644 : Try.prog.cellsOf 2 = 1 := by kernel_rfl
theorem len2 {α : Type} {l : List α} (h : l.length = 2) : ∃ a b, l = [a, b] := by
  match l, h with
  | [a, b], _ => exact ⟨a, b, rfl⟩
theorem len4 {α : Type} {l : List α} (h : l.length = 4) : ∃ a b c d, l = [a, b, c, d] := by
  match l, h with
  | [a, b, c, d], _ => exact ⟨a, b, c, d, rfl⟩
theorem fits_of_wf {z : Int} (h : (Lit.int .i64 z).wf = true) : Fits z := bd_i64 z h
theorem put_of_cells {H : Type} {enc : TypeId × Value → H} {W : World} {fuel : Nat} {cs : List Value} {x : DataW H × List MemPlace}
    (hf : DataW.trod enc Try.prog W 0 (fun _ => true) true fuel 39 cs = some x) : ∃ s : Pt, cs = [.int .i64 s.a.k, .int .i64 s.a.i, .int .i64 s.a.j, .int .i64 s.v] ∧ Fits s.v := by
  obtain ⟨xs, m, _, hx, hl, hlen, hfd⟩ := DataW.trod_struct Try.underlying39 hf
  have hl4 : cs.length = 4 := by rw [hl, cells_put]
  obtain ⟨c0, c1, c2, c3, rfl⟩ := len4 hl4
  obtain ⟨y0, y1, rfl⟩ := len2 hlen
  have g0 := hfd 0 _ rfl
  have g1 := hfd 1 _ rfl
  simp [cells_i644, cells_addr4] at g0 g1
  obtain ⟨a2, z2⟩ := addr_of_cells g0
  obtain ⟨a4, z4, _, hwf⟩ := DataW.trod_int Try.underlying2 g1
  simp only [adC, List.cons.injEq, and_true] at z2 z4
  obtain ⟨rfl, rfl, rfl⟩ := z2
  subst z4
  exact ⟨⟨a2, a4⟩, rfl, fits_of_wf hwf⟩

/-! ### how many values there are -/
theorem bulk_one {H : Type} (d : DataW H) : 1 ≤ Rows.uptoBulk d := by
  cases d with
  | lit l => cases l <;> simp [Rows.uptoBulk]
  | nil => simp [Rows.uptoBulk]
  | ptr d => simp [Rows.uptoBulk]
  | slice elems spare => simp [Rows.uptoBulk]
  | agg parts => simp [Rows.uptoBulk]
  | iface t d => simp [Rows.uptoBulk]
  | map entries => simp [Rows.uptoBulk]
  | held h => simp [Rows.uptoBulk]
theorem bulk_len {H : Type} (l : List (DataW H)) : l.length ≤ Rows.uptoBulkAll l := by
  induction l with
  | nil => simp [Rows.uptoBulkAll]
  | cons x r ih => have := bulk_one x; simp only [Rows.uptoBulkAll, List.length_cons]; omega

theorem open_puts {H : Type} {enc : TypeId × Value → H} {W : World} {fuel : Nat} {cs : List Value} {x : DataW H × List MemPlace}
    (hf : DataW.trod enc Try.prog W 0 (fun _ => true) true fuel 27 cs = some x) : ∃ v S, cs = [v] ∧ PLst W v S ∧ S.length ≤ Rows.uptoBulk x.1 := by
  rcases Go.Deep.open_slice Try.underlying27 hf with ⟨hcs, hx⟩ | ⟨x0, n, c, m, n', D, Pl, hcs, _, hl, hm, hmm, hx, hcell⟩
  · exact ⟨_, [], hcs, ⟨none, _, rfl, fun i hi => absurd hi (by simp), Or.inl rfl⟩, by simp⟩
  · have hmc : m = c := by simpa using hmm
    subst hmc
    have hrow : ∀ i, i < n → ∃ s : Pt, Row4 W (x0.add (i * 4)) s ∧ Fits s.v ∧ x0.block < W.heap.size := fun i hi => by
      obtain ⟨cs', hc, ht⟩ := hcell i (by omega)
      obtain ⟨s, rfl, hfit⟩ := put_of_cells ht
      rw [cells_put] at hc
      have hj : ∀ j, j < 4 → W.cell? ((x0.add (i * 4)).add j) = [Value.int .i64 s.a.k, .int .i64 s.a.i, .int .i64 s.a.j, .int .i64 s.v][j]? := fun j hj => (World.cells?_some hc).2.2 j hj
      refine ⟨s, ⟨?_, ?_, ?_, ?_⟩, hfit, ?_⟩
      · have := hj 0 (by decide); rw [add_zero'] at this; exact this
      · exact hj 1 (by decide)
      · exact hj 2 (by decide)
      · exact hj 3 (by decide)
      · have := World.block_lt_of_cell? _ _ ((hj 0 (by decide)).trans (show _ = some (Value.int .i64 s.a.k) from rfl))
        rwa [add_block, add_block] at this
    obtain ⟨S, hSl, hS⟩ := list_choose noPt _ n hrow
    refine ⟨_, S, hcs, ⟨some x0, m, by rw [hSl], fun i hi => (hS i (by omega)).2.1, ?_⟩, ?_⟩
    · by_cases h0 : n = 0
      · exact Or.inl (List.length_eq_zero_iff.1 (by omega))
      · exact Or.inr ⟨x0, rfl, (hS 0 (by omega)).2.2, fun i hi => (hS i (by omega)).1⟩
    · have := bulk_len ((List.range n).map D)
      rw [hx, hSl]
      simp only [Rows.uptoBulk]
      simp at this
      omega

/-! ### the log that puts make -/
def logP (c r : Nat) (S : List Pt) (i : Nat) : List Ac := (S.take i).foldl (fun L x => storeL c r L 0 x.a x.v) []
theorem logP_zero (c r : Nat) (S : List Pt) : logP c r S 0 = [] := rfl
theorem logP_succ (c r : Nat) (S : List Pt) (i : Nat) (h : i < S.length) : logP c r S (i + 1) = storeL c r (logP c r S i) 0 (S.getD i noPt).a (S.getD i noPt).v := by
  unfold logP
  rw [List.take_add_one, List.foldl_append]
  simp [h]
theorem storeL_len (c r : Nat) (L : List Ac) (t : Int) (a : Ad) (z : Int) : (storeL c r L t a z).length ≤ L.length + 1 := by
  unfold storeL
  split <;> simp
theorem bd_nil : Bd (wordOf []) := fun a => by
  rw [wordOf_nil]
  unfold first
  split <;> omega
theorem bd_store {c r : Nat} {L : List Ac} {t : Int} {a : Ad} {z : Int} (h : Bd (wordOf L)) (hz : Fits z) : Bd (wordOf (storeL c r L t a z)) := fun b => by
  unfold storeL
  split
  · rw [wordOf_snoc]
    split
    · exact hz
    · exact h b
  · exact h b
theorem logP_len (c r : Nat) (S : List Pt) (i : Nat) : (logP c r S i).length ≤ i := by
  induction i with
  | zero => simp [logP]
  | succ i ih =>
    by_cases h : i < S.length
    · rw [logP_succ c r S i h]; have := storeL_len c r (logP c r S i) 0 (S.getD i noPt).a (S.getD i noPt).v; omega
    · have : logP c r S (i + 1) = logP c r S i := by unfold logP; rw [List.take_of_length_le (by omega), List.take_of_length_le (by omega)]
      rw [this]; omega
theorem logP_bd (c r : Nat) (S : List Pt) (hS : ∀ i, i < S.length → Fits (S.getD i noPt).v) (i : Nat) : Bd (wordOf (logP c r S i)) := by
  induction i with
  | zero => exact bd_nil
  | succ i ih =>
    by_cases h : i < S.length
    · rw [logP_succ c r S i h]; exact bd_store ih (hS i h)
    · have : logP c r S (i + 1) = logP c r S i := by unfold logP; rw [List.take_of_length_le (by omega), List.take_of_length_le (by omega)]
      rw [this]; exact ih
end Go.Proofs.Ytacioekmeildoaa
