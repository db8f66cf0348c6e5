/- Lists of steps and of writes that are handed in. -/
import Derived.Test.YtfpnpkpjkcmoaaaTabJ
namespace Go.Proofs.Ytfpnpkpjkcmoaaa
open Go.ChangeShapes Go.WideShapes Go.ChangeAt Go.RowKit

/-- A list whose elements are k numbers each lies behind a slice. -/
def CLst (w : World) (v : Value) (k n : Nat) (f : Nat → Nat → Int) : Prop := ∃ a cap, v = .slice a n cap ∧ n ≤ 70368744177664 ∧ (n = 0 ∨ ∃ x, a = some x ∧ x.block < w.heap.size ∧ ∀ i, i < n → ∀ j, j < k → w.cell? ((x.add (i * k)).add j) = some (.int .i64 (f i j)))
theorem CLst.later {w w' : World} {v : Value} {k n : Nat} {f : Nat → Nat → Int} (h : CLst w v k n f) (hb : Below w.heap.size w w') : CLst w' v k n f := by
  obtain ⟨a, cap, hv, hm, hl⟩ := h
  refine ⟨a, cap, hv, hm, ?_⟩
  rcases hl with h0 | ⟨x, hx, hxb, hc⟩
  · exact Or.inl h0
  · exact Or.inr ⟨x, hx, Nat.lt_of_lt_of_le hxb hb.size, fun i hi j hj => cell_later hb (by rw [add_block, add_block]; exact hxb) (hc i hi j hj)⟩
theorem tcells_int : Try.prog.cellsOf 3 = 1 := by kernel_rfl
theorem tcells_i64 : Try.prog.cellsOf 2 = 1 := by kernel_rfl
theorem cells_step : Try.prog.cellsOf 32 = 3 := by kernel_rfl
theorem cells_wr : Try.prog.cellsOf 39 = 2 := by kernel_rfl
theorem bytes_step : Try.prog.bytesOf 32 = 24 := by kernel_rfl
theorem bytes_int : Try.prog.bytesOf 3 = 8 := by kernel_rfl
theorem bytes_wr : Try.prog.bytesOf 39 = 16 := by kernel_rfl
theorem tlen2 {α : Type} {l : List α} (h : l.length = 2) : ∃ a b, l = [a, b] := by
  match l, h with
  | [a, b], _ => exact ⟨a, b, rfl⟩
theorem tlen3 {α : Type} {l : List α} (h : l.length = 3) : ∃ a b c, l = [a, b, c] := by
  match l, h with
  | [a, b, c], _ => exact ⟨a, b, c, rfl⟩
theorem step_of_cells {H : Type} {enc : TypeId × Value → H} {W : World} {fuel : Nat} {cs : List Value} {x : DataW H × List MemPlace}
    (hf : DataW.trod enc Try.prog W 0 (fun _ => true) true fuel 32 cs = some x) : ∃ a b c : Int, cs = [.int .i64 a, .int .i64 b, .int .i64 c] := by
  obtain ⟨xs, m, _, hx, hl, hlen, hfd⟩ := DataW.trod_struct Try.underlying32 hf
  have hl3 : cs.length = 3 := by rw [hl, cells_step]
  obtain ⟨c0, c1, c2, rfl⟩ := tlen3 hl3
  obtain ⟨y0, y1, y2, rfl⟩ := tlen3 hlen
  have g0 := hfd 0 _ rfl
  have g1 := hfd 1 _ rfl
  have g2 := hfd 2 _ rfl
  simp [tcells_int, tcells_i64] at g0 g1 g2
  obtain ⟨a0, z0, _, _⟩ := DataW.trod_int Try.underlying3 g0
  obtain ⟨a1, z1, _, _⟩ := DataW.trod_int Try.underlying3 g1
  obtain ⟨a2, z2, _, _⟩ := DataW.trod_int Try.underlying2 g2
  simp only [List.cons.injEq, and_true] at z0 z1 z2
  subst z0 z1 z2
  exact ⟨a0, a1, a2, rfl⟩
theorem wr_of_cells {H : Type} {enc : TypeId × Value → H} {W : World} {fuel : Nat} {cs : List Value} {x : DataW H × List MemPlace}
    (hf : DataW.trod enc Try.prog W 0 (fun _ => true) true fuel 39 cs = some x) : ∃ a b : Int, cs = [.int .i64 a, .int .i64 b] := by
  obtain ⟨xs, m, _, hx, hl, hlen, hfd⟩ := DataW.trod_struct Try.underlying39 hf
  have hl2 : cs.length = 2 := by rw [hl, cells_wr]
  obtain ⟨c0, c1, rfl⟩ := tlen2 hl2
  obtain ⟨y0, y1, rfl⟩ := tlen2 hlen
  have g0 := hfd 0 _ rfl
  have g1 := hfd 1 _ rfl
  simp [tcells_int, tcells_i64] at g0 g1
  obtain ⟨a0, z0, _, _⟩ := DataW.trod_int Try.underlying3 g0
  obtain ⟨a1, z1, _, _⟩ := DataW.trod_int Try.underlying2 g1
  simp only [List.cons.injEq, and_true] at z0 z1
  subst z0 z1
  exact ⟨a0, a1, rfl⟩
theorem open_steps {H : Type} {enc : TypeId × Value → H} {W : World} {fuel : Nat} {cs : List Value} {x : DataW H × List MemPlace} (hw : (x.1.weights Try.prog 22).all (· ≤ reachBytes) = true)
    (hf : DataW.trod enc Try.prog W 0 (fun _ => true) true fuel 22 cs = some x) : ∃ v n f, cs = [v] ∧ CLst W v 3 n f := by
  rcases Go.Deep.open_slice Try.underlying22 hf with ⟨hcs, hx⟩ | ⟨x0, n, c, m, n', D, Pl, hcs, _, hl, hm, hmm, hx, hcell⟩
  · exact ⟨_, 0, fun _ _ => 0, hcs, none, _, rfl, by simp, Or.inl rfl⟩
  · have hmc : m = c := by simpa using hmm
    subst hmc
    have hlen : n ≤ 70368744177664 := by
      rw [hx] at hw
      simp only [DataW.weights, Try.underlying22, List.all_cons, Bool.and_eq_true, decide_eq_true_eq, bytes_step, List.length_map, List.length_range] at hw
      have := hw.1
      unfold reachBytes at this
      omega
    have hrow : ∀ i, i < n → ∃ r : Nat → Int, (∀ j, j < 3 → W.cell? ((x0.add (i * 3)).add j) = some (.int .i64 (r j))) ∧ x0.block < W.heap.size := fun i hi => by
      obtain ⟨cs', hc, ht⟩ := hcell i (by omega)
      obtain ⟨a, b, d, rfl⟩ := step_of_cells ht
      rw [cells_step] at hc
      have hj := (World.cells?_some hc).2.2
      have hb0 : W.cell? ((x0.add (i * 3)).add 0) = some (.int .i64 a) := by rw [hj 0 (by decide)]; simp
      refine ⟨fun j => if j = 0 then a else if j = 1 then b else d, fun j hj' => ?_, ?_⟩
      · rw [hj j hj']
        match j, hj' with
        | 0, _ => simp
        | 1, _ => simp
        | 2, _ => simp
      · have := World.block_lt_of_cell? _ _ hb0
        rwa [add_block, add_block] at this
    obtain ⟨S, hSl, hS⟩ := list_choose (fun _ => (0 : Int)) _ n hrow
    refine ⟨_, n, fun i j => S.getD i (fun _ => 0) j, hcs, some x0, m, rfl, by omega, ?_⟩
    by_cases h0 : n = 0
    · exact Or.inl h0
    · exact Or.inr ⟨x0, rfl, (hS 0 (by omega)).2, fun i hi => (hS i hi).1⟩
theorem open_wrs {H : Type} {enc : TypeId × Value → H} {W : World} {fuel : Nat} {cs : List Value} {x : DataW H × List MemPlace} (hw : (x.1.weights Try.prog 35).all (· ≤ reachBytes) = true)
    (hf : DataW.trod enc Try.prog W 0 (fun _ => true) true fuel 35 cs = some x) : ∃ v n f, cs = [v] ∧ CLst W v 2 n f := by
  rcases Go.Deep.open_slice Try.underlying35 hf with ⟨hcs, hx⟩ | ⟨x0, n, c, m, n', D, Pl, hcs, _, hl, hm, hmm, hx, hcell⟩
  · exact ⟨_, 0, fun _ _ => 0, hcs, none, _, rfl, by simp, Or.inl rfl⟩
  · have hmc : m = c := by simpa using hmm
    subst hmc
    have hlen : n ≤ 70368744177664 := by
      rw [hx] at hw
      simp only [DataW.weights, Try.underlying35, List.all_cons, Bool.and_eq_true, decide_eq_true_eq, bytes_wr, List.length_map, List.length_range] at hw
      have := hw.1
      unfold reachBytes at this
      omega
    have hrow : ∀ i, i < n → ∃ r : Nat → Int, (∀ j, j < 2 → W.cell? ((x0.add (i * 2)).add j) = some (.int .i64 (r j))) ∧ x0.block < W.heap.size := fun i hi => by
      obtain ⟨cs', hc, ht⟩ := hcell i (by omega)
      obtain ⟨a, b, rfl⟩ := wr_of_cells ht
      rw [cells_wr] at hc
      have hj := (World.cells?_some hc).2.2
      have hb0 : W.cell? ((x0.add (i * 2)).add 0) = some (.int .i64 a) := by rw [hj 0 (by decide)]; simp
      refine ⟨fun j => if j = 0 then a else b, fun j hj' => ?_, ?_⟩
      · rw [hj j hj']
        match j, hj' with
        | 0, _ => simp
        | 1, _ => simp
      · have := World.block_lt_of_cell? _ _ hb0
        rwa [add_block, add_block] at this
    obtain ⟨S, hSl, hS⟩ := list_choose (fun _ => (0 : Int)) _ n hrow
    refine ⟨_, n, fun i j => S.getD i (fun _ => 0) j, hcs, some x0, m, rfl, by omega, ?_⟩
    by_cases h0 : n = 0
    · exact Or.inl h0
    · exact Or.inr ⟨x0, rfl, (hS 0 (by omega)).2, fun i hi => (hS i hi).1⟩
set_option maxRecDepth 100000 in
theorem steps_arg {H : Type} {enc : TypeId × Value → H} {W : World} {base : Nat} {v : Value} {d : DataW H} {p : List MemPlace} (hw : (d.weights Try.prog 22).all (· ≤ reachBytes) = true)
    (hv : Value.okWide Try.prog W .any base 22 v) (h : DataW.Trod enc Try.prog W 0 (fun _ => true) true 22 v d p) : ∃ n f, CLst W v 3 n f := by
  obtain ⟨a, len, cap, rfl⟩ := okWide_slice Try.underlying22 hv
  obtain ⟨fuel, hf⟩ := h
  obtain ⟨v', n, f, hc, hS⟩ := open_steps hw hf
  simp [Value.cells] at hc
  subst hc
  exact ⟨n, f, hS⟩
set_option maxRecDepth 100000 in
theorem wrs_arg {H : Type} {enc : TypeId × Value → H} {W : World} {base : Nat} {v : Value} {d : DataW H} {p : List MemPlace} (hw : (d.weights Try.prog 35).all (· ≤ reachBytes) = true)
    (hv : Value.okWide Try.prog W .any base 35 v) (h : DataW.Trod enc Try.prog W 0 (fun _ => true) true 35 v d p) : ∃ n f, CLst W v 2 n f := by
  obtain ⟨a, len, cap, rfl⟩ := okWide_slice Try.underlying35 hv
  obtain ⟨fuel, hf⟩ := h
  obtain ⟨v', n, f, hc, hS⟩ := open_wrs hw hf
  simp [Value.cells] at hc
  subst hc
  exact ⟨n, f, hS⟩
theorem open_intl {H : Type} {enc : TypeId × Value → H} {W : World} {fuel : Nat} {cs : List Value} {x : DataW H × List MemPlace} (hw : (x.1.weights Try.prog 36).all (· ≤ reachBytes) = true)
    (hf : DataW.trod enc Try.prog W 0 (fun _ => true) true fuel 36 cs = some x) : ∃ v n f, cs = [v] ∧ CLst W v 1 n f := by
  rcases Go.Deep.open_slice Try.underlying36 hf with ⟨hcs, hx⟩ | ⟨x0, n, c, m, n', D, Pl, hcs, _, hl, hm, hmm, hx, hcell⟩
  · exact ⟨_, 0, fun _ _ => 0, hcs, none, _, rfl, by simp, Or.inl rfl⟩
  · have hmc : m = c := by simpa using hmm
    subst hmc
    have hlen : n ≤ 70368744177664 := by
      rw [hx] at hw
      simp only [DataW.weights, Try.underlying36, List.all_cons, Bool.and_eq_true, decide_eq_true_eq, bytes_int, List.length_map, List.length_range] at hw
      have := hw.1
      unfold reachBytes at this
      omega
    have hrow : ∀ i, i < n → ∃ r : Nat → Int, (∀ j, j < 1 → W.cell? ((x0.add (i * 1)).add j) = some (.int .i64 (r j))) ∧ x0.block < W.heap.size := fun i hi => by
      obtain ⟨cs', hc, ht⟩ := hcell i (by omega)
      obtain ⟨a, rfl, _, _⟩ := DataW.trod_int Try.underlying3 ht
      rw [tcells_int] at hc
      have hj := (World.cells?_some hc).2.2
      have hb0 : W.cell? ((x0.add (i * 1)).add 0) = some (.int .i64 a) := by rw [hj 0 (by decide)]; simp
      refine ⟨fun j => a, fun j hj' => ?_, ?_⟩
      · obtain rfl : j = 0 := by omega
        exact hb0
      · have := World.block_lt_of_cell? _ _ hb0
        rwa [add_block, add_block] at this
    obtain ⟨S, hSl, hS⟩ := list_choose (fun _ => (0 : Int)) _ n hrow
    refine ⟨_, n, fun i j => S.getD i (fun _ => 0) j, hcs, some x0, m, rfl, by omega, ?_⟩
    by_cases h0 : n = 0
    · exact Or.inl h0
    · exact Or.inr ⟨x0, rfl, (hS 0 (by omega)).2, fun i hi => (hS i hi).1⟩
set_option maxRecDepth 100000 in
theorem ints_arg {H : Type} {enc : TypeId × Value → H} {W : World} {base : Nat} {v : Value} {d : DataW H} {p : List MemPlace} (hw : (d.weights Try.prog 36).all (· ≤ reachBytes) = true)
    (hv : Value.okWide Try.prog W .any base 36 v) (h : DataW.Trod enc Try.prog W 0 (fun _ => true) true 36 v d p) : ∃ n f, CLst W v 1 n f := by
  obtain ⟨a, len, cap, rfl⟩ := okWide_slice Try.underlying36 hv
  obtain ⟨fuel, hf⟩ := h
  obtain ⟨v', n, f, hc, hS⟩ := open_intl hw hf
  simp [Value.cells] at hc
  subst hc
  exact ⟨n, f, hS⟩
theorem CLst.lone {w : World} {x : Addr} {f : Nat → Nat → Int} (i : Nat) (hc : ∀ j, j < 1 → w.cell? ((x.add (i * 1)).add j) = some (.int .i64 (f i j))) : w.cell? (x.add i) = some (.int .i64 (f i 0)) := by
  have h0 := hc 0 (by decide)
  rw [add_zero', Nat.mul_one] at h0
  exact h0
/-- What an element of such a list is, cell by cell. -/
theorem CLst.three {w : World} {x : Addr} {f : Nat → Nat → Int} (i : Nat) (hc : ∀ j, j < 3 → w.cell? ((x.add (i * 3)).add j) = some (.int .i64 (f i j))) :
    w.cell? (x.add (i * 3)) = some (.int .i64 (f i 0)) ∧ w.cell? ⟨(x.add (i * 3)).block, (x.add (i * 3)).off + 1, none⟩ = some (.int .i64 (f i 1)) ∧ w.cell? ⟨(x.add (i * 3)).block, (x.add (i * 3)).off + 2, none⟩ = some (.int .i64 (f i 2)) := by
  have h0 := hc 0 (by decide)
  have h1 := hc 1 (by decide)
  have h2 := hc 2 (by decide)
  rw [add_zero'] at h0
  rw [add_pos' _ _ (by decide)] at h1 h2
  exact ⟨h0, h1, h2⟩
theorem CLst.two {w : World} {x : Addr} {f : Nat → Nat → Int} (i : Nat) (hc : ∀ j, j < 2 → w.cell? ((x.add (i * 2)).add j) = some (.int .i64 (f i j))) :
    w.cell? (x.add (i * 2)) = some (.int .i64 (f i 0)) ∧ w.cell? ⟨(x.add (i * 2)).block, (x.add (i * 2)).off + 1, none⟩ = some (.int .i64 (f i 1)) := by
  have h0 := hc 0 (by decide)
  have h1 := hc 1 (by decide)
  rw [add_zero'] at h0
  rw [add_pos' _ _ (by decide)] at h1
  exact ⟨h0, h1⟩
end Go.Proofs.Ytfpnpkpjkcmoaaa
