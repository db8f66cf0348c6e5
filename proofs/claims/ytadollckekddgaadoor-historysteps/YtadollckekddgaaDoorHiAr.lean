/- What is handed in; the laid variables; a world in which they lie. -/
import Derived.Test.YtadollckekddgaaDoorHiSh
import Derived.Stop.LaidTwo
import Derived.Stop.LaidErr
import Derived.LaidHandle
import Derived.LaidLaws
import Derived.SevenTiedAt
import Derived.Lib.LaidTab
namespace Go.Proofs.YtadollckekddgaaDoor.Hi
open Go.ChangeShapes Go.WideShapes Go.ChangeAt Go.RowKit
set_option linter.unusedVariables false
theorem ebytes_int : Tryd.prog.bytesOf 3 = 8 := by kernel_rfl
theorem open_il {H : Type} {enc : TypeId × Value → H} {W : World} {fuel : Nat} {cs : List Value} {x : DataW H × List MemPlace} (hw : (x.1.weights Tryd.prog 28).all (· ≤ reachBytes) = true)
    (hf : DataW.trod enc Tryd.prog W 0 (fun _ => true) true fuel 28 cs = some x) : ∃ v S, cs = [v] ∧ IL W v S := by
  rcases Go.Deep.open_slice Tryd.underlying28 hf with ⟨hcs, hx⟩ | ⟨x0, n, c, m, n', D, Pl, hcs, _, hl, hm, hmm, hx, hcell⟩
  · exact ⟨_, [], hcs, none, _, rfl, by simp, by simp, by simp, by simp, Or.inl rfl⟩
  · have hmc : m = c := by simpa using hmm
    subst hmc
    have hlen : n ≤ 17592186044416 := by
      rw [hx] at hw
      simp only [DataW.weights, Tryd.underlying28, List.all_cons, Bool.and_eq_true, decide_eq_true_eq, ebytes_int, List.length_map, List.length_range] at hw
      have := hw.1
      unfold reachBytes at this
      omega
    have hrow : ∀ i, i < n → ∃ e : Int, W.cell? (x0.add i) = some (.int .i64 e) ∧ x0.block < W.heap.size := fun i hi => by
      obtain ⟨cs', hc, ht⟩ := hcell i (by omega)
      obtain ⟨e, rfl, _, _⟩ := DataW.trod_int Tryd.underlying3 ht
      rw [ecells_int] at hc
      have h0 := (World.cells?_some hc).2.2 0 (by decide)
      rw [add_zero', Nat.mul_one] at h0
      refine ⟨e, h0, ?_⟩
      have := World.block_lt_of_cell? _ _ h0
      rwa [add_block] at this
    obtain ⟨S, hSl, hS⟩ := list_choose (0 : Int) _ n hrow
    subst hSl
    refine ⟨_, S, hcs, some x0, m, rfl, hlen, hl, by unfold maxLen at hm; omega, (fun h => by cases h), ?_⟩
    by_cases h0 : S.length = 0
    · exact Or.inl h0
    · exact Or.inr ⟨x0, rfl, (hS 0 (by omega)).2, fun i hi => (hS i hi).1⟩
set_option maxRecDepth 100000 in
theorem il_arg {H : Type} {enc : TypeId × Value → H} {W : World} {base : Nat} {v : Value} {d : DataW H} {p : List MemPlace} (hw : (d.weights Tryd.prog 28).all (· ≤ reachBytes) = true)
    (hv : Value.okWide Tryd.prog W .any base 28 v) (h : DataW.Trod enc Tryd.prog W 0 (fun _ => true) true 28 v d p) : ∃ l, IL W v l := by
  obtain ⟨a, len, cap, rfl⟩ := okWide_slice Tryd.underlying28 hv
  obtain ⟨fuel, hf⟩ := h
  obtain ⟨v', l, hc, hS⟩ := open_il hw hf
  simp [Value.cells] at hc
  subst hc
  exact ⟨l, hS⟩

/-! ### the laid variables -/
theorem esp_row (u : TypeId) (h : Tryd.prog.typeName? 3 u = some "*errors.errorString") : u = 127 :=
  typeName_ptr_named (P := Tryd.prog) (nm := "errors.errorString") (tp := 127) (by kernel_rfl) (by kernel_rfl) (by decide) u (h.trans (by decide))
theorem err_of {W : World} {r : List (String × DataW Unit)} (h : laidMet Tryd.prog (("carousel/history.errEvent", Rows.laid_carousel_history_errEvent) :: ("carousel/history.errArg", Rows.laid_carousel_history_errArg) :: r) W) : ∃ a c, ErrAt W a c := by
  obtain ⟨a0, a1, s0, s1, c0, c1, t0, t1, hv0, hv1, hc0, hs0, hz0, hc1, hs1, hz1, hne, hb0, hb1⟩ := laid_sentinels2 (g0 := 0) (g1 := 1) (tp := 127) (te := 149) (ts := 9) h (by kernel_rfl) (by kernel_rfl) (by kernel_rfl) (by kernel_rfl) Tryd.underlying47 esp_row Tryd.underlying127 Tryd.underlying149 rfl rfl Tryd.underlying9 (by kernel_rfl) (by kernel_rfl)
  exact ⟨a0, a1, by simpa [snt] using World.var?_cell (by kernel_rfl) hv0 0, by simpa [snt] using World.var?_cell (by kernel_rfl) hv1 0, fun e => hne e.symm, ⟨c0, t0, hb0⟩, ⟨c1, t1, hb1⟩⟩
theorem handle_err : typeHandle Tryd.prog 47 = .pointer (some ⟨3, 47, none⟩) := by kernel_rfl
/-- A world in which they lie. -/
def putH (h : Array Obj) (g : Nat) (cs : List Value) : Array Obj := h.modify g fun | .cells _ t frozen => .cells cs.toArray t frozen | o => o
def heapH (h : Array Obj) : Array Obj := (((putH (putH (putH h 2 [.iface 111 (.agg #[.pointer (some ⟨3, 47, none⟩)])]) 0 [.iface 127 (.pointer (some ⟨h.size, 0, none⟩))]) 1 [.iface 127 (.pointer (some ⟨h.size + 1, 0, none⟩))]).push (.cells #[.string ⟨#[97, 110, 32, 101, 118, 101, 110, 116, 32, 116, 104, 97, 116, 32, 109, 97, 121, 32, 110, 111, 116, 32, 99, 111, 109, 101]⟩] 149)).push (.cells #[.string ⟨#[97, 110, 32, 97, 114, 103, 117, 109, 101, 110, 116, 32, 116, 104, 97, 116, 32, 109, 97, 121, 32, 110, 111, 116, 32, 98, 101]⟩] 149))
end Go.Proofs.YtadollckekddgaaDoor.Hi
