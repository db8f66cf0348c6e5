/- A list of signatures that is handed in. -/
import Derived.Test.YthenkidhcfholaaDoorSigJ
import Derived.Deep.Slices
namespace Go.Proofs.YthenkidhcfholaaDoor
open Go.ChangeShapes Go.WideShapes Go.ChangeAt Go.RowKit

theorem sig_of_cells {H : Type} {enc : TypeId × Value → H} {W : World} {fuel : Nat} {cs : List Value} {x : DataW H × List MemPlace}
    (hf : DataW.trod enc Tryd.prog W 0 (fun _ => true) true fuel 25 cs = some x) : ∃ s, Ok s ∧ cs = (sc s).toList := by
  obtain ⟨xs, m, _, _, hl, hx, hel⟩ := DataW.trod_array Tryd.underlying25 hf
  simp only [cells_u64, cells_sig, Nat.mul_one] at hel hl
  have hz : ∀ i, i < 8 → ∃ n : Nat, cs[i]? = some (.int .u64 (n : Int)) ∧ n < 18446744073709551616 := by
    intro i hi
    have := hel i hi
    have hxi : xs[i]? = some xs[i] := by simp [hx, hi]
    rw [hxi] at this
    obtain ⟨z, hc, _, hw⟩ := DataW.trod_int Tryd.underlying23 this
    have hb := bd_u64 z hw
    have h1 : cs[i]? = some (.int .u64 z) := by
      have := congrArg (·[0]?) hc
      simpa [List.getElem?_take, List.getElem?_drop] using this
    refine ⟨z.toNat, ?_, by omega⟩
    rw [h1, show ((z.toNat : Nat) : Int) = z by omega]
  refine ⟨(List.range 8).map fun i => natOf cs[i]?, ⟨by simp, fun i => ?_⟩, ?_⟩
  · by_cases hi : i < 8
    · obtain ⟨n, hn, hb⟩ := hz i hi
      simp [List.getD_eq_getElem?_getD, hi, hn, hb, natOf]
    · rw [List.getD_eq_getElem?_getD, List.getElem?_eq_none (by simp; omega)]; decide
  · apply List.ext_getElem?
    intro i
    by_cases hi : i < 8
    · obtain ⟨n, hn, hb⟩ := hz i hi
      rw [hn, Array.getElem?_toList, sc_get _ _ (by simpa using hi)]
      simp [List.getD_eq_getElem?_getD, hi, hn, natOf]
    · rw [List.getElem?_eq_none (by omega), List.getElem?_eq_none (by rw [Array.length_toList, sc_size]; simp; omega)]
theorem list_choose {α : Type} (d : α) (Q : Nat → α → Prop) : ∀ n, (∀ i, i < n → ∃ s, Q i s) → ∃ S : List α, S.length = n ∧ ∀ i, i < n → Q i (S.getD i d)
  | 0, _ => ⟨[], rfl, fun i hi => absurd hi (by omega)⟩
  | n + 1, h => by
    obtain ⟨S, hl, hS⟩ := list_choose d Q n (fun i hi => h i (by omega))
    obtain ⟨s, hs⟩ := h n (by omega)
    refine ⟨S ++ [s], by simp [hl], fun i hi => ?_⟩
    rw [getD_app]
    split
    · exact hS i (by omega)
    · have e : i = n := by omega
      subst e
      rw [hl, Nat.sub_self]
      exact hs
theorem bytes_sig : Tryd.prog.bytesOf 25 = 64 := by kernel_rfl
theorem open_sigs {H : Type} {enc : TypeId × Value → H} {W : World} {base : Nat} {v : Value} {d : DataW H} {p : List MemPlace} (hw : (d.weights Tryd.prog 44).all (· ≤ reachBytes) = true)
    (hv : Value.okWide Tryd.prog W .any base 44 v) (h : DataW.Trod enc Tryd.prog W 0 (fun _ => true) true 44 v d p) : ∃ S, SLst W v S := by
  obtain ⟨a, len, cap, rfl⟩ := okWide_slice Tryd.underlying44 hv
  obtain ⟨fuel, hf⟩ := h
  rcases Go.Deep.open_slice Tryd.underlying44 hf with ⟨hcs, hx⟩ | ⟨x, n, c, m, n', D, Pl, hcs, _, hl, hm, hmm, hx, hcell⟩
  · simp [Value.cells] at hcs
    obtain ⟨rfl, rfl, rfl⟩ := hcs
    exact ⟨[], ⟨none, 0, rfl, by simp, by simp, Or.inl rfl⟩⟩
  · simp [Value.cells] at hcs
    obtain ⟨rfl, rfl, rfl⟩ := hcs
    have hmc : m = cap := by simpa using hmm
    subst hmc
    have hlen : len ≤ 2199023255552 := by
      have hd := (Prod.mk.inj hx).1
      rw [hd] at hw
      simp only [DataW.weights, Tryd.underlying44, List.all_cons, Bool.and_eq_true, decide_eq_true_eq, bytes_sig, List.length_map, List.length_range] at hw
      have := hw.1
      unfold reachBytes at this
      omega
    have hrow : ∀ i, i < len → ∃ s, Ok s ∧ Row8 W (x.add (i * 8)) (sc s) := fun i hi => by
      obtain ⟨cs', hc, ht⟩ := hcell i (by omega)
      obtain ⟨s, hs, rfl⟩ := sig_of_cells ht
      rw [cells_sig] at hc
      refine ⟨s, hs, fun j hj => ?_⟩
      have := (World.cells?_some hc).2.2 j hj
      rw [this]
      simp
    obtain ⟨S, hSl, hS⟩ := list_choose [] _ len hrow
    refine ⟨S, ⟨some x, m, by rw [hSl], by omega, fun s hs => ?_, Or.inr ⟨x, rfl, fun i hi => (hS i (by omega)).2⟩⟩⟩
    obtain ⟨i, hi, rfl⟩ := List.getElem_of_mem hs
    have := (hS i (by omega)).1
    simpa [hi] using this
end Go.Proofs.YthenkidhcfholaaDoor
