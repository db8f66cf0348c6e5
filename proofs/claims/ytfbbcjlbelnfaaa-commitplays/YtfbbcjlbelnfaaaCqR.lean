/- A signature out of cells that are handed in (for the rows of layer 8 and later ones). -/
import Derived.Test.YtfbbcjlbelnfaaaCqA
import Derived.Test.YtfbbcjlbelnfaaaMath
namespace Go.Proofs.Ytfbbcjlbelnfaaa
open Go.ChangeShapes Go.WideShapes Go.ChangeAt Go.RowKit

theorem sig_of_cells {H : Type} {enc : TypeId × Value → H} {W : World} {fuel : Nat} {cs : List Value} {x : DataW H × List MemPlace}
    (hf : DataW.trod enc Try.prog W 0 (fun _ => true) true fuel 27 cs = some x) (hz : cs.length = 8) : ∃ s, Sg.Ok s ∧ cs = [rdV s 0, rdV s 1, rdV s 2, rdV s 3, rdV s 4, rdV s 5, rdV s 6, rdV s 7] := by
  obtain ⟨xs, m, _, _, hl, hx, hel⟩ := DataW.trod_array Try.underlying27 hf
  simp only [Sg.cells_u64, Sg.cells_sig, Nat.mul_one] at hel hl
  have hzz : ∀ i, i < 8 → ∃ n : Nat, cs[i]? = some (.int .u64 (n : Int)) ∧ n < 18446744073709551616 := by
    intro i hi
    have := hel i hi
    have hxi : xs[i]? = some xs[i] := by simp [hx, hi]
    rw [hxi] at this
    obtain ⟨z, hc, _, hw⟩ := DataW.trod_int Try.underlying25 this
    have hb := bd_u64 z hw
    have h1 : cs[i]? = some (.int .u64 z) := by
      have := congrArg (·[0]?) hc
      simpa [List.getElem?_take, List.getElem?_drop] using this
    refine ⟨z.toNat, ?_, by omega⟩
    rw [h1, show ((z.toNat : Nat) : Int) = z by omega]
  obtain ⟨n0, h0, b0⟩ := hzz 0 (by omega)
  obtain ⟨n1, h1, b1⟩ := hzz 1 (by omega)
  obtain ⟨n2, h2, b2⟩ := hzz 2 (by omega)
  obtain ⟨n3, h3, b3⟩ := hzz 3 (by omega)
  obtain ⟨n4, h4, b4⟩ := hzz 4 (by omega)
  obtain ⟨n5, h5, b5⟩ := hzz 5 (by omega)
  obtain ⟨n6, h6, b6⟩ := hzz 6 (by omega)
  obtain ⟨n7, h7, b7⟩ := hzz 7 (by omega)
  refine ⟨[n0, n1, n2, n3, n4, n5, n6, n7], ⟨rfl, fun i => ?_⟩, ?_⟩
  · rcases i with _ | _ | _ | _ | _ | _ | _ | _ | i <;> simp <;> assumption
  · rcases cs with _ | ⟨a0, _ | ⟨a1, _ | ⟨a2, _ | ⟨a3, _ | ⟨a4, _ | ⟨a5, _ | ⟨a6, _ | ⟨a7, _ | ⟨a8, r⟩⟩⟩⟩⟩⟩⟩⟩⟩ <;> simp at hz
    simp at h0 h1 h2 h3 h4 h5 h6 h7
    subst h0 h1 h2 h3 h4 h5 h6 h7
    rfl
theorem len11 {α : Type} {l : List α} (h : l.length = 11) : ∃ a b c d e f g i j k m, l = [a, b, c, d, e, f, g, i, j, k, m] := by
  match l, h with
  | [a, b, c, d, e, f, g, i, j, k, m], _ => exact ⟨a, b, c, d, e, f, g, i, j, k, m, rfl⟩
theorem len12 {α : Type} {l : List α} (h : l.length = 12) : ∃ a b c d e f g i j k m n, l = [a, b, c, d, e, f, g, i, j, k, m, n] := by
  match l, h with
  | [a, b, c, d, e, f, g, i, j, k, m, n], _ => exact ⟨a, b, c, d, e, f, g, i, j, k, m, n, rfl⟩
theorem len5 {α : Type} {l : List α} (h : l.length = 5) : ∃ a b c d e, l = [a, b, c, d, e] := by
  match l, h with
  | [a, b, c, d, e], _ => exact ⟨a, b, c, d, e, rfl⟩
end Go.Proofs.Ytfbbcjlbelnfaaa
