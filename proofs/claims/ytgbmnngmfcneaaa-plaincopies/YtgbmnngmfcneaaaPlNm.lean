/- A list in memory of its own: the document's Numbers. -/
import Derived.Test.YtgbmnngmfcneaaaCoN
namespace Go.Proofs.Ytgbmnngmfcneaaa.Pl
open Go.ChangeShapes Go.WideShapes Go.ChangeAt Go.RowKit
attribute [local go_sem ↓] Go.wp_at_zero Go.wp_at_succ

theorem rnums_any {w : World} {v : Value} {l : List Int} (h : Nl w v l) : Calls Try.prog 13 #[v] w fun e w' => ∃ v', e = .returned v' ∧ w'.ownsRow w.heap.size 2 1 v' l.length (numC l) ∧ Below w.heap.size w w' := by
  obtain ⟨a, cap, rfl⟩ := nl_slice h
  obtain ⟨_, hlen, hc⟩ := nl_cells h
  obtain ⟨i0, hi, hz0, hz1, hz2⟩ := info_parts info_i64
  have HC : Hid (∀ i, i < l.length → ∃ x, a = some x ∧ x.block < w.heap.size ∧ w.cell? (x.add i) = some (.int .i64 (nth l i))) := hc
  clear h hc
  go_enter Try.func13, Try.ntmps13
  go_wp2_with fail
  go_loopw [3, 4] (fun hv iv wr => ∃ j : Nat, j ≤ l.length ∧ iv = .int .i64 (j : Int) ∧ wr.ownsRow w.heap.size 2 1 hv j (numC (l.take j)) ∧ Below w.heap.size w wr) (fun _ iv _ => l.length - (intOf iv).toNat)
  case atStart => exact ⟨0, by omega, rfl, World.ownsRow_nil _ _ _ _, Below.refl _ _⟩
  case round =>
    obtain ⟨j, hj, rfl, hown, hbel⟩ := hrel
    have HO : Hid (wr.ownsRow w.heap.size 2 1 u3 j (numC (l.take j))) := hown
    have HB : Hid (Below w.heap.size w wr) := hbel
    have hsz : w.heap.size ≤ wr.heap.size := hbel.size
    clear hown hbel
    by_cases hlt : j < l.length
    · have hjd : decide ((j : Int) < (l.length : Int)) = true := by simp; omega
      obtain ⟨x, rfl, hxb, hx⟩ := HC.out j hlt
      have z1 : wr.cell? (x.add j) = some (.int .i64 (nth l j)) := cell_later HB.out (by rw [add_block]; exact hxb) hx
      have HSN : Hid (numC (l.take (j + 1)) = numC (l.take j) ++ [.int .i64 (nth l j)]) := num_snoc l j hlt
      generalize nth l j = c at *
      obtain ⟨va, vc, rfl⟩ := own_slice HO.out
      clear hx
      go_wp2_with (at_builtin; refine list_lies_wide _ rfl _ _ 36 rfl w.heap.size 2 i0 _ 1 8 Try.underlying36 hi hz0 hz1 hz2 rfl (by decide) _ _ _ rfl (HO.out.alloc _) ⟨wr.heap.size, 0, none⟩ 1 1 [.int .i64 c] rfl rfl ?c1 ?c2 ?c3 ?c4 ?c5 ?c6 _ rfl ?_)
      case c1 => exact World.news_of_block (cs := #[.int .i64 c]) (t := 2) (fr := (0, 0)) (heap_alloc_new _ _)
      case c2 => intro u hu; simp at hu; subst hu; rfl
      case c3 => decide
      case c4 => unfold maxLen; omega
      case c5 => omega
      case c6 => simp; omega
      intro g cp w2 hown' hgrow _ _
      have HO2 : Hid (w2.ownsRow w.heap.size 2 1 (.slice (some ⟨g, 0, none⟩) (j + 1) cp) (j + 1) (numC (l.take (j + 1)))) := by rw [Hid, HSN.out]; exact hown'
      have HB2 : Hid (Below w.heap.size w w2) := (below_alloc HB.out _).grown hgrow (by simp; omega) (fun b hb => by have := own_block HO.out b hb; omega)
      clear hown' hgrow
      go_wp2
      go_roundw
      case rel => exact ⟨j + 1, by omega, by go_num, HO2.out, HB2.out⟩
      case measure => simp [intOf]; omega
    · obtain rfl : j = l.length := by omega
      have HO2 : Hid (wr.ownsRow w.heap.size 2 1 u3 l.length (numC l)) := by
        have := HO.out
        rw [List.take_length] at this
        exact this
      clear HO
      go_wp2_with fail
      go_ret
      exact ⟨_, rfl, HO2.out, HB.out⟩
end Go.Proofs.Ytgbmnngmfcneaaa.Pl
