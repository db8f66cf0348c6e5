/- Numbers that are handed in; a number below another. -/
import Derived.Test.YtacioekmeildoaaRngP
import Derived.Test.YtacioekmeildoaaRngB
namespace Go.Proofs.Ytacioekmeildoaa
open Go.ChangeShapes Go.WideShapes Go.ChangeAt Go.RowKit

theorem pick_any (x n : Int) (h0 : 0 < n) (h1 : n ≤ 16) (w : World) : Calls Try.prog 23 #[.int .i64 x, .int .i64 n] w fun e w' => e = .returned (.int .i64 (x % n)) ∧ w' = w := by
  by_cases ht : x.tmod n < 0
  · have ⟨_, _, e⟩ := tmod_low x n (by omega) ht
    have hm1 := Int.emod_nonneg x (show n ≠ 0 by omega)
    have hm2 := Int.emod_lt_of_pos x (show 0 < n by omega)
    have HE : Hid (wrap64 (x.tmod n + n) = x % n) := by unfold wrap64; rw [Hid, e]; omega
    have hd : decide (x.tmod n < 0) = true := decide_eq_true ht
    have hz : ¬ n = 0 := by omega
    rw [← HE.out]
    clear e hm1 hm2 HE ht h0 h1
    go_enter Try.func23, Try.ntmps23
    go_wp2
    go_ret
    exact ⟨rfl, rfl⟩
  · have e := tmod_high x n (by omega) (by omega)
    have hd : decide (x.tmod n < 0) = false := decide_eq_false ht
    have hz : ¬ n = 0 := by omega
    rw [← e]
    clear e ht h0 h1
    go_enter Try.func23, Try.ntmps23
    go_wp2
    go_ret
    exact ⟨rfl, rfl⟩

/-- A list of numbers lies behind a slice. -/
def ILst (w : World) (v : Value) (l : List Int) : Prop := ∃ a cap, v = .slice a l.length cap ∧ (l = [] ∨ ∃ x, a = some x ∧ x.block < w.heap.size ∧ ∀ i, i < l.length → w.cell? (x.add i) = some (.int .i64 (l.getD i 0)))
theorem cells_int4 : Try.prog.cellsOf 3 = 1 := by kernel_rfl
theorem open_ints {H : Type} {enc : TypeId × Value → H} {W : World} {fuel : Nat} {cs : List Value} {x : DataW H × List MemPlace}
    (hf : DataW.trod enc Try.prog W 0 (fun _ => true) true fuel 47 cs = some x) : ∃ v l, cs = [v] ∧ ILst W v l ∧ l.length ≤ Rows.uptoBulk x.1 := by
  rcases Go.Deep.open_slice1 Try.underlying47 cells_int4 hf with ⟨hcs, hx⟩ | ⟨x0, n, c, m, n', V, D, Pl, hcs, _, hl, hm, hmm, hx, hcell⟩
  · exact ⟨_, [], hcs, ⟨none, _, rfl, Or.inl rfl⟩, by simp⟩
  · have hmc : m = c := by simpa using hmm
    subst hmc
    have hrow : ∀ i, i < n → ∃ z : Int, W.cell? (x0.add i) = some (.int .i64 z) ∧ x0.block < W.heap.size := fun i hi => by
      obtain ⟨hc, ht⟩ := hcell i (by omega)
      obtain ⟨z, hz, _, _⟩ := DataW.trod_int Try.underlying3 ht
      simp only [List.cons.injEq, and_true] at hz
      rw [hz] at hc
      refine ⟨z, hc, ?_⟩
      have := World.block_lt_of_cell? _ _ hc
      rwa [add_block] at this
    obtain ⟨S, hSl, hS⟩ := list_choose (0 : Int) _ n hrow
    refine ⟨_, S, hcs, ⟨some x0, m, by rw [hSl], ?_⟩, ?_⟩
    · by_cases h0 : n = 0
      · exact Or.inl (List.length_eq_zero_iff.1 (by omega))
      · exact Or.inr ⟨x0, rfl, (hS 0 (by omega)).2, fun i hi => (hS i (by omega)).1⟩
    · have := bulk_len ((List.range n).map D)
      rw [hx, hSl]
      simp only [Rows.uptoBulk]
      simp at this
      omega

/-- One memory under way, above what was there. -/
structure Gm (w0 w : World) (base : Nat) (p : Value) (s : Nat) (L : List Ac) (F : List Nat) : Prop where
  mem : MemAt w base p 1 s L F
  bel : Below w0.heap.size w0 w
  lo : w0.heap.size ≤ base
  size : base ≤ w.heap.size
theorem Gm.later {w0 w w' : World} {base : Nat} {p : Value} {s : Nat} {L : List Ac} {F : List Nat} (h : Gm w0 w base p s L F) (hb : Below w.heap.size w w') : Gm w0 w' base p s L F :=
  ⟨h.mem.below hb, below_then h.bel hb, h.lo, Nat.le_trans h.size hb.size⟩
theorem Gm.next {w0 w w' : World} {base : Nat} {p : Value} {s : Nat} {L L' : List Ac} {F F' : List Nat} (h : Gm w0 w base p s L F) (hm : MemAt w' base p 1 s L' F') (hn : Next F F' w w') : Gm w0 w' base p s L' F' :=
  ⟨hm, h.bel.trans (hn.below h.bel.size (fun b hb => by have := (h.mem.lt b hb).1; have := h.lo; omega)), h.lo, Nat.le_trans h.size hn.1.size⟩
theorem storeL_word {c r : Nat} {L : List Ac} {t : Int} {a : Ad} {z : Int} (h : isAd c r a = true) : wordOf (storeL c r L t a z) = upd (wordOf L) a z := by
  unfold storeL
  rw [if_pos h, wordOf_hit (Or.inl rfl)]
end Go.Proofs.Ytacioekmeildoaa
