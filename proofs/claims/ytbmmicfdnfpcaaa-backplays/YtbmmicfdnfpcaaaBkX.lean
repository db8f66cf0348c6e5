/- BackEnds: the steps behind complete entries; what is found in the end. -/
import Derived.Test.YtbmmicfdnfpcaaaBkW
namespace Go.Proofs.Ytbmmicfdnfpcaaa
open Go.ChangeShapes Go.WideShapes Go.ChangeAt Go.RowKit

theorem EW.mono {w0 w : World} {M Z s st : Nat} {S : List Wt} {u : Value} {n : Nat} {b : Bk} {L : List Ac} {R : List (Nat × Obj)} (h : EW w0 w M Z s st S u n b L R) {n' : Nat} (hn : n ≤ n') : EW w0 w M Z s st S u n' b L R := ⟨h.bw, h.ei, Nat.le_trans h.len hn⟩
/-- A step behind complete older entries: it does not wait. -/
theorem en_step {w0 w : World} {M Z s st : Nat} {S : List Wt} {u : Value} {n : Nat} {b : Bk} {L : List Ac} {R : List (Nat × Obj)} (h : EW w0 w M Z s st S u n b L R) (hn : n < 3298534883328) (hv : ∀ i, i < S.length → W64 (S.getD i noWt).v) (ho : HO (enP s st S) L) :
    Calls Try.prog 15 #[.pointer (some ⟨Z, 0, none⟩), .pointer (some ⟨M, 0, none⟩), .int .i64 1] w fun e w' => ∃ k y b' L', e = .returned (.agg #[.int .i64 k, .int .i64 0, .int .i64 0, .bool y]) ∧ (k = 0 ∨ k = 2 ∨ k = 3) ∧ (b.nx = 0 → k = 0 ∧ b' = b) ∧ EW w0 w' M Z s st S u (n + 1) b' L' R ∧ HO (enP s st S) L' ∧ mB (enP s st S) b' ≤ mB (enP s st S) b - 1 := by
  refine (ew_step h hn).mono ?_
  rintro e w' ⟨rfl, h1⟩
  refine ⟨_, _, _, _, rfl, ?_, ?_, h1, ho_step h.ei.ok ho 1, ?_⟩
  · by_cases hg : goesB 8 s (enP s st S) b = true
    · have hw := (end_step h.ei.ok ho hg).1
      unfold ansBk
      rw [if_pos hg, hw, if_neg (by simp)]
      by_cases h8 : b.nx = 8
      · rw [if_pos h8]; simp
      · rw [if_neg h8]; simp
    · unfold ansBk
      rw [if_neg hg]
      simp
  · intro h0
    have hg : goesB 8 s (enP s st S) b = false := by
      cases hh : goesB 8 s (enP s st S) b
      · rfl
      · exact absurd h0 (goesB_iff.mp hh).1
    unfold ansBk nextBk
    rw [hg]
    exact ⟨rfl, rfl⟩
  · by_cases hg : goesB 8 s (enP s st S) b = true
    · have hw := (end_step h.ei.ok ho hg).2
      unfold nextBk
      rw [if_pos hg]
      omega
    · have h0 : b.nx = 0 := by
        by_cases h0 : b.nx = 0
        · exact h0
        · exact absurd ((enP_goes hv).mpr h0) hg
      have hm : mB (enP s st S) b = 0 := by unfold mB; rw [if_pos h0]
      unfold nextBk
      rw [if_neg hg, hm]
      simp
theorem ew_left {w0 w : World} {M Z s st : Nat} {S : List Wt} {u : Value} {n : Nat} {b : Bk} {L : List Ac} {R : List (Nat × Obj)} (h : EW w0 w M Z s st S u n b L R) (h0 : b.nx = 0) :
    Calls Try.prog 18 #[.pointer (some ⟨Z, 0, none⟩)] w fun e w' => e = .returned (.int .i64 0) ∧ EW w0 w' M Z s st S u n b L R := by
  obtain ⟨base, hw⟩ := h.bw
  have hl := h.ei.ok.late (by omega)
  refine (bw_left hw h.ei.ok).mono ?_
  rintro e w' ⟨rfl, h1⟩
  refine ⟨?_, ⟨base, h1⟩, h.ei, h.len⟩
  rw [hl]
  simp
theorem ew_peek {w0 w : World} {M Z s st : Nat} {S : List Wt} {u : Value} {n : Nat} {b : Bk} {L : List Ac} {R : List (Nat × Obj)} (h : EW w0 w M Z s st S u n b L R) (a : Ad) (ha : isAd 8 s a = true) :
    Calls Try.prog 23 #[.pointer (some ⟨M, 0, none⟩), .agg #[.int .i64 a.k, .int .i64 a.i, .int .i64 a.j]] w fun e w' => e = .returned (.tuple #[.int .i64 (wordOf L a), .int .i64 0]) ∧ EW w0 w' M Z s st S u n b L R := by
  obtain ⟨base, hw⟩ := h.bw
  refine (bw_peek hw a ha).mono ?_
  rintro e w' ⟨rfl, h1⟩
  exact ⟨rfl, ⟨base, h1⟩, h.ei, h.len⟩
theorem ew_cell {w0 w : World} {M Z s st : Nat} {S : List Wt} {u : Value} {n : Nat} {b : Bk} {L : List Ac} {R : List (Nat × Obj)} (h : EW w0 w M Z s st S u n b L R) (h0 : b.nx = 0) {c v : Int} (hc : lastW (inW S 24) c = some v) : wordOf L ⟨4, c, 0⟩ = v := by
  have hl := h.ei.ok.late (by omega)
  have := h.ei.cells c v
  rw [hl] at this
  unfold enP at this
  simp only [List.take_length] at this
  exact this hc
theorem ew_head {w0 w : World} {M Z s st : Nat} {S : List Wt} {u : Value} {n : Nat} {b : Bk} {L : List Ac} {R : List (Nat × Obj)} (h : EW w0 w M Z s st S u n b L R) (h0 : b.nx = 0) : wordOf L ⟨2, slotV (st : Int) s, 0⟩ = 2 * (st : Int) + 1 := h.ei.head h0
theorem EW.more {w0 w : World} {M Z s st : Nat} {S : List Wt} {u : Value} {n : Nat} {b : Bk} {L : List Ac} {R : List (Nat × Obj)} (h : EW w0 w M Z s st S u n b L R) (o : Obj) : EW w0 (w.alloc o) M Z s st S u n b L ((w.heap.size, o) :: R) := by
  obtain ⟨base, hw⟩ := h.bw
  exact ⟨⟨base, hw.more o⟩, h.ei, h.len⟩
theorem EW.fewer {w0 w : World} {M Z s st : Nat} {S : List Wt} {u : Value} {n : Nat} {b : Bk} {L : List Ac} {z : Nat × Obj} {R : List (Nat × Obj)} (h : EW w0 w M Z s st S u n b L (z :: R)) : EW w0 w M Z s st S u n b L R := by
  obtain ⟨base, hw⟩ := h.bw
  obtain ⟨F, h1, h2⟩ := hw.all
  exact ⟨⟨base, ⟨F, h1, fun y hy => h2 y (List.mem_cons_of_mem _ hy)⟩, hw.bel, hw.lo, hw.size⟩, h.ei, h.len⟩
end Go.Proofs.Ytbmmicfdnfpcaaa
