/- Both states held against each other: Same, alike. -/
import Derived.Test.YtgbmnngmfcneaaaPlSp
import Derived.Test.YtgbmnngmfcneaaaPlB2
import Derived.Test.YtgbmnngmfcneaaaPlAr
namespace Go.Proofs.Ytgbmnngmfcneaaa.Pl
open Go.ChangeShapes Go.WideShapes Go.ChangeAt Go.RowKit
attribute [local go_sem ↓] Go.wp_at_zero Go.wp_at_succ

theorem shl_of {w : World} {B : Nat} {F : List Nat} {v : Value} {cs : List Co} {V P : Nat → Value} (h : w.ownsRow B 50 3 v cs.length (rowC (shpF cs V P) cs.length)) (hr : Rows w B F cs V P) : ShL w v cs := by
  obtain ⟨a, cap, rfl⟩ := own_slice h
  refine ⟨a, cap, rfl, ?_⟩
  by_cases h0 : cs.length = 0
  · exact Or.inl h0
  · cases a with
    | none =>
      exfalso
      rcases h.2 with ⟨_, h1⟩ | ⟨_, _, _, e, _⟩
      · exact h0 h1
      · cases e
    | some x =>
      obtain ⟨g, rfl⟩ := own_at0 h
      refine Or.inr ⟨_, rfl, (own_block h g rfl).2, fun i hi => ⟨V i, P i, ?_, ?_, ?_, Nl.of_own (hr.vs i hi) (by have := (hr.ok i hi).vm; have := (hr.ok i hi).c16; omega) (hr.ok i hi).sv, Pn.of_own (hr.ps i hi)⟩⟩
      · rw [add_at, Nat.zero_add]
        exact own_cells h _ _ ((rowC_get (shpF_len cs V P) hi (j := 0) (by omega)).trans rfl)
      · rw [add_at, Nat.zero_add]
        exact own_cells h _ _ ((rowC_get (shpF_len cs V P) hi (j := 1) (by omega)).trans rfl)
      · rw [add_at, Nat.zero_add]
        exact own_cells h _ _ ((rowC_get (shpF_len cs V P) hi (j := 2) (by omega)).trans rfl)
theorem rsame_any {w : World} {B Y : Nat} {G Z : List Nat} {raw : List Int} {cs : List Co} {vr vs : Value} (hd : DtAt w B Y G Z raw cs) (hr : Nl w vr raw) (hs : ShL w vs cs) : Calls Try.prog 29 #[.pointer (some ⟨Y, 0, none⟩), vr, vs] w fun e w' => e = .returned (.bool true) ∧ Below w.heap.size w w' := by
  obtain ⟨C, vr0, rv, cv, V, P, hdr, _⟩ := hd
  obtain ⟨_, h7, h8⟩ := hdr.cells
  have hYl := heap_lt hdr.hX
  have h64 := hdr.r64
  have hn := Nl.of_own hdr.rr (by omega) hdr.rs
  have hl := shl_of hdr.cr hdr.rows
  have H1 : Hid (Calls Try.prog 16 #[rv, vr] w fun e w'' => e = .returned (.bool true) ∧ Below w.heap.size w w'') := by have := same_any hn hr; simpa [Hid] using this
  have H2 : Hid (∀ w', Below w.heap.size w w' → Calls Try.prog 44 #[cv, vs] w' fun e w'' => e = .returned (.bool true) ∧ Below w'.heap.size w' w'') := fun w' hb => sshps_any (hl.later hb) (hs.later hb) hdr.c8 hdr.rows.ok
  obtain ⟨ra, rc, rfl⟩ := own_slice hdr.rr
  obtain ⟨ca, cc, rfl⟩ := own_slice hdr.cr
  clear hdr hn hl hr hs
  go_enter Try.func29, Try.ntmps29
  go_wp2_with fail
  refine H1.out.mono ?_
  rintro e w1 ⟨rfl, hb1⟩
  have k8 : w1.cell? ⟨Y, 8, none⟩ = some (.slice ca cs.length cc) := cell_later hb1 (a := ⟨Y, 8, none⟩) hYl h8
  have HB1 : Hid (Below w.heap.size w w1) := hb1
  clear hb1 h7 h8
  go_wp2_with fail
  refine (H2.out _ HB1.out).mono ?_
  rintro e w2 ⟨rfl, hb2⟩
  have HB2 : Hid (Below w.heap.size w w2) := below_then HB1.out hb2
  clear hb2
  go_wp2_with fail
  go_ret
  exact ⟨rfl, HB2.out⟩
theorem alike_any {w : World} {B X : Nat} {F : List Nat} {Y : Nat} {G Z : List Nat} {raw : List Int} {cs : List Co} (h : Du w B X F Y G Z raw cs) : Calls Try.prog 12 #[.pointer (some ⟨X, 0, none⟩), .pointer (some ⟨Y, 0, none⟩)] w fun e w' => e = .returned (.bool true) ∧ Below w.heap.size w w' := by
  have H1 : Hid (Calls Try.prog 17 #[.pointer (some ⟨X, 0, none⟩)] w fun e w' => ∃ u, e = .returned u ∧ w'.ownsRow w.heap.size 2 1 u raw.length (numC raw) ∧ Below w.heap.size w w') := raw_any h.s
  have H2 : Hid (∀ w', Below w.heap.size w w' → Calls Try.prog 18 #[.pointer (some ⟨X, 0, none⟩)] w' fun e w'' => ∃ v V P G, e = .returned v ∧ ShO w'' w'.heap.size G v cs V P ∧ Below w'.heap.size w' w'') := fun w' hb => shapes_any (h.s.later hb)
  have HRS : Hid (raw.length ≤ 64 ∧ ∀ x ∈ raw, Sx x) := by
    obtain ⟨_, _, _, _, hs⟩ := h.s
    exact ⟨hs.r64, hs.rs⟩
  have HD : Hid (∀ w', Below w.heap.size w w' → ∀ vr vs, Nl w' vr raw → ShL w' vs cs → Calls Try.prog 29 #[.pointer (some ⟨Y, 0, none⟩), vr, vs] w' fun e w'' => e = .returned (.bool true) ∧ Below w'.heap.size w' w'') := fun w' hb vr vs hr hs => rsame_any (h.d.later hb) hr hs
  clear h
  go_enter Try.func12, Try.ntmps12
  go_wp2_with fail
  refine H1.out.mono ?_
  rintro e w1 ⟨u, rfl, ho, hb1⟩
  have HB1 : Hid (Below w.heap.size w w1) := hb1
  have HN : Hid (Nl w1 u raw) := Nl.of_own ho (by have := HRS.out.1; omega) HRS.out.2
  obtain ⟨ua, uc, rfl⟩ := own_slice ho
  clear ho hb1 H1
  go_wp2_with fail
  refine (H2.out _ HB1.out).mono ?_
  rintro e w2 ⟨v, V, P, G', rfl, hso, hb2⟩
  have HB2 : Hid (Below w.heap.size w w2) := below_then HB1.out hb2
  have HC := HD.out w2 HB2.out _ _ (HN.out.later hb2 (Nat.le_refl _)) (shl_of hso.row hso.rows)
  have HC2 : Hid (Calls Try.prog 29 #[.pointer (some ⟨Y, 0, none⟩), .slice ua raw.length uc, v] w2 fun e w'' => e = .returned (.bool true) ∧ Below w2.heap.size w2 w'') := HC
  obtain ⟨va, vc, rfl⟩ := own_slice hso.row
  clear hso hb2 H2 HC HD
  go_wp2_with fail
  refine HC2.out.mono ?_
  rintro e w3 ⟨rfl, hb3⟩
  have HB3 : Hid (Below w.heap.size w w3) := below_then HB2.out hb3
  clear hb3
  go_wp2_with fail
  go_ret
  exact ⟨rfl, HB3.out⟩
end Go.Proofs.Ytgbmnngmfcneaaa.Pl
