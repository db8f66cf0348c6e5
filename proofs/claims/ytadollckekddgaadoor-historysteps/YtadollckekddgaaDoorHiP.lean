/- Do all agree with what those ahead of them left? -/
import Derived.Test.YtadollckekddgaaDoorHiO
namespace Go.Proofs.YtadollckekddgaaDoor.Hi
open Go.ChangeShapes Go.WideShapes Go.ChangeAt Go.RowKit
set_option linter.unusedVariables false
set_option maxRecDepth 100000

/-- Transactions behind a slice of pointers. -/
structure LAt (w : World) (B : Nat) (v : Value) (l : List Tr) (b : Nat → Nat) (V : Nat → Value) : Prop where
  row : w.ownsRow B 55 1 v l.length (ptrs b l.length)
  n : l.length ≤ 925925926000
  x : ∀ i, i < l.length → XAt w B (b i) (nt l i) (V i) ∧ AcOk (nt l i)
theorem LAt.later {w w' : World} {B : Nat} {v : Value} {l : List Tr} {b : Nat → Nat} {V : Nat → Value} (h : LAt w B v l b V) (hb : Below w.heap.size w w') : LAt w' B v l b V :=
  ⟨own_keep h.row (Keep.of_below hb []) (fun b hb => by simp), h.n, fun i hi => ⟨(h.x i hi).1.later (Keep.of_below hb []) (by simp) (fun b hb => by simp), (h.x i hi).2⟩⟩
theorem LAt.at {w : World} {B : Nat} {v : Value} {l : List Tr} {b : Nat → Nat} {V : Nat → Value} (h : LAt w B v l b V) {i : Nat} (hi : i < l.length) : ∃ g cap, v = .slice (some ⟨g, 0, none⟩) l.length cap ∧ w.cell? ⟨g, i, none⟩ = some (.pointer (some ⟨b i, 0, none⟩)) := by
  obtain ⟨g, cap, h1, _, h3⟩ := own_at h.row hi
  exact ⟨g, cap, h1, h3⟩
theorem zero_mem : Tryd.zeroCells70 = memC (fun _ => 0) := by kernel_rfl
theorem legal_step (m : Int → Int) {l : List Tr} {j : Nat} (h : j < l.length) : legalFrom m (l.drop j) = (agreesD m (nt l j) && legalFrom (leaveD (nt l j) m) (l.drop (j + 1))) := by
  have e : l.drop j = nt l j :: l.drop (j + 1) := by rw [List.drop_eq_getElem_cons h]; simp [nt, h]
  rw [e]
  rfl
set_option maxHeartbeats 1600000 in
theorem legal_any {w : World} {B : Nat} {v : Value} {l : List Tr} {b : Nat → Nat} {V : Nat → Value} (h : LAt w B v l b V) : Calls Tryd.prog 19 #[v] w fun e w' => e = .returned (.bool (legalD l)) ∧ Below w.heap.size w w' := by
  have HH : Hid (LAt w B v l b V) := h
  have HN : Hid (l.length ≤ 925925926000) := h.n
  obtain ⟨sa, cap, rfl⟩ := own_slice h.row
  have HZ := zero_mem
  clear h
  go_enter Tryd.func19, Tryd.ntmps19
  go_wp2_with fail
  go_loopw [8] (fun iv wr => ∃ (j : Nat) (m : Int → Int), j ≤ l.length ∧ iv = .int .i64 (j : Int) ∧ Hid (wr.heap[w.heap.size]? = some (.cells (memC m) 70 (0, 0))) ∧ Hid (Below w.heap.size w wr) ∧ Hid (legalFrom m (l.drop j) = legalD l)) (fun iv _ => l.length - (intOf iv).toNat)
  case atStart => exact ⟨0, fun _ => 0, Nat.zero_le _, rfl, heap_alloc_new w _, below_a1 _ _, rfl⟩
  case round =>
    obtain ⟨j, m, hj, rfl, HC, HB, HA⟩ := hrel
    by_cases hlt : j < l.length
    · have hjd : decide ((j : Int) < (l.length : Int)) = true := by simp; omega
      have hL := HH.out.later HB.out
      obtain ⟨g, cap', hs, a0⟩ := hL.at hlt
      have hsa : sa = some ⟨g, 0, none⟩ := by simp at hs; exact hs.1
      subst hsa
      obtain ⟨hx, hok⟩ := hL.x j hlt
      have HS := legal_step m hlt
      rw [HA.out] at HS
      have hw1 : Hid (wrap64 ((j : Int) + 1) = (j : Int) + 1) := inc_cast HN.out (by omega)
      have HMS : Hid (l.length - (j + 1) < l.length - j) := by rw [Hid]; omega
      have hjl : (j : Int) < (l.length : Int) := by omega
      have HAG : Hid (Calls Tryd.prog 30 #[ptr (b j), ptr w.heap.size] wr fun e w' => e = .returned (.bool (agreesD m (nt l j))) ∧ Below wr.heap.size wr w') := agrees_any hx hok HC.out
      have HLV : Hid (∀ w', Below wr.heap.size wr w' → Calls Tryd.prog 21 #[ptr (b j), ptr w.heap.size] w' fun e w'' => e = .returned (.tuple #[]) ∧ w''.heap[w.heap.size]? = some (.cells (memC (leaveD (nt l j) m)) 70 (0, 0)) ∧ Keep [w.heap.size] w' w'') := fun w' hb => leave_any (hx.later (Keep.of_below hb []) (by simp) (fun b hb => by simp)) (by rw [hb.block _ (heap_lt HC.out)]; exact HC.out)
      have HS2 : Hid (legalD l = (agreesD m (nt l j) && legalFrom (leaveD (nt l j) m) (l.drop (j + 1)))) := HS
      unfold ptr at HAG HLV
      clear hs hx hok hL HS HA
      generalize leaveD (nt l j) m = m2 at *
      generalize agreesD m (nt l j) = ag at *
      go_wp2_with fail
      refine HAG.out.mono ?_
      rintro e w2 ⟨rfl, hb2⟩
      have HB2 : Hid (Below wr.heap.size wr w2) := hb2
      clear hb2 HAG
      cases ag with
      | false =>
        have HE : Hid (legalD l = false) := by rw [Hid, HS2.out]; rfl
        go_wp2_with fail
        go_ret
        exact ⟨by rw [HE.out]; rfl, HB.out.trans (HB2.out.mono HB.out.size)⟩
      | true =>
        have HE : Hid (legalFrom m2 (l.drop (j + 1)) = legalD l) := by rw [Hid, HS2.out]; simp
        go_wp2_with fail
        refine (HLV.out _ HB2.out).mono ?_
        rintro e w3 ⟨rfl, hc3, hk3⟩
        have HC3 : Hid (w3.heap[w.heap.size]? = some (.cells (memC m2) 70 (0, 0))) := hc3
        have HB3 : Hid (Below w.heap.size w w3) := (HB.out.trans (HB2.out.mono HB.out.size)).trans (hk3.below (Nat.le_trans HB.out.size HB2.out.size) (by simp))
        clear hc3 hk3
        go_wp2_with fail
        go_roundw
        case rel => exact ⟨j + 1, m2, hlt, by rw [hw1.out]; go_num, HC3, HB3, HE⟩
        case measure => rw [hw1.out]; simpa [intOf] using HMS.out
    · obtain rfl : j = l.length := by omega
      have HA2 : Hid (legalD l = true) := by
        have := HA.out
        rw [List.drop_length] at this
        rw [Hid, ← this]; rfl
      go_wp2_with fail
      go_ret
      exact ⟨by rw [HA2.out]; rfl, HB.out⟩
end Go.Proofs.YtadollckekddgaaDoor.Hi
