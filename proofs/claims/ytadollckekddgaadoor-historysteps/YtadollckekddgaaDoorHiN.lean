/- All cells that there may be, as they lie; what a transaction leaves. -/
import Derived.Test.YtadollckekddgaaDoorHiJ
import Derived.Test.YtadollckekddgaaDoorHiRc
import Derived.Deep.MidRow
namespace Go.Proofs.YtadollckekddgaaDoor.Hi
open Go.ChangeShapes Go.WideShapes Go.ChangeAt Go.RowKit
set_option linter.unusedVariables false
set_option maxRecDepth 100000

/-- The cells' values as a row. -/
def memC (m : Int → Int) : Array Value := ((List.range 1024).map fun (i : Nat) => Value.int .i64 (m i)).toArray
theorem memC_size (m : Int → Int) : (memC m).size = 1024 := by simp [memC]
theorem memC_get (m : Int → Int) (i : Nat) (h : i < 1024) : (memC m)[i]? = some (.int .i64 (m i)) := by simp [memC, h]
def updM (m : Int → Int) (c v : Int) : Int → Int := fun d => if d = c then v else m d
theorem memC_set (m : Int → Int) (i : Nat) (v : Int) (h : i < 1024) : (memC m).setIfInBounds i (.int .i64 v) = memC (updM m i v) := by
  unfold memC
  exact map_set_range h (by simp [updM]) (fun q hq => by simp only [updM]; rw [if_neg (by omega)])
/-- What the first accesses leave. -/
def leaveL (m : Int → Int) (l : List Ac) : Int → Int := fun c => (lastW l c).getD (m c)
theorem leaveL_nil (m : Int → Int) : leaveL m [] = m := rfl
theorem leaveL_snoc (m : Int → Int) (l : List Ac) (a : Ac) : leaveL m (l ++ [a]) = if a.wr = true then updM (leaveL m l) a.cell a.val else leaveL m l := by
  funext c
  unfold leaveL updM
  rw [lastW_snoc]
  by_cases hw : a.wr = true
  · by_cases hc : a.cell = c
    · simp [hw, hc]
    · rw [if_neg (fun h => hc h.2), if_pos hw]
      simp only
      rw [if_neg (fun h => hc h.symm)]
  · rw [if_neg (fun h => hw h.1), if_neg hw]
theorem take_na {l : List Ac} {j : Nat} (h : j < l.length) : l.take (j + 1) = l.take j ++ [na l j] := by
  rw [List.take_add_one]
  simp [na, h]
/-- A transaction that lies: its block, its accesses. -/
structure XAt (w : World) (B X : Nat) (t : Tr) (v : Value) : Prop where
  x : w.heap[X]? = some (.cells (txC t v) 58 (0, 0))
  a : w.ownsRow B 87 3 v t.ac.length (acsC t.ac)
  n : t.ac.length ≤ 925925926000
  c : ∀ y ∈ t.ac, 0 ≤ y.cell ∧ y.cell < 1024
theorem XAt.later {w w' : World} {B X : Nat} {t : Tr} {v : Value} (h : XAt w B X t v) {G : List Nat} (hk : Keep G w w') (h1 : X ∉ G) (h2 : ∀ b, v.ownBlock = some b → b ∉ G) : XAt w' B X t v :=
  ⟨by rw [hk.block _ (heap_lt h.x) h1]; exact h.x, own_keep h.a hk h2, h.n, h.c⟩
/-- One of its accesses, as it lies. -/
theorem XAt.acc {w : World} {B X : Nat} {t : Tr} {v : Value} (h : XAt w B X t v) {j : Nat} (hj : j < t.ac.length) : ∃ g cap, v = .slice (some ⟨g, 0, none⟩) t.ac.length cap ∧ w.cell? ⟨g, j * 3, none⟩ = some (.int .i64 (na t.ac j).cell) ∧ w.cell? ⟨g, j * 3 + 1, none⟩ = some (.int .i64 (na t.ac j).val) ∧ w.cell? ⟨g, j * 3 + 2, none⟩ = some (.bool (na t.ac j).wr) := by
  rcases h.a.2 with ⟨_, h0⟩ | ⟨g, cap, cur, hv, _⟩
  · omega
  · refine ⟨g, cap, hv, ?_, ?_, ?_⟩
    · have := h.a; rw [hv] at this
      have := own_cells this (j * 3 + 0) _ ((acsC_get t.ac j 0 hj (by decide)).trans rfl)
      simpa using this
    · have := h.a; rw [hv] at this
      exact own_cells this (j * 3 + 1) _ ((acsC_get t.ac j 1 hj (by decide)).trans rfl)
    · have := h.a; rw [hv] at this
      exact own_cells this (j * 3 + 2) _ ((acsC_get t.ac j 2 hj (by decide)).trans rfl)
theorem na_mem {l : List Ac} {j : Nat} (h : j < l.length) : na l j ∈ l := by
  have : na l j = l[j] := by simp [na, h]
  rw [this]
  exact List.getElem_mem h
set_option maxHeartbeats 1600000 in
theorem leave_any {w : World} {B X M : Nat} {t : Tr} {v : Value} {m : Int → Int} (h : XAt w B X t v) (hm : w.heap[M]? = some (.cells (memC m) 70 (0, 0))) : Calls Tryd.prog 21 #[ptr X, ptr M] w fun e w' => e = .returned (.tuple #[]) ∧ w'.heap[M]? = some (.cells (memC (leaveD t m)) 70 (0, 0)) ∧ Keep [M] w w' := by
  have hlX := heap_lt h.x
  have hc3 : w.cell? ⟨X, 3, none⟩ = some (.int .i64 t.st) := by rw [cell_at h.x]; simp [txC]
  have hc7 : w.cell? ⟨X, 7, none⟩ = some v := by rw [cell_at h.x]; simp [txC]
  have HH : Hid (XAt w B X t v) := h
  have HMM : Hid (w.heap[M]? = some (.cells (memC m) 70 (0, 0))) := hm
  unfold ptr
  by_cases hs : t.st = 0
  · have hd : (t.st == 0) = true := by simpa using hs
    have HL : Hid (leaveD t m = m) := by funext c; simp [leaveD, hs]
    clear hs h hm
    generalize t.st = z at *
    go_enter Tryd.func21, Tryd.ntmps21
    go_wp2
    refine bodyPost_ret (v := .tuple #[]) (results_none rfl _ _ _) rfl ?_
    exact ⟨rfl, by rw [HL.out]; exact HMM.out, Keep.refl _ _⟩
  · have hd : (t.st == 0) = false := by simpa using hs
    have HL : Hid (leaveD t m = leaveL m t.ac) := by funext c; simp [leaveD, leaveL, hs]
    obtain ⟨sa, cap, rfl⟩ := own_slice h.a
    have hXM : X ≠ M := ne_of_type h.x hm (by decide)
    have HN : Hid (t.ac.length ≤ 925925926000) := h.n
    clear hs h hm
    generalize t.st = z at *
    go_enter Tryd.func21, Tryd.ntmps21
    go_wp2_with fail
    go_loopw [17] (fun iv wr => ∃ j : Nat, j ≤ t.ac.length ∧ iv = .int .i64 (j : Int) ∧ Hid (wr.heap[M]? = some (.cells (memC (leaveL m (t.ac.take j))) 70 (0, 0))) ∧ Hid (Keep [M] w wr)) (fun iv _ => t.ac.length - (intOf iv).toNat)
    case atStart => exact ⟨0, Nat.zero_le _, rfl, HMM.out, Keep.refl _ _⟩
    case round =>
      obtain ⟨j, hj, rfl, HC, HK⟩ := hrel
      by_cases hlt : j < t.ac.length
      · have hjd : decide ((j : Int) < (t.ac.length : Int)) = true := by simp; omega
        have HXr : XAt wr B X t (.slice sa t.ac.length cap) := HH.out.later HK.out (by simpa using hXM) (fun b hb hmm => own_ne HH.out.a HMM.out (by decide) (by simp at hmm; subst hmm; exact hb))
        obtain ⟨g, cap', hs, a0, a1, a2⟩ := HXr.acc hlt
        have hsa : sa = some ⟨g, 0, none⟩ := by simp at hs; exact hs.1
        subst hsa
        obtain ⟨hb0, hb1⟩ := HH.out.c _ (na_mem hlt)
        have HS := leaveL_snoc m (t.ac.take j) (na t.ac j)
        rw [← take_na hlt] at HS
        have hw1 : Hid (wrap64 ((j : Int) + 1) = (j : Int) + 1) := inc_cast HN.out (by omega)
        have HMS : Hid (t.ac.length - (j + 1) < t.ac.length - j) := by rw [Hid]; omega
        have hjl : (j : Int) < (t.ac.length : Int) := by omega
        obtain ⟨ci, hci⟩ : ∃ ci : Nat, (na t.ac j).cell = (ci : Int) := ⟨(na t.ac j).cell.toNat, by omega⟩
        rw [hci] at a0 HS hb1
        have hcb : ci < 1024 := by omega
        generalize (na t.ac j).val = av at *
        generalize (na t.ac j).wr = aw at *
        generalize leaveL m (t.ac.take j) = mj at *
        have HCM : Hid (∀ w4 : World, w4.heap[M]? = some (.cells (memC mj) 70 (0, 0)) → w4.cell? ⟨M, ci, none⟩ = some (.int .i64 (mj ci)) ∧ w4.frozen? ⟨M, ci, none⟩ = false) := fun w4 h4 => ⟨by rw [cell_at h4]; exact memC_get _ _ hcb, frozen_at h4 _⟩
        clear hs HXr hb0 hci
        cases aw with
        | false =>
          have HS2 : Hid (leaveL m (t.ac.take (j + 1)) = mj) := by rw [Hid, HS]; simp
          clear HS HCM
          go_wp2_with fail
          go_roundw
          case rel => exact ⟨j + 1, hlt, by rw [hw1.out]; go_num, by rw [HS2.out]; exact alloc_at _ HC.out, HK.out.alloc _⟩
          case measure => rw [hw1.out]; simpa [intOf] using HMS.out
        | true =>
          have HS2 : Hid (leaveL m (t.ac.take (j + 1)) = updM mj ci av) := by rw [Hid, HS]; simp
          obtain ⟨hcm, hfm⟩ := HCM.out wr HC.out
          have hlM := heap_lt HC.out
          have hlg := World.block_lt_of_cell? _ _ a0
          have HE : Hid (∀ o n, (((wr.setCell ⟨M, ci, none⟩ (.int .i64 av)).alloc o).drewN n).heap[M]? = some (.cells (memC (updM mj ci av)) 70 (0, 0)) ∧ Keep [M] w (((wr.setCell ⟨M, ci, none⟩ (.int .i64 av)).alloc o).drewN n)) := fun o n =>
            ⟨alloc_at _ (by rw [heap_set HC.out, memC_set _ _ _ hcb]), ((HK.out.setCell ⟨M, ci, none⟩ (.int .i64 av) (Or.inl (by simp))).alloc o).drewN n⟩
          have hci0 : decide ((ci : Int) < 0) = false := by simp
          have hci1 : (ci : Int) < 1024 := by omega
          clear HS HCM
          go_wp2_with fail
          go_region
          go_wp2_with fail
          go_roundw
          case rel => exact ⟨j + 1, hlt, by rw [hw1.out]; go_num, by rw [HS2.out]; exact (HE.out _ 1).1, (HE.out _ 1).2⟩
          case measure => rw [hw1.out]; simpa [intOf] using HMS.out
      · obtain rfl : j = t.ac.length := by omega
        have hc := HC.out
        rw [List.take_length] at hc
        have HC2 : Hid _ := hc
        clear hc
        go_wp2_with fail
        refine bodyPost_end (results_none rfl _ _ _) rfl ?_
        exact ⟨rfl, by rw [HL.out]; exact HC2.out, HK.out⟩
end Go.Proofs.YtadollckekddgaaDoor.Hi
