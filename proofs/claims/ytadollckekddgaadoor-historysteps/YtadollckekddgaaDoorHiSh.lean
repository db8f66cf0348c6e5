/- The example at the head of all laws. -/
import Derived.Test.YtadollckekddgaaDoorHiSs
import Derived.Test.YtadollckekddgaaDoorHiCe
import Derived.Test.YtadollckekddgaaDoorHiW
import Derived.Test.YtadollckekddgaaDoorHiT
namespace Go.Proofs.YtadollckekddgaaDoor.Hi
open Go.ChangeShapes Go.WideShapes Go.ChangeAt Go.RowKit
set_option linter.unusedVariables false
def evX (at_ tx kd cl vl sn sp : Int) : Ev := ⟨at_, 0, tx, kd, cl, vl, false, 0, sn, sp, fun _ => 0, 0⟩
def hEx : List Ev := [evX 0 0 7 0 0 0 0, evX 1 0 1 0 0 0 0, evX 2 0 3 2 7 0 0, evX 3 0 4 0 0 0 1, evX 4 1 7 0 0 0 0, evX 5 1 1 0 0 1 0, evX 6 1 2 2 7 1 0]
def pEx : Pa := ⟨6, [⟨0, 0, 3, 1, 0, 0, 2, [⟨2, 7, true⟩]⟩, ⟨0, 4, -1, 0, 1, 0, 1, [⟨2, 7, false⟩]⟩], [0], 0⟩
theorem read_ex : readD hEx = some pEx := by decide
theorem ok_ex : ∀ e ∈ hEx, EvOk e := by
  intro e he
  unfold EvOk
  unfold hEx evX at he
  simp at he
  rcases he with rfl | rfl | rfl | rfl | rfl | rfl | rfl <;> decide
theorem evl_ex (w : World) : EvL (w.alloc (.cells (evsC hEx).toArray 39)) (.slice (some ⟨w.heap.size, 0, none⟩) 7 7) hEx :=
  own_evl (base := w.heap.size) ⟨evsC_len _, Or.inr ⟨w.heap.size, 7, _, rfl, Nat.le_refl _, heap_alloc_new _ _, Nat.le_refl _, by decide, by rw [List.size_toArray]; exact evsC_len _, by rw [List.toList_toArray]; exact List.take_of_length_le (by rw [evsC_len]; exact Nat.le_refl _)⟩⟩ ok_ex (by decide)
theorem il_two (w : World) (a b : Int) : IL (w.alloc (.cells #[.int .i64 a, .int .i64 b] 3)) (.slice (some ⟨w.heap.size, 0, none⟩) 2 2) [a, b] :=
  own_il (base := w.heap.size) (n := 2) ⟨rfl, Or.inr ⟨w.heap.size, 2, _, rfl, Nat.le_refl _, heap_alloc_new _ _, Nat.le_refl _, by decide, rfl, rfl⟩⟩ rfl (by simp)
theorem paok_ex : ∀ p, readD hEx = some p → PaOk p := fun p hp => by
  rw [read_ex] at hp
  cases hp
  intro i hi
  have hi' : i < 2 := hi
  have h : i = 0 ∨ i = 1 := by omega
  rcases h with rfl | rfl
  · exact ⟨by decide, by unfold AcOk; decide⟩
  · exact ⟨by decide, by unfold AcOk; decide⟩
theorem tim_ex : timelyA hEx [0, 1] = (true, 0) := by decide
theorem leg_ex : legalA hEx [1, 0] = (false, 0) := by decide
theorem fin_ex : finM pEx 2 = 7 := by decide
theorem srt_ex {f : Nat → Nat} (hp : PermOn id f 0 2) (hs : Srt (kyD pEx) f 0 2) : f 0 = 0 := by
  obtain ⟨q, hq, e⟩ := hp.mem (k := 0) ⟨by omega, by omega⟩
  obtain ⟨q1, hq1, e1⟩ := hp.mem (k := 1) ⟨by omega, by omega⟩
  have h := hs 0 1 (by omega) (by omega) (by omega)
  rw [e, e1] at h
  rw [e]
  have k0 : kyD pEx 0 = 2 := by decide
  have k1 : kyD pEx 1 = 3 := by decide
  unfold tot at h
  by_cases h0 : q = 0
  · rw [h0]; rfl
  · obtain rfl : q = 1 := by omega
    exfalso
    by_cases h1 : q1 = 0
    · subst h1
      simp only [id] at h
      omega
    · obtain rfl : q1 = 1 := by omega
      simp only [id] at h
      omega
set_option maxRecDepth 1000000 in
set_option maxHeartbeats 16000000 in
theorem shown_any {w : World} {a c : Addr} (he : ErrAt w a c) : Calls Tryd.prog 4 #[] w fun e w' => e = .returned (.bool true) ∧ Below w.heap.size w w' := by
  have HE : Hid (∀ w', Below w.heap.size w w' → ErrAt w' a c) := fun w' hb => he.later hb (Nat.le_refl _)
  clear he
  go_enter Tryd.func4, Tryd.ntmps4
  go_wp2_with fail
  show Calls Tryd.prog 5 _ (w.alloc (.cells (evsC hEx).toArray 39)) _
  have HV1 := evl_ex w
  have hb1 := below_a1 w (.cells (evsC hEx).toArray 39)
  obtain ⟨x1, hx1⟩ : ∃ x, w.alloc (.cells (evsC hEx).toArray 39) = x := ⟨_, rfl⟩
  rw [hx1] at HV1 hb1
  rw [hx1]
  have HV : Hid (∀ w', Below x1.heap.size x1 w' → EvL w' (.slice (some ⟨w.heap.size, 0, none⟩) 7 7) hEx) := fun w' hb => HV1.later hb (Nat.le_refl _)
  have HB : Hid (Below w.heap.size w x1) := hb1
  have HTX : Hid (Calls Tryd.prog 5 #[.slice (some ⟨w.heap.size, 0, none⟩) 7 7] x1 (TxsQ x1 hEx)) := txs_any HV1 (HE.out _ hb1) (fun h => by rw [read_ex] at h; cases h)
  have HRE : Hid (readD hEx = some pEx) := read_ex
  have HLN : Hid (pEx.txs.length = 2) := rfl
  unfold TxsQ at HTX
  rw [HRE.out] at HTX
  dsimp only at HTX
  rw [HLN.out] at HTX
  clear HV1 hb1 hx1
  refine HTX.out.mono ?_
  rintro e x2 ⟨⟨v2, rfl, ho2⟩, hb2⟩
  obtain ⟨g2, p2, rfl, hp2, hc2⟩ := own_some1 ho2 (by omega)
  have HC2 : Hid (∀ w', Below x2.heap.size x2 w' → w'.cell? ⟨g2, 3, none⟩ = some (.int .i64 1) ∧ w'.cell? ⟨g2, 10, none⟩ = some (.int .i64 1) ∧ w'.cell? ⟨g2, 8, none⟩ = some (.int .i64 (-1))) := fun w' hb => by
    have hl : g2 < x2.heap.size := (own_block ho2 g2 rfl).2
    rw [cell_below hb hl, cell_below hb hl, cell_below hb hl]
    exact ⟨hc2 3 _ rfl, hc2 10 _ rfl, hc2 8 _ rfl⟩
  have HB2 : Hid (Below x1.heap.size x1 x2) := hb2
  clear ho2 hc2 hb2 HTX
  have HOR : Hid (Calls Tryd.prog 6 #[.slice (some ⟨w.heap.size, 0, none⟩) 7 7] x2 (OrdrQ x2 hEx)) := order_any (HV.out _ HB2.out) (HE.out _ (below_then HB.out HB2.out)) (fun p hp => by rw [HRE.out] at hp; cases hp; exact stable_small (by decide))
  unfold OrdrQ at HOR
  rw [HRE.out] at HOR
  dsimp only at HOR
  rw [HLN.out] at HOR
  go_wp2_with fail
  refine HOR.out.mono ?_
  rintro e x3 ⟨⟨v3, f, rfl, ho3, hf1, hf2⟩, hb3⟩
  have hf0 := srt_ex hf1 hf2
  obtain ⟨g3, p3, rfl, hp3, hc3⟩ := own_some1 ho3 (by omega)
  have HC3 : Hid (∀ w', Below x3.heap.size x3 w' → w'.cell? ⟨g3, 0, none⟩ = some (.int .i64 0)) := fun w' hb => by
    have hl : g3 < x3.heap.size := (own_block ho3 g3 rfl).2
    rw [cell_below hb hl]
    exact hc3 0 _ (by rw [iC_get (by rw [ordL_len]; omega)]; simp [ordL, ni, hf0])
  have HB3 : Hid (Below x2.heap.size x2 x3) := hb3
  clear ho3 hc3 hb3 HOR hf0 hf1 hf2
  go_wp2_with fail
  have HB13 : Hid (Below x1.heap.size x1 x3) := below_then HB2.out HB3.out
  have HT4 : Hid (∀ o, o = Obj.cells #[.int .i64 0, .int .i64 1] 3 → Calls Tryd.prog 7 #[.slice (some ⟨w.heap.size, 0, none⟩) 7 7, .slice (some ⟨x3.heap.size, 0, none⟩) 2 2] (x3.alloc o) fun e w' => e = .returned (.tuple #[.bool true, .int .i64 0]) ∧ Below (x3.alloc o).heap.size (x3.alloc o) w') := fun o ho => by
    subst ho
    have := timelyf_any (HV.out _ (below_alloc HB13.out _)) (il_two x3 0 1) (HE.out _ (below_then HB.out (below_alloc HB13.out _))) paok_ex
    rw [tim_ex] at this
    exact this
  refine (HT4.out _ rfl).mono ?_
  rintro e x4 ⟨rfl, hb4⟩
  have HB4 : Hid (Below x3.heap.size x3 x4) := below_then (below_a1 _ _) hb4
  clear hb4 HT4
  go_wp2_with fail
  have HB14 : Hid (Below x1.heap.size x1 x4) := below_then HB13.out HB4.out
  have HT5 : Hid (∀ o, o = Obj.cells #[.int .i64 1, .int .i64 0] 3 → Calls Tryd.prog 8 #[.slice (some ⟨w.heap.size, 0, none⟩) 7 7, .slice (some ⟨x4.heap.size, 0, none⟩) 2 2] (x4.alloc o) fun e w' => e = .returned (.tuple #[.bool false, .int .i64 0]) ∧ Below (x4.alloc o).heap.size (x4.alloc o) w') := fun o ho => by
    subst ho
    have := legalf_any (HV.out _ (below_alloc HB14.out _)) (il_two x4 1 0) (HE.out _ (below_then HB.out (below_alloc HB14.out _))) paok_ex
    rw [leg_ex] at this
    exact this
  refine (HT5.out _ rfl).mono ?_
  rintro e x5 ⟨rfl, hb5⟩
  have HB5 : Hid (Below x4.heap.size x4 x5) := below_then (below_a1 _ _) hb5
  clear hb5 HT5
  go_wp2_with fail
  have HB15 : Hid (Below x1.heap.size x1 x5) := below_then HB14.out HB5.out
  have HFI : Hid (Calls Tryd.prog 9 #[.slice (some ⟨w.heap.size, 0, none⟩) 7 7, .int .i64 3] x5 (FinQ x5 hEx 3)) := final_any (HV.out _ HB15.out) (HE.out _ (below_then HB.out HB15.out)) paok_ex 3
  unfold FinQ at HFI
  rw [HRE.out] at HFI
  dsimp only at HFI
  simp only [if_pos (show (0 : Int) ≤ 3 ∧ (3 : Int) ≤ 1024 by decide)] at HFI
  refine HFI.out.mono ?_
  rintro e x6 ⟨⟨v6, rfl, ho6⟩, hb6⟩
  rw [show (3 : Int).toNat = 3 from rfl] at ho6
  obtain ⟨g6, p6, rfl, hp6, hc6⟩ := own_some1 ho6 (by omega)
  have c6 : x6.cell? ⟨g6, 2, none⟩ = some (.int .i64 7) := hc6 2 _ (by rw [← fin_ex]; rfl)
  have HB16 : Hid (Below x1.heap.size x1 x6) := below_then HB15.out hb6
  have HB26 : Hid (Below x2.heap.size x2 x6) := below_then (below_then (below_then HB3.out HB4.out) HB5.out) hb6
  have HB36 : Hid (Below x3.heap.size x3 x6) := below_then (below_then HB4.out HB5.out) hb6
  obtain ⟨d1, d2, d3⟩ := HC2.out _ HB26.out
  have d4 := HC3.out _ HB36.out
  clear ho6 hc6 hb6 HFI
  go_wp2_with fail
  go_ret
  exact ⟨rfl, by first | exact below_then HB.out HB16.out | exact below_drawn (below_then HB.out HB16.out) _⟩
end Go.Proofs.YtadollckekddgaaDoor.Hi
