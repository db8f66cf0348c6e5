/- The program's Shape. -/
import Derived.Test.YtaffkcliepfcmaaChA
import Derived.Test.YtaffkcliepfcmaaChSd
import Derived.Test.YtaffkcliepfcmaaChSr
namespace Go.Proofs.Ytaffkcliepfcmaa.Ch
open Go.ChangeShapes Go.WideShapes Go.ChangeAt Go.RowKit
attribute [local go_sem ↓] Go.wp_at_zero Go.wp_at_succ

set_option maxRecDepth 10000 in
theorem shape_arg {w : World} (m : Int) {v : Value} {C : List Int} (hv : Nl w v C) (hq : okS m C = false) : Calls Try.prog 8 #[.int .i64 m, v] w (ShE w (0, [], 1)) := by
  have HC : Hid (∀ w : World, Calls Try.prog 15 #[.int .i64 m] w fun e w' => e = .returned (.bool (decide (0 ≤ m) && decide (m ≤ 16))) ∧ w' = w) := fun w => cap_any w m
  have HZ : Hid (∀ w : World, Calls Try.prog 22 #[.int .i64 m] w fun e w' => e = .returned (.int .i64 (sizeV m)) ∧ w' = w) := fun w => size_any w m
  obtain ⟨a, cap, rfl⟩ := nl_slice hv
  unfold okS at hq
  generalize (decide (0 ≤ m) && decide (m ≤ 16)) = q1 at *
  clear hv
  cases q1
  · clear hq
    go_enter Try.func8, Try.ntmps8
    go_wp2_with fail
    refine (HC.out _).mono ?_
    rintro e w1 ⟨rfl, rfl⟩
    go_wp2_with fail
    exact ret_sh rfl rfl (heap_alloc_new _ _) rfl rfl ⟨_, rfl, World.ownsRow_nil _ _ _ _, below_a1 _ _⟩
  · have hq2 : ((C.length : Int) == sizeV m) = false := by simpa using hq
    clear hq
    generalize sizeV m = z at *
    go_enter Try.func8, Try.ntmps8
    go_wp2_with fail
    refine (HC.out _).mono ?_
    rintro e w1 ⟨rfl, rfl⟩
    go_wp2_with fail
    refine (HZ.out _).mono ?_
    rintro e w1 ⟨rfl, rfl⟩
    go_wp2_with fail
    exact ret_sh rfl rfl (heap_alloc_new _ _) rfl rfl ⟨_, rfl, World.ownsRow_nil _ _ _ _, below_a1 _ _⟩
set_option maxRecDepth 10000 in
theorem shape_range {w : World} (n : Nat) {v : Value} {C : List Int} (hv : Nl w v C) (hn : n ≤ 16) (hC : C.length = 2 * n + 3) (hr : nth C 2 < 0 ∨ (n : Int) < nth C 2) : Calls Try.prog 8 #[.int .i64 n, v] w (ShE w (0, [], 12)) := by
  have HC : Hid (∀ w : World, Calls Try.prog 15 #[.int .i64 n] w fun e w' => e = .returned (.bool true) ∧ w' = w) := fun w => by
    have := cap_any w (n : Int)
    have e1 : (decide (0 ≤ (n : Int)) && decide ((n : Int) ≤ 16)) = true := by simp; omega
    rw [e1] at this
    exact this
  have HZ : Hid (∀ w : World, Calls Try.prog 22 #[.int .i64 n] w fun e w' => e = .returned (.int .i64 (C.length : Int)) ∧ w' = w) := fun w => by
    have := size_any w (n : Int)
    have e1 : sizeV (n : Int) = (C.length : Int) := by unfold sizeV; rw [if_pos (by omega)]; omega
    rw [e1] at this
    exact this
  obtain ⟨a, cap, rfl⟩ := nl_slice hv
  obtain ⟨_, _, hcell⟩ := nl_cells hv
  obtain ⟨x, rfl, hxb, hx⟩ := hcell 2 (by omega)
  have hlt : 2 < C.length := by omega
  rw [add_pos' _ _ (by decide)] at hx
  clear hv hcell
  generalize nth C 2 = p at *
  by_cases h0 : p < 0
  · have d1 : decide (p < 0) = true := by simpa using h0
    clear hr hC
    go_enter Try.func8, Try.ntmps8
    go_wp2_with fail
    refine (HC.out _).mono ?_
    rintro e w1 ⟨rfl, rfl⟩
    go_wp2_with fail
    refine (HZ.out _).mono ?_
    rintro e w1 ⟨rfl, rfl⟩
    go_wp2_with fail
    exact ret_sh rfl rfl (heap_alloc_new _ _) rfl rfl ⟨_, rfl, World.ownsRow_nil _ _ _ _, below_a1 _ _⟩
  · have d1 : decide (p < 0) = false := by simpa using h0
    have d2 : decide ((n : Int) < p) = true := by simpa using (by omega : (n : Int) < p)
    clear hr hC
    go_enter Try.func8, Try.ntmps8
    go_wp2_with fail
    refine (HC.out _).mono ?_
    rintro e w1 ⟨rfl, rfl⟩
    go_wp2_with fail
    refine (HZ.out _).mono ?_
    rintro e w1 ⟨rfl, rfl⟩
    go_wp2_with fail
    exact ret_sh rfl rfl (heap_alloc_new _ _) rfl rfl ⟨_, rfl, World.ownsRow_nil _ _ _ _, below_a1 _ _⟩
abbrev sh0 : Obj := .cells #[.int .i64 0, .slice none 0 0, .slice none 0 0] 35 (0, 0)
theorem nil_nl (w : World) : Nl w (.slice none 0 0) [] := Nl.of_own (base := 0) (World.ownsRow_nil _ _ _ _) (by simp) (by simp)
set_option maxRecDepth 10000 in
set_option maxHeartbeats 1000000 in
theorem shape_used {w : World} (n u : Nat) {v : Value} {C : List Int} (hv : Nl w v C) (hn : n ≤ 16) (hC : C.length = 2 * n + 3) (hu : u ≤ n) (h2 : nth C 2 = u) : Calls Try.prog 8 #[.int .i64 n, v] w (ShE w (outU C (hpV C u))) := by
  have HC : Hid (∀ w : World, Calls Try.prog 15 #[.int .i64 n] w fun e w' => e = .returned (.bool true) ∧ w' = w) := fun w => by
    have := cap_any w (n : Int)
    have e1 : (decide (0 ≤ (n : Int)) && decide ((n : Int) ≤ 16)) = true := by simp; omega
    rw [e1] at this
    exact this
  have HZ : Hid (∀ w : World, Calls Try.prog 22 #[.int .i64 n] w fun e w' => e = .returned (.int .i64 (C.length : Int)) ∧ w' = w) := fun w => by
    have := size_any w (n : Int)
    have e1 : sizeV (n : Int) = (C.length : Int) := by unfold sizeV; rw [if_pos (by omega)]; omega
    rw [e1] at this
    exact this
  have HNV : Hid (∀ w' : World, Below w.heap.size w w' → Nl w' v C) := fun w' hb => hv.later hb (Nat.le_refl _)
  have HN0 : Hid (∀ w' : World, Below w.heap.size w w' → Calls Try.prog 23 #[.int .i64 0, .int .i64 (u : Int), v] w' (NfP w' (nf C u u (nth C 0)))) := fun w' hb => nodes_any (c := 0) (HNV.out w' hb) hC (by omega) hu hn
  have HN1 : Hid (∀ w' : World, Below w.heap.size w w' → Calls Try.prog 23 #[.int .i64 1, .int .i64 (u : Int), v] w' (NfP w' (nf C u u (nth C 1)))) := fun w' hb => nodes_any (c := 1) (HNV.out w' hb) hC (by omega) hu hn
  have HKY : Hid (∀ (w' : World) (vn : Value) (L : List Nat), Below w.heap.size w w' → Nl w' vn (its L) → (∀ i ∈ L, 1 ≤ i ∧ i ≤ u) → L.length ≤ 16 → Calls Try.prog 24 #[vn, v] w' fun e w'' => ∃ v', e = .returned v' ∧ w''.ownsRow w'.heap.size 2 1 v' L.length (numC (kys C L)) ∧ Below w'.heap.size w' w'') := fun w' vn L hb hL hr hl => keys_any (HNV.out w' hb) hC hn hL (fun i hi => by have := hr i hi; omega) (by omega)
  have HNK : Hid (∀ (w' : World) (B : Nat) (vk : Value) (L : List Nat), w'.ownsRow B 2 1 vk L.length (numC (kys C L)) → (∀ i ∈ L, 1 ≤ i ∧ i ≤ u) → L.length ≤ 16 → Nl w' vk (kys C L)) := fun w' B vk L h hr hl => nl_keys h hC hv.w64 (fun i hi => by have := hr i hi; omega) (by omega)
  have HSM : Hid (∀ c L, nf C u u (nth C c) = some L → (∀ i ∈ L, 1 ≤ i ∧ i ≤ u) ∧ L.length ≤ 16) := fun c L h => ⟨(nf_some h).2.2, by have := (nf_some h).2.1; omega⟩
  have HNI : Hid (∀ (w' : World) (B : Nat) (vn : Value) (L : List Nat), w'.ownsRow B 3 1 vn L.length (inC L) → (∀ i ∈ L, 1 ≤ i ∧ i ≤ u) → L.length ≤ 16 → Nl w' vn (its L)) := fun w' B vn L h hr hl => nl_int h (by omega) (fun i hi => by have := hr i hi; omega)
  obtain ⟨a, cap, rfl⟩ := nl_slice hv
  obtain ⟨_, _, hcell⟩ := nl_cells hv
  obtain ⟨x, rfl, hxb, hx⟩ := hcell 2 (by omega)
  have hlt : 2 < C.length := by omega
  rw [add_pos' _ _ (by decide), h2] at hx
  have d1 : decide ((u : Int) < 0) = false := by simp
  have d2 : decide ((n : Int) < (u : Int)) = false := by simpa using hu
  have d2n : decide (n < u) = false := by simpa using hu
  obtain ⟨o, ho⟩ : ∃ o, hpV C u = o := ⟨_, rfl⟩
  have HO : Hid (hpV C u = o) := ho
  rw [ho]
  clear hv hcell h2 hC ho
  go_enter Try.func8, Try.ntmps8
  go_wp2_with fail
  refine (HC.out _).mono ?_
  rintro e w1 ⟨rfl, rfl⟩
  go_wp2_with fail
  refine (HZ.out _).mono ?_
  rintro e w1 ⟨rfl, rfl⟩
  go_wp2_with fail
  refine (HN0.out _ (below_a1 _ _)).mono ?_
  rintro e w1 ⟨hb1, ht1⟩
  have HF1 : Hid (Below (w.alloc sh0).heap.size (w.alloc sh0) w1) := hb1
  clear hb1 hx d1 d2 d2n HC HZ HN0
  rcases ht1 with ⟨ht1, rfl⟩ | ⟨L, vl, ht1, rfl, hown1⟩
  · have HV : Hid (o = none) := by rw [Hid, ← HO.out]; unfold hpV; rw [ht1]
    have HK1 : Hid (∀ w' : World, Below w.heap.size w w' → Calls Try.prog 24 #[.slice none 0 0, .slice (some x) C.length cap] w' fun e w'' => ∃ v', e = .returned v' ∧ Below w'.heap.size w' w'') := fun w' hb => (HKY.out w' _ [] hb (nil_nl w') (by simp) (by simp)).mono (fun e w'' ⟨v', h1, _, h3⟩ => ⟨v', h1, h3⟩)
    clear ht1 HO HKY
    go_wp2_with fail
    refine (HN1.out _ (below_next HF1.out)).mono ?_
    rintro e w2 ⟨hb2, ht2⟩
    have HF2 : Hid (Below (w.alloc sh0).heap.size (w.alloc sh0) w2) := below_then HF1.out hb2
    obtain ⟨vf, bf, rfl⟩ : ∃ vf bf, e = .returned (.tuple #[vf, .bool bf]) := by
      rcases ht2 with ⟨_, rfl⟩ | ⟨_, _, _, rfl, _⟩
      · exact ⟨_, _, rfl⟩
      · exact ⟨_, _, rfl⟩
    clear ht2 hb2 HF1
    go_wp2_with fail
    refine (HK1.out _ (below_next HF2.out)).mono ?_
    rintro e w3 ⟨v3, rfl, hb3⟩
    have HF3 : Hid (Below (w.alloc sh0).heap.size (w.alloc sh0) w3) := below_then HF2.out hb3
    clear hb3 HF2
    have hrow : w3.heap[w.heap.size]? = some sh0 := row_next HF3.out
    have hst := store_sh (P := Try.prog) hrow rfl (shC_size 0 (.slice none 0 0) (.slice none 0 0)) (shC_one 0 _ (World.ownsRow_nil w3 0 _ _))
    have HG : Hid (w3.heap[w.heap.size]? = some sh0) := hrow
    have hpk : #[.int .i64 0, .slice none 0 0, .slice none 0 0] = shC 0 (.slice none 0 0) (.slice none 0 0) := rfl
    have HKS : Hid ((shC 0 (.slice none 0 0) (.slice none 0 0)).size = 3) := rfl
    generalize hcs : shC 0 (.slice none 0 0) (.slice none 0 0) = cs at hst hpk HKS
    have HCS : Hid (shC 0 (.slice none 0 0) (.slice none 0 0) = cs) := hcs
    clear hrow hcs
    go_wp2_with fail
    refine ret_sh rfl rfl (setRow_heap _ _ _ _ _ _ HG.out) HKS.out rfl ?_
    rw [HV.out]
    exact ⟨_, by rw [← HCS.out]; rfl, World.ownsRow_nil _ _ _ _, below_row (below_next HF3.out) _ (Nat.le_refl _) _⟩
  · have HL : Hid (Nl w1 vl (its L) ∧ (∀ i ∈ L, 1 ≤ i ∧ i ≤ u) ∧ L.length ≤ 16) := ⟨HNI.out _ _ _ _ hown1 (HSM.out 0 L ht1).1 (HSM.out 0 L ht1).2, HSM.out 0 L ht1⟩
    have HT1 : Hid (nf C u u (nth C 0) = some L) := ht1
    clear ht1 hown1
    go_wp2_with fail
    refine (HN1.out _ (below_next HF1.out)).mono ?_
    rintro e w2 ⟨hb2, ht2⟩
    have HF2 : Hid (Below (w.alloc sh0).heap.size (w.alloc sh0) w2) := below_then HF1.out hb2
    have HL2 : Hid (Nl w2 vl (its L)) := HL.out.1.later hb2 (Nat.le_refl _)
    have HSV : Hid (w1.heap.size ≤ w2.heap.size) := hb2.size
    clear hb2 HN1
    rcases ht2 with ⟨ht2, rfl⟩ | ⟨Fr, vf, ht2, rfl, hown2⟩
    · have HV : Hid (o = none) := by rw [Hid, ← HO.out]; unfold hpV; rw [HT1.out, ht2]
      clear ht2 HO
      go_wp2_with fail
      refine (HKY.out _ vl L (below_next HF2.out) HL2.out HL.out.2.1 HL.out.2.2).mono ?_
      rintro e w3 ⟨vk, rfl, hok, hb3⟩
      have HF3 : Hid (Below (w.alloc sh0).heap.size (w.alloc sh0) w3) := below_then HF2.out hb3
      clear hb3 HF2 hok
      have hrow : w3.heap[w.heap.size]? = some sh0 := row_next HF3.out
      have hst := store_sh (P := Try.prog) hrow rfl (shC_size 0 (.slice none 0 0) (.slice none 0 0)) (shC_one 0 _ (World.ownsRow_nil w3 0 _ _))
      have HG : Hid (w3.heap[w.heap.size]? = some sh0) := hrow
      have hpk : #[.int .i64 0, .slice none 0 0, .slice none 0 0] = shC 0 (.slice none 0 0) (.slice none 0 0) := rfl
      have HKS : Hid ((shC 0 (.slice none 0 0) (.slice none 0 0)).size = 3) := rfl
      generalize hcs : shC 0 (.slice none 0 0) (.slice none 0 0) = cs at hst hpk HKS
      have HCS : Hid (shC 0 (.slice none 0 0) (.slice none 0 0) = cs) := hcs
      clear hrow hcs
      go_wp2_with fail
      refine ret_sh rfl rfl (setRow_heap _ _ _ _ _ _ HG.out) HKS.out rfl ?_
      rw [HV.out]
      exact ⟨_, by rw [← HCS.out]; rfl, World.ownsRow_nil _ _ _ _, below_row (below_next HF3.out) _ (Nat.le_refl _) _⟩
    · have HR : Hid (Nl w2 vf (its Fr) ∧ (∀ i ∈ Fr, 1 ≤ i ∧ i ≤ u) ∧ Fr.length ≤ 16) := ⟨HNI.out _ _ _ _ hown2 (HSM.out 1 Fr ht2).1 (HSM.out 1 Fr ht2).2, HSM.out 1 Fr ht2⟩
      have HO2 : Hid ((if srt (its L ++ its Fr) = upto u then (if (kys C L).Pairwise (· < ·) then some L else none) else none) = o) := by rw [Hid, ← HO.out]; unfold hpV; rw [HT1.out, ht2]
      clear ht2 HO hown2
      go_wp2_with fail
      refine (HKY.out _ vl L (below_next HF2.out) HL2.out HL.out.2.1 HL.out.2.2).mono ?_
      rintro e w3 ⟨vk, rfl, hok, hb3⟩
      have HF3 : Hid (Below (w.alloc sh0).heap.size (w.alloc sh0) w3) := below_then HF2.out hb3
      have HOK3 : Hid (w3.ownsRow w.heap.size 2 1 vk L.length (numC (kys C L))) := own_low hok (below_next HF2.out).size
      have HA : Hid (Calls Try.prog 25 #[.int .i64 (u : Int), vl, vf] w3 fun e w' => e = .returned (.bool (decide (srt (its L ++ its Fr) = upto u))) ∧ Below w3.heap.size w3 w') := all_any (HL2.out.later hb3 (Nat.le_refl _)) (HR.out.1.later hb3 (Nat.le_refl _)) (by have := HL.out.2.2; simp; omega) (by have := HR.out.2.2; simp; omega)
      clear hb3 HF2 hok
      by_cases h1 : srt (its L ++ its Fr) = upto u
      · rw [decide_eq_true h1] at HA
        have HO3 : Hid ((if (kys C L).Pairwise (· < ·) then some L else none) = o) := by have := HO2.out; rw [if_pos h1] at this; exact this
        clear h1 HO2
        go_wp2_with fail
        refine HA.out.mono ?_
        rintro e w4 ⟨rfl, hb4⟩
        have HF4 : Hid (Below (w.alloc sh0).heap.size (w.alloc sh0) w4) := below_then HF3.out hb4
        have HOK4 : Hid (w4.ownsRow w.heap.size 2 1 vk L.length (numC (kys C L))) := own_keep HOK3.out (Keep.of_below hb4 []) (fun b _ => by simp)
        have HRI : Hid (Calls Try.prog 26 #[vk] w4 fun e w' => e = .returned (.bool (decide ((kys C L).Pairwise (· < ·)))) ∧ Below w4.heap.size w4 w') := rise_any (HNK.out _ _ _ _ HOK4.out HL.out.2.1 HL.out.2.2) (by rw [kys_len]; have := HL.out.2.2; omega)
        clear hb4 HF3 HA
        by_cases h2 : (kys C L).Pairwise (· < ·)
        · rw [decide_eq_true h2] at HRI
          have HV : Hid (o = some L) := by have := HO3.out; rw [if_pos h2] at this; exact this.symm
          clear h2 HO3
          go_wp2_with fail
          refine HRI.out.mono ?_
          rintro e w5 ⟨rfl, hb5⟩
          have HF5 : Hid (Below (w.alloc sh0).heap.size (w.alloc sh0) w5) := below_then HF4.out hb5
          have HOK : Hid (w5.ownsRow w.heap.size 2 1 vk L.length (numC (kys C L))) := own_keep HOK4.out (Keep.of_below hb5 []) (fun b _ => by simp)
          clear hb5 HF4 HRI HOK4 HOK3
          have hrow : w5.heap[w.heap.size]? = some sh0 := row_next HF5.out
          have hst := store_sh (P := Try.prog) hrow rfl (shC_size 4 vk (.slice none 0 0)) (shC_one 4 vk HOK.out)
          have HG : Hid (w5.heap[w.heap.size]? = some sh0) := hrow
          have HKS : Hid ((shC 4 vk (.slice none 0 0)).size = 3) := rfl
          obtain ⟨ka, kc, rfl⟩ := own_slice HOK.out
          have hpk : #[.int .i64 4, .slice ka L.length kc, .slice none 0 0] = shC 4 (.slice ka L.length kc) (.slice none 0 0) := rfl
          generalize hcs : shC 4 (.slice ka L.length kc) (.slice none 0 0) = cs at hst hpk HKS
          have HCS : Hid (shC 4 (.slice ka L.length kc) (.slice none 0 0) = cs) := hcs
          clear hrow hcs
          go_wp2_with fail
          refine ret_sh rfl rfl (setRow_heap _ _ _ _ _ _ HG.out) HKS.out rfl ?_
          rw [HV.out]
          refine ⟨_, by rw [← HCS.out]; rfl, ?_, below_row (below_next HF5.out) _ (Nat.le_refl _) _⟩
          show World.ownsRow _ _ _ _ _ (kys C L).length (numC (kys C L))
          rw [kys_len]
          exact own_keep HOK.out (Keep.row w5 w.heap.size cs) (fun b hb => by simp; exact fun e => own_ne HOK.out HG.out (by decide) (by rw [hb, e]))
        · rw [decide_eq_false h2] at HRI
          have HV : Hid (o = none) := by have := HO3.out; rw [if_neg h2] at this; exact this.symm
          clear h2 HO3
          go_wp2_with fail
          refine HRI.out.mono ?_
          rintro e w5 ⟨rfl, hb5⟩
          have HF5 : Hid (Below (w.alloc sh0).heap.size (w.alloc sh0) w5) := below_then HF4.out hb5
          clear hb5 HF4 HRI HOK4 HOK3
          have hrow : w5.heap[w.heap.size]? = some sh0 := row_next HF5.out
          have hst := store_sh (P := Try.prog) hrow rfl (shC_size 0 (.slice none 0 0) (.slice none 0 0)) (shC_one 0 _ (World.ownsRow_nil w5 0 _ _))
          have HG : Hid (w5.heap[w.heap.size]? = some sh0) := hrow
          have hpk : #[.int .i64 0, .slice none 0 0, .slice none 0 0] = shC 0 (.slice none 0 0) (.slice none 0 0) := rfl
          have HKS : Hid ((shC 0 (.slice none 0 0) (.slice none 0 0)).size = 3) := rfl
          generalize hcs : shC 0 (.slice none 0 0) (.slice none 0 0) = cs at hst hpk HKS
          have HCS : Hid (shC 0 (.slice none 0 0) (.slice none 0 0) = cs) := hcs
          clear hrow hcs
          go_wp2_with fail
          refine ret_sh rfl rfl (setRow_heap _ _ _ _ _ _ HG.out) HKS.out rfl ?_
          rw [HV.out]
          exact ⟨_, by rw [← HCS.out]; rfl, World.ownsRow_nil _ _ _ _, below_row (below_next HF5.out) _ (Nat.le_refl _) _⟩
      · rw [decide_eq_false h1] at HA
        have HV : Hid (o = none) := by have := HO2.out; rw [if_neg h1] at this; exact this.symm
        clear h1 HO2
        go_wp2_with fail
        refine HA.out.mono ?_
        rintro e w4 ⟨rfl, hb4⟩
        have HF4 : Hid (Below (w.alloc sh0).heap.size (w.alloc sh0) w4) := below_then HF3.out hb4
        clear hb4 HF3 HA HOK3
        have hrow : w4.heap[w.heap.size]? = some sh0 := row_next HF4.out
        have hst := store_sh (P := Try.prog) hrow rfl (shC_size 0 (.slice none 0 0) (.slice none 0 0)) (shC_one 0 _ (World.ownsRow_nil w4 0 _ _))
        have HG : Hid (w4.heap[w.heap.size]? = some sh0) := hrow
        have hpk : #[.int .i64 0, .slice none 0 0, .slice none 0 0] = shC 0 (.slice none 0 0) (.slice none 0 0) := rfl
        have HKS : Hid ((shC 0 (.slice none 0 0) (.slice none 0 0)).size = 3) := rfl
        generalize hcs : shC 0 (.slice none 0 0) (.slice none 0 0) = cs at hst hpk HKS
        have HCS : Hid (shC 0 (.slice none 0 0) (.slice none 0 0) = cs) := hcs
        clear hrow hcs
        go_wp2_with fail
        refine ret_sh rfl rfl (setRow_heap _ _ _ _ _ _ HG.out) HKS.out rfl ?_
        rw [HV.out]
        exact ⟨_, by rw [← HCS.out]; rfl, World.ownsRow_nil _ _ _ _, below_row (below_next HF4.out) _ (Nat.le_refl _) _⟩
theorem shape_any {w : World} (m : Int) {v : Value} {C : List Int} (hv : Nl w v C) : Calls Try.prog 8 #[.int .i64 m, v] w (ShE w (outS m C)) := by
  unfold outS
  split
  · rename_i hq
    obtain ⟨n, rfl, hn, hC⟩ := okS_of hq
    split
    · rename_i hr
      exact shape_range n hv hn hC hr
    · rename_i hr
      exact shape_used n (nth C 2).toNat hv hn hC (by omega) (by omega)
  · rename_i hq
    exact shape_arg m hv (by simpa using hq)
end Go.Proofs.Ytaffkcliepfcmaa.Ch
