/- What is meant by a call: the law's means, walked (printed by tools/chme.py). -/
import Derived.Test.YtaffkcliepfcmaaChCn
import Derived.Test.YtaffkcliepfcmaaCoN
import Derived.BigQuiet
import Derived.Deep.QuietTactic
namespace Go.Proofs.Ytaffkcliepfcmaa.Ch
open Go.ChangeShapes Go.WideShapes Go.ChangeAt Go.RowKit
attribute [local go_sem ↓] Go.wp_at_zero Go.wp_at_succ

def MnP (w : World) (vl : Value) (R : List Int × Int × Int) (e : Ending) (w' : World) : Prop :=
  ∃ v', e = .returned (.tuple #[v', .int .i64 R.2.1, .int .i64 R.2.2]) ∧ Below w.heap.size w w' ∧ Nl w' v' R.1 ∧ (v' = vl ∨ ∀ b m c, v' = .slice (some b) m c → w.heap.size ≤ b.block)
theorem fo_app (a : Int) (K : List Int) : foK a K ++ afK a K = K := List.takeWhile_append_dropWhile
theorem fo_le (a : Int) (K : List Int) : (foK a K).length ≤ K.length := by
  have := congrArg List.length (fo_app a K)
  simp only [List.length_append] at this
  omega
theorem fo_take (a : Int) (K : List Int) : K.take (foK a K).length = foK a K := by
  have h := List.take_left (l₁ := foK a K) (l₂ := afK a K)
  rwa [fo_app] at h
theorem fo_drop (a : Int) (K : List Int) : K.drop (foK a K).length = afK a K := by
  have h := List.drop_left (l₁ := foK a K) (l₂ := afK a K)
  rwa [fo_app] at h
theorem fo_lt {a : Int} : ∀ {K : List Int} {j : Nat}, j < (foK a K).length → j < K.length ∧ nth K j < a
  | [], j, h => by simp [foK] at h
  | x :: K, j, h => by
    by_cases hx : x < a
    · have e : foK a (x :: K) = x :: foK a K := by simp [foK, hx]
      rw [e] at h
      cases j with
      | zero => exact ⟨by simp, by simpa [nth] using hx⟩
      | succ j =>
        obtain ⟨h1, h2⟩ := fo_lt (K := K) (j := j) (by simpa using h)
        exact ⟨by simpa using h1, by simpa [nth] using h2⟩
    · have e : foK a (x :: K) = [] := by simp [foK, hx]
      rw [e] at h
      simp at h
theorem fo_stop {a : Int} : ∀ {K : List Int}, (foK a K).length < K.length → ¬ nth K (foK a K).length < a
  | [], h => by simp at h
  | x :: K, h => by
    by_cases hx : x < a
    · have e : foK a (x :: K) = x :: foK a K := by simp [foK, hx]
      rw [e] at h ⊢
      have := fo_stop (K := K) (by simpa using h)
      simpa [nth] using this
    · have e : foK a (x :: K) = [] := by simp [foK, hx]
      rw [e]
      simpa [nth] using hx
theorem drop_at {K : List Int} {j : Nat} (h : j < K.length) : K.drop j = nth K j :: K.drop (j + 1) := by
  rw [nth_at h]
  exact List.drop_eq_getElem_cons h
theorem th_no {a : Int} {K : List Int} (h : (foK a K).length = K.length) : thK a K = false := by
  unfold thK
  rw [← fo_drop, h]
  simp
theorem th_is {a : Int} {K : List Int} (h : (foK a K).length < K.length) : thK a K = (nth K (foK a K).length == a) := by
  unfold thK
  rw [← fo_drop, drop_at h]
  by_cases e : nth K (foK a K).length = a <;> simp [e]
theorem own_low {w : World} {B B' : Nat} {e : TypeId} {s : Nat} {v : Value} {n : Nat} {xs : List Value} (h : w.ownsRow B e s v n xs) (hb : B' ≤ B) : w.ownsRow B' e s v n xs := by
  obtain ⟨h1, h2⟩ := h
  refine ⟨h1, ?_⟩
  rcases h2 with h2 | ⟨g, cap, cur, h3, h4, h5⟩
  · exact Or.inl h2
  · exact Or.inr ⟨g, cap, cur, h3, Nat.le_trans hb h4, h5⟩
/-- What is laid so far: a list, and numbers of another from a place on. -/
def acc (B K : List Int) (s j : Nat) : List Int := B ++ (K.take j).drop s
theorem acc_0 (B K : List Int) (s : Nat) : acc B K s s = B := by simp [acc]
theorem acc_end (B K : List Int) (s : Nat) : acc B K s K.length = B ++ K.drop s := by simp [acc]
theorem acc_next {B K : List Int} {s j : Nat} (h1 : s ≤ j) (h2 : j < K.length) : acc B K s (j + 1) = acc B K s j ++ [nth K j] := by
  unfold acc
  rw [List.take_succ_eq_append_getElem h2, nth_at h2, List.drop_append_of_le_length (by simp; omega), List.append_assoc]
theorem acc_len {B K : List Int} {s j : Nat} (h2 : j ≤ K.length) : (acc B K s j).length = B.length + (j - s) := by
  unfold acc
  simp
  omega
theorem mn_new {w w' : World} {vl v : Value} {K : List Int} (hb : Below w.heap.size w w') (hn : w'.ownsRow w.heap.size 2 1 v K.length (numC K)) (hl : K.length ≤ 200) (hs : ∀ x ∈ K, Sx x) : MnP w vl (K, 0, 0) (.returned (.tuple #[v, .int .i64 0, .int .i64 0])) w' := by
  refine ⟨v, rfl, hb, Nl.of_own (l := K) hn (by omega) hs, Or.inr fun b m c e => ?_⟩
  rcases hn.2 with ⟨e1, _⟩ | ⟨g, cap, cur, e1, h4, _⟩
  · rw [e1] at e; cases e
  · rw [e1] at e
    injection e with e2
    injection e2 with e2
    rw [← e2]
    exact h4
theorem nl_take {w : World} {a : Option Addr} {cap k : Nat} {K : List Int} (h : Nl w (.slice a K.length cap) K) (hk : k ≤ K.length) : Nl w (.slice a k cap) (K.take k) := by
  obtain ⟨a', cap', hv, hm, hc1, hc2, hs, hl⟩ := h
  injection hv with e1 _ e3
  subst e1 e3
  have hkl : (K.take k).length = k := by simp; omega
  refine ⟨a, cap, by rw [hkl], by rw [hkl]; omega, by rw [hkl]; omega, hc2, fun x hx => hs x (List.mem_of_mem_take hx), ?_⟩
  rw [hkl]
  by_cases h0 : k = 0
  · exact Or.inl h0
  · obtain ⟨x, hx, hxb, hc⟩ := hl.resolve_left (by omega)
    refine Or.inr ⟨x, hx, hxb, fun i hi => ?_⟩
    rw [hc i (by omega)]
    have : nth (K.take k) i = nth K i := by simp [nth, hi]
    rw [this]
set_option maxRecDepth 100000 in
set_option maxHeartbeats 1000000 in
theorem means_one {w : World} {vl : Value} {K : List Int} {n : Nat} {call ak : Int} {xa : Addr} {acap : Nat} (hl : Nl w vl K) (hK : K.length ≤ 90) (hca : call = 1 ∨ call = 4 ∨ call = 6 ∨ call = 8) (hxa : xa.block < w.heap.size) (ha : w.cell? xa = some (.int .i64 ak)) (hs : Sx ak) :
    Calls Try.prog 13 #[vl, .int .i64 (n : Int), .int .i64 call, .slice (some xa) 1 acap] w (MnP w vl (meanV n call [ak] K)) := by
  have HLL : Hid (∀ w' : World, Below w.heap.size w w' → Nl w' vl K) := fun w' hb => hl.later hb (Nat.le_refl _)
  have HSK : Hid ((∀ x ∈ K, Sx x) ∧ Sx ak) := ⟨hl.w64, hs⟩
  obtain ⟨la, lcap, rfl⟩ := nl_slice hl
  obtain ⟨_, _, hcell⟩ := nl_cells hl
  obtain ⟨i0, hi, hz0, hz1, hz2⟩ := info_parts info_i64
  have HC : Hid (∀ i, i < K.length → ∃ x, la = some x ∧ x.block < w.heap.size ∧ w.cell? (x.add i) = some (.int .i64 (nth K i))) := hcell
  have HNUM : Hid (∀ w' : World, Below w.heap.size w w' → Calls Try.prog 10 #[.slice la (foK ak K).length lcap] w' fun e w'' => ∃ v', e = .returned v' ∧ w''.ownsRow w'.heap.size 2 1 v' (foK ak K).length (numC (foK ak K)) ∧ Below w'.heap.size w' w'') := fun w' hb => by have := numbers_any (nl_take (HLL.out w' hb) (fo_le ak K)); rw [fo_take] at this; exact this
  have hlcap : K.length ≤ lcap := by obtain ⟨_, _, e, _, h1, _⟩ := hl; injection e with _ _ e2; omega
  have HXA : Hid (xa.block < w.heap.size ∧ w.cell? xa = some (.int .i64 ak)) := ⟨hxa, ha⟩
  have HKL : Hid (K.length ≤ 90) := hK
  have HCA : Hid (call = 1 ∨ call = 4 ∨ call = 6 ∨ call = 8) := hca
  have hfc : (foK ak K).length ≤ lcap := Nat.le_trans (fo_le ak K) hlcap
  have hfk : (foK ak K).length ≤ K.length := fo_le ak K
  clear hl hcell hca hs
  go_enter Try.func13, Try.ntmps13
  go_wp2_with fail
  go_loopw [12] (fun kv wx => ∃ j : Nat, j ≤ (foK ak K).length ∧ kv = .int .i64 (j : Int) ∧ Below w.heap.size w wx) (fun kv _ => K.length - (intOf kv).toNat)
  case atStart => exact ⟨0, by omega, rfl, Below.refl _ _⟩
  case round =>
    obtain ⟨j, hj, rfl, hbel⟩ := hrel
    have HBR : Hid (Below w.heap.size w wr) := hbel
    have hsz : w.heap.size ≤ wr.heap.size := hbel.size
    have yA : wr.cell? xa = some (.int .i64 ak) := cell_later HBR.out HXA.out.1 HXA.out.2
    have yX : xa.block < wr.heap.size := Nat.lt_of_lt_of_le HXA.out.1 hsz
    clear hbel
    by_cases hlt : j < (foK ak K).length
    · obtain ⟨q1, q2⟩ := fo_lt hlt
      have d1 : decide ((j : Int) < (K.length : Int)) = true := by simp; omega
      have d2 : decide (nth K j < ak) = true := by simpa using q2
      obtain ⟨xk, hxk, hxb, hx⟩ := HC.out j q1
      subst hxk
      have z1 : wr.cell? (xk.add j) = some (.int .i64 (nth K j)) := cell_later HBR.out (by rw [add_block]; exact hxb) hx
      have HQ1 : Hid (j < K.length ∧ j < (foK ak K).length) := ⟨q1, hlt⟩
      generalize nth K j = c at *
      clear hx q2
      go_wp2_with fail
      go_quiet (fail)
      obtain ⟨w2, hww2⟩ : ∃ w2, w2 = wr.drewN nq := ⟨_, rfl⟩
      have HBw2 : Hid (Below w.heap.size w w2) := by rw [Hid, hww2]; exact below_drawn HBR.out _
      rw [← hww2]
      clear hww2
      go_wp2
      go_roundw
      case rel => exact ⟨j + 1, HQ1.out.2, by go_num, HBw2.out⟩
      case measure => have := HQ1.out.1; simp [intOf]; omega
    · obtain rfl : j = (foK ak K).length := by omega
      by_cases hp : (foK ak K).length < K.length
      · have d1 : decide (((foK ak K).length : Int) < (K.length : Int)) = true := by simp; omega
        have d2 : decide (nth K (foK ak K).length < ak) = false := by have := fo_stop hp; simpa using this
        obtain ⟨xk0, hxk0, hxb0, hx0⟩ := HC.out _ hp
        subst hxk0
        have z0 : wr.cell? (xk0.add (foK ak K).length) = some (.int .i64 (nth K (foK ak K).length)) := cell_later HBR.out (by rw [add_block]; exact hxb0) hx0
        go_wp2_with fail
        go_quiet (fail)
        obtain ⟨w2, hww2⟩ : ∃ w2, w2 = wr.drewN nq := ⟨_, rfl⟩
        have HBw2 : Hid (Below w.heap.size w w2) := by rw [Hid, hww2]; exact below_drawn HBR.out _
        rw [← hww2]
        clear hww2
        have yA2 : w2.cell? xa = some (.int .i64 ak) := cell_later HBw2.out HXA.out.1 HXA.out.2
        have yX2 : xa.block < w2.heap.size := Nat.lt_of_lt_of_le HXA.out.1 HBw2.out.size
        have z02 : w2.cell? (xk0.add (foK ak K).length) = some (.int .i64 (nth K (foK ak K).length)) := cell_later HBw2.out (by rw [add_block]; exact hxb0) hx0
        clear z0 yA yX HBR
        go_wp2_with fail
        go_quiet (fail)
        obtain ⟨w3, hww3⟩ : ∃ w3, w3 = w2.drewN nq := ⟨_, rfl⟩
        have HBw3 : Hid (Below w.heap.size w w3) := by rw [Hid, hww3]; exact below_drawn HBw2.out _
        rw [← hww3]
        clear hww3
        clear z02 yA2 yX2 hx0 hxb0
        go_wp2_with fail
        refine (HNUM.out _ HBw3.out).mono ?_
        rintro e w4 ⟨v4, rfl, hown4, hb4⟩
        have HB4 : Hid (Below w.heap.size w w4) := below_then HBw3.out hb4
        have HO4 : Hid (w4.ownsRow w.heap.size 2 1 v4 (foK ak K).length (numC (foK ak K))) := own_low hown4 (HBw3.out).size
        have hs4 : w.heap.size ≤ w4.heap.size := HB4.out.size
        have cA : w4.cell? xa = some (.int .i64 ak) := cell_later HB4.out HXA.out.1 HXA.out.2
        have xA : xa.block < w4.heap.size := Nat.lt_of_lt_of_le HXA.out.1 hs4
        clear hown4 hb4 HNUM
        have HTH : Hid (thK ak K = (nth K (foK ak K).length == ak)) := th_is hp
        rcases HCA.out with rfl | rfl | rfl | rfl
        · skip
          cases hth : (nth K (foK ak K).length == ak)
          · rw [hth] at HTH
            by_cases hfull : n ≤ K.length
            · have dF : decide ((n : Int) ≤ (K.length : Int)) = true := by simp; omega
              have HRS : Hid (meanV n 1 [ak] K = (K, 0, 2)) := by have : meanV n 1 [ak] K = (K, 0, 2) := (by simp [meanV, nth, HTH.out, hfull]); exact this
              go_wp2_with fail
              go_ret3
              rw [HRS.out]
              exact ⟨_, rfl, HB4.out, HLL.out _ HB4.out, Or.inl rfl⟩
            · have dF : decide ((n : Int) ≤ (K.length : Int)) = false := by simp; omega
              have dF2 : decide (n ≤ K.length) = false := by simpa using hfull
              have HRS : Hid (meanV n 1 [ak] K = (foK ak K ++ [ak] ++ K.drop (foK ak K).length, 0, 0)) := by have : meanV n 1 [ak] K = (foK ak K ++ [ak] ++ K.drop (foK ak K).length, 0, 0) := (by simp [meanV, nth, HTH.out, hfull, ← fo_drop]); exact this
              have HBL : Hid ((foK ak K ++ [ak]).length ≤ 100) := by have : (foK ak K ++ [ak]).length ≤ 100 := (by have := fo_le ak K; have := HKL.out; simp only [List.length_append, List.length_cons, List.length_nil]; omega); exact this
              have HSX : Hid (∀ x ∈ foK ak K ++ [ak] ++ K.drop (foK ak K).length, Sx x) := fun x hx => by
                rcases List.mem_append.1 hx with h | h
                · rcases List.mem_append.1 h with h | h
                  · rw [← fo_take] at h; exact HSK.out.1 x (List.mem_of_mem_take h)
                  · simp at h; rw [h]; exact HSK.out.2
                · exact HSK.out.1 x (List.mem_of_mem_drop h)
              have HSN : Hid ((foK ak K).length ≤ K.length) := fo_le ak K
              have hfl : (foK ak K).length ≤ 100 := by have := fo_le ak K; have := HKL.out; omega
              obtain ⟨va, vc, rfl⟩ := own_slice HO4.out
              go_wp2_with (at_builtin; refine list_lies_wide _ rfl _ _ 22 rfl w.heap.size 2 i0 _ 1 8 Try.underlying22 hi hz0 hz1 hz2 rfl (by decide) _ _ _ rfl (HO4.out.alloc _) ⟨w4.heap.size, 0, none⟩ 1 1 [.int .i64 ak] rfl rfl (World.news_of_block (cs := #[.int .i64 ak]) (t := 2) (fr := (0, 0)) (heap_alloc_new _ _)) (by intro u hu; simp at hu; subst hu; rfl) (by decide) (by unfold maxLen; omega) (by omega) (by simp; omega) _ rfl ?_)
              intro g cp w5 hown5 hgrow _ _
              have HO5 : Hid (w5.ownsRow w.heap.size 2 1 (.slice (some ⟨g, 0, none⟩) ((foK ak K).length + 1) cp) (foK ak K ++ [ak]).length (numC (foK ak K ++ [ak]))) := by rw [Hid, numC_snoc, List.length_append]; exact hown5
              have HB5 : Hid (Below w.heap.size w w5) := (below_alloc HB4.out _).grown hgrow (by simp; omega) (fun b hb => by have := own_block HO4.out b hb; omega)
              clear hown5 hgrow HO4 cA xA hs4
              go_wp2_with fail
              go_loopw [14, 15] (fun hv iv wx => ∃ j : Nat, (foK ak K).length ≤ j ∧ j ≤ K.length ∧ iv = .int .i64 (j : Int) ∧ wx.ownsRow w.heap.size 2 1 hv (acc (foK ak K ++ [ak]) K ((foK ak K).length) j).length (numC (acc (foK ak K ++ [ak]) K ((foK ak K).length) j)) ∧ Below w.heap.size w wx) (fun _ iv _ => K.length - (intOf iv).toNat)
              case atStart => exact ⟨(foK ak K).length, Nat.le_refl _, HSN.out, by go_num, by rw [acc_0]; exact HO5.out, HB5.out⟩
              case round =>
                obtain ⟨j, hj1, hj2, rfl, hown, hbel⟩ := hrel
                have HO : Hid (wr.ownsRow w.heap.size 2 1 u14 (acc (foK ak K ++ [ak]) K ((foK ak K).length) j).length (numC (acc (foK ak K ++ [ak]) K ((foK ak K).length) j))) := hown
                have HB : Hid (Below w.heap.size w wr) := hbel
                have hsz : w.heap.size ≤ wr.heap.size := hbel.size
                clear hown hbel
                by_cases hlt : j < K.length
                · have hjd : decide ((j : Int) < (K.length : Int)) = true := by simp; omega
                  obtain ⟨xk, hxk, hxb, hx⟩ := HC.out j hlt
                  have hxk1 : xk = xk0 := by injection hxk with e; exact e.symm
                  subst hxk1
                  have z1 : wr.cell? (xk.add j) = some (.int .i64 (nth K j)) := cell_later HB.out (by rw [add_block]; exact hxb) hx
                  have HAN : Hid (acc (foK ak K ++ [ak]) K ((foK ak K).length) (j + 1) = acc (foK ak K ++ [ak]) K ((foK ak K).length) j ++ [nth K j]) := acc_next hj1 hlt
                  have HAL : Hid ((acc (foK ak K ++ [ak]) K ((foK ak K).length) j).length ≤ 200) := by have : (acc (foK ak K ++ [ak]) K ((foK ak K).length) j).length ≤ 200 := (by rw [acc_len hj2]; have := HBL.out; have := HKL.out; omega); exact this
                  have hal := HAL.out
                  generalize acc (foK ak K ++ [ak]) K ((foK ak K).length) j = G at *
                  generalize nth K j = c at *
                  obtain ⟨va, vc, rfl⟩ := own_slice HO.out
                  clear hx
                  go_wp2_with (at_builtin; refine list_lies_wide _ rfl _ _ 22 rfl w.heap.size 2 i0 _ 1 8 Try.underlying22 hi hz0 hz1 hz2 rfl (by decide) _ _ _ rfl (HO.out.alloc _) ⟨wr.heap.size, 0, none⟩ 1 1 [.int .i64 c] rfl rfl (World.news_of_block (cs := #[.int .i64 c]) (t := 2) (fr := (0, 0)) (heap_alloc_new _ _)) (by intro u hu; simp at hu; subst hu; rfl) (by decide) (by unfold maxLen; omega) (by omega) (by simp; omega) _ rfl ?_)
                  intro g cp wn hown' hgrow _ _
                  have HO2 : Hid (wn.ownsRow w.heap.size 2 1 (.slice (some ⟨g, 0, none⟩) (G.length + 1) cp) (acc (foK ak K ++ [ak]) K ((foK ak K).length) (j + 1)).length (numC (acc (foK ak K ++ [ak]) K ((foK ak K).length) (j + 1)))) := by rw [Hid, HAN.out, numC_snoc, List.length_append]; exact hown'
                  have HB2 : Hid (Below w.heap.size w wn) := (below_alloc HB.out _).grown hgrow (by simp; omega) (fun b hb => by have := own_block HO.out b hb; omega)
                  clear hown' hgrow
                  go_wp2
                  go_roundw
                  case rel => exact ⟨j + 1, by omega, by omega, by go_num, HO2.out, HB2.out⟩
                  case measure => simp [intOf]; omega
                · obtain rfl : j = K.length := by omega
                  have HO2 : Hid (wr.ownsRow w.heap.size 2 1 u14 ((foK ak K ++ [ak]) ++ K.drop ((foK ak K).length)).length (numC ((foK ak K ++ [ak]) ++ K.drop ((foK ak K).length)))) := by have := HO.out; rw [acc_end] at this; exact this
                  clear HO
                  have hjd : decide ((K.length : Int) < (K.length : Int)) = false := by simp
                  go_wp2_with fail
                  go_ret3
                  rw [HRS.out]
                  exact mn_new HB.out HO2.out (by have := HBL.out; have := HKL.out; rw [List.length_append, List.length_drop]; omega) HSX.out
          · rw [hth] at HTH
            have HRS : Hid (meanV n 1 [ak] K = (K, 0, 3)) := by have : meanV n 1 [ak] K = (K, 0, 3) := (by simp [meanV, nth, HTH.out]); exact this
            go_wp2_with fail
            go_ret3
            rw [HRS.out]
            exact ⟨_, rfl, HB4.out, HLL.out _ HB4.out, Or.inl rfl⟩
        · skip
          cases hth : (nth K (foK ak K).length == ak)
          · rw [hth] at HTH
            have HRS : Hid (meanV n 4 [ak] K = (K, 0, 1)) := by have : meanV n 4 [ak] K = (K, 0, 1) := (by simp [meanV, nth, HTH.out]); exact this
            go_wp2_with fail
            go_ret3
            rw [HRS.out]
            exact ⟨_, rfl, HB4.out, HLL.out _ HB4.out, Or.inl rfl⟩
          · rw [hth] at HTH
            have HRS : Hid (meanV n 4 [ak] K = (foK ak K ++ K.drop ((foK ak K).length + 1), 0, 0)) := by have : meanV n 4 [ak] K = (foK ak K ++ K.drop ((foK ak K).length + 1), 0, 0) := (by simp [meanV, nth, HTH.out, ← fo_drop]); exact this
            have HBL : Hid ((foK ak K).length ≤ 100) := by have : (foK ak K).length ≤ 100 := (by have := fo_le ak K; have := HKL.out; omega); exact this
            have HSX : Hid (∀ x ∈ foK ak K ++ K.drop ((foK ak K).length + 1), Sx x) := fun x hx => by
              rcases List.mem_append.1 hx with h | h
              · rw [← fo_take] at h; exact HSK.out.1 x (List.mem_of_mem_take h)
              · exact HSK.out.1 x (List.mem_of_mem_drop h)
            have HSN : Hid ((foK ak K).length + 1 ≤ K.length) := hp
            have hfw : wrap64 (((foK ak K).length : Int) + 1) = (((foK ak K).length + 1 : Nat) : Int) := by have := HBL.out; unfold wrap64; omega
            clear cA xA hs4
            go_wp2_with fail
            go_loopw [14, 16] (fun hv iv wx => ∃ j : Nat, (foK ak K).length + 1 ≤ j ∧ j ≤ K.length ∧ iv = .int .i64 (j : Int) ∧ wx.ownsRow w.heap.size 2 1 hv (acc (foK ak K) K ((foK ak K).length + 1) j).length (numC (acc (foK ak K) K ((foK ak K).length + 1) j)) ∧ Below w.heap.size w wx) (fun _ iv _ => K.length - (intOf iv).toNat)
            case atStart => exact ⟨(foK ak K).length + 1, Nat.le_refl _, HSN.out, by go_num, by rw [acc_0]; exact HO4.out, HB4.out⟩
            case round =>
              obtain ⟨j, hj1, hj2, rfl, hown, hbel⟩ := hrel
              have HO : Hid (wr.ownsRow w.heap.size 2 1 u14 (acc (foK ak K) K ((foK ak K).length + 1) j).length (numC (acc (foK ak K) K ((foK ak K).length + 1) j))) := hown
              have HB : Hid (Below w.heap.size w wr) := hbel
              have hsz : w.heap.size ≤ wr.heap.size := hbel.size
              clear hown hbel
              by_cases hlt : j < K.length
              · have hjd : decide ((j : Int) < (K.length : Int)) = true := by simp; omega
                obtain ⟨xk, hxk, hxb, hx⟩ := HC.out j hlt
                have hxk1 : xk = xk0 := by injection hxk with e; exact e.symm
                subst hxk1
                have z1 : wr.cell? (xk.add j) = some (.int .i64 (nth K j)) := cell_later HB.out (by rw [add_block]; exact hxb) hx
                have HAN : Hid (acc (foK ak K) K ((foK ak K).length + 1) (j + 1) = acc (foK ak K) K ((foK ak K).length + 1) j ++ [nth K j]) := acc_next hj1 hlt
                have HAL : Hid ((acc (foK ak K) K ((foK ak K).length + 1) j).length ≤ 200) := by have : (acc (foK ak K) K ((foK ak K).length + 1) j).length ≤ 200 := (by rw [acc_len hj2]; have := HBL.out; have := HKL.out; omega); exact this
                have hal := HAL.out
                generalize acc (foK ak K) K ((foK ak K).length + 1) j = G at *
                generalize nth K j = c at *
                obtain ⟨va, vc, rfl⟩ := own_slice HO.out
                clear hx
                go_wp2_with (at_builtin; refine list_lies_wide _ rfl _ _ 22 rfl w.heap.size 2 i0 _ 1 8 Try.underlying22 hi hz0 hz1 hz2 rfl (by decide) _ _ _ rfl (HO.out.alloc _) ⟨wr.heap.size, 0, none⟩ 1 1 [.int .i64 c] rfl rfl (World.news_of_block (cs := #[.int .i64 c]) (t := 2) (fr := (0, 0)) (heap_alloc_new _ _)) (by intro u hu; simp at hu; subst hu; rfl) (by decide) (by unfold maxLen; omega) (by omega) (by simp; omega) _ rfl ?_)
                intro g cp wn hown' hgrow _ _
                have HO2 : Hid (wn.ownsRow w.heap.size 2 1 (.slice (some ⟨g, 0, none⟩) (G.length + 1) cp) (acc (foK ak K) K ((foK ak K).length + 1) (j + 1)).length (numC (acc (foK ak K) K ((foK ak K).length + 1) (j + 1)))) := by rw [Hid, HAN.out, numC_snoc, List.length_append]; exact hown'
                have HB2 : Hid (Below w.heap.size w wn) := (below_alloc HB.out _).grown hgrow (by simp; omega) (fun b hb => by have := own_block HO.out b hb; omega)
                clear hown' hgrow
                go_wp2
                go_roundw
                case rel => exact ⟨j + 1, by omega, by omega, by go_num, HO2.out, HB2.out⟩
                case measure => simp [intOf]; omega
              · obtain rfl : j = K.length := by omega
                have HO2 : Hid (wr.ownsRow w.heap.size 2 1 u14 ((foK ak K) ++ K.drop ((foK ak K).length + 1)).length (numC ((foK ak K) ++ K.drop ((foK ak K).length + 1)))) := by have := HO.out; rw [acc_end] at this; exact this
                clear HO
                have hjd : decide ((K.length : Int) < (K.length : Int)) = false := by simp
                go_wp2_with fail
                go_ret3
                rw [HRS.out]
                exact mn_new HB.out HO2.out (by have := HBL.out; have := HKL.out; rw [List.length_append, List.length_drop]; omega) HSX.out
        · skip
          cases hth : (nth K (foK ak K).length == ak)
          · rw [hth] at HTH
            have HRS : Hid (meanV n 6 [ak] K = (K, 0, 0)) := by have : meanV n 6 [ak] K = (K, 0, 0) := (by simp [meanV, nth, HTH.out]); exact this
            go_wp2_with fail
            go_ret3
            rw [HRS.out]
            exact ⟨_, rfl, HB4.out, HLL.out _ HB4.out, Or.inl rfl⟩
          · rw [hth] at HTH
            have HRS : Hid (meanV n 6 [ak] K = (K, 1, 0)) := by have : meanV n 6 [ak] K = (K, 1, 0) := (by simp [meanV, nth, HTH.out]); exact this
            go_wp2_with fail
            go_ret3
            rw [HRS.out]
            exact ⟨_, rfl, HB4.out, HLL.out _ HB4.out, Or.inl rfl⟩
        · skip
          cases hth : (nth K (foK ak K).length == ak)
          · rw [hth] at HTH
            have dE : (((foK ak K).length : Int) == (K.length : Int)) = false := by simp; omega
            have HRS : Hid (meanV n 8 [ak] K = (K, nth K (foK ak K).length, 0)) := by have : meanV n 8 [ak] K = (K, nth K (foK ak K).length, 0) := (by simp only [meanV, nth_one, HTH.out, ← fo_drop]; simp [drop_at hp, firK]); exact this
            obtain ⟨xk, hxk, hxb, hx⟩ := HC.out _ hp
            have hxk1 : xk = xk0 := by injection hxk with e; exact e.symm
            subst hxk1
            have z1 : w4.cell? (xk.add (foK ak K).length) = some (.int .i64 (nth K (foK ak K).length)) := cell_later HB4.out (by rw [add_block]; exact hxb) hx
            generalize nth K (foK ak K).length = z at *
            clear hx hth
            go_wp2_with fail
            go_quiet (fail)
            obtain ⟨w6, hww6⟩ : ∃ w6, w6 = w4.drewN nq := ⟨_, rfl⟩
            have HBw6 : Hid (Below w.heap.size w w6) := by rw [Hid, hww6]; exact below_drawn HB4.out _
            rw [← hww6]
            clear hww6
            go_wp2_with fail
            go_ret3
            rw [HRS.out]
            exact ⟨_, rfl, HBw6.out, HLL.out _ HBw6.out, Or.inl rfl⟩
          · rw [hth] at HTH
            by_cases he : (foK ak K).length + 1 = K.length
            · have dE : (((foK ak K).length : Int) + 1 == (K.length : Int)) = true := by simp; omega
              have hfw : wrap64 (((foK ak K).length : Int) + 1) = ((foK ak K).length : Int) + 1 := by have := HKL.out; unfold wrap64; omega
              have HRS : Hid (meanV n 8 [ak] K = (K, 0, 1)) := by have : meanV n 8 [ak] K = (K, 0, 1) := (by simp [meanV, nth, HTH.out, ← fo_drop, he, firK]); exact this
              go_wp2_with fail
              go_ret3
              rw [HRS.out]
              exact ⟨_, rfl, HB4.out, HLL.out _ HB4.out, Or.inl rfl⟩
            · have hlt2 : (foK ak K).length + 1 < K.length := by omega
              have dE : (((foK ak K).length : Int) + 1 == (K.length : Int)) = false := by simp; omega
              have dEn : ((foK ak K).length + 1 == K.length) = false := by simp; omega
              have hfw : wrap64 (((foK ak K).length : Int) + 1) = (((foK ak K).length + 1 : Nat) : Int) := by have := HKL.out; unfold wrap64; omega
              have HRS : Hid (meanV n 8 [ak] K = (K, nth K ((foK ak K).length + 1), 0)) := by have : meanV n 8 [ak] K = (K, nth K ((foK ak K).length + 1), 0) := (by simp only [meanV, nth_one, HTH.out, ← fo_drop]; simp [drop_at hlt2, firK]); exact this
              obtain ⟨xk, hxk, hxb, hx⟩ := HC.out _ hlt2
              have hxk1 : xk = xk0 := by injection hxk with e; exact e.symm
              subst hxk1
              rw [add_pos' _ _ (Nat.succ_pos _)] at hx
              have z1 : w4.cell? ⟨xk.block, xk.off + ((foK ak K).length + 1), none⟩ = some (.int .i64 (nth K ((foK ak K).length + 1))) := cell_later (a := ⟨xk.block, xk.off + ((foK ak K).length + 1), none⟩) HB4.out hxb hx
              generalize hz9 : nth K ((foK ak K).length + 1) = z at *
              clear hx hz9 hth
              go_wp2_with fail
              go_quiet (fail)
              obtain ⟨w6, hww6⟩ : ∃ w6, w6 = w4.drewN nq := ⟨_, rfl⟩
              have HBw6 : Hid (Below w.heap.size w w6) := by rw [Hid, hww6]; exact below_drawn HB4.out _
              rw [← hww6]
              clear hww6
              go_wp2_with fail
              go_ret3
              rw [HRS.out]
              exact ⟨_, rfl, HBw6.out, HLL.out _ HBw6.out, Or.inl rfl⟩
      · have HP : Hid ((foK ak K).length = K.length) := by have : (foK ak K).length = K.length := (by omega); exact this
        have d1 : decide (((foK ak K).length : Int) < (K.length : Int)) = false := by simp; omega
        have dE0 : Hid ((((foK ak K).length : Int) == (K.length : Int)) = true) := by have : (((foK ak K).length : Int) == (K.length : Int)) = true := (by simp; omega); exact this
        have d1n : decide ((foK ak K).length < K.length) = false := by simpa using hp
        clear hlt
        go_wp2_with fail
        go_quiet (fail)
        obtain ⟨w2, hww2⟩ : ∃ w2, w2 = wr.drewN nq := ⟨_, rfl⟩
        have HBw2 : Hid (Below w.heap.size w w2) := by rw [Hid, hww2]; exact below_drawn HBR.out _
        rw [← hww2]
        clear hww2
        clear yA yX HBR
        go_wp2_with fail
        go_quiet (fail)
        obtain ⟨w3, hww3⟩ : ∃ w3, w3 = w2.drewN nq := ⟨_, rfl⟩
        have HBw3 : Hid (Below w.heap.size w w3) := by rw [Hid, hww3]; exact below_drawn HBw2.out _
        rw [← hww3]
        clear hww3
        go_wp2_with fail
        refine (HNUM.out _ HBw3.out).mono ?_
        rintro e w4 ⟨v4, rfl, hown4, hb4⟩
        have HB4 : Hid (Below w.heap.size w w4) := below_then HBw3.out hb4
        have HO4 : Hid (w4.ownsRow w.heap.size 2 1 v4 (foK ak K).length (numC (foK ak K))) := own_low hown4 (HBw3.out).size
        have hs4 : w.heap.size ≤ w4.heap.size := HB4.out.size
        have cA : w4.cell? xa = some (.int .i64 ak) := cell_later HB4.out HXA.out.1 HXA.out.2
        have xA : xa.block < w4.heap.size := Nat.lt_of_lt_of_le HXA.out.1 hs4
        clear hown4 hb4 HNUM
        have HTH : Hid (thK ak K = false) := th_no HP.out
        rcases HCA.out with rfl | rfl | rfl | rfl
        · skip
          by_cases hfull : n ≤ K.length
          · have dF : decide ((n : Int) ≤ (K.length : Int)) = true := by simp; omega
            have HRS : Hid (meanV n 1 [ak] K = (K, 0, 2)) := by have : meanV n 1 [ak] K = (K, 0, 2) := (by simp [meanV, nth, HTH.out, hfull]); exact this
            go_wp2_with fail
            go_ret3
            rw [HRS.out]
            exact ⟨_, rfl, HB4.out, HLL.out _ HB4.out, Or.inl rfl⟩
          · have dF : decide ((n : Int) ≤ (K.length : Int)) = false := by simp; omega
            have dF2 : decide (n ≤ K.length) = false := by simpa using hfull
            have HRS : Hid (meanV n 1 [ak] K = (foK ak K ++ [ak] ++ K.drop (foK ak K).length, 0, 0)) := by have : meanV n 1 [ak] K = (foK ak K ++ [ak] ++ K.drop (foK ak K).length, 0, 0) := (by simp [meanV, nth, HTH.out, hfull, ← fo_drop]); exact this
            have HBL : Hid ((foK ak K ++ [ak]).length ≤ 100) := by have : (foK ak K ++ [ak]).length ≤ 100 := (by have := fo_le ak K; have := HKL.out; simp only [List.length_append, List.length_cons, List.length_nil]; omega); exact this
            have HSX : Hid (∀ x ∈ foK ak K ++ [ak] ++ K.drop (foK ak K).length, Sx x) := fun x hx => by
              rcases List.mem_append.1 hx with h | h
              · rcases List.mem_append.1 h with h | h
                · rw [← fo_take] at h; exact HSK.out.1 x (List.mem_of_mem_take h)
                · simp at h; rw [h]; exact HSK.out.2
              · exact HSK.out.1 x (List.mem_of_mem_drop h)
            have HSN : Hid ((foK ak K).length ≤ K.length) := fo_le ak K
            have hfl : (foK ak K).length ≤ 100 := by have := fo_le ak K; have := HKL.out; omega
            obtain ⟨va, vc, rfl⟩ := own_slice HO4.out
            go_wp2_with (at_builtin; refine list_lies_wide _ rfl _ _ 22 rfl w.heap.size 2 i0 _ 1 8 Try.underlying22 hi hz0 hz1 hz2 rfl (by decide) _ _ _ rfl (HO4.out.alloc _) ⟨w4.heap.size, 0, none⟩ 1 1 [.int .i64 ak] rfl rfl (World.news_of_block (cs := #[.int .i64 ak]) (t := 2) (fr := (0, 0)) (heap_alloc_new _ _)) (by intro u hu; simp at hu; subst hu; rfl) (by decide) (by unfold maxLen; omega) (by omega) (by simp; omega) _ rfl ?_)
            intro g cp w5 hown5 hgrow _ _
            have HO5 : Hid (w5.ownsRow w.heap.size 2 1 (.slice (some ⟨g, 0, none⟩) ((foK ak K).length + 1) cp) (foK ak K ++ [ak]).length (numC (foK ak K ++ [ak]))) := by rw [Hid, numC_snoc, List.length_append]; exact hown5
            have HB5 : Hid (Below w.heap.size w w5) := (below_alloc HB4.out _).grown hgrow (by simp; omega) (fun b hb => by have := own_block HO4.out b hb; omega)
            clear hown5 hgrow HO4 cA xA hs4
            go_wp2_with fail
            go_loopw [14, 15] (fun hv iv wx => ∃ j : Nat, (foK ak K).length ≤ j ∧ j ≤ K.length ∧ iv = .int .i64 (j : Int) ∧ wx.ownsRow w.heap.size 2 1 hv (acc (foK ak K ++ [ak]) K ((foK ak K).length) j).length (numC (acc (foK ak K ++ [ak]) K ((foK ak K).length) j)) ∧ Below w.heap.size w wx) (fun _ iv _ => K.length - (intOf iv).toNat)
            case atStart => exact ⟨(foK ak K).length, Nat.le_refl _, HSN.out, by go_num, by rw [acc_0]; exact HO5.out, HB5.out⟩
            case round =>
              obtain ⟨j, hj1, hj2, rfl, hown, hbel⟩ := hrel
              have HO : Hid (wr.ownsRow w.heap.size 2 1 u14 (acc (foK ak K ++ [ak]) K ((foK ak K).length) j).length (numC (acc (foK ak K ++ [ak]) K ((foK ak K).length) j))) := hown
              have HB : Hid (Below w.heap.size w wr) := hbel
              have hsz : w.heap.size ≤ wr.heap.size := hbel.size
              clear hown hbel
              by_cases hlt : j < K.length
              · exact absurd hlt (by have := HP.out; omega)
              · obtain rfl : j = K.length := by omega
                have HO2 : Hid (wr.ownsRow w.heap.size 2 1 u14 ((foK ak K ++ [ak]) ++ K.drop ((foK ak K).length)).length (numC ((foK ak K ++ [ak]) ++ K.drop ((foK ak K).length)))) := by have := HO.out; rw [acc_end] at this; exact this
                clear HO
                have hjd : decide ((K.length : Int) < (K.length : Int)) = false := by simp
                go_wp2_with fail
                go_ret3
                rw [HRS.out]
                exact mn_new HB.out HO2.out (by have := HBL.out; have := HKL.out; rw [List.length_append, List.length_drop]; omega) HSX.out
        · skip
          have HRS : Hid (meanV n 4 [ak] K = (K, 0, 1)) := by have : meanV n 4 [ak] K = (K, 0, 1) := (by simp [meanV, nth, HTH.out]); exact this
          go_wp2_with fail
          go_ret3
          rw [HRS.out]
          exact ⟨_, rfl, HB4.out, HLL.out _ HB4.out, Or.inl rfl⟩
        · skip
          have HRS : Hid (meanV n 6 [ak] K = (K, 0, 0)) := by have : meanV n 6 [ak] K = (K, 0, 0) := (by simp [meanV, nth, HTH.out]); exact this
          go_wp2_with fail
          go_ret3
          rw [HRS.out]
          exact ⟨_, rfl, HB4.out, HLL.out _ HB4.out, Or.inl rfl⟩
        · skip
          have dE := dE0.out
          have HRS : Hid (meanV n 8 [ak] K = (K, 0, 1)) := by have : meanV n 8 [ak] K = (K, 0, 1) := (by have hp := HP.out; simp [meanV, nth, HTH.out, ← fo_drop, hp, firK]); exact this
          go_wp2_with fail
          go_ret3
          rw [HRS.out]
          exact ⟨_, rfl, HB4.out, HLL.out _ HB4.out, Or.inl rfl⟩
end Go.Proofs.Ytaffkcliepfcmaa.Ch
