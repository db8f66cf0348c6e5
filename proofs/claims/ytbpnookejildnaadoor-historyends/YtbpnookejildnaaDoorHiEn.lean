/- The law of the cells in the end. -/
import Derived.Test.YtbpnookejildnaaDoorHiSh
namespace Go.Proofs.YtbpnookejildnaaDoor.Hi
open Go.ChangeShapes Go.WideShapes Go.ChangeAt Go.RowKit
set_option linter.unusedVariables false

def finA (H : List Ev) (n : Int) : List Int × Int := match readD H with
  | none => ([], 14)
  | some p => if 0 ≤ n ∧ n ≤ 1024 then ((List.range n.toNat).map fun i : Nat => finM p (i : Int), 0) else ([], 1)
theorem finA_len (H : List Ev) (n : Int) : (finA H n).1.length ≤ 1024 := by
  unfold finA
  split
  · simp
  · split
    · simp; omega
    · simp
theorem finC_iC (m : Int → Int) (n : Nat) : finC m n = iC ((List.range n).map fun i : Nat => m (i : Int)) := by
  unfold finC iC
  simp
theorem own_nil (w : World) (B e s : Nat) : w.ownsRow B e s (.slice none 0 0) 0 [] := ⟨by simp, Or.inl ⟨rfl, rfl⟩⟩
/-- What both answer. -/
def FinW (w : World) (H : List Ev) (n : Int) (e : Ending) (w' : World) : Prop := ∃ u, e = .returned (.tuple #[u, .int .i64 (finA H n).2]) ∧ w'.ownsRow w.heap.size 2 1 u (finA H n).1.length (iC (finA H n).1) ∧ Below w.heap.size w w'
theorem final_q {w : World} {v : Value} {H : List Ev} {a c : Addr} (h : EvL w v H) (he : ErrAt w a c) (n : Int) : Calls Tryd.prog 18 #[v, .int .i64 n] w (FinW w H n) := by
  refine (final_any h he (fun p hp => paok_of hp fun e he => ⟨(h.ok e he).2.1, (h.ok e he).2.2⟩) n).mono ?_
  intro e w' hq
  unfold FinQ at hq
  unfold FinW finA
  cases hr : readD H with
  | none =>
    rw [hr] at hq
    dsimp only at hq ⊢
    exact ⟨_, hq.1, own_nil _ _ _ _, hq.2⟩
  | some p =>
    rw [hr] at hq
    dsimp only at hq ⊢
    by_cases hn : 0 ≤ n ∧ n ≤ 1024
    · rw [if_pos hn] at hq ⊢
      obtain ⟨⟨u, he, ho⟩, hb⟩ := hq
      refine ⟨u, he, ?_, hb⟩
      rw [finC_iC] at ho
      simpa using ho
    · rw [if_neg hn] at hq ⊢
      exact ⟨_, hq.1, own_nil _ _ _ _, hq.2⟩
theorem rfinal_q {w : World} {v : Value} {H : List Ev} (h : EvL w v H) (n : Int) : Calls Tryd.prog 19 #[v, .int .i64 n] w (FinW w H n) := by
  refine (rfinal_any h n).mono ?_
  rintro e w' ⟨hq, hb⟩
  unfold FinW finA
  cases hr : readD H with
  | none =>
    have ha := allMay_none hr
    cases hq with
    | bad _ => exact ⟨_, rfl, own_nil _ _ _ _, hb⟩
    | arg h1 _ => rw [ha] at h1; cases h1
    | yes _ h1 _ _ => rw [ha] at h1; cases h1
  | some p =>
    have ha := allMay_some hr
    dsimp only
    cases hq with
    | bad h1 => rw [ha] at h1; cases h1
    | arg _ hn => rw [if_neg hn]; exact ⟨_, rfl, own_nil _ _ _ _, hb⟩
    | yes u _ hn ho =>
      rw [if_pos hn]
      refine ⟨u, rfl, ?_, hb⟩
      have e : finV H = finM p := by funext c; exact (final_doc hr h.len c).symm
      rw [e, finC_iC] at ho
      simpa using ho
theorem own_il64 {w : World} {base n : Nat} {v : Value} {l : List Int} (h : w.ownsRow base 2 1 v n (iC l)) (hn : l.length = n) (hl : l.length ≤ 17592186044416) : IL w v l := by
  subst hn
  rcases h.2 with ⟨e, h0⟩ | ⟨g, cap, cur, e, hb, hg, h1, h2, h3, h4⟩
  · exact ⟨none, 0, by rw [e, h0], hl, by omega, by omega, fun _ => rfl, Or.inl h0⟩
  · refine ⟨some ⟨g, 0, none⟩, cap, e, hl, h1, by unfold maxLen at h2; omega, (fun h => by cases h), Or.inr ⟨_, rfl, heap_lt hg, fun i hi => ?_⟩⟩
    subst e
    have ha : (⟨g, 0, none⟩ : Addr).add i = ⟨g, i, none⟩ := by
      unfold Addr.add
      split <;> simp_all
    rw [ha]
    exact own_cells h i _ (iC_get hi)
theorem own_len {w : World} {base e s n : Nat} {v : Value} {xs : List Value} (h : w.ownsRow base e s v n xs) : xs.length = n * s := h.1
theorem en_inc {k m : Nat} (h : k < m) (hm : m ≤ 1024) : wrap64 ((k : Int) + 1) = ((k + 1 : Nat) : Int) := by unfold wrap64; omega
theorem en_dec {k m : Nat} (h : k < m) : decide ((k : Int) < (m : Int)) = true := by simp; omega
theorem en_one {m : Nat} (hm : m ≤ 1024) : wrap64 ((m : Int) + 1) = ((m + 1 : Nat) : Int) := by unfold wrap64; omega
set_option maxRecDepth 1000000 in
set_option maxHeartbeats 8000000 in
theorem ends_walk {w : World} {v : Value} {H : List Ev} {n : Int} {a c : Addr} (h : EvL w v H) (he : ErrAt w a c) : Calls Tryd.prog 6 #[v, .int .i64 n] w fun e w' => e = .returned (.bool true) ∧ Below w.heap.size w w' := by
  obtain ⟨i0, hi0, hz0, hz1, hz2⟩ := info_parts info_i64h
  have HSH : Hid (Calls Tryd.prog 7 #[] w fun e w' => e = .returned (.bool true) ∧ Below w.heap.size w w') := shown_any he
  have HFA : Hid (∀ w', Below w.heap.size w w' → Calls Tryd.prog 18 #[v, .int .i64 n] w' (FinW w' H n)) := fun w' hb => final_q (h.later hb (Nat.le_refl _)) (he.later hb (Nat.le_refl _)) n
  have HRF : Hid (∀ w', Below w.heap.size w w' → Calls Tryd.prog 19 #[v, .int .i64 n] w' (FinW w' H n)) := fun w' hb => rfinal_q (h.later hb (Nat.le_refl _)) n
  have HML : Hid ((finA H n).1.length ≤ 1024) := finA_len H n
  unfold FinW at HFA HRF
  generalize (finA H n).2 = z at *
  generalize (finA H n).1 = l at *
  clear h he
  have HCE : Hid (∀ (w' : World) (va vb : Value), IL w' va l → IL w' vb l → Calls Tryd.prog 20 #[va, vb] w' fun e w'' => e = .returned (.bool true) ∧ Below w'.heap.size w' w'') := fun w' va vb h1 h2 => by
    have := cells_any h1 h2
    simpa using this
  go_enter Tryd.func6, Tryd.ntmps6
  go_wp2_with fail
  refine HSH.out.mono ?_
  rintro e x1 ⟨rfl, hb1⟩
  have HB1 : Hid (Below w.heap.size w x1) := hb1
  clear hb1
  go_wp2_with fail
  refine (HFA.out _ HB1.out).mono ?_
  rintro e x2 ⟨va, rfl, ho2, hb2⟩
  have HOA : Hid (x2.ownsRow x1.heap.size 2 1 va l.length (iC l)) := ho2
  have HB2 : Hid (Below x1.heap.size x1 x2) := hb2
  clear ho2 hb2
  go_wp2_with fail
  refine (HRF.out _ (below_then HB1.out HB2.out)).mono ?_
  rintro e x3 ⟨vb, rfl, ho3, hb3⟩
  have HOB : Hid (x3.ownsRow x2.heap.size 2 1 vb l.length (iC l)) := ho3
  have HB3 : Hid (Below x2.heap.size x2 x3) := hb3
  have HOA3 : Hid (x3.ownsRow x1.heap.size 2 1 va l.length (iC l)) := own_keep HOA.out (Keep.of_below HB3.out []) (by simp)
  clear ho3 hb3
  go_wp2_with fail
  refine (HCE.out _ _ _ (own_il64 HOA3.out rfl (by have := HML.out; omega)) (own_il64 HOB.out rfl (by have := HML.out; omega))).mono ?_
  rintro e x4 ⟨rfl, hb4⟩
  have HB4 : Hid (Below x3.heap.size x3 x4) := hb4
  have HOA4 : Hid (x4.ownsRow x1.heap.size 2 1 va l.length (iC l)) := own_keep HOA3.out (Keep.of_below HB4.out []) (by simp)
  have HOB4 : Hid (x4.ownsRow x2.heap.size 2 1 vb l.length (iC l)) := own_keep HOB.out (Keep.of_below HB4.out []) (by simp)
  have HAB : Hid (∀ b, va.ownBlock = some b → vb.ownBlock ≠ some b) := fun b h1 h2 => by
    have k1 := (own_block HOA.out b h1).2
    have k2 := (own_block HOB.out b h2).1
    omega
  have HB14 : Hid (Below x1.heap.size x1 x4) := below_then HB2.out (below_then HB3.out HB4.out)
  have HX14 : Hid (x1.heap.size ≤ x4.heap.size) := HB14.out.size
  obtain ⟨aa, ac, rfl⟩ := own_slice HOA.out
  obtain ⟨ba, bc, rfl⟩ := own_slice HOB.out
  generalize hm : l.length = m at *
  have HLM : Hid (l.length = m) := hm
  clear hb4 HOA HOA3 HOB hm
  go_wp2_with fail
  go_loopw [11] (fun iv wr => ∃ (i : Nat) (xs : List Value), iv = .int .i64 (i : Int) ∧ Hid (i ≤ m) ∧ Hid (wr.ownsRow x1.heap.size 2 1 (.slice aa m ac) m xs) ∧ Hid (Keep (Value.slice aa m ac).ownBlock.toList x4 wr)) (fun iv _ => m - (intOf iv).toNat)
  case atStart => exact ⟨0, _, rfl, Nat.zero_le _, HOA4.out, Keep.refl _ _⟩
  case round =>
    obtain ⟨i, xs, rfl, HI, HO, HK⟩ := hrel
    by_cases hlt : i < m
    · have hd := en_dec hlt
      have hw := en_inc hlt HML.out
      have HMS : Hid (m - (i + 1) < m - i) := by rw [Hid]; omega
      have HI1 : Hid (i + 1 ≤ m) := hlt
      have hiz : (i : Int) < (m : Int) := by omega
      obtain ⟨g, hg⟩ : ∃ g, aa = some ⟨g, 0, none⟩ := by
        obtain ⟨g, cp, e, _⟩ := own_some1 HO.out (by omega)
        simp at e
        exact ⟨g, e.1⟩
      subst hg
      obtain ⟨⟨u, hu⟩, hf⟩ := own_some HO.out i (by omega)
      obtain ⟨ys, hys⟩ := own_setCell HO.out i (.int .i64 (-9))
      have HY : Hid ((x4 : World) = x4) := rfl
      have HO5 : Hid ((wr.setCell ⟨g, i, none⟩ (.int .i64 (-9))).ownsRow x1.heap.size 2 1 (.slice (some ⟨g, 0, none⟩) m ac) m ys) := hys
      have HK5 : Hid (Keep (Value.slice (some ⟨g, 0, none⟩) m ac).ownBlock.toList x4 (wr.setCell ⟨g, i, none⟩ (.int .i64 (-9)))) := HK.out.setCell _ _ (Or.inl (by simp [Value.ownBlock]))
      clear hys hlt
      go_wp2_with fail
      try (go_region; go_wp2_with fail)
      go_roundw
      case rel => exact ⟨i + 1, ys, by first | rfl | rw [hw], HI1, HO5, HK5⟩
      case measure => first | (rw [hw]; simpa [intOf] using HMS.out) | (simpa [intOf] using HMS.out)
    · obtain rfl : i = m := by have := HI.out; omega
      have hd : decide ((i : Int) < (i : Int)) = false := by simp
      obtain ⟨x5, rfl⟩ : ∃ x5, x5 = wr := ⟨_, rfl⟩
      have hi4 : i ≤ 1024 := HML.out
      have hsz : x1.heap.size ≤ x5.heap.size := Nat.le_trans HX14.out HK.out.size
      have hxl : xs.length = i := by have := own_len HO.out; omega
      have HOE : Hid (∀ b, (Value.slice aa i ac).ownBlock = some b → x1.heap.size ≤ b) := fun b hb => (own_block HOA4.out b hb).1
      clear hlt
      go_wp2_with (at_builtin; refine list_lies_wide _ rfl _ _ 49 rfl x1.heap.size 2 i0 _ 1 8 Tryd.underlying49 hi0 hz0 hz1 hz2 rfl (by decide) _ _ _ rfl (HO.out.alloc _) ⟨x5.heap.size, 0, none⟩ 1 1 [.int .i64 1] rfl rfl (World.news_of_block (cs := #[.int .i64 1]) (t := 2) (fr := (0, 0)) (heap_alloc_new x5 _)) (by simp [Value.oneCell']) (by decide) (by unfold maxLen; omega) (by omega) (by simp; omega) _ rfl ?_)
      intro gg cap2 w6 hown1 hgrow hat hlt3
      have k : Keep (Value.slice aa i ac).ownBlock.toList x5 w6 := (((Keep.refl [] x5).alloc _).mono (by simp)).grown hgrow (fun b hb => Or.inl (by rw [hb]; simp))
      have K46 : Hid (Keep (Value.slice aa i ac).ownBlock.toList x4 w6) := HK.out.trans k (fun b hb => Or.inl hb)
      have HOB6 : Hid (w6.ownsRow x2.heap.size 2 1 (.slice ba i bc) i (iC l)) := own_keep HOB4.out K46.out (fun b hb hm => HAB.out b (by simpa using hm) hb)
      have HW6 : Hid (Below w.heap.size w w6) := HB1.out.trans ((HB14.out.trans (K46.out.below HX14.out (fun b hb => HOE.out b (by simpa using hb)))).mono HB1.out.size)
      clear k hown1 hgrow hat hlt3 hxl
      go_wp2_with fail
      refine (HFA.out _ HW6.out).mono ?_
      rintro e x7 ⟨vc, rfl, ho7, hb7⟩
      have HOC7 : Hid (x7.ownsRow w6.heap.size 2 1 vc i (iC l)) := ho7
      have HOB7 : Hid (x7.ownsRow x2.heap.size 2 1 (.slice ba i bc) i (iC l)) := own_keep HOB6.out (Keep.of_below hb7 []) (by simp)
      have HW7 : Hid (Below w.heap.size w x7) := below_then HW6.out hb7
      clear ho7 hb7
      go_wp2_with fail
      refine (HCE.out _ _ _ (own_il64 HOC7.out HLM.out (by have := HLM.out; omega)) (own_il64 HOB7.out HLM.out (by have := HLM.out; omega))).mono ?_
      rintro e x8 ⟨rfl, hb8⟩
      have HW8 : Hid (Below w.heap.size w x8) := below_then HW7.out hb8
      have hwi := en_one hi4
      have hzz : (z == z) = true := by simp
      clear hb8
      go_wp2_with fail
      go_ret
      exact ⟨rfl, by first | exact HW8.out | exact below_drawn HW8.out _⟩
end Go.Proofs.YtbpnookejildnaaDoor.Hi
