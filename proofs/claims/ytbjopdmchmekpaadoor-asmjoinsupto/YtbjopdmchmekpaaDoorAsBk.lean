/- AsmBack, walked. -/
import Derived.Test.YtbjopdmchmekpaaDoorAsZ
import Derived.Test.YtbjopdmchmekpaaDoorAsG
namespace Go.Proofs.YtbjopdmchmekpaaDoor
open Go.ChangeShapes Go.WideShapes Go.ChangeAt Go.RowKit

theorem parse_back {s : ByteArray} {l : List (Int × Int)} (h : Prg s l) {w : World} (hT : TabE w) : Calls Tryd.prog 7 #[.string (S (prT l))] w fun e w' => e = .returned (.tuple #[.string s, .int .i64 0, .int .i64 0]) ∧ Below w.heap.size w w' := by
  have hl : (S (prT l)).data.toList = prT l := by simp [S]
  have hlen := prT_len h
  have hX : linesV ⟨[], [], 0, []⟩ ((S (prT l)).data.toList.length + 1) (S (prT l)).data.toList 0 = .ok (stN l l.length (l.length + 1)) := by
    rw [hl]
    have h0 : prT l = tlT l 0 := by unfold prT tlT txT finT; rw [List.drop_zero]
    have h1 := rd_all h l.length 0 0 (by omega)
    have h2 : stN l 0 0 = ⟨[], [], 0, []⟩ := by unfold stN; rw [pos_zero]; rfl
    have h3 : (txT l 0).length = 0 := rfl
    rw [h2, h3, Nat.add_zero] at h1
    rw [h0]
    exact h1
  have hY : resU (stN l l.length (l.length + 1)).labs (stN l l.length (l.length + 1)).us (stN l l.length (l.length + 1)).ops = .ok l := by
    have h4 := res_all h l.length 0 (by omega)
    unfold usF mixN at h4
    rw [List.drop_zero, List.drop_zero] at h4
    exact h4
  have h512 : l.length ≤ 512 := Nat.le_trans h.len h.small
  have hrun := parse_run (w := w) (S (prT l)) (.ok (stN l l.length (l.length + 1))) (fun st => putO st (resU st.labs st.us st.ops))
    (fun w0 Rb w' hb hr => by
      have := readLines_any (hT.later hb) (S (prT l)) (by rw [S_size]; omega) hr
      rw [hX] at this
      exact this)
    (fun st w0 Rb w' he hr => by
      obtain rfl : stN l l.length (l.length + 1) = st := by injection he
      exact resolve_any (stN_us h _ _ (Nat.le_refl _)) (stN_lab h _ _ (Nat.le_refl _)) (by show (opsN l l.length).length ≤ 512; rw [opsN_len]; exact h512) (by show (usN l l.length).length ≤ 512; have := usN_len l l.length; omega) hr)
    (fun w' v l' hb ho => enc_any (hT.later hb).1.1 ho)
    (fun st st2 he h2 => by
      obtain rfl : stN l l.length (l.length + 1) = st := by injection he
      have h2' : putO (stN l l.length (l.length + 1)) (resU (stN l l.length (l.length + 1)).labs (stN l l.length (l.length + 1)).us (stN l l.length (l.length + 1)).ops) = .ok st2 := h2
      clear h2
      rw [hY] at h2'
      have h2 := h2'
      simp only [putO, Except.ok.injEq] at h2
      rw [← h2]
      show l.length ≤ 1000
      omega)
  refine hrun.mono fun e w' ⟨he, hb⟩ => ⟨?_, hb⟩
  rw [he]
  have hd : l = (decV s).1 := by rw [h.dec]
  have hs : strOfNums (encV l).1 = s := by
    rw [hd, (enc_dec (s := s) (by rw [h.dec])).1]
    exact str_bl s
  unfold ansR
  simp only
  rw [hY]
  unfold putO ansY
  simp only
  rw [hs]
theorem wback (s : ByteArray) (hs : s.size ≤ maxLen) {w : World} (hT : TabE w) : Calls Tryd.prog 4 #[.string s] w fun e w' => e = .returned (.bool true) ∧ Below w.heap.size w w' := by
  have hs' : s.size ≤ 9223372036854775807 := by unfold maxLen at hs; omega
  have H1 : Hid (Calls Tryd.prog 9 #[.string s] w fun e w' => e = .returned (.tuple #[.string (S (prV s).1), .int .i64 (prV s).2]) ∧ Below w.heap.size w w') := print_any s hs' hT.1
  have H2 : Hid (∀ w', Calls Tryd.prog 10 #[.string s] w' fun e w'' => ∃ v, e = .returned (.tuple #[v, .int .i64 (decV s).2.1, .int .i64 (decV s).2.2]) ∧ Below w'.heap.size w' w'') := fun w' => (rdec_any s hs' (w := w')).mono (fun e w' ⟨v, h1, _, h2⟩ => ⟨v, h1, h2⟩)
  by_cases h : (decV s).2.1 = 0
  · have H3 : Hid (∀ w', Below w.heap.size w w' → Calls Tryd.prog 7 #[.string (S (prT (decV s).1))] w' fun e w'' => e = .returned (.tuple #[.string s, .int .i64 0, .int .i64 0]) ∧ Below w'.heap.size w' w'') := fun w' hb => parse_back (prg_of h) (hT.later hb)
    have e1 : prV s = (prT (decV s).1, 0) := by unfold prV; rw [if_pos h]
    rw [e1] at H1
    rw [h] at H2
    simp only at H1
    generalize S (prT (decV s).1) = T at *
    generalize (decV s).2.2 = z2 at *
    clear hs hT hs' e1 h
    go_enter Tryd.func4, Tryd.ntmps4
    go_wp2_with fail
    refine H1.out.mono ?_
    rintro e w1 ⟨rfl, hb1⟩
    go_wp2_with fail
    refine (H2.out _).mono ?_
    rintro e w2 ⟨v, rfl, hb2⟩
    go_wp2_with fail
    refine (H3.out _ (below_then hb1 hb2)).mono ?_
    rintro e w3 ⟨rfl, hb3⟩
    go_wp2
    go_ret
    exact ⟨by simp, below_then (below_then hb1 hb2) hb3⟩
  · have e1 : prV s = ([], (decV s).2.1) := by unfold prV; rw [if_neg h]
    have hz : ((decV s).2.1 == 0) = false := by simpa using h
    rw [e1] at H1
    simp only at H1
    have hS : S [] = ByteArray.empty := rfl
    rw [hS] at H1
    generalize (decV s).2.1 = z at *
    generalize (decV s).2.2 = z2 at *
    clear hs hT hs' e1 h hS
    go_enter Tryd.func4, Tryd.ntmps4
    go_wp2_with fail
    refine H1.out.mono ?_
    rintro e w1 ⟨rfl, hb1⟩
    go_wp2_with fail
    refine (H2.out _).mono ?_
    rintro e w2 ⟨v, rfl, hb2⟩
    go_wp2
    go_ret
    exact ⟨by simp, below_then hb1 hb2⟩
end Go.Proofs.YtbjopdmchmekpaaDoor
