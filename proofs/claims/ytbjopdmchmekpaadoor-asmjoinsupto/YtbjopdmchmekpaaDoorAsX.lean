/- readLines of the program. -/
import Derived.Test.YtbjopdmchmekpaaDoorAsQ
namespace Go.Proofs.YtbjopdmchmekpaaDoor
open Go.ChangeShapes Go.WideShapes Go.ChangeAt Go.RowKit

/-- What is so of a reader. -/
def GoodR (st : PS) : Prop := st.size ≤ 512 ∧ st.ops.length ≤ st.size ∧ st.us.length ≤ st.ops.length
theorem GoodR.small {st : PS} (h : GoodR st) : SmallR st := ⟨h.1, Nat.le_trans h.2.1 h.1, Nat.le_trans h.2.2 (Nat.le_trans h.2.1 h.1)⟩
theorem more_good {st st' : PS} {p c : Nat} {v : Int} {nm : Option (List UInt8 × Nat)} {r : List (List UInt8 × Nat)} (h : moreV st p c v nm r = .ok st') (g : GoodR st) : GoodR st' ∧ st'.labs = st.labs := by
  cases r with
  | cons a r => cases h
  | nil =>
    simp only [moreV] at h
    split at h
    · cases h
    · rename_i hf
      cases h
      refine ⟨⟨by simp only [addI]; omega, ?_, ?_⟩, rfl⟩
      · simp only [addI, List.length_append, List.length_singleton]
        have := g.2.1
        omega
      · simp only [addI, List.length_append, List.length_singleton]
        have := g.2.2
        cases nm with
        | none => simp only [nuse, List.length_nil]; omega
        | some x => simp only [nuse, List.length_singleton]; omega
theorem inst_good {st st' : PS} {t : List (List UInt8 × Nat)} (h : instV st t = .ok st') (g : GoodR st) : GoodR st' ∧ st'.labs = st.labs := by
  cases t with
  | nil => cases h; exact ⟨g, rfl⟩
  | cons a t =>
    obtain ⟨x, p⟩ := a
    simp only [instV] at h
    split at h
    · cases h
    · split at h
      · exact more_good h g
      · split at h
        · cases h
        · split at h
          · exact more_good h g
          · split at h
            · cases h
            · split at h
              · exact more_good h g
              · cases h
theorem line_good {st st' : PS} {t : List (List UInt8 × Nat)} (h : lineV st t = .ok st') (g : GoodR st) : GoodR st' ∧ st'.labs.length ≤ st.labs.length + 1 := by
  cases t with
  | nil => cases h; exact ⟨g, Nat.le_succ _⟩
  | cons a t =>
    obtain ⟨x, p⟩ := a
    simp only [lineV] at h
    split at h
    · split at h
      · split at h
        · obtain ⟨h1, h2⟩ := inst_good h g
          exact ⟨h1, by rw [h2]; simp⟩
        · cases h
      · cases h
    · obtain ⟨h1, h2⟩ := inst_good h g
      exact ⟨h1, by rw [h2]; omega⟩
theorem cut_take (s : ByteArray) (p k : Nat) : cut s p (p + k) = (s.data.toList.drop p).take k := by
  unfold cut
  rw [List.drop_take]
  congr 1
  omega
theorem take_tw (l : List UInt8) (f : UInt8 → Bool) : l.take (l.takeWhile f).length = l.takeWhile f := (List.prefix_iff_eq_take.1 (List.takeWhile_prefix f)).symm
/-- A line of a text: where it ends, where its remark begins, what follows. -/
theorem line_at (s : ByteArray) (p : Nat) (hp : p ≤ s.size) : ∃ e c, p ≤ c ∧ c ≤ e ∧ e ≤ s.size ∧
    (((Lib.indexByte (cut s p s.size) 10 = -1 ∧ e = s.size)) ∨ (∃ n : Nat, Lib.indexByte (cut s p s.size) 10 = (n : Int) ∧ e = p + n)) ∧
    (cut s p e).takeWhile (· != 35) = cut s p c ∧
    ∀ st k, linesV st (k + 1) (s.data.toList.drop p) p = match lineV st (tokV (cut s p c) p) with
      | .error er => .error er
      | .ok st' => if e = s.size then .ok st' else linesV st' k (s.data.toList.drop (e + 1)) (e + 1) := by
  have hl : (s.data.toList.drop p).length = s.size - p := by rw [List.length_drop, ba_len]
  have hc0 : cut s p s.size = s.data.toList.drop p := by
    have := cut_take s p (s.size - p)
    rw [show p + (s.size - p) = s.size by omega] at this
    rw [this, List.take_of_length_le (by omega)]
  generalize hL : s.data.toList.drop p = L at *
  have h1 : (L.takeWhile (· != 10)).length ≤ L.length := (List.takeWhile_prefix _).length_le
  have h2 : ((L.takeWhile (· != 10)).takeWhile (· != 35)).length ≤ (L.takeWhile (· != 10)).length := (List.takeWhile_prefix _).length_le
  have hc : cut s p (p + ((L.takeWhile (· != 10)).takeWhile (· != 35)).length) = (L.takeWhile (· != 10)).takeWhile (· != 35) := by
    rw [cut_take, hL]
    have e1 : L.take ((L.takeWhile (· != 10)).takeWhile (· != 35)).length = (L.take (L.takeWhile (· != 10)).length).take ((L.takeWhile (· != 10)).takeWhile (· != 35)).length := by
      rw [List.take_take, Nat.min_eq_left h2]
    rw [e1, take_tw, take_tw]
  refine ⟨p + (L.takeWhile (· != 10)).length, p + ((L.takeWhile (· != 10)).takeWhile (· != 35)).length, by omega, by omega, by omega, ?_, ?_, ?_⟩
  · rw [hc0]
    rcases idx_tw L 10 with ⟨e1, e2, _⟩ | ⟨e1, _, _⟩
    · left
      refine ⟨e1, ?_⟩
      rw [e2]
      omega
    · exact Or.inr ⟨_, e1, rfl⟩
  · rw [cut_take, hc, hL, take_tw]
  · intro st k
    rw [hc, linesV]
    cases lineV st (tokV ((L.takeWhile (· != 10)).takeWhile (· != 35)) p) with
    | error er => rfl
    | ok st' =>
      simp only
      rcases idx_tw L 10 with ⟨_, e2, e3⟩ | ⟨_, e2, t, e3⟩
      · rw [e3, e2, if_pos (by omega)]
      · have ht : s.data.toList.drop (p + (L.takeWhile (· != 10)).length + 1) = t := by
          have h3 : L.drop (L.takeWhile (· != 10)).length = L.dropWhile (· != 10) := by
            have e := congrArg (List.drop (L.takeWhile (· != 10)).length) (List.takeWhile_append_dropWhile (p := (· != 10)) (l := L))
            rw [List.drop_left] at e
            exact e.symm
          rw [Nat.add_assoc, ← List.drop_drop, hL, ← List.drop_drop, h3, e3]
          rfl
        rw [e3, if_neg (by omega), ht]
theorem meas_at (n p e : Nat) (h : p ≤ e) (h2 : e ≤ n) : n + 1 - (intOf (.int .i64 ((e : Int) + 1))).toNat < n + 1 - (intOf (.int .i64 (p : Int))).toNat := by
  simp only [intOf]
  omega
set_option maxRecDepth 100000 in
set_option maxHeartbeats 4000000 in
theorem readLines_any {w0 : World} {Rb : Nat} (hT : TabE w0) (s : ByteArray) (hs : s.size ≤ 20000000) {w : World} (h : RdAt w0 Rb ⟨[], [], 0, []⟩ w) :
    Calls Tryd.prog 12 #[.pointer (some ⟨Rb, 0, none⟩), .string s] w fun r w' => EndR w0 Rb (linesV ⟨[], [], 0, []⟩ (s.data.toList.length + 1) s.data.toList 0) r w' := by
  have HRL : Hid (∀ st : PS, SmallR st → st.labs.length ≤ 20000000 → ∀ a e : Nat, a ≤ e → e ≤ s.size → ∀ w', RdAt w0 Rb st w' → Calls Tryd.prog 27 #[.pointer (some ⟨Rb, 0, none⟩), .agg #[.string s, .int .i64 (a : Int), .int .i64 (e : Int)]] w' fun r w'' => EndR w0 Rb (lineV st (tokV (cut s a e) a)) r w'') := fun st hsm hlb a e hae he w' h => readLine_any hT s hs a e hae he hsm hlb h
  have HIB : Hid (∀ (p : Nat) w, Calls Tryd.prog 25 #[.string (s.extract p s.size), .int .u8 10] w fun e w' => e = .returned (.int .i64 (Lib.indexByte (cut s p s.size) 10)) ∧ w' = w) := fun p w => by
    have := Tryd.strings_IndexByte (s.extract p s.size) 10 w
    rw [ext_S] at this ⊢
    exact this
  have HCT : Hid (∀ (p e : Nat) w, Calls Tryd.prog 26 #[.string (s.extract p e), .string ⟨#[35]⟩] w fun r w' => ∃ x y, r = .returned (.tuple #[.string (S ((cut s p e).takeWhile (· != 35))), .string x, .bool y]) ∧ Below w.heap.size w w') := fun p e w => by
    have := cut_hash (s.extract p e) (by rw [ByteArray.size_extract]; omega) w
    rw [ext_S] at this ⊢
    exact this
  have hln := ba_len s
  obtain ⟨R, hR⟩ : ∃ R, linesV ⟨[], [], 0, []⟩ (s.data.toList.length + 1) s.data.toList 0 = R := ⟨_, rfl⟩
  rw [hR]
  have HST : Hid (∃ (p : Nat) (st : PS) (k : Nat), (Value.int .i64 0) = .int .i64 (p : Int) ∧ p ≤ s.size + 1 ∧ RdAt w0 Rb st w ∧ GoodR st ∧ st.labs.length ≤ p ∧ ((p ≤ s.size ∧ s.size + 1 ≤ p + k ∧ linesV st k (s.data.toList.drop p) p = R) ∨ (p = s.size + 1 ∧ R = .ok st))) :=
    ⟨0, _, s.data.toList.length + 1, rfl, Nat.zero_le _, h, ⟨Nat.zero_le _, Nat.le_refl _, Nat.le_refl _⟩, Nat.le_refl _, Or.inl ⟨Nat.zero_le _, by omega, by rw [List.drop_zero]; exact hR⟩⟩
  clear h hR hln
  go_enter Tryd.func12, Tryd.ntmps12
  go_wp2_with fail
  go_loopw [4] (fun u wr => ∃ (p : Nat) (st : PS) (k : Nat), u = .int .i64 (p : Int) ∧ p ≤ s.size + 1 ∧ RdAt w0 Rb st wr ∧ GoodR st ∧ st.labs.length ≤ p ∧ ((p ≤ s.size ∧ s.size + 1 ≤ p + k ∧ linesV st k (s.data.toList.drop p) p = R) ∨ (p = s.size + 1 ∧ R = .ok st))) (fun u _ => s.size + 1 - (intOf u).toNat)
  case atStart => exact HST.out
  case round =>
    obtain ⟨p, st, k, rfl, hp1, hrd, hg, hlb, hor⟩ := hrel
    have HRD : Hid (RdAt w0 Rb st wr) := hrd
    have HG : Hid (GoodR st) := hg
    have hsm := hg.small
    clear hrd hg HST
    rcases hor with ⟨hp, hk, hV⟩ | ⟨hpe, hRo⟩
    · obtain ⟨k', rfl⟩ : ∃ k', k = k' + 1 := ⟨k - 1, by omega⟩
      obtain ⟨e, c, h1, h2, h3, hix, hcw, hstep⟩ := line_at s p hp
      have hV2 := hstep st k'
      rw [hV] at hV2
      have hd : decide ((p : Int) ≤ (s.size : Int)) = true := by simp; omega
      have p0 : (0 : Int) ≤ (p : Int) := Int.natCast_nonneg _
      have p1 : (p : Int) ≤ (s.size : Int) := by omega
      have p2 : (p : Int) ≤ (e : Int) := by omega
      have p3 : (e : Int) ≤ (s.size : Int) := by omega
      have h1e : p ≤ e := by omega
      have hcs : c ≤ s.size := by omega
      have hlb2 : st.labs.length ≤ 20000000 := by omega
      have HTC : Hid (S ((cut s p e).takeWhile (· != 35)) = S (cut s p c)) := by rw [Hid, hcw]
      have htl : wrap64 ((p : Int) + ((S (cut s p c)).size : Int)) = (c : Int) := by
        rw [S_size, cut_len s p c h1 hcs]
        unfold wrap64
        omega
      have HI := HIB.out p
      clear hstep hV hcw
      rcases hix with ⟨hi, he⟩ | ⟨n, hi, he⟩
      · rw [hi] at HI
        subst he
        have HI2 : Hid (∀ w, Calls Tryd.prog 25 #[.string (s.extract p s.size), .int .u8 10] w fun e w' => e = .returned (.int .i64 (-1)) ∧ w' = w) := HI
        clear HI hi
        go_wp2_with fail
        refine (HI2.out _).mono ?_
        rintro r1 w1 ⟨rfl, hw1⟩
        obtain rfl := hw1
        go_wp2_with fail
        refine (HCT.out p s.size _).mono ?_
        rintro r2 w2 ⟨x, y, rfl, hb2⟩
        rw [HTC.out]
        have HRD2 : Hid (RdAt w0 Rb st w2) := HRD.out.later hb2
        go_wp2_with fail
        refine (HRL.out st hsm hlb2 p c h1 hcs _ HRD2.out).mono ?_
        intro r3 w3 h3'
        cases hlv : lineV st (tokV (cut s p c) p) with
        | error er =>
          rw [hlv] at h3' hV2
          obtain ⟨er, pe⟩ := er
          obtain ⟨rfl, hb3⟩ := h3'
          refine ⟨rfl, ?_⟩
          rw [hV2]
          exact ⟨rfl, hb3⟩
        | ok st' =>
          rw [hlv] at h3' hV2
          obtain ⟨rfl, hr3⟩ := h3'
          obtain ⟨hg', hl'⟩ := line_good hlv HG.out
          have HRD3 : Hid (RdAt w0 Rb st' w3) := hr3
          have HOR : Hid (R = .ok st') := by
            rw [Hid, hV2]
            simp
          have HG2 : Hid (GoodR st' ∧ st'.labs.length ≤ s.size + 1) := ⟨hg', by omega⟩
          have hwe : wrap64 ((s.size : Int) + 1) = (s.size : Int) + 1 := by unfold wrap64; omega
          clear hr3 hg' hl' hlv hV2
          go_wp2
          go_roundw
          case rel => exact ⟨s.size + 1, st', k', by simp, by omega, HRD3.out, HG2.out.1, HG2.out.2, Or.inr ⟨rfl, HOR.out⟩⟩
          case measure => exact meas_at _ _ _ h1e h3
      · rw [hi] at HI
        have HI2 : Hid (∀ w, Calls Tryd.prog 25 #[.string (s.extract p s.size), .int .u8 10] w fun e w' => e = .returned (.int .i64 (n : Int)) ∧ w' = w) := HI
        have hn0 : (0 : Int) ≤ (n : Int) := Int.natCast_nonneg _
        have hwn : wrap64 ((p : Int) + (n : Int)) = (e : Int) := by rw [he]; unfold wrap64; omega
        clear HI hi he
        go_wp2_with fail
        refine (HI2.out _).mono ?_
        rintro r1 w1 ⟨rfl, hw1⟩
        obtain rfl := hw1
        go_wp2_with fail
        refine (HCT.out p e _).mono ?_
        rintro r2 w2 ⟨x, y, rfl, hb2⟩
        rw [HTC.out]
        have HRD2 : Hid (RdAt w0 Rb st w2) := HRD.out.later hb2
        go_wp2_with fail
        refine (HRL.out st hsm hlb2 p c h1 hcs _ HRD2.out).mono ?_
        intro r3 w3 h3'
        cases hlv : lineV st (tokV (cut s p c) p) with
        | error er =>
          rw [hlv] at h3' hV2
          obtain ⟨er, pe⟩ := er
          obtain ⟨rfl, hb3⟩ := h3'
          refine ⟨rfl, ?_⟩
          rw [hV2]
          exact ⟨rfl, hb3⟩
        | ok st' =>
          rw [hlv] at h3' hV2
          obtain ⟨rfl, hr3⟩ := h3'
          obtain ⟨hg', hl'⟩ := line_good hlv HG.out
          have HRD3 : Hid (RdAt w0 Rb st' w3) := hr3
          have HOR : Hid ((e + 1 ≤ s.size ∧ s.size + 1 ≤ e + 1 + k' ∧ linesV st' k' (s.data.toList.drop (e + 1)) (e + 1) = R) ∨ (e + 1 = s.size + 1 ∧ R = .ok st')) := by
            rw [Hid]
            by_cases hes : e = s.size
            · right
              rw [hV2]
              simp only [hes, if_true]
              exact ⟨trivial, trivial⟩
            · left
              rw [hV2]
              simp only [hes, if_false]
              exact ⟨by omega, by omega, trivial⟩
          have HG2 : Hid (GoodR st' ∧ st'.labs.length ≤ e + 1) := ⟨hg', by omega⟩
          have hwe : wrap64 ((e : Int) + 1) = (e : Int) + 1 := by unfold wrap64; omega
          clear hr3 hg' hl' hlv hV2
          go_wp2
          go_roundw
          case rel => exact ⟨e + 1, st', k', by simp, by omega, HRD3.out, HG2.out.1, HG2.out.2, HOR.out⟩
          case measure => exact meas_at _ _ _ h1e h3
    · have hd : decide ((p : Int) ≤ (s.size : Int)) = false := by simp; omega
      have hnl : ¬ (p : Int) ≤ (s.size : Int) := by omega
      clear hlb hsm HG hpe
      go_wp2
      go_end0
      exact ⟨rfl, HRD.out⟩
end Go.Proofs.YtbjopdmchmekpaaDoor
