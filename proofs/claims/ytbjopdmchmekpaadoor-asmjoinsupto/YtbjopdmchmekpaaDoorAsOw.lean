/- AsmOnce, walked over what the document's Parse answers. -/
import Derived.Test.YtbjopdmchmekpaaDoorAsPa
import Derived.Test.YtbjopdmchmekpaaDoorAsBk
import Derived.Test.YtbjopdmchmekpaaDoorJAsFiAsJn
namespace Go.Proofs.YtbjopdmchmekpaaDoor
open Go.ChangeShapes Go.WideShapes Go.ChangeAt Go.RowKit

/-- The numbers of what is wrong. -/
def Er (e : Int) : Prop := e = 2 ∨ e = 9 ∨ e = 11 ∨ e = 12
theorem er_more {st : PS} {p c : Nat} {v : Int} {nm : Option (List UInt8 × Nat)} {r : List (List UInt8 × Nat)} {ep : Int × Nat} (h : moreV st p c v nm r = .error ep) : Er ep.1 := by
  cases r with
  | cons x r => obtain ⟨x1, q⟩ := x; simp only [moreV] at h; injection h with h; subst h; simp [Er]
  | nil =>
    simp only [moreV] at h
    split at h
    · injection h with h; subst h; simp [Er]
    · cases h
theorem er_inst {st : PS} {t : List (List UInt8 × Nat)} {ep : Int × Nat} (h : instV st t = .error ep) : Er ep.1 := by
  unfold instV at h
  repeat' split at h
  all_goals first | exact er_more h | (injection h with h; subst h; simp [Er]; done) | cases h
theorem er_line {st : PS} {t : List (List UInt8 × Nat)} {ep : Int × Nat} (h : lineV st t = .error ep) : Er ep.1 := by
  unfold lineV at h
  repeat' split at h
  all_goals first | exact er_inst h | (injection h with h; subst h; simp [Er]; done) | cases h
theorem er_lines : ∀ (k : Nat) {st : PS} {l : List UInt8} {p : Nat} {ep : Int × Nat}, linesV st k l p = .error ep → Er ep.1
  | 0, _, _, _, _, h => by simp only [linesV] at h; cases h
  | k + 1, st, l, p, ep, h => by
    simp only [linesV] at h
    split at h
    · rename_i e he
      injection h with h; subst h
      exact er_line he
    · split at h
      · cases h
      · exact er_lines k h
theorem er_res {L : List (List UInt8 × Nat)} : ∀ (us : List (Nat × List UInt8 × Nat × Nat)) {l : List (Int × Int)} {ep : Int × Nat}, resU L us l = .error ep → Er ep.1
  | [], _, _, h => by simp only [resU] at h; cases h
  | (i, n, q, b) :: us, l, ep, h => by
    simp only [resU] at h
    split at h
    · injection h with h; subst h; simp [Er]
    · exact er_res us h
theorem er_par {t : List UInt8} {ep : Int × Nat} (h : parV t = .error ep) : Er ep.1 := by
  unfold parV at h
  split at h
  · rename_i e he
    injection h with h; subst h
    exact er_lines _ he
  · exact er_res _ h
theorem wonce_of (t : ByteArray) (ht : t.size ≤ 20000000) {w : World} (hT : TabE w)
    (HR : Hid (∀ w', Below w.heap.size w w' → Calls Tryd.prog 8 #[.string t] w' fun e w'' => e = .returned (ansV (parV t.data.toList)) ∧ Below w'.heap.size w' w'')) :
    Calls Tryd.prog 5 #[.string t] w fun e w' => e = .returned (.bool true) ∧ Below w.heap.size w w' := by
  have H1 : Hid (Calls Tryd.prog 7 #[.string t] w fun e w' => e = .returned (ansV (parV t.data.toList)) ∧ Below w.heap.size w w') := parse_any t ht hT
  cases hp : parV t.data.toList with
  | error ep =>
    obtain ⟨e, q⟩ := ep
    have h4 := er_par hp
    simp only [Er] at h4
    rw [hp] at H1 HR
    simp only [ansV, ansE] at H1 HR
    have hS : (⟨#[]⟩ : ByteArray) = ByteArray.empty := rfl
    rw [hS] at H1 HR
    clear hT hp ht hS
    rcases h4 with rfl | rfl | rfl | rfl
    all_goals
      go_enter Tryd.func5, Tryd.ntmps5
      go_wp2_with fail
      refine H1.out.mono ?_
      rintro e w1 ⟨rfl, hb1⟩
      go_wp2_with fail
      refine (HR.out _ hb1).mono ?_
      rintro e w2 ⟨rfl, hb2⟩
      go_wp2
      go_ret
      exact ⟨by simp, below_then hb1 hb2⟩
  | ok l =>
    have hg := once_prg hp
    rw [hp] at H1 HR
    simp only [ansV] at H1 HR
    generalize strOfNums (allB l) = s at *
    have hs : s.size ≤ 9223372036854775807 := by have := hg.small; omega
    have e1 : prV s = (prT l, 0) := by unfold prV; rw [if_pos (by rw [hg.dec]), hg.dec]
    have H2 : Hid (∀ w', Below w.heap.size w w' → Calls Tryd.prog 9 #[.string s] w' fun e w'' => e = .returned (.tuple #[.string (S (prT l)), .int .i64 0]) ∧ Below w'.heap.size w' w'') := fun w' hb => by
      have := print_any s hs (hT.later hb).1
      rw [e1] at this
      exact this
    have H3 : Hid (∀ w', Below w.heap.size w w' → Calls Tryd.prog 7 #[.string (S (prT l))] w' fun e w'' => e = .returned (.tuple #[.string s, .int .i64 0, .int .i64 0]) ∧ Below w'.heap.size w' w'') := fun w' hb => parse_back hg (hT.later hb)
    generalize S (prT l) = T at *
    clear hT ht hp hg hs e1
    go_enter Tryd.func5, Tryd.ntmps5
    go_wp2_with fail
    refine H1.out.mono ?_
    rintro e w1 ⟨rfl, hb1⟩
    go_wp2_with fail
    refine (HR.out _ hb1).mono ?_
    rintro e w2 ⟨rfl, hb2⟩
    have b2 := below_then hb1 hb2
    go_wp2_with fail
    refine (H2.out _ b2).mono ?_
    rintro e w3 ⟨rfl, hb3⟩
    have b3 := below_then b2 hb3
    go_wp2_with fail
    refine (H3.out _ b3).mono ?_
    rintro e w4 ⟨rfl, hb4⟩
    have b4 := below_then b3 hb4
    go_wp2_with fail
    refine (H2.out _ b4).mono ?_
    rintro e w5 ⟨rfl, hb5⟩
    have b5 := below_then b4 hb5
    go_wp2
    go_ret
    exact ⟨by simp, b5⟩
end Go.Proofs.YtbjopdmchmekpaaDoor
