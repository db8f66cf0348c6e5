/- AsmJoins, walked over what both Parses answer. -/
import Derived.Test.YtbjopdmchmekpaaDoorAsM
import Derived.Test.YtbjopdmchmekpaaDoorBlk
import Derived.Laws.Concat
import Derived.Deep.CutBlock
import Derived.Deep.DeepCutAuto
import Derived.Deep.LoopGhost
import Derived.Test.YtbjopdmchmekpaaDoorRows
import Derived.Test.YtbjopdmchmekpaaDoorAsEp
namespace Go.Proofs.YtbjopdmchmekpaaDoor
open Go.ChangeShapes Go.WideShapes Go.ChangeAt Go.RowKit
attribute [local go_sem ↓] Go.wp_at_zero Go.wp_at_succ

/-- No colon in both, up to a place. -/
def noC (t u : List UInt8) (i : Nat) : Prop := ∀ j, j < i → (t ++ u)[j]? ≠ some 58
theorem jn_wrap {n i : Nat} (hn : n ≤ 20000000) (h : i < n) : wrap64 ((i : Int) + 1) = ((i + 1 : Nat) : Int) := by unfold wrap64; omega
theorem jn_meas {n i : Nat} (h : i < n) : n - (i + 1) < n - i := by omega
theorem jn_sum {a b : Nat} (h : a + b ≤ 20000000) : wrap64 ((a : Int) + (b : Int)) = (a : Int) + (b : Int) := by unfold wrap64; omega
theorem jn_sub {i a : Nat} (h : i ≤ 20000000) (ha : a ≤ i) : wrap64 ((i : Int) - (a : Int)) = ((i - a : Nat) : Int) := by unfold wrap64; omega
theorem jn_ne {c : UInt8} (h : c ≠ 58) : ((c.toNat : Int) == 58) = false := by
  simp only [beq_eq_false_iff_ne, ne_eq]
  intro e
  exact h (UInt8.toNat_inj.1 (by have : (58 : UInt8).toNat = 58 := rfl; omega))
set_option maxRecDepth 100000 in
set_option maxHeartbeats 1000000 in
theorem wjoins_of (t u : ByteArray) (ht : t.size + u.size ≤ 10000000) {w : World} (a b : ByteArray) (e f p1 p2 : Int) (x1 x2 : ByteArray) (q1 q2 : Int) (hab : a.size + b.size ≤ 10000)
    (he : e = 0 ∨ (e = 2 ∨ e = 9 ∨ e = 11 ∨ e = 12)) (hf : f = 0 ∨ (f = 2 ∨ f = 9 ∨ f = 11 ∨ f = 12))
    (H1 : Hid (∀ w', Below w.heap.size w w' → Calls Tryd.prog 7 #[.string t] w' fun r w'' => r = .returned (.tuple #[.string a, .int .i64 e, .int .i64 p1]) ∧ Below w'.heap.size w' w''))
    (H2 : Hid (∀ w', Below w.heap.size w w' → Calls Tryd.prog 7 #[.string u] w' fun r w'' => r = .returned (.tuple #[.string b, .int .i64 f, .int .i64 p2]) ∧ Below w'.heap.size w' w''))
    (H3 : Hid (∀ w', Calls Tryd.prog 8 #[.string t] w' fun r w'' => r = .returned (.tuple #[.string x1, .int .i64 e, .int .i64 q1]) ∧ Below w'.heap.size w' w''))
    (H4 : Hid (∀ w', Calls Tryd.prog 8 #[.string u] w' fun r w'' => r = .returned (.tuple #[.string x2, .int .i64 f, .int .i64 q2]) ∧ Below w'.heap.size w' w''))
    (H5 : Hid (e = 0 → f = 0 → noC t.data.toList u.data.toList (t.size + u.size) → ∃ (p3 : Int), (a.size + b.size ≤ 512 ∧ ∀ w', Below w.heap.size w w' → Calls Tryd.prog 7 #[.string (S (t.data.toList ++ 10 :: u.data.toList))] w' fun r w'' => r = .returned (.tuple #[.string (a ++ b), .int .i64 0, .int .i64 p3]) ∧ Below w'.heap.size w' w'') ∨
      (512 < a.size + b.size ∧ ∀ w', Below w.heap.size w w' → Calls Tryd.prog 7 #[.string (S (t.data.toList ++ 10 :: u.data.toList))] w' fun r w'' => r = .returned (.tuple #[.string ⟨#[]⟩, .int .i64 2, .int .i64 p3]) ∧ Below w'.heap.size w' w''))) :
    Calls Tryd.prog 6 #[.string t, .string u] w fun r w' => r = .returned (.bool true) ∧ Below w.heap.size w w' := by
  have hsm := jn_sum (a := t.size) (b := u.size) (by omega)
  obtain ⟨n, hn⟩ : ∃ n, t.size + u.size = n := ⟨_, rfl⟩
  have hn2 : (t.size : Int) + (u.size : Int) = (n : Int) := by omega
  have htn : t.size ≤ n := by omega
  have HNC0 : Hid (noC t.data.toList u.data.toList 0) := fun j hj => by omega
  have HST : Hid (∀ i, noC t.data.toList u.data.toList i → (t.data.toList ++ u.data.toList)[i]? ≠ some 58 → noC t.data.toList u.data.toList (i + 1)) := fun i h1 h2 j hj => by
    rcases Nat.lt_or_eq_of_le (Nat.lt_succ_iff.1 hj) with h3 | h3
    · exact h1 j h3
    · rw [h3]; exact h2
  have htl : t.data.toList.length = t.size := by rw [Array.length_toList]; rfl
  have HBT : Hid (∀ i (hi : i < t.size), ∃ c : UInt8, (t.data.toList ++ u.data.toList)[i]? = some c ∧ ∀ w : World, (Instr.index 9 (.string t) (.int .i64 (i : Int))).run Tryd.prog w = .ok (.int .u8 (c.toNat : Int)) w) := fun i hi => ⟨t[i], by
    rw [List.getElem?_append_left (by omega)]
    simp [ByteArray.getElem_eq_getElem_data], fun w => by
    rw [run_index_string w 9 t .i64 (i : Int) Tryd.underlying9, dif_pos ⟨by omega, by omega⟩]
    rfl⟩
  have HBU : Hid (∀ i, t.size ≤ i → i < n → ∃ h : i - t.size < u.size, (t.data.toList ++ u.data.toList)[i]? = some (u[i - t.size]'h)) := fun i h1 h2 => ⟨by omega, by
    rw [List.getElem?_append_right (by omega), htl]
    have hu : i - t.size < u.data.toList.length := by rw [Array.length_toList]; show _ < u.size; omega
    rw [List.getElem?_eq_getElem hu]
    simp [ByteArray.getElem_eq_getElem_data]⟩
  rw [hn] at H5
  have hcat : t ++ (⟨#[10]⟩ : ByteArray) ++ u = S (t.data.toList ++ 10 :: u.data.toList) := by
    apply ByteArray.ext
    apply Array.toList_inj.1
    simp [S, ByteArray.data_append]
  go_enter Tryd.func6, Tryd.ntmps6
  go_wp2_with fail
  go_loopg [5] n (fun gh iv wr => ∃ i : Nat, gh = n - i ∧ i ≤ n ∧ iv = .int .i64 (i : Int) ∧ noC t.data.toList u.data.toList i ∧ wr = w)
  case atStart => exact ⟨0, by omega, by omega, rfl, HNC0.out, rfl⟩
  case round =>
    obtain ⟨i, rfl, hi, rfl, hnc, hw⟩ := hrel
    obtain rfl : w = wr := hw.symm
    have HNC : Hid (noC t.data.toList u.data.toList i) := hnc
    clear hnc
    by_cases hlt : i < n
    · have HIW : Hid (wrap64 ((i : Int) + 1) = ((i + 1 : Nat) : Int)) := jn_wrap (n := n) (by omega) hlt
      have hd : decide ((i : Int) < (n : Int)) = true := by simp; omega
      by_cases hit : i < t.size
      · have hd2 : decide ((i : Int) < (t.size : Int)) = true := by simp; omega
        obtain ⟨c, hc, hix⟩ := HBT.out i hit
        by_cases h58 : c = 58
        · subst h58
          have hix' : ∀ w : World, (Instr.index 9 (.string t) (.int .i64 (i : Int))).run Tryd.prog w = .ok (.int .u8 58) w := hix
          clear hix hc
          go_wp2_with fail
          go_ret
          exact ⟨rfl, Below.refl _ _⟩
        · have e58 := jn_ne h58
          have HN2 : Hid (noC t.data.toList u.data.toList (i + 1)) := HST.out i HNC.out (by rw [hc]; simpa using h58)
          generalize (c.toNat : Int) = cb at *
          clear hc h58
          go_wp2_with fail
          go_roundg (n - (i + 1))
          case rel => exact ⟨i + 1, rfl, hlt, by first | rw [HIW.out] | go_num, HN2.out, rfl⟩
          case measure => exact jn_meas hlt
      · have hd2 : decide ((i : Int) < (t.size : Int)) = false := by simp; omega
        obtain ⟨hu, hc⟩ := HBU.out i (by omega) hlt
        have hge : t.size ≤ i := by omega
        by_cases h58 : u[i - t.size]'hu = 58
        · have e58 : (((u[i - t.size]'hu).toNat : Int) == 58) = true := by rw [h58]; rfl
          clear hc h58
          go_wp2_with fail
          go_ret
          exact ⟨rfl, Below.refl _ _⟩
        · have e58 := jn_ne h58
          have HN2 : Hid (noC t.data.toList u.data.toList (i + 1)) := HST.out i HNC.out (by rw [hc]; simpa using h58)
          clear hc h58
          go_wp2_with fail
          go_roundg (n - (i + 1))
          case rel => exact ⟨i + 1, rfl, hlt, by first | rw [HIW.out] | go_num, HN2.out, rfl⟩
          case measure => exact jn_meas hlt
    · have hd : decide ((i : Int) < (n : Int)) = false := by simp; omega
      obtain rfl : i = n := by omega
      go_wp2_with fail
      refine (H1.out _ (Below.refl _ _)).mono ?_
      rintro r w1 ⟨rfl, hb1⟩
      go_wp2_with fail
      refine (H2.out _ hb1).mono ?_
      rintro r w2 ⟨rfl, hb2⟩
      have b2 := below_then hb1 hb2
      go_wp2_with fail
      refine (H3.out _).mono ?_
      rintro r w3 ⟨rfl, hb3⟩
      have b3 := below_then b2 hb3
      go_wp2_with fail
      refine (H4.out _).mono ?_
      rintro r w4 ⟨rfl, hb4⟩
      have b4 := below_then b3 hb4
      clear hb1 hb2 b2 hb3 b3 hb4
      rcases he with rfl | he
      · rcases hf with rfl | hf
        · obtain ⟨p3, ⟨hle, H⟩ | ⟨hgt, H⟩⟩ := H5.out rfl rfl HNC.out
          all_goals clear HBT HBU HST HNC HNC0 H5 H1 H2 H3 H4
          · have HH : Hid (∀ w', Below w.heap.size w w' → Calls Tryd.prog 7 #[.string (S (t.data.toList ++ 10 :: u.data.toList))] w' fun r w'' => r = .returned (.tuple #[.string (a ++ b), .int .i64 0, .int .i64 p3]) ∧ Below w'.heap.size w' w'') := H
            have hq : wrap64 ((a.size : Int) + (b.size : Int)) = (a.size : Int) + (b.size : Int) := jn_sum (by omega)
            have hqd : decide ((512 : Int) < (a.size : Int) + (b.size : Int)) = false := by simp; omega
            clear H
            go_wp2_with fail
            refine (HH.out _ b4).mono ?_
            rintro r w5 ⟨rfl, hb5⟩
            go_wp2
            go_ret
            exact ⟨by simp, below_then b4 hb5⟩
          · have HH : Hid (∀ w', Below w.heap.size w w' → Calls Tryd.prog 7 #[.string (S (t.data.toList ++ 10 :: u.data.toList))] w' fun r w'' => r = .returned (.tuple #[.string ⟨#[]⟩, .int .i64 2, .int .i64 p3]) ∧ Below w'.heap.size w' w'') := H
            have hq : wrap64 ((a.size : Int) + (b.size : Int)) = (a.size : Int) + (b.size : Int) := jn_sum (by omega)
            have hqd : decide ((512 : Int) < (a.size : Int) + (b.size : Int)) = true := by simp; omega
            clear H
            go_wp2_with fail
            refine (HH.out _ b4).mono ?_
            rintro r w5 ⟨rfl, hb5⟩
            go_wp2
            go_ret
            exact ⟨by simp, below_then b4 hb5⟩
        · rcases hf with rfl | rfl | rfl | rfl
          all_goals
            go_wp2
            go_ret
            exact ⟨by simp, b4⟩
      · rcases he with rfl | rfl | rfl | rfl
        all_goals
          go_wp2
          go_ret
          exact ⟨by simp, b4⟩
end Go.Proofs.YtbjopdmchmekpaaDoor
/- AsmJoins, walked. -/
namespace Go.Proofs.YtbjopdmchmekpaaDoor
open Go.ChangeShapes Go.WideShapes Go.ChangeAt Go.RowKit

theorem jn_ansE {t : List UInt8} : ∃ (a : ByteArray) (e p : Int), ansV (parV t) = .tuple #[.string a, .int .i64 e, .int .i64 p] ∧ a.size ≤ 5000 ∧ (e = 0 ∨ (e = 2 ∨ e = 9 ∨ e = 11 ∨ e = 12)) ∧ (e = 0 → ∃ l, parV t = .ok l ∧ a = strOfNums (allB l)) := by
  cases hp : parV t with
  | error ep =>
    have h4 := er_par hp
    refine ⟨⟨#[]⟩, ep.1, ep.2, rfl, by decide, Or.inr h4, fun h => ?_⟩
    simp only [Er] at h4
    omega
  | ok l =>
    refine ⟨_, 0, 0, rfl, ?_, Or.inl rfl, fun _ => ⟨l, rfl, rfl⟩⟩
    have := (par_ok hp).2.1
    rw [strOfNums_size]; omega
theorem noC_mem {t u : ByteArray} (h : noC t.data.toList u.data.toList (t.size + u.size)) : (∀ x ∈ t.data.toList, x ≠ 58) ∧ ∀ x ∈ u.data.toList, x ≠ 58 := by
  have hh : ∀ x ∈ t.data.toList ++ u.data.toList, x ≠ 58 := fun x hx he => by
    obtain ⟨i, hi, hxi⟩ := List.getElem_of_mem hx
    have hl : (t.data.toList ++ u.data.toList).length = t.size + u.size := by rw [List.length_append, Array.length_toList, Array.length_toList]; rfl
    refine h i (by omega) ?_
    rw [List.getElem?_eq_getElem hi, hxi, he]
  exact ⟨fun x hx => hh x (List.mem_append_left _ hx), fun x hx => hh x (List.mem_append_right _ hx)⟩
theorem jn_H5 {t u : ByteArray} (ht : t.size + u.size ≤ 10000000) {w : World} (hT : TabE w) {a b : ByteArray} {e f : Int}
    (ha : e = 0 → ∃ l, parV t.data.toList = .ok l ∧ a = strOfNums (allB l)) (hb : f = 0 → ∃ l, parV u.data.toList = .ok l ∧ b = strOfNums (allB l)) :
    Hid (e = 0 → f = 0 → noC t.data.toList u.data.toList (t.size + u.size) → ∃ (p3 : Int), (a.size + b.size ≤ 512 ∧ ∀ w', Below w.heap.size w w' → Calls Tryd.prog 7 #[.string (S (t.data.toList ++ 10 :: u.data.toList))] w' fun r w'' => r = .returned (.tuple #[.string (a ++ b), .int .i64 0, .int .i64 p3]) ∧ Below w'.heap.size w' w'') ∨
      (512 < a.size + b.size ∧ ∀ w', Below w.heap.size w w' → Calls Tryd.prog 7 #[.string (S (t.data.toList ++ 10 :: u.data.toList))] w' fun r w'' => r = .returned (.tuple #[.string ⟨#[]⟩, .int .i64 2, .int .i64 p3]) ∧ Below w'.heap.size w' w'')) := fun he hf hn => by
  obtain ⟨l, hl, rfl⟩ := ha he
  obtain ⟨m, hm, rfl⟩ := hb hf
  have hz : (S (t.data.toList ++ 10 :: u.data.toList)).size ≤ 20000000 := by
    have : (S (t.data.toList ++ 10 :: u.data.toList)).size = t.size + (u.size + 1) := by
      show (t.data.toList ++ 10 :: u.data.toList).toArray.size = _
      simp
    omega
  have hS : (S (t.data.toList ++ 10 :: u.data.toList)).data.toList = t.data.toList ++ 10 :: u.data.toList := rfl
  have HP := fun w' (hb : Below w.heap.size w w') => parse_any (S (t.data.toList ++ 10 :: u.data.toList)) hz (hT.later hb)
  rw [hS] at HP
  obtain ⟨n1, n2⟩ := noC_mem hn
  rw [strOfNums_size, strOfNums_size]
  rcases par_join n1 n2 hl hm with ⟨h1, h2⟩ | ⟨h1, q, h2⟩
  · rw [h2] at HP
    simp only [ansV] at HP
    refine ⟨0, Or.inl ⟨h1, fun w' hb => ?_⟩⟩
    have := HP w' hb
    rw [allB_append, ← str_app] at this
    exact this
  · rw [h2] at HP
    exact ⟨q, Or.inr ⟨h1, HP⟩⟩
theorem wjoins_any (t u : ByteArray) (ht : t.size + u.size ≤ 10000000) {w : World} (hT : TabE w) :
    Calls Tryd.prog 6 #[.string t, .string u] w fun r w' => r = .returned (.bool true) ∧ Below w.heap.size w w' := by
  obtain ⟨a, e, p, h1, h2, h3, h4⟩ := jn_ansE (t := t.data.toList)
  obtain ⟨b, f, q, g1, g2, g3, g4⟩ := jn_ansE (t := u.data.toList)
  refine wjoins_of t u ht a b e f p q a b p q (by omega) h3 g3 ?_ ?_ ?_ ?_ (jn_H5 ht hT h4 g4)
  · intro w' hb; have := parse_any t (by omega) (hT.later hb); rw [h1] at this; exact this
  · intro w' hb; have := parse_any u (by omega) (hT.later hb); rw [g1] at this; exact this
  · intro w'; have := rparse_any t (by omega) w'; rw [h1] at this; exact this
  · intro w'; have := rparse_any u (by omega) w'; rw [g1] at this; exact this
theorem jn_two {H : Type} {t m : ByteArray} (hk : Rows.uptoSmall H ([.lit (.string t.data.toList), .lit (.string m.data.toList)] ++ []) = true) : t.size + m.size ≤ 1048576 := by
  have h1 : t.data.toList.length = t.size := ba_len t
  have h2 : m.data.toList.length = m.size := ba_len m
  simp only [Rows.uptoSmall, List.append_nil, Rows.uptoBulkAll, Rows.uptoBulk, decide_eq_true_eq] at hk
  omega
theorem wjoins (t : ByteArray) (_ : t.size ≤ maxLen) (m : ByteArray) (_ : m.size ≤ maxLen) {H : Type} (hk : Rows.uptoSmall H ([.lit (.string t.data.toList), .lit (.string m.data.toList)] ++ []) = true) {W : World} (hT : TabE W) : Calls Tryd.prog 6 #[.string t, .string m] W fun e w' => e = .returned (.bool true) ∧ Below W.heap.size W w' :=
  wjoins_any t m (by have := jn_two hk; omega) hT
end Go.Proofs.YtbjopdmchmekpaaDoor
