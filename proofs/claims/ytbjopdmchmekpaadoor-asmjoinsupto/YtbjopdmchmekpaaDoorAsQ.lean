/- strings.Cut at a remark's sign. -/
import Derived.Test.YtbjopdmchmekpaaDoorAsP
import Derived.Test.YtbjopdmchmekpaaDoorAsV
namespace Go.Proofs.YtbjopdmchmekpaaDoor
open Go.ChangeShapes Go.WideShapes Go.ChangeAt Go.RowKit

set_option maxRecDepth 100000 in
set_option maxHeartbeats 1000000 in
theorem index_hash (s : ByteArray) (w : World) : Calls Tryd.prog 58 #[.string s, .string ⟨#[35]⟩] w fun e w' => e = .returned (.int .i64 (Lib.indexByte s.data.toList 35)) ∧ w' = w := by
  have HIX : Hid (∀ w, Calls Tryd.prog 42 #[.string s, .int .u8 35] w fun e w' => e = .returned (.int .i64 (Lib.indexByte s.data.toList 35)) ∧ w' = w) := fun w => Tryd.stringslite_IndexByte s 35 w
  cases hb : ([35] == s.toList) with
  | true =>
    have he : s.data.toList = [35] := by
      rw [beq_iff_eq] at hb
      rw [← ba_toList, ← hb]
    have hi : Lib.indexByte s.data.toList 35 = 0 := by rw [he]; rfl
    rw [hi]
    clear hi he HIX
    go_enter Tryd.func58, Tryd.ntmps58
    go_wp2_with fail
    go_ret
    exact ⟨rfl, rfl⟩
  | false =>
    go_enter Tryd.func58, Tryd.ntmps58
    go_wp2_with fail
    refine (HIX.out _).mono ?_
    rintro e w1 ⟨rfl, rfl⟩
    go_wp2
    go_ret
    exact ⟨rfl, rfl⟩
/-- Where a byte stands first. -/
theorem idx_tw : ∀ (l : List UInt8) (c : UInt8), (Lib.indexByte l c = -1 ∧ l.takeWhile (· != c) = l ∧ l.dropWhile (· != c) = []) ∨ (Lib.indexByte l c = ((l.takeWhile (· != c)).length : Int) ∧ (l.takeWhile (· != c)).length < l.length ∧ ∃ t, l.dropWhile (· != c) = c :: t)
  | [], _ => Or.inl ⟨rfl, rfl, rfl⟩
  | b :: l, c => by
    by_cases hb : b = c
    · right
      subst hb
      refine ⟨by simp [Lib.indexByte], by simp, l, by simp⟩
    · have h1 : (b == c) = false := by simpa using hb
      have h2 : (b != c) = true := by simpa using hb
      rcases idx_tw l c with ⟨e1, e2, e3⟩ | ⟨e1, e2, t, e3⟩
      · left
        refine ⟨?_, ?_, ?_⟩
        · simp [Lib.indexByte, h1, e1]
        · rw [List.takeWhile_cons, h2, e2]; rfl
        · rw [List.dropWhile_cons, h2, e3]; rfl
      · right
        refine ⟨?_, ?_, t, ?_⟩
        · have : ¬ (Lib.indexByte l c == -1) = true := by rw [e1]; simp
          rw [List.takeWhile_cons, h2, if_pos rfl, List.length_cons, Lib.indexByte, h1, if_neg (by simp), if_neg this, e1]
          simp
        · rw [List.takeWhile_cons, h2, if_pos rfl, List.length_cons, List.length_cons]; omega
        · rw [List.dropWhile_cons, h2, e3]; rfl
set_option maxRecDepth 100000 in
set_option maxHeartbeats 1000000 in
theorem scut_hash (s : ByteArray) (hs : s.size ≤ 20000000) (w : World) : Calls Tryd.prog 43 #[.string s, .string ⟨#[35]⟩] w fun e w' => ∃ x y, e = .returned (.tuple #[.string (S (s.data.toList.takeWhile (· != 35))), .string x, .bool y]) ∧ Below w.heap.size w w' := by
  have HIX : Hid (∀ w, Calls Tryd.prog 58 #[.string s, .string ⟨#[35]⟩] w fun e w' => e = .returned (.int .i64 (Lib.indexByte s.data.toList 35)) ∧ w' = w) := index_hash s
  have hsz : s.data.toList.length = s.size := ba_len s
  rcases idx_tw s.data.toList 35 with ⟨e1, e2, _⟩ | ⟨e1, e2, _⟩
  · rw [e1] at HIX
    rw [e2, S_list]
    clear e1 e2 hsz
    go_enter Tryd.func43, Tryd.ntmps43
    go_wp2_with fail
    refine (HIX.out _).mono ?_
    rintro e w1 ⟨rfl, rfl⟩
    go_wp2
    go_ret3
    exact ⟨_, _, rfl, Below.refl _ _⟩
  · rw [e1] at HIX
    have ht : S (s.data.toList.takeWhile (· != 35)) = s.extract 0 (s.data.toList.takeWhile (· != 35)).length := by
      rw [ext_S]
      congr 1
      unfold cut
      rw [List.drop_zero]
      exact List.prefix_iff_eq_take.1 (List.takeWhile_prefix _)
    rw [ht]
    obtain ⟨k, hk⟩ : ∃ k, (s.data.toList.takeWhile (· != 35)).length = k := ⟨_, rfl⟩
    rw [hk] at HIX e2 ⊢
    have k0 : (0 : Int) ≤ (k : Int) := Int.natCast_nonneg _
    have k1 : (k : Int) ≤ (s.size : Int) := by omega
    have k2 : wrap64 ((k : Int) + 1) = (k : Int) + 1 := by unfold wrap64; omega
    have k3 : (0 : Int) ≤ (k : Int) + 1 := by omega
    have k4 : (k : Int) + 1 ≤ (s.size : Int) := by omega
    clear e1 hsz ht hk
    go_enter Tryd.func43, Tryd.ntmps43
    go_wp2_with fail
    refine (HIX.out _).mono ?_
    rintro e w1 ⟨rfl, rfl⟩
    go_wp2_with fail
    go_region
    all_goals
      go_wp2
      go_ret3
      exact ⟨_, _, rfl, below_drawn (Below.refl _ _) 1⟩
set_option maxRecDepth 100000 in
theorem cut_hash (s : ByteArray) (hs : s.size ≤ 20000000) (w : World) : Calls Tryd.prog 26 #[.string s, .string ⟨#[35]⟩] w fun e w' => ∃ x y, e = .returned (.tuple #[.string (S (s.data.toList.takeWhile (· != 35))), .string x, .bool y]) ∧ Below w.heap.size w w' := by
  have HSC : Hid (∀ w, Calls Tryd.prog 43 #[.string s, .string ⟨#[35]⟩] w fun e w' => ∃ x y, e = .returned (.tuple #[.string (S (s.data.toList.takeWhile (· != 35))), .string x, .bool y]) ∧ Below w.heap.size w w') := scut_hash s hs
  generalize S (s.data.toList.takeWhile (· != 35)) = T at *
  go_enter Tryd.func26, Tryd.ntmps26
  go_wp2_with fail
  refine (HSC.out _).mono ?_
  rintro e w1 ⟨x, y, rfl, hb⟩
  go_wp2
  go_ret3
  exact ⟨_, _, rfl, hb⟩
end Go.Proofs.YtbjopdmchmekpaaDoor
