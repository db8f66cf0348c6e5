/- Contracts of Narrow, in the program and in the document's answer, kind by kind. -/
import Derived.Test.YtdegladjmbllbaaMid
namespace Go.Proofs.Ytdegladjmbllbaa
open Go.ChangeShapes Go.WideShapes Go.ChangeAt Go.RowKit

theorem i8_is (x : Int) : wrap64 (IntKind.i8.wrap x) = (x + 128) % 256 - 128 := by
  have e : IntKind.i8.wrap x = if 128 ≤ x % 256 then x % 256 - 256 else x % 256 := by
    simp [IntKind.wrap, IntKind.bits, IntKind.signed]
  rw [e]
  unfold wrap64
  split <;> omega
theorem i16_is (x : Int) : wrap64 (IntKind.i16.wrap x) = (x + 32768) % 65536 - 32768 := by
  have e : IntKind.i16.wrap x = if 32768 ≤ x % 65536 then x % 65536 - 65536 else x % 65536 := by
    simp [IntKind.wrap, IntKind.bits, IntKind.signed]
  rw [e]
  unfold wrap64
  split <;> omega
theorem u16_is (x : Int) : wrap64 (IntKind.u16.wrap x) = x % 65536 := by
  rw [IntKind.wrap_u16]
  unfold wrap64
  omega
theorem i32_is (x : Int) : wrap64 (wrap32 x) = (x + 2147483648) % 4294967296 - 2147483648 := by
  unfold wrap64 wrap32
  omega

theorem least8 (x : Int) (w : World) : Calls Try.prog 36 #[.int .i64 x, .int .i64 8] w fun e w' => e = .returned (.int .i64 (x % 256)) ∧ w' = w := by
  have h := least_any x 8 (by decide) w
  have e : p2 8 = 256 := by decide
  rw [e] at h
  exact h
theorem least16 (x : Int) (w : World) : Calls Try.prog 36 #[.int .i64 x, .int .i64 16] w fun e w' => e = .returned (.int .i64 (x % 65536)) ∧ w' = w := by
  have h := least_any x 16 (by decide) w
  have e : p2 16 = 65536 := by decide
  rw [e] at h
  exact h
theorem least32 (x : Int) (w : World) : Calls Try.prog 36 #[.int .i64 x, .int .i64 32] w fun e w' => e = .returned (.int .i64 (x % 4294967296)) ∧ w' = w := by
  have h := least_any x 32 (by decide) w
  have e : p2 32 = 4294967296 := by decide
  rw [e] at h
  exact h

theorem narrow0 (x : Int) (w : World) : Calls Try.prog 22 #[.int .i64 x, .int .i64 0] w fun e w' => e = .returned (.tuple #[.int .i64 ((x + 128) % 256 - 128), .int .i64 0]) ∧ w' = w := by
  have H : Hid (wrap64 (IntKind.i8.wrap x) = (x + 128) % 256 - 128) := i8_is x
  go_enter Try.func22, Try.ntmps22
  go_wp2
  go_ret2
  exact ⟨by simp [H.out], rfl⟩
theorem rnarrow0 (x : Int) (w : World) : Calls Try.prog 23 #[.int .i64 x, .int .i64 0] w fun e w' => e = .returned (.tuple #[.int .i64 ((x + 128) % 256 - 128), .int .i64 0]) ∧ w' = w := by
  have hlo : 0 ≤ x % 256 := by omega
  have hhi : x % 256 < 256 := by omega
  by_cases h : 128 ≤ x % 256
  · have H : Hid ((x + 128) % 256 - 128 = x % 256 - 128 - 128) := by show _ = _; omega
    go_enter Try.func23, Try.ntmps23
    go_wp2_with fail
    refine (least8 _ _).mono ?_
    rintro e w' ⟨rfl, rfl⟩
    go_wp2
    go_ret2
    exact ⟨by rw [H.out]; rfl, rfl⟩
  · have H : Hid ((x + 128) % 256 - 128 = x % 256) := by show _ = _; omega
    have h' : x % 256 < 128 := by omega
    have hd : decide (128 ≤ x % 256) = false := by simp; omega
    go_enter Try.func23, Try.ntmps23
    go_wp2_with fail
    refine (least8 _ _).mono ?_
    rintro e w' ⟨rfl, rfl⟩
    go_wp2
    go_ret2
    exact ⟨by rw [H.out]; rfl, rfl⟩

theorem narrow1 (x : Int) (w : World) : Calls Try.prog 22 #[.int .i64 x, .int .i64 1] w fun e w' => e = .returned (.tuple #[.int .i64 ((x + 32768) % 65536 - 32768), .int .i64 0]) ∧ w' = w := by
  have H : Hid (wrap64 (IntKind.i16.wrap x) = (x + 32768) % 65536 - 32768) := i16_is x
  go_enter Try.func22, Try.ntmps22
  go_wp2
  go_ret2
  exact ⟨by simp [H.out], rfl⟩
theorem rnarrow1 (x : Int) (w : World) : Calls Try.prog 23 #[.int .i64 x, .int .i64 1] w fun e w' => e = .returned (.tuple #[.int .i64 ((x + 32768) % 65536 - 32768), .int .i64 0]) ∧ w' = w := by
  have hlo : 0 ≤ x % 65536 := by omega
  have hhi : x % 65536 < 65536 := by omega
  by_cases h : 32768 ≤ x % 65536
  · have H : Hid ((x + 32768) % 65536 - 32768 = x % 65536 - 32768 - 32768) := by show _ = _; omega
    go_enter Try.func23, Try.ntmps23
    go_wp2_with fail
    refine (least16 _ _).mono ?_
    rintro e w' ⟨rfl, rfl⟩
    go_wp2
    go_ret2
    exact ⟨by rw [H.out]; rfl, rfl⟩
  · have H : Hid ((x + 32768) % 65536 - 32768 = x % 65536) := by show _ = _; omega
    have h' : x % 65536 < 32768 := by omega
    have hd : decide (32768 ≤ x % 65536) = false := by simp; omega
    go_enter Try.func23, Try.ntmps23
    go_wp2_with fail
    refine (least16 _ _).mono ?_
    rintro e w' ⟨rfl, rfl⟩
    go_wp2
    go_ret2
    exact ⟨by rw [H.out]; rfl, rfl⟩

theorem narrow2 (x : Int) (w : World) : Calls Try.prog 22 #[.int .i64 x, .int .i64 2] w fun e w' => e = .returned (.tuple #[.int .i64 ((x + 2147483648) % 4294967296 - 2147483648), .int .i64 0]) ∧ w' = w := by
  have H : Hid (wrap64 (wrap32 x) = (x + 2147483648) % 4294967296 - 2147483648) := i32_is x
  go_enter Try.func22, Try.ntmps22
  go_wp2
  go_ret2
  exact ⟨by simp [H.out], rfl⟩
theorem rnarrow2 (x : Int) (w : World) : Calls Try.prog 23 #[.int .i64 x, .int .i64 2] w fun e w' => e = .returned (.tuple #[.int .i64 ((x + 2147483648) % 4294967296 - 2147483648), .int .i64 0]) ∧ w' = w := by
  have hlo : 0 ≤ x % 4294967296 := by omega
  have hhi : x % 4294967296 < 4294967296 := by omega
  by_cases h : 2147483648 ≤ x % 4294967296
  · have H : Hid ((x + 2147483648) % 4294967296 - 2147483648 = x % 4294967296 - 2147483648 - 2147483648) := by show _ = _; omega
    go_enter Try.func23, Try.ntmps23
    go_wp2_with fail
    refine (least32 _ _).mono ?_
    rintro e w' ⟨rfl, rfl⟩
    go_wp2
    go_ret2
    exact ⟨by rw [H.out]; rfl, rfl⟩
  · have H : Hid ((x + 2147483648) % 4294967296 - 2147483648 = x % 4294967296) := by show _ = _; omega
    have h' : x % 4294967296 < 2147483648 := by omega
    have hd : decide (2147483648 ≤ x % 4294967296) = false := by simp; omega
    go_enter Try.func23, Try.ntmps23
    go_wp2_with fail
    refine (least32 _ _).mono ?_
    rintro e w' ⟨rfl, rfl⟩
    go_wp2
    go_ret2
    exact ⟨by rw [H.out]; rfl, rfl⟩

theorem narrow3 (x : Int) (w : World) : Calls Try.prog 22 #[.int .i64 x, .int .i64 3] w fun e w' => e = .returned (.tuple #[.int .i64 (x % 256), .int .i64 0]) ∧ w' = w := by
  go_enter Try.func22, Try.ntmps22
  go_wp2
  go_ret2
  exact ⟨rfl, rfl⟩
theorem rnarrow3 (x : Int) (w : World) : Calls Try.prog 23 #[.int .i64 x, .int .i64 3] w fun e w' => e = .returned (.tuple #[.int .i64 (x % 256), .int .i64 0]) ∧ w' = w := by
  go_enter Try.func23, Try.ntmps23
  go_wp2_with fail
  refine (least8 _ _).mono ?_
  rintro e w' ⟨rfl, rfl⟩
  go_wp2
  go_ret2
  exact ⟨rfl, rfl⟩

theorem narrow4 (x : Int) (w : World) : Calls Try.prog 22 #[.int .i64 x, .int .i64 4] w fun e w' => e = .returned (.tuple #[.int .i64 (x % 65536), .int .i64 0]) ∧ w' = w := by
  have H : Hid (wrap64 (IntKind.u16.wrap x) = x % 65536) := u16_is x
  go_enter Try.func22, Try.ntmps22
  go_wp2
  go_ret2
  exact ⟨by simp [H.out], rfl⟩
theorem rnarrow4 (x : Int) (w : World) : Calls Try.prog 23 #[.int .i64 x, .int .i64 4] w fun e w' => e = .returned (.tuple #[.int .i64 (x % 65536), .int .i64 0]) ∧ w' = w := by
  go_enter Try.func23, Try.ntmps23
  go_wp2_with fail
  refine (least16 _ _).mono ?_
  rintro e w' ⟨rfl, rfl⟩
  go_wp2
  go_ret2
  exact ⟨rfl, rfl⟩

theorem narrow5 (x : Int) (w : World) : Calls Try.prog 22 #[.int .i64 x, .int .i64 5] w fun e w' => e = .returned (.tuple #[.int .i64 (x % 4294967296), .int .i64 0]) ∧ w' = w := by
  go_enter Try.func22, Try.ntmps22
  go_wp2
  go_ret2
  exact ⟨rfl, rfl⟩
theorem rnarrow5 (x : Int) (w : World) : Calls Try.prog 23 #[.int .i64 x, .int .i64 5] w fun e w' => e = .returned (.tuple #[.int .i64 (x % 4294967296), .int .i64 0]) ∧ w' = w := by
  go_enter Try.func23, Try.ntmps23
  go_wp2_with fail
  refine (least32 _ _).mono ?_
  rintro e w' ⟨rfl, rfl⟩
  go_wp2
  go_ret2
  exact ⟨rfl, rfl⟩

theorem narrow_else (x k : Int) (h : k < 0 ∨ 5 < k) (w : World) : Calls Try.prog 22 #[.int .i64 x, .int .i64 k] w fun e w' => e = .returned (.tuple #[.int .i64 0, .int .i64 1]) ∧ w' = w := by
  have h0 : (k == 0) = false := by simp; omega
  have h1 : (k == 1) = false := by simp; omega
  have h2 : (k == 2) = false := by simp; omega
  have h3 : (k == 3) = false := by simp; omega
  have h4 : (k == 4) = false := by simp; omega
  have h5 : (k == 5) = false := by simp; omega
  clear h
  go_enter Try.func22, Try.ntmps22
  go_wp2
  go_ret2
  exact ⟨rfl, rfl⟩
theorem rnarrow_else (x k : Int) (h : k < 0 ∨ 5 < k) (w : World) : Calls Try.prog 23 #[.int .i64 x, .int .i64 k] w fun e w' => e = .returned (.tuple #[.int .i64 0, .int .i64 1]) ∧ w' = w := by
  rcases h with h | h
  · go_enter Try.func23, Try.ntmps23
    go_wp2
    go_ret2
    exact ⟨rfl, rfl⟩
  · have h0 : 0 ≤ k := by omega
    go_enter Try.func23, Try.ntmps23
    go_wp2
    go_ret2
    exact ⟨rfl, rfl⟩

/-- Both answer alike. -/
theorem narrow_both (x k : Int) : ∃ v e : Int, (∀ w, Calls Try.prog 22 #[.int .i64 x, .int .i64 k] w fun r w' => r = .returned (.tuple #[.int .i64 v, .int .i64 e]) ∧ w' = w) ∧
    (∀ w, Calls Try.prog 23 #[.int .i64 x, .int .i64 k] w fun r w' => r = .returned (.tuple #[.int .i64 v, .int .i64 e]) ∧ w' = w) := by
  by_cases h : k < 0 ∨ 5 < k
  · exact ⟨_, _, narrow_else x k h, rnarrow_else x k h⟩
  · have hk : k = 0 ∨ k = 1 ∨ k = 2 ∨ k = 3 ∨ k = 4 ∨ k = 5 := by omega
    rcases hk with rfl | rfl | rfl | rfl | rfl | rfl
    · exact ⟨_, _, narrow0 x, rnarrow0 x⟩
    · exact ⟨_, _, narrow1 x, rnarrow1 x⟩
    · exact ⟨_, _, narrow2 x, rnarrow2 x⟩
    · exact ⟨_, _, narrow3 x, rnarrow3 x⟩
    · exact ⟨_, _, narrow4 x, rnarrow4 x⟩
    · exact ⟨_, _, narrow5 x, rnarrow5 x⟩
end Go.Proofs.Ytdegladjmbllbaa
