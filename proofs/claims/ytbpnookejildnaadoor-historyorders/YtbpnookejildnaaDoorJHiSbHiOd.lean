/- The library's stable sort. -/
import Derived.Test.YtbpnookejildnaaDoorHiMg
import Derived.Test.YtbpnookejildnaaDoorHiOr
import Derived.Test.YtbpnookejildnaaDoorHiSh
import Derived.Test.YtbpnookejildnaaDoorJHiRdHiRo
namespace Go.Proofs.YtbpnookejildnaaDoor.Hi
open Go.ChangeShapes Go.WideShapes Go.ChangeAt Go.RowKit
set_option linter.unusedVariables false

/-- A block: its numbers are its own, in order. -/
def Bk (ky : Nat → Int) (f : Nat → Nat) (n lo hi : Nat) : Prop := (∀ k, lo ≤ k → k < hi → k < n → lo ≤ f k ∧ f k < hi) ∧ ∀ i j, lo ≤ i → i < j → j < hi → j < n → tot ky (f i) (f j)
theorem Bk.congr {ky : Nat → Int} {f g : Nat → Nat} {n lo hi : Nat} (h : Bk ky f n lo hi) (e : ∀ k, lo ≤ k → k < hi → k < n → g k = f k) : Bk ky g n lo hi :=
  ⟨fun k h1 h2 h3 => by rw [e k h1 h2 h3]; exact h.1 k h1 h2 h3, fun i j h1 h2 h3 h4 => by rw [e i h1 (by omega) (by omega), e j (by omega) h3 h4]; exact h.2 i j h1 h2 h3 h4⟩
theorem Bk.empty {ky : Nat → Int} {f : Nat → Nat} {n lo hi : Nat} (h : n ≤ lo) : Bk ky f n lo hi := ⟨fun k h1 h2 h3 => by omega, fun i j h1 h2 h3 h4 => by omega⟩
def Blk20 (ky : Nat → Int) (f : Nat → Nat) (s n : Nat) : Prop := ∀ q, Bk ky f n (q * s) (q * s + s)
/-- The first blocks are in order, the rest is as it was. -/
structure Fst (ky : Nat → Int) (f : Nat → Nat) (n c A : Nat) : Prop where
  a : A = c * 20
  b : ∀ q, q < c → Bk ky f n (q * 20) (q * 20 + 20)
  r : ∀ k, A ≤ k → f k = k
  p : PermOn id f 0 n
theorem Fst.zero (ky : Nat → Int) (n : Nat) : Fst ky id n 0 0 := ⟨rfl, fun q h => by omega, fun k _ => rfl, PermOn.refl _ _ _⟩
theorem Fst.ris {ky : Nat → Int} {f : Nat → Nat} {n c A : Nat} (h : Fst ky f n c A) (b : Nat) : Ris f A b := fun i j h1 h2 h3 => by rw [h.r i h1, h.r j (by omega)]; exact h2
theorem Fst.blk {ky : Nat → Int} {f g : Nat → Nat} {n c A B : Nat} (h : Fst ky f n c A) (hp : PermOn f g A B) (hs : Srt ky g A B) (hB : B ≤ A + 20) (hn : B = A + 20 ∨ n ≤ B) : Bk ky g n A (A + 20) := by
  refine ⟨fun k h1 h2 h3 => ?_, fun i j h1 h2 h3 h4 => hs i j h1 h2 (by omega)⟩
  obtain ⟨q, hq, e⟩ := hp.mem (k := k) ⟨h1, by omega⟩
  rw [e, h.r q hq.1]
  omega
theorem Fst.old {ky : Nat → Int} {f g : Nat → Nat} {n c A B : Nat} (h : Fst ky f n c A) (hp : PermOn f g A B) : ∀ q, q < c → Bk ky g n (q * 20) (q * 20 + 20) := fun q hq => (h.b q hq).congr fun k h1 h2 h3 => hp.out (Or.inl (by have := h.a; omega))
theorem Fst.next {ky : Nat → Int} {f g : Nat → Nat} {n c A : Nat} (h : Fst ky f n c A) (hp : PermOn f g A (A + 20)) (hs : Srt ky g A (A + 20)) (hn : A + 20 ≤ n) : Fst ky g n (c + 1) (A + 20) := by
  refine ⟨by have := h.a; omega, fun q hq => ?_, fun k hk => by rw [hp.out (Or.inr hk)]; exact h.r k (by omega), h.p.trans (hp.mono (Nat.zero_le _) hn)⟩
  by_cases e : q = c
  · have := h.blk hp hs (Nat.le_refl _) (Or.inl rfl)
    rw [h.a] at this
    rw [e]; exact this
  · exact h.old hp q (by omega)
theorem Fst.last {ky : Nat → Int} {f g : Nat → Nat} {n c A : Nat} (h : Fst ky f n c A) (hp : PermOn f g A n) (hs : Srt ky g A n) (hA : A ≤ n) (hn : n < A + 20) : Blk20 ky g 20 n ∧ PermOn id g 0 n := by
  refine ⟨fun q => ?_, h.p.trans (hp.mono (Nat.zero_le _) (Nat.le_refl _))⟩
  by_cases e : q = c
  · have := h.blk hp hs (by omega) (Or.inr (Nat.le_refl _))
    rw [h.a] at this
    rw [e]; exact this
  · by_cases hq : q < c
    · exact h.old hp q hq
    · exact Bk.empty (by have := h.a; omega)
/-- Blocks are merged, two by two. -/
structure Mdl (ky : Nat → Int) (f : Nat → Nat) (s n c A : Nat) : Prop where
  a : A = c * (2 * s)
  l : ∀ q, q < c → Bk ky f n (q * (2 * s)) (q * (2 * s) + 2 * s)
  r : ∀ q, 2 * c ≤ q → Bk ky f n (q * s) (q * s + s)
  p : PermOn id f 0 n
theorem Mdl.zero {ky : Nat → Int} {f : Nat → Nat} {s n : Nat} (h : Blk20 ky f s n) (hp : PermOn id f 0 n) : Mdl ky f s n 0 0 := ⟨by simp, fun q hq => by omega, fun q _ => h q, hp⟩
theorem Mdl.two {ky : Nat → Int} {f : Nat → Nat} {s n c A : Nat} (h : Mdl ky f s n c A) : Bk ky f n A (A + s) ∧ Bk ky f n (A + s) (A + 2 * s) := by
  have e : 2 * c * s = A := by rw [h.a, Nat.mul_comm 2 c, Nat.mul_assoc]
  have e2 : (2 * c + 1) * s = A + s := by rw [Nat.succ_mul, e]
  have h1 := h.r (2 * c) (Nat.le_refl _)
  have h2 := h.r (2 * c + 1) (by omega)
  rw [e] at h1
  rw [e2] at h2
  exact ⟨h1, by rwa [show A + s + s = A + 2 * s by omega] at h2⟩
theorem Mdl.pre {ky : Nat → Int} {f : Nat → Nat} {s n c A B : Nat} (h : Mdl ky f s n c A) (hB : B ≤ n) (hB2 : B ≤ A + 2 * s) : Srt ky f A (A + s) ∨ n ≤ A + s := by
  by_cases hn : n ≤ A + s
  · exact Or.inr hn
  · exact Or.inl fun i j h1 h2 h3 => h.two.1.2 i j h1 h2 h3 (by omega)
theorem Mdl.in {ky : Nat → Int} {f : Nat → Nat} {s n c A B : Nat} (h : Mdl ky f s n c A) (hm : A + s < B) (hB : B ≤ n) (hB2 : B ≤ A + 2 * s) : Srt ky f A (A + s) ∧ Srt ky f (A + s) B ∧ Sep f A (A + s) B :=
  ⟨fun i j h1 h2 h3 => h.two.1.2 i j h1 h2 h3 (by omega), fun i j h1 h2 h3 => h.two.2.2 i j h1 h2 (by omega) (by omega), fun i j h1 h2 h3 h4 => by
    have := h.two.1.1 i h1 h2 (by omega)
    have := h.two.2.1 j h3 (by omega) (by omega)
    omega⟩
theorem Mdl.blk {ky : Nat → Int} {f g : Nat → Nat} {s n c A B : Nat} (h : Mdl ky f s n c A) (hp : PermOn f g A B) (hs : Srt ky g A B) (hB : B ≤ n) (hB2 : B ≤ A + 2 * s) (hn : B = A + 2 * s ∨ n = B) : Bk ky g n A (A + 2 * s) := by
  refine ⟨fun k h1 h2 h3 => ?_, fun i j h1 h2 h3 h4 => hs i j h1 h2 (by omega)⟩
  obtain ⟨q, hq, e⟩ := hp.mem (k := k) ⟨h1, by omega⟩
  rw [e]
  by_cases hqs : q < A + s
  · have := h.two.1.1 q hq.1 hqs (by omega); omega
  · have := h.two.2.1 q (by omega) (by omega) (by omega); omega
theorem Mdl.old {ky : Nat → Int} {f g : Nat → Nat} {s n c A B : Nat} (h : Mdl ky f s n c A) (hp : PermOn f g A B) : ∀ q, q < c → Bk ky g n (q * (2 * s)) (q * (2 * s) + 2 * s) := fun q hq => (h.l q hq).congr fun k h1 h2 h3 => hp.out (Or.inl (by
  have h4 : (q + 1) * (2 * s) ≤ c * (2 * s) := Nat.mul_le_mul_right _ hq
  rw [Nat.succ_mul, ← h.a] at h4
  omega))
theorem Mdl.next {ky : Nat → Int} {f g : Nat → Nat} {s n c A B : Nat} (h : Mdl ky f s n c A) (hp : PermOn f g A B) (hs : Srt ky g A B) (hB : B = A + 2 * s) (hn : B ≤ n) : Mdl ky g s n (c + 1) B := by
  refine ⟨by rw [Nat.succ_mul, ← h.a]; exact hB, fun q hq => ?_, fun q hq => ?_, h.p.trans (hp.mono (Nat.zero_le _) hn)⟩
  · by_cases e : q = c
    · have := h.blk hp hs hn (by omega) (Or.inl hB)
      rw [h.a] at this
      rw [e]; exact this
    · exact h.old hp q (by omega)
  · refine (h.r q (by omega)).congr fun k h1 h2 h3 => hp.out (Or.inr ?_)
    have h4 : (2 * c + 2) * s ≤ q * s := Nat.mul_le_mul_right _ (by omega)
    have e : 2 * c * s = A := by rw [h.a, Nat.mul_comm 2 c, Nat.mul_assoc]
    rw [Nat.add_mul, e] at h4
    omega
theorem Mdl.fin {ky : Nat → Int} {f : Nat → Nat} {s n c A : Nat} (h : Mdl ky f s n c A) (hA : n < A + 2 * s) (hs : Bk ky f n A (A + 2 * s)) : Blk20 ky f (2 * s) n := fun q => by
  by_cases hq : q < c
  · exact h.l q hq
  · by_cases e : q = c
    · rw [e, ← h.a]; exact hs
    · have h4 : (c + 1) * (2 * s) ≤ q * (2 * s) := Nat.mul_le_mul_right _ (by omega)
      rw [Nat.succ_mul, ← h.a] at h4
      exact Bk.empty (by omega)
/-- What is left is merged. -/
theorem Mdl.last {ky : Nat → Int} {f g : Nat → Nat} {s n c A : Nat} (h : Mdl ky f s n c A) (hA : n < A + 2 * s) (hp : PermOn f g A n) (hs : Srt ky g A n) : Blk20 ky g (2 * s) n ∧ PermOn id g 0 n := by
  refine ⟨fun q => ?_, h.p.trans (hp.mono (Nat.zero_le _) (Nat.le_refl _))⟩
  by_cases hq : q < c
  · exact h.old hp q hq
  · by_cases e : q = c
    · rw [e, ← h.a]; exact h.blk hp hs (Nat.le_refl _) (by omega) (Or.inr rfl)
    · have h4 : (c + 1) * (2 * s) ≤ q * (2 * s) := Nat.mul_le_mul_right _ (by omega)
      rw [Nat.succ_mul, ← h.a] at h4
      exact Bk.empty (by omega)
/-- What is left is one block. -/
theorem Mdl.one {ky : Nat → Int} {f : Nat → Nat} {s n c A : Nat} (h : Mdl ky f s n c A) (h0 : 0 < s) (hA : n ≤ A + s) : Blk20 ky f (2 * s) n ∧ PermOn id f 0 n := by
  refine ⟨h.fin (by omega) ⟨fun k h1 h2 h3 => ?_, fun i j h1 h2 h3 h4 => h.two.1.2 i j h1 h2 (by omega) h4⟩, h.p⟩
  have := h.two.1.1 k h1 (by omega) h3
  omega
theorem Blk20.srt {ky : Nat → Int} {f : Nat → Nat} {s n : Nat} (h : Blk20 ky f s n) (hs : n ≤ s) : Srt ky f 0 n := fun i j h1 h2 h3 => by
  have := (h 0).2 i j (by omega) h2 (by omega) h3
  exact this

set_option maxRecDepth 100000 in
set_option maxHeartbeats 6400000 in
theorem stable_any {n : Nat} (hn : n ≤ 925925926000) : StQ n := by
  intro w g cv ky hc hs
  have HIN : Hid (∀ (w' : World) (f : Nat → Nat) (a b : Nat), SAt w w' g n f → a ≤ b → b ≤ n → Ris f a b → Calls Tryd.prog 61 #[.slice (some ⟨g, 0, none⟩) n n, .int .i64 (a : Int), .int .i64 (b : Int), .func (.func 28) #[] #[cv]] w' fun e w'' => e = .returned (.tuple #[]) ∧ ∃ f', SAt w w'' g n f' ∧ PermOn f f' a b ∧ Srt ky f' a b) := fun w' f a b h1 h2 h3 h4 => ins_any hc h1 h2 h3 hn (Nat.le_refl _) h4
  have HMG : Hid (∀ (w' : World) (f : Nat → Nat) (a m b : Nat), SAt w w' g n f → a < m → m < b → b ≤ n → Srt ky f a m → Srt ky f m b → Sep f a m b → Calls Tryd.prog 62 #[.slice (some ⟨g, 0, none⟩) n n, .int .i64 (a : Int), .int .i64 (m : Int), .int .i64 (b : Int), .func (.func 28) #[] #[cv]] w' fun e w'' => e = .returned (.tuple #[]) ∧ ∃ f', SAt w w'' g n f' ∧ PermOn f f' a b ∧ Srt ky f' a b) := fun w' f a m b h1 h2 h3 h4 h5 h6 h7 => merge_any hc hn (Nat.le_refl _) (b - a) w' f a m b h1 h2 h3 h4 (Nat.le_refl _) h5 h6 h7
  have HS0 : Hid (SAt w w g n id) := hs
  have HNN : Hid (n ≤ 925925926000) := hn
  have HS : Hid (Calls Tryd.prog 43 #[.slice (some ⟨g, 0, none⟩) n n, .int .i64 (n : Int), .func (.func 28) #[] #[cv]] w fun e w' => e = .returned (.tuple #[]) ∧ ∃ f', SAt w w' g n f' ∧ PermOn id f' 0 n ∧ Srt ky f' 0 n) := by
    rw [Hid]
    clear hc hs hn
    go_enter Tryd.func43, Tryd.ntmps43
    go_wp2_with fail
    go_loopw [7, 8] (fun av bv wr => ∃ (c A B : Nat) (f : Nat → Nat), av = .int .i64 (A : Int) ∧ bv = .int .i64 (B : Int) ∧ Hid (A + 20 = B ∧ A ≤ n) ∧ Hid (Fst ky f n c A) ∧ Hid (SAt w wr g n f)) (fun av _ _ => n - (intOf av).toNat)
    case atStart => exact ⟨0, 0, 20, id, rfl, rfl, ⟨rfl, Nat.zero_le _⟩, Fst.zero ky n, HS0⟩
    case round =>
      obtain ⟨c, A, B, f, rfl, rfl, HA, HF, HS⟩ := hrel
      by_cases hlt : B ≤ n
      · have hA := HA.out
        have hz : (B : Int) ≤ (n : Int) := by omega
        obtain ⟨B2, hB2⟩ : ∃ B2, B + 20 = B2 := ⟨_, rfl⟩
        have hw : (B : Int) + 20 = (B2 : Int) := by omega
        have HA2 : Hid (B + 20 = B2 ∧ B ≤ n) := ⟨hB2, hlt⟩
        have HMS : Hid (n - B < n - A) := by rw [Hid]; omega
        have hBn : B ≤ 925925926000 := by have := HNN.out; omega
        have HCA := HIN.out wr f A B HS.out (by omega) hlt (HF.out.ris B)
        have HNX : Hid (∀ f', PermOn f f' A B → Srt ky f' A B → Fst ky f' n (c + 1) B) := fun f' h1 h2 => by
          have e : B = A + 20 := hA.1.symm
          subst e
          exact HF.out.next h1 h2 hlt
        clear hA hB2 hlt
        go_wp2_with fail
        refine HCA.mono ?_
        rintro e w3 ⟨rfl, f', hs3, hp3, hq3⟩
        have HS3 : Hid (SAt w w3 g n f') := hs3
        have HF3 : Hid (Fst ky f' n (c + 1) B) := HNX.out f' hp3 hq3
        clear hs3 hp3 hq3 HCA
        go_wp2_with fail
        go_roundw
        case rel => exact ⟨c + 1, B, B2, f', rfl, by first | rfl | rw [hw], HA2, HF3, HS3⟩
        case measure => simpa [intOf] using HMS.out
      · have hz : ¬ (B : Int) ≤ (n : Int) := by omega
        have HCA := HIN.out wr f A n HS.out HA.out.2 (Nat.le_refl _) (HF.out.ris n)
        have HNX : Hid (∀ f', PermOn f f' A n → Srt ky f' A n → Blk20 ky f' 20 n ∧ PermOn id f' 0 n) := fun f' h1 h2 => HF.out.last h1 h2 HA.out.2 (by have := HA.out; omega)
        clear hlt
        go_wp2_with fail
        refine HCA.mono ?_
        rintro e w3 ⟨rfl, f', hs3, hp3, hq3⟩
        have HS3 : Hid (SAt w w3 g n f') := hs3
        have HB3 : Hid (Blk20 ky f' 20 n ∧ PermOn id f' 0 n) := HNX.out f' hp3 hq3
        clear hs3 hp3 hq3 HCA
        go_wp2_with fail
        clear HIN HNX HF HS HA
        go_loopw [6, 7, 8, 9] (fun sv _ _ _ wr => ∃ (s : Nat) (f : Nat → Nat), sv = .int .i64 (s : Int) ∧ Hid (20 ≤ s ∧ s ≤ 1851851852000) ∧ Hid (Blk20 ky f s n ∧ PermOn id f 0 n) ∧ Hid (SAt w wr g n f)) (fun sv _ _ _ _ => n - (intOf sv).toNat)
        case atStart => exact ⟨20, f', rfl, by rw [Hid]; omega, HB3, HS3⟩
        clear HB3 HS3
        case round =>
          obtain ⟨s, f, rfl, HSZ, HB, HS⟩ := hrel
          by_cases hlt : s < n
          · have hz : (s : Int) < (n : Int) := by omega
            obtain ⟨S2, hS2⟩ : ∃ S2, 2 * s = S2 := ⟨_, rfl⟩
            have hw : 2 * (s : Int) = (S2 : Int) := by omega
            have hw2 : (s : Int) * 2 = (S2 : Int) := by omega
            have HS2 : Hid (2 * s = S2) := hS2
            have hsn : s ≤ 925925926000 := by have := HNN.out; omega
            have hS2n : S2 ≤ 1851851852000 := by omega
            have HMO : Hid (n - S2 < n - s) := by have := HSZ.out; rw [Hid]; omega
            have HSZ2 : Hid (20 ≤ S2 ∧ S2 ≤ 1851851852000) := by have := HSZ.out; rw [Hid]; omega
            have HMZ : Hid (Mdl ky f s n 0 0) := Mdl.zero HB.out.1 HB.out.2
            clear hS2 hlt
            go_wp2_with fail
            go_loopw [7, 8] (fun av bv wr => ∃ (c A B : Nat) (f : Nat → Nat), av = .int .i64 (A : Int) ∧ bv = .int .i64 (B : Int) ∧ Hid (A + S2 = B ∧ A ≤ n) ∧ Hid (Mdl ky f s n c A) ∧ Hid (SAt w wr g n f)) (fun av _ _ => n - (intOf av).toNat)
            case atStart => exact ⟨0, 0, S2, f, rfl, by first | rfl | rw [hw], ⟨Nat.zero_add _, Nat.zero_le _⟩, HMZ, HS⟩
            clear HMZ HS HB
            case round =>
              obtain ⟨c, A, B, f, rfl, rfl, HA, HF, HS⟩ := hrel
              have hA := HA.out
              have hN := HNN.out
              have hQ := HSZ.out
              have hQ2 := HS2.out
              obtain ⟨m, hm⟩ : ∃ m, A + s = m := ⟨_, rfl⟩
              have hwm : (A : Int) + (s : Int) = (m : Int) := by omega
              have hAn : A ≤ 925925926000 := by omega
              by_cases hlt : B ≤ n
              · have hzb : (B : Int) ≤ (n : Int) := by omega
                obtain ⟨B2, hB2⟩ : ∃ B2, B + S2 = B2 := ⟨_, rfl⟩
                have hwb : (B : Int) + (S2 : Int) = (B2 : Int) := by omega
                have HA2 : Hid (B + S2 = B2 ∧ B ≤ n) := ⟨hB2, hlt⟩
                have HMS : Hid (n - B < n - A) := by rw [Hid]; omega
                have hBn : B ≤ 925925926000 := by omega
                have hin := HF.out.in (B := B) (by omega) hlt (by omega)
                rw [hm] at hin
                have HCA := HMG.out wr f A m B HS.out (by omega) (by omega) hlt hin.1 hin.2.1 hin.2.2
                have HNX : Hid (∀ f', PermOn f f' A B → Srt ky f' A B → Mdl ky f' s n (c + 1) B) := fun f' h1 h2 => HF.out.next h1 h2 (by omega) hlt
                clear hA hB2 hlt hin hN hQ hQ2 hm
                go_wp2_with fail
                refine HCA.mono ?_
                rintro e w3 ⟨rfl, f', hs3, hp3, hq3⟩
                have HS3 : Hid (SAt w w3 g n f') := hs3
                have HF3 : Hid (Mdl ky f' s n (c + 1) B) := HNX.out f' hp3 hq3
                clear hs3 hp3 hq3 HCA
                go_wp2_with fail
                go_roundw
                case rel => exact ⟨c + 1, B, B2, f', rfl, by first | rfl | rw [hwb], HA2, HF3, HS3⟩
                case measure => simpa [intOf] using HMS.out
              · have hzb : ¬ (B : Int) ≤ (n : Int) := by omega
                by_cases hmn : m < n
                · have hzm : (m : Int) < (n : Int) := by omega
                  have hin := HF.out.in (B := n) (by omega) (Nat.le_refl _) (by omega)
                  rw [hm] at hin
                  have HCA := HMG.out wr f A m n HS.out (by omega) hmn (Nat.le_refl _) hin.1 hin.2.1 hin.2.2
                  have HNX : Hid (∀ f', PermOn f f' A n → Srt ky f' A n → Blk20 ky f' S2 n ∧ PermOn id f' 0 n) := fun f' h1 h2 => by
                    rw [← hQ2]; exact HF.out.last (by omega) h1 h2
                  clear hA hlt hin hN hQ hQ2 hm hmn
                  go_wp2_with fail
                  refine HCA.mono ?_
                  rintro e w3 ⟨rfl, f', hs3, hp3, hq3⟩
                  have HS3 : Hid (SAt w w3 g n f') := hs3
                  have HB3 : Hid (Blk20 ky f' S2 n ∧ PermOn id f' 0 n) := HNX.out f' hp3 hq3
                  clear hs3 hp3 hq3 HCA
                  go_wp2_with fail
                  go_roundw
                  case rel => exact ⟨S2, f', by first | rfl | rw [hw2], HSZ2, HB3, HS3⟩
                  case measure => first | (rw [hw2]; simpa [intOf] using HMO.out) | (simpa [intOf] using HMO.out)
                · have hzm : ¬ (m : Int) < (n : Int) := by omega
                  have HB3 : Hid (Blk20 ky f S2 n ∧ PermOn id f 0 n) := by
                    rw [← hQ2]; exact HF.out.one (by omega) (by omega)
                  clear hA hlt hN hQ hQ2 hm hmn
                  go_wp2_with fail
                  go_roundw
                  case rel => exact ⟨S2, f, by first | rfl | rw [hw2], HSZ2, HB3, HS⟩
                  case measure => first | (rw [hw2]; simpa [intOf] using HMO.out) | (simpa [intOf] using HMO.out)
          · have hz : ¬ (s : Int) < (n : Int) := by omega
            have hE := HB.out.1.srt (show n ≤ s by omega)
            have HE : Hid (Srt ky f 0 n) := hE
            clear hlt hE
            go_wp2_with fail
            go_end0
            exact ⟨rfl, f, HS.out, HB.out.2, HE.out⟩
  clear hc hs HIN HMG
  go_enter Tryd.func27, Tryd.ntmps27
  go_wp2_with fail
  refine HS.out.mono ?_
  rintro e w1 ⟨rfl, hq⟩
  have HQ : Hid (∃ f', SAt w w1 g n f' ∧ PermOn id f' 0 n ∧ Srt ky f' 0 n) := hq
  clear hq
  go_wp2_with fail
  go_end0
  exact ⟨rfl, HQ.out⟩
end Go.Proofs.YtbpnookejildnaaDoor.Hi
/- The law of the order. -/
namespace Go.Proofs.YtbpnookejildnaaDoor.Hi
open Go.ChangeShapes Go.WideShapes Go.ChangeAt Go.RowKit
set_option linter.unusedVariables false

def kyL (L : List Tr) (i : Nat) : Int := 2 * plA (nt L i) + plB (nt L i)
theorem kyL_lt (L : List Tr) (i j : Nat) : aheadD (nt L i) (nt L j) = true ↔ kyL L i < kyL L j := by
  unfold aheadD kyL plB
  simp only [Bool.or_eq_true, Bool.and_eq_true, decide_eq_true_eq]
  split <;> split <;> omega
def TI (L : List Tr) (x y : Int) : Prop := tot (kyL L) x.toNat y.toNat
theorem atD_up (L : List Tr) (i : Nat) (o : List Int) : ∀ m k, atD L i o m ≤ k → k < m → kyL L i < kyL L (ni o k).toNat
  | 0, k, _, h => by omega
  | m + 1, k, h1, h2 => by
    rw [atD_succ] at h1
    split at h1
    · rename_i hh
      by_cases e : k = m
      · rw [e]; exact (kyL_lt L _ _).1 hh
      · exact atD_up L i o m k h1 (by omega)
    · omega
theorem atD_dn (L : List Tr) (i : Nat) (o : List Int) : ∀ m, atD L i o m = 0 ∨ ¬ kyL L i < kyL L (ni o (atD L i o m - 1)).toNat
  | 0 => Or.inl rfl
  | m + 1 => by
    rw [atD_succ]
    split
    · exact atD_dn L i o m
    · rename_i hh
      exact Or.inr fun h => hh ((kyL_lt L _ _).2 (by simpa using h))
theorem orD_pair (L : List Tr) : ∀ n, (orD L n).Pairwise (TI L)
  | 0 => List.Pairwise.nil
  | n + 1 => by
    have ih := orD_pair L n
    have hl := orD_len L n
    show (insD L n (orD L n)).Pairwise (TI L)
    unfold insD
    have hu := atD_up L n (orD L n) (orD L n).length
    have hd := atD_dn L n (orD L n) (orD L n).length
    have hle := atD_le L n (orD L n) (orD L n).length
    have hlt : ∀ k, k < (orD L n).length → ∃ q : Nat, ni (orD L n) k = (q : Int) ∧ q < n := fun k hk => ni_nat (by rw [hl] at hk; exact hk)
    generalize orD L n = o at *
    generalize atD L n o o.length = t at *
    have hg : ∀ k (h : k < o.length), o[k] = ni o k := fun k h => by simp [ni, h]
    have hsrt : ∀ i j, i < j → j < o.length → TI L (ni o i) (ni o j) := fun i j h1 h2 => by
      have := List.pairwise_iff_getElem.1 ih i j (by omega) h2 h1
      rwa [hg, hg] at this
    have ho : o.take t ++ o.drop t = o := List.take_append_drop _ _
    rw [← ho, List.pairwise_append] at ih
    have hin : ∀ x ∈ o.take t, TI L x (n : Int) := fun x hx => by
      obtain ⟨j, hj, rfl⟩ := List.getElem_of_mem hx
      rw [List.length_take] at hj
      rw [List.getElem_take, hg]
      have hk : TI L (ni o (t - 1)) (n : Int) := by
        rcases hd with h | h
        · omega
        · obtain ⟨q, hq, hqn⟩ := hlt (t - 1) (by omega)
          rw [hq, Int.toNat_natCast] at h
          rw [hq]
          unfold TI
          rw [Int.toNat_natCast, Int.toNat_natCast]
          exact (tot_ge hqn).2 h
      by_cases e : j = t - 1
      · rw [e]; exact hk
      · exact tot_trans (hsrt j (t - 1) (by omega) (by omega)) hk
    have hout : ∀ y ∈ o.drop t, TI L (n : Int) y := fun y hy => by
      obtain ⟨j, hj, rfl⟩ := List.getElem_of_mem hy
      rw [List.length_drop] at hj
      rw [List.getElem_drop, hg]
      obtain ⟨q, hq, hqn⟩ := hlt (t + j) (by omega)
      have := hu (t + j) (by omega) (by omega)
      rw [hq, Int.toNat_natCast] at this
      rw [hq]
      unfold TI
      rw [Int.toNat_natCast, Int.toNat_natCast]
      exact Or.inl this
    rw [List.pairwise_append, List.pairwise_append]
    refine ⟨⟨ih.1, List.pairwise_singleton _ _, fun a ha b hb => ?_⟩, ih.2.1, fun a ha b hb => ?_⟩
    · rw [List.mem_singleton] at hb; subst hb; exact hin a ha
    · rcases List.mem_append.1 ha with h | h
      · exact ih.2.2 a h b hb
      · rw [List.mem_singleton] at h; subst h; exact hout b hb
theorem ordL_pair {L : List Tr} {f : Nat → Nat} {n : Nat} (hs : Srt (kyL L) f 0 n) : (ordL f n).Pairwise (TI L) := by
  unfold ordL
  rw [List.pairwise_map]
  refine (List.pairwise_lt_range (n := n)).imp_of_mem ?_
  intro i j hi hj hij
  unfold TI
  rw [Int.toNat_natCast, Int.toNat_natCast]
  exact hs i j (Nat.zero_le _) hij (List.mem_range.1 hj)
theorem ordL_mem {f : Nat → Nat} {n : Nat} (hp : PermOn id f 0 n) (x : Int) : x ∈ ordL f n ↔ ∃ q : Nat, x = (q : Int) ∧ q < n := by
  unfold ordL
  rw [List.mem_map]
  constructor
  · rintro ⟨i, hi, rfl⟩
    obtain ⟨q, hq, e⟩ := hp.mem (k := i) ⟨Nat.zero_le _, List.mem_range.1 hi⟩
    exact ⟨q, by rw [e]; rfl, hq.2⟩
  · rintro ⟨q, rfl, hq⟩
    obtain ⟨s, t, h1, h2, h3, h4⟩ := hp
    refine ⟨t q, List.mem_range.2 ?_, ?_⟩
    · by_cases h : t q < n
      · exact h
      · have := h3 (t q) (Or.inr (by omega))
        rw [h2] at this
        omega
    · rw [h4, h2]; rfl
theorem ord_same {L : List Tr} {f : Nat → Nat} {n : Nat} (hp : PermOn id f 0 n) (hs : Srt (kyL L) f 0 n) : ordL f n = orD L n := by
  have h1 := ordL_pair hs
  have h2 := orD_pair L n
  have hm : ∀ x, x ∈ ordL f n ↔ x ∈ orD L n := fun x => (ordL_mem hp x).trans (orD_mem L n x).symm
  have n1 : (ordL f n).Nodup := h1.imp fun h e => by subst e; exact tot_asymm h h
  have n2 : (orD L n).Nodup := h2.imp fun h e => by subst e; exact tot_asymm h h
  exact List.Perm.eq_of_pairwise (fun a b _ _ ha hb => (tot_asymm ha hb).elim) h1 h2 ((List.perm_ext_iff_of_nodup n1 n2).2 hm)
/-- What both answer. -/
def ordA2 (H : List Ev) : List Int × Int := if allMay H = true then (orD (txsD H (cntD H H.length 7 (-1))) (cntD H H.length 7 (-1)), 0) else ([], 14)
theorem ordA2_len (H : List Ev) (hl : H.length ≤ 925925926000) : (ordA2 H).1.length ≤ 925925926000 := by
  unfold ordA2
  split
  · show (orD _ _).length ≤ _
    rw [orD_len]
    exact Nat.le_trans (cnt_le _ _ _ _) hl
  · simp
def OrdW (w : World) (H : List Ev) (e : Ending) (w' : World) : Prop := ∃ u, e = .returned (.tuple #[u, .int .i64 (ordA2 H).2]) ∧ IL w' u (ordA2 H).1 ∧ Below w.heap.size w w'
theorem order_q {w : World} {v : Value} {H : List Ev} {a c : Addr} (h : EvL w v H) (he : ErrAt w a c) : Calls Tryd.prog 11 #[v] w (OrdW w H) := by
  refine (order_any h he (fun p hp => stable_any (by
    have := (read_some hp).1.n
    rw [this]
    exact Nat.le_trans (cnt_le _ _ _ _) h.len))).mono ?_
  intro e w' hq
  unfold OrdrQ at hq
  unfold OrdW ordA2
  cases hr : readD H with
  | none =>
    rw [hr] at hq
    rw [if_neg (by rw [allMay_none hr]; decide)]
    exact ⟨_, hq.1, ⟨none, 0, rfl, by simp, by simp, by simp, fun _ => rfl, Or.inl rfl⟩, hq.2⟩
  | some p =>
    rw [hr] at hq
    dsimp only at hq
    obtain ⟨⟨u, f, he, ho, hp, hs⟩, hb⟩ := hq
    rw [if_pos (allMay_some hr)]
    have R := (read_some hr).1
    have hn := R.n
    have hk : kyD p = fun i => kyD p i := rfl
    have hsix : ∀ i, i < p.txs.length → kyD p i = kyL (txsD H (cntD H H.length 7 (-1))) i := fun i hi => by
      obtain ⟨_, _, _, h4, h5, _⟩ := R.six h.len hi
      unfold kyD kyL plA plB
      rw [h4, h5]
    have hs2 : Srt (kyL (txsD H (cntD H H.length 7 (-1)))) f 0 p.txs.length := fun i j h1 h2 h3 => by
      have := hs i j h1 h2 h3
      obtain ⟨q1, hq1, e1⟩ := hp.mem (k := i) ⟨h1, by omega⟩
      obtain ⟨q2, hq2, e2⟩ := hp.mem (k := j) ⟨by omega, h3⟩
      have l1 : f i < p.txs.length := by rw [e1]; exact hq1.2
      have l2 : f j < p.txs.length := by rw [e2]; exact hq2.2
      unfold tot at this ⊢
      rwa [hsix _ l1, hsix _ l2] at this
    have e := ord_same hp hs2
    rw [hn] at e ho
    rw [e] at ho
    refine ⟨u, he, own_il ho (orD_len _ _) ?_, hb⟩
    rw [orD_len]
    have := cnt_le H H.length 7 (-1)
    have := h.len
    omega
theorem rorder_q {w : World} {v : Value} {H : List Ev} (h : EvL w v H) : Calls Tryd.prog 12 #[v] w (OrdW w H) := by
  refine (rorder_any h).mono ?_
  rintro e w' ⟨hq, hb⟩
  unfold OrdW ordA2
  rcases hq with ⟨ha, rfl⟩ | ⟨ha, u, rfl, ho⟩
  · rw [if_neg (by rw [ha]; decide)]
    exact ⟨_, rfl, ⟨none, 0, rfl, by simp, by simp, by simp, fun _ => rfl, Or.inl rfl⟩, hb⟩
  · rw [if_pos ha]
    refine ⟨u, rfl, own_il ho (orD_len _ _) ?_, hb⟩
    rw [orD_len]
    have := cnt_le H H.length 7 (-1)
    have := h.len
    omega
set_option maxRecDepth 1000000 in
set_option maxHeartbeats 8000000 in
theorem orders_walk {w : World} {v : Value} {H : List Ev} {a c : Addr} (h : EvL w v H) (he : ErrAt w a c) : Calls Tryd.prog 4 #[v] w fun e w' => e = .returned (.bool true) ∧ Below w.heap.size w w' := by
  have HSH : Hid (Calls Tryd.prog 7 #[] w fun e w' => e = .returned (.bool true) ∧ Below w.heap.size w w') := shown_any he
  have HOA : Hid (∀ w', Below w.heap.size w w' → Calls Tryd.prog 11 #[v] w' (OrdW w' H)) := fun w' hb => order_q (h.later hb (Nat.le_refl _)) (he.later hb (Nat.le_refl _))
  have HRO : Hid (∀ w', Below w.heap.size w w' → Calls Tryd.prog 12 #[v] w' (OrdW w' H)) := fun w' hb => rorder_q (h.later hb (Nat.le_refl _))
  unfold OrdW at HOA HRO
  generalize (ordA2 H).2 = z at *
  generalize (ordA2 H).1 = l at *
  clear h he
  have HCE : Hid (∀ (w' : World) (va vb : Value), IL w' va l → IL w' vb l → Calls Tryd.prog 13 #[va, vb] w' fun e w'' => e = .returned (.bool true) ∧ Below w'.heap.size w' w'') := fun w' va vb h1 h2 => by
    have := ints_any h1 h2
    simpa using this
  go_enter Tryd.func4, Tryd.ntmps4
  go_wp2_with fail
  refine HSH.out.mono ?_
  rintro e x1 ⟨rfl, hb1⟩
  have HB1 : Hid (Below w.heap.size w x1) := hb1
  clear hb1
  go_wp2_with fail
  refine (HOA.out _ HB1.out).mono ?_
  rintro e x2 ⟨va, rfl, hi2, hb2⟩
  have HI2 : Hid (IL x2 va l) := hi2
  have HB2 : Hid (Below w.heap.size w x2) := below_then HB1.out hb2
  clear hi2 hb2
  go_wp2_with fail
  refine (HRO.out _ HB2.out).mono ?_
  rintro e x3 ⟨vb, rfl, hi3, hb3⟩
  have HI3 : Hid (IL x3 vb l) := hi3
  have HA3 : Hid (IL x3 va l) := HI2.out.later hb3 (Nat.le_refl _)
  have HB3 : Hid (Below w.heap.size w x3) := below_then HB2.out hb3
  clear hi3 hb3
  go_wp2_with fail
  refine (HCE.out _ _ _ HA3.out HI3.out).mono ?_
  rintro e x4 ⟨rfl, hb4⟩
  have HB4 : Hid (Below w.heap.size w x4) := below_then HB3.out hb4
  have hz : (z == z) = true := by simp
  clear hb4
  go_wp2_with fail
  go_ret
  exact ⟨rfl, by first | exact HB4.out | exact below_drawn HB4.out _⟩
end Go.Proofs.YtbpnookejildnaaDoor.Hi
