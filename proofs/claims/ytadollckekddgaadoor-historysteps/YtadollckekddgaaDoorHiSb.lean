/- The library's stable sort. -/
import Derived.Test.YtadollckekddgaaDoorHiMg
import Derived.Test.YtadollckekddgaaDoorHiOr
namespace Go.Proofs.YtadollckekddgaaDoor.Hi
open Go.ChangeShapes Go.WideShapes Go.ChangeAt Go.RowKit
set_option linter.unusedVariables false

/-- A block: its numbers are its own, in order. -/
def Bk (ky : Nat → Int) (f : Nat → Nat) (n lo hi : Nat) : Prop := (∀ k, lo ≤ k → k < hi → k < n → lo ≤ f k ∧ f k < hi) ∧ ∀ i j, lo ≤ i → i < j → j < hi → j < n → tot ky (f i) (f j)
theorem Bk.congr {ky : Nat → Int} {f g : Nat → Nat} {n lo hi : Nat} (h : Bk ky f n lo hi) (e : ∀ k, lo ≤ k → k < hi → k < n → g k = f k) : Bk ky g n lo hi :=
  ⟨fun k h1 h2 h3 => by rw [e k h1 h2 h3]; exact h.1 k h1 h2 h3, fun i j h1 h2 h3 h4 => by rw [e i h1 (by omega) (by omega), e j (by omega) h3 h4]; exact h.2 i j h1 h2 h3 h4⟩
theorem Bk.empty {ky : Nat → Int} {f : Nat → Nat} {n lo hi : Nat} (h : n ≤ lo) : Bk ky f n lo hi := ⟨fun k h1 h2 h3 => by omega, fun i j h1 h2 h3 h4 => by omega⟩
def Blk20 (ky : Nat → Int) (f : Nat → Nat) (s n : Nat) : Prop := ∀ q, Bk ky f n (q * s) (q * s + s)
/-- The first blocks are in order, the rest is as it was. -/
structure Fst (ky : Nat → Int) (f : Nat → Nat) (n c A : Nat) : Prop where
  a : A = c * 20
  b : ∀ q, q < c → Bk ky f n (q * 20) (q * 20 + 20)
  r : ∀ k, A ≤ k → f k = k
  p : PermOn id f 0 n
theorem Fst.zero (ky : Nat → Int) (n : Nat) : Fst ky id n 0 0 := ⟨rfl, fun q h => by omega, fun k _ => rfl, PermOn.refl _ _ _⟩
theorem Fst.ris {ky : Nat → Int} {f : Nat → Nat} {n c A : Nat} (h : Fst ky f n c A) (b : Nat) : Ris f A b := fun i j h1 h2 h3 => by rw [h.r i h1, h.r j (by omega)]; exact h2
theorem Fst.blk {ky : Nat → Int} {f g : Nat → Nat} {n c A B : Nat} (h : Fst ky f n c A) (hp : PermOn f g A B) (hs : Srt ky g A B) (hB : B ≤ A + 20) (hn : B = A + 20 ∨ n ≤ B) : Bk ky g n A (A + 20) := by
  refine ⟨fun k h1 h2 h3 => ?_, fun i j h1 h2 h3 h4 => hs i j h1 h2 (by omega)⟩
  obtain ⟨q, hq, e⟩ := hp.mem (k := k) ⟨h1, by omega⟩
  rw [e, h.r q hq.1]
  omega
theorem Fst.old {ky : Nat → Int} {f g : Nat → Nat} {n c A B : Nat} (h : Fst ky f n c A) (hp : PermOn f g A B) : ∀ q, q < c → Bk ky g n (q * 20) (q * 20 + 20) := fun q hq => (h.b q hq).congr fun k h1 h2 h3 => hp.out (Or.inl (by have := h.a; omega))
theorem Fst.next {ky : Nat → Int} {f g : Nat → Nat} {n c A : Nat} (h : Fst ky f n c A) (hp : PermOn f g A (A + 20)) (hs : Srt ky g A (A + 20)) (hn : A + 20 ≤ n) : Fst ky g n (c + 1) (A + 20) := by
  refine ⟨by have := h.a; omega, fun q hq => ?_, fun k hk => by rw [hp.out (Or.inr hk)]; exact h.r k (by omega), h.p.trans (hp.mono (Nat.zero_le _) hn)⟩
  by_cases e : q = c
  · have := h.blk hp hs (Nat.le_refl _) (Or.inl rfl)
    rw [h.a] at this
    rw [e]; exact this
  · exact h.old hp q (by omega)
theorem Fst.last {ky : Nat → Int} {f g : Nat → Nat} {n c A : Nat} (h : Fst ky f n c A) (hp : PermOn f g A n) (hs : Srt ky g A n) (hA : A ≤ n) (hn : n < A + 20) : Blk20 ky g 20 n ∧ PermOn id g 0 n := by
  refine ⟨fun q => ?_, h.p.trans (hp.mono (Nat.zero_le _) (Nat.le_refl _))⟩
  by_cases e : q = c
  · have := h.blk hp hs (by omega) (Or.inr (Nat.le_refl _))
    rw [h.a] at this
    rw [e]; exact this
  · by_cases hq : q < c
    · exact h.old hp q hq
    · exact Bk.empty (by have := h.a; omega)
/-- Blocks are merged, two by two. -/
structure Mdl (ky : Nat → Int) (f : Nat → Nat) (s n c A : Nat) : Prop where
  a : A = c * (2 * s)
  l : ∀ q, q < c → Bk ky f n (q * (2 * s)) (q * (2 * s) + 2 * s)
  r : ∀ q, 2 * c ≤ q → Bk ky f n (q * s) (q * s + s)
  p : PermOn id f 0 n
theorem Mdl.zero {ky : Nat → Int} {f : Nat → Nat} {s n : Nat} (h : Blk20 ky f s n) (hp : PermOn id f 0 n) : Mdl ky f s n 0 0 := ⟨by simp, fun q hq => by omega, fun q _ => h q, hp⟩
theorem Mdl.two {ky : Nat → Int} {f : Nat → Nat} {s n c A : Nat} (h : Mdl ky f s n c A) : Bk ky f n A (A + s) ∧ Bk ky f n (A + s) (A + 2 * s) := by
  have e : 2 * c * s = A := by rw [h.a, Nat.mul_comm 2 c, Nat.mul_assoc]
  have e2 : (2 * c + 1) * s = A + s := by rw [Nat.succ_mul, e]
  have h1 := h.r (2 * c) (Nat.le_refl _)
  have h2 := h.r (2 * c + 1) (by omega)
  rw [e] at h1
  rw [e2] at h2
  exact ⟨h1, by rwa [show A + s + s = A + 2 * s by omega] at h2⟩
theorem Mdl.pre {ky : Nat → Int} {f : Nat → Nat} {s n c A B : Nat} (h : Mdl ky f s n c A) (hB : B ≤ n) (hB2 : B ≤ A + 2 * s) : Srt ky f A (A + s) ∨ n ≤ A + s := by
  by_cases hn : n ≤ A + s
  · exact Or.inr hn
  · exact Or.inl fun i j h1 h2 h3 => h.two.1.2 i j h1 h2 h3 (by omega)
theorem Mdl.in {ky : Nat → Int} {f : Nat → Nat} {s n c A B : Nat} (h : Mdl ky f s n c A) (hm : A + s < B) (hB : B ≤ n) (hB2 : B ≤ A + 2 * s) : Srt ky f A (A + s) ∧ Srt ky f (A + s) B ∧ Sep f A (A + s) B :=
  ⟨fun i j h1 h2 h3 => h.two.1.2 i j h1 h2 h3 (by omega), fun i j h1 h2 h3 => h.two.2.2 i j h1 h2 (by omega) (by omega), fun i j h1 h2 h3 h4 => by
    have := h.two.1.1 i h1 h2 (by omega)
    have := h.two.2.1 j h3 (by omega) (by omega)
    omega⟩
theorem Mdl.blk {ky : Nat → Int} {f g : Nat → Nat} {s n c A B : Nat} (h : Mdl ky f s n c A) (hp : PermOn f g A B) (hs : Srt ky g A B) (hB : B ≤ n) (hB2 : B ≤ A + 2 * s) (hn : B = A + 2 * s ∨ n = B) : Bk ky g n A (A + 2 * s) := by
  refine ⟨fun k h1 h2 h3 => ?_, fun i j h1 h2 h3 h4 => hs i j h1 h2 (by omega)⟩
  obtain ⟨q, hq, e⟩ := hp.mem (k := k) ⟨h1, by omega⟩
  rw [e]
  by_cases hqs : q < A + s
  · have := h.two.1.1 q hq.1 hqs (by omega); omega
  · have := h.two.2.1 q (by omega) (by omega) (by omega); omega
theorem Mdl.old {ky : Nat → Int} {f g : Nat → Nat} {s n c A B : Nat} (h : Mdl ky f s n c A) (hp : PermOn f g A B) : ∀ q, q < c → Bk ky g n (q * (2 * s)) (q * (2 * s) + 2 * s) := fun q hq => (h.l q hq).congr fun k h1 h2 h3 => hp.out (Or.inl (by
  have h4 : (q + 1) * (2 * s) ≤ c * (2 * s) := Nat.mul_le_mul_right _ hq
  rw [Nat.succ_mul, ← h.a] at h4
  omega))
theorem Mdl.next {ky : Nat → Int} {f g : Nat → Nat} {s n c A B : Nat} (h : Mdl ky f s n c A) (hp : PermOn f g A B) (hs : Srt ky g A B) (hB : B = A + 2 * s) (hn : B ≤ n) : Mdl ky g s n (c + 1) B := by
  refine ⟨by rw [Nat.succ_mul, ← h.a]; exact hB, fun q hq => ?_, fun q hq => ?_, h.p.trans (hp.mono (Nat.zero_le _) hn)⟩
  · by_cases e : q = c
    · have := h.blk hp hs hn (by omega) (Or.inl hB)
      rw [h.a] at this
      rw [e]; exact this
    · exact h.old hp q (by omega)
  · refine (h.r q (by omega)).congr fun k h1 h2 h3 => hp.out (Or.inr ?_)
    have h4 : (2 * c + 2) * s ≤ q * s := Nat.mul_le_mul_right _ (by omega)
    have e : 2 * c * s = A := by rw [h.a, Nat.mul_comm 2 c, Nat.mul_assoc]
    rw [Nat.add_mul, e] at h4
    omega
theorem Mdl.fin {ky : Nat → Int} {f : Nat → Nat} {s n c A : Nat} (h : Mdl ky f s n c A) (hA : n < A + 2 * s) (hs : Bk ky f n A (A + 2 * s)) : Blk20 ky f (2 * s) n := fun q => by
  by_cases hq : q < c
  · exact h.l q hq
  · by_cases e : q = c
    · rw [e, ← h.a]; exact hs
    · have h4 : (c + 1) * (2 * s) ≤ q * (2 * s) := Nat.mul_le_mul_right _ (by omega)
      rw [Nat.succ_mul, ← h.a] at h4
      exact Bk.empty (by omega)
/-- What is left is merged. -/
theorem Mdl.last {ky : Nat → Int} {f g : Nat → Nat} {s n c A : Nat} (h : Mdl ky f s n c A) (hA : n < A + 2 * s) (hp : PermOn f g A n) (hs : Srt ky g A n) : Blk20 ky g (2 * s) n ∧ PermOn id g 0 n := by
  refine ⟨fun q => ?_, h.p.trans (hp.mono (Nat.zero_le _) (Nat.le_refl _))⟩
  by_cases hq : q < c
  · exact h.old hp q hq
  · by_cases e : q = c
    · rw [e, ← h.a]; exact h.blk hp hs (Nat.le_refl _) (by omega) (Or.inr rfl)
    · have h4 : (c + 1) * (2 * s) ≤ q * (2 * s) := Nat.mul_le_mul_right _ (by omega)
      rw [Nat.succ_mul, ← h.a] at h4
      exact Bk.empty (by omega)
/-- What is left is one block. -/
theorem Mdl.one {ky : Nat → Int} {f : Nat → Nat} {s n c A : Nat} (h : Mdl ky f s n c A) (h0 : 0 < s) (hA : n ≤ A + s) : Blk20 ky f (2 * s) n ∧ PermOn id f 0 n := by
  refine ⟨h.fin (by omega) ⟨fun k h1 h2 h3 => ?_, fun i j h1 h2 h3 h4 => h.two.1.2 i j h1 h2 (by omega) h4⟩, h.p⟩
  have := h.two.1.1 k h1 (by omega) h3
  omega
theorem Blk20.srt {ky : Nat → Int} {f : Nat → Nat} {s n : Nat} (h : Blk20 ky f s n) (hs : n ≤ s) : Srt ky f 0 n := fun i j h1 h2 h3 => by
  have := (h 0).2 i j (by omega) h2 (by omega) h3
  exact this

set_option maxRecDepth 100000 in
set_option maxHeartbeats 6400000 in
theorem stable_any {n : Nat} (hn : n ≤ 925925926000) : StQ n := by
  intro w g cv ky hc hs
  have HIN : Hid (∀ (w' : World) (f : Nat → Nat) (a b : Nat), SAt w w' g n f → a ≤ b → b ≤ n → Ris f a b → Calls Tryd.prog 43 #[.slice (some ⟨g, 0, none⟩) n n, .int .i64 (a : Int), .int .i64 (b : Int), .func (.func 14) #[] #[cv]] w' fun e w'' => e = .returned (.tuple #[]) ∧ ∃ f', SAt w w'' g n f' ∧ PermOn f f' a b ∧ Srt ky f' a b) := fun w' f a b h1 h2 h3 h4 => ins_any hc h1 h2 h3 hn (Nat.le_refl _) h4
  have HMG : Hid (∀ (w' : World) (f : Nat → Nat) (a m b : Nat), SAt w w' g n f → a < m → m < b → b ≤ n → Srt ky f a m → Srt ky f m b → Sep f a m b → Calls Tryd.prog 44 #[.slice (some ⟨g, 0, none⟩) n n, .int .i64 (a : Int), .int .i64 (m : Int), .int .i64 (b : Int), .func (.func 14) #[] #[cv]] w' fun e w'' => e = .returned (.tuple #[]) ∧ ∃ f', SAt w w'' g n f' ∧ PermOn f f' a b ∧ Srt ky f' a b) := fun w' f a m b h1 h2 h3 h4 h5 h6 h7 => merge_any hc hn (Nat.le_refl _) (b - a) w' f a m b h1 h2 h3 h4 (Nat.le_refl _) h5 h6 h7
  have HS0 : Hid (SAt w w g n id) := hs
  have HNN : Hid (n ≤ 925925926000) := hn
  have HS : Hid (Calls Tryd.prog 25 #[.slice (some ⟨g, 0, none⟩) n n, .int .i64 (n : Int), .func (.func 14) #[] #[cv]] w fun e w' => e = .returned (.tuple #[]) ∧ ∃ f', SAt w w' g n f' ∧ PermOn id f' 0 n ∧ Srt ky f' 0 n) := by
    rw [Hid]
    clear hc hs hn
    go_enter Tryd.func25, Tryd.ntmps25
    go_wp2_with fail
    go_loopw [7, 8] (fun av bv wr => ∃ (c A B : Nat) (f : Nat → Nat), av = .int .i64 (A : Int) ∧ bv = .int .i64 (B : Int) ∧ Hid (A + 20 = B ∧ A ≤ n) ∧ Hid (Fst ky f n c A) ∧ Hid (SAt w wr g n f)) (fun av _ _ => n - (intOf av).toNat)
    case atStart => exact ⟨0, 0, 20, id, rfl, rfl, ⟨rfl, Nat.zero_le _⟩, Fst.zero ky n, HS0⟩
    case round =>
      obtain ⟨c, A, B, f, rfl, rfl, HA, HF, HS⟩ := hrel
      by_cases hlt : B ≤ n
      · have hA := HA.out
        have hz : (B : Int) ≤ (n : Int) := by omega
        obtain ⟨B2, hB2⟩ : ∃ B2, B + 20 = B2 := ⟨_, rfl⟩
        have hw : (B : Int) + 20 = (B2 : Int) := by omega
        have HA2 : Hid (B + 20 = B2 ∧ B ≤ n) := ⟨hB2, hlt⟩
        have HMS : Hid (n - B < n - A) := by rw [Hid]; omega
        have hBn : B ≤ 925925926000 := by have := HNN.out; omega
        have HCA := HIN.out wr f A B HS.out (by omega) hlt (HF.out.ris B)
        have HNX : Hid (∀ f', PermOn f f' A B → Srt ky f' A B → Fst ky f' n (c + 1) B) := fun f' h1 h2 => by
          have e : B = A + 20 := hA.1.symm
          subst e
          exact HF.out.next h1 h2 hlt
        clear hA hB2 hlt
        go_wp2_with fail
        refine HCA.mono ?_
        rintro e w3 ⟨rfl, f', hs3, hp3, hq3⟩
        have HS3 : Hid (SAt w w3 g n f') := hs3
        have HF3 : Hid (Fst ky f' n (c + 1) B) := HNX.out f' hp3 hq3
        clear hs3 hp3 hq3 HCA
        go_wp2_with fail
        go_roundw
        case rel => exact ⟨c + 1, B, B2, f', rfl, by first | rfl | rw [hw], HA2, HF3, HS3⟩
        case measure => simpa [intOf] using HMS.out
      · have hz : ¬ (B : Int) ≤ (n : Int) := by omega
        have HCA := HIN.out wr f A n HS.out HA.out.2 (Nat.le_refl _) (HF.out.ris n)
        have HNX : Hid (∀ f', PermOn f f' A n → Srt ky f' A n → Blk20 ky f' 20 n ∧ PermOn id f' 0 n) := fun f' h1 h2 => HF.out.last h1 h2 HA.out.2 (by have := HA.out; omega)
        clear hlt
        go_wp2_with fail
        refine HCA.mono ?_
        rintro e w3 ⟨rfl, f', hs3, hp3, hq3⟩
        have HS3 : Hid (SAt w w3 g n f') := hs3
        have HB3 : Hid (Blk20 ky f' 20 n ∧ PermOn id f' 0 n) := HNX.out f' hp3 hq3
        clear hs3 hp3 hq3 HCA
        go_wp2_with fail
        clear HIN HNX HF HS HA
        go_loopw [6, 7, 8, 9] (fun sv _ _ _ wr => ∃ (s : Nat) (f : Nat → Nat), sv = .int .i64 (s : Int) ∧ Hid (20 ≤ s ∧ s ≤ 1851851852000) ∧ Hid (Blk20 ky f s n ∧ PermOn id f 0 n) ∧ Hid (SAt w wr g n f)) (fun sv _ _ _ _ => n - (intOf sv).toNat)
        case atStart => exact ⟨20, f', rfl, by rw [Hid]; omega, HB3, HS3⟩
        clear HB3 HS3
        case round =>
          obtain ⟨s, f, rfl, HSZ, HB, HS⟩ := hrel
          by_cases hlt : s < n
          · have hz : (s : Int) < (n : Int) := by omega
            obtain ⟨S2, hS2⟩ : ∃ S2, 2 * s = S2 := ⟨_, rfl⟩
            have hw : 2 * (s : Int) = (S2 : Int) := by omega
            have hw2 : (s : Int) * 2 = (S2 : Int) := by omega
            have HS2 : Hid (2 * s = S2) := hS2
            have hsn : s ≤ 925925926000 := by have := HNN.out; omega
            have hS2n : S2 ≤ 1851851852000 := by omega
            have HMO : Hid (n - S2 < n - s) := by have := HSZ.out; rw [Hid]; omega
            have HSZ2 : Hid (20 ≤ S2 ∧ S2 ≤ 1851851852000) := by have := HSZ.out; rw [Hid]; omega
            have HMZ : Hid (Mdl ky f s n 0 0) := Mdl.zero HB.out.1 HB.out.2
            clear hS2 hlt
            go_wp2_with fail
            go_loopw [7, 8] (fun av bv wr => ∃ (c A B : Nat) (f : Nat → Nat), av = .int .i64 (A : Int) ∧ bv = .int .i64 (B : Int) ∧ Hid (A + S2 = B ∧ A ≤ n) ∧ Hid (Mdl ky f s n c A) ∧ Hid (SAt w wr g n f)) (fun av _ _ => n - (intOf av).toNat)
            case atStart => exact ⟨0, 0, S2, f, rfl, by first | rfl | rw [hw], ⟨Nat.zero_add _, Nat.zero_le _⟩, HMZ, HS⟩
            clear HMZ HS HB
            case round =>
              obtain ⟨c, A, B, f, rfl, rfl, HA, HF, HS⟩ := hrel
              have hA := HA.out
              have hN := HNN.out
              have hQ := HSZ.out
              have hQ2 := HS2.out
              obtain ⟨m, hm⟩ : ∃ m, A + s = m := ⟨_, rfl⟩
              have hwm : (A : Int) + (s : Int) = (m : Int) := by omega
              have hAn : A ≤ 925925926000 := by omega
              by_cases hlt : B ≤ n
              · have hzb : (B : Int) ≤ (n : Int) := by omega
                obtain ⟨B2, hB2⟩ : ∃ B2, B + S2 = B2 := ⟨_, rfl⟩
                have hwb : (B : Int) + (S2 : Int) = (B2 : Int) := by omega
                have HA2 : Hid (B + S2 = B2 ∧ B ≤ n) := ⟨hB2, hlt⟩
                have HMS : Hid (n - B < n - A) := by rw [Hid]; omega
                have hBn : B ≤ 925925926000 := by omega
                have hin := HF.out.in (B := B) (by omega) hlt (by omega)
                rw [hm] at hin
                have HCA := HMG.out wr f A m B HS.out (by omega) (by omega) hlt hin.1 hin.2.1 hin.2.2
                have HNX : Hid (∀ f', PermOn f f' A B → Srt ky f' A B → Mdl ky f' s n (c + 1) B) := fun f' h1 h2 => HF.out.next h1 h2 (by omega) hlt
                clear hA hB2 hlt hin hN hQ hQ2 hm
                go_wp2_with fail
                refine HCA.mono ?_
                rintro e w3 ⟨rfl, f', hs3, hp3, hq3⟩
                have HS3 : Hid (SAt w w3 g n f') := hs3
                have HF3 : Hid (Mdl ky f' s n (c + 1) B) := HNX.out f' hp3 hq3
                clear hs3 hp3 hq3 HCA
                go_wp2_with fail
                go_roundw
                case rel => exact ⟨c + 1, B, B2, f', rfl, by first | rfl | rw [hwb], HA2, HF3, HS3⟩
                case measure => simpa [intOf] using HMS.out
              · have hzb : ¬ (B : Int) ≤ (n : Int) := by omega
                by_cases hmn : m < n
                · have hzm : (m : Int) < (n : Int) := by omega
                  have hin := HF.out.in (B := n) (by omega) (Nat.le_refl _) (by omega)
                  rw [hm] at hin
                  have HCA := HMG.out wr f A m n HS.out (by omega) hmn (Nat.le_refl _) hin.1 hin.2.1 hin.2.2
                  have HNX : Hid (∀ f', PermOn f f' A n → Srt ky f' A n → Blk20 ky f' S2 n ∧ PermOn id f' 0 n) := fun f' h1 h2 => by
                    rw [← hQ2]; exact HF.out.last (by omega) h1 h2
                  clear hA hlt hin hN hQ hQ2 hm hmn
                  go_wp2_with fail
                  refine HCA.mono ?_
                  rintro e w3 ⟨rfl, f', hs3, hp3, hq3⟩
                  have HS3 : Hid (SAt w w3 g n f') := hs3
                  have HB3 : Hid (Blk20 ky f' S2 n ∧ PermOn id f' 0 n) := HNX.out f' hp3 hq3
                  clear hs3 hp3 hq3 HCA
                  go_wp2_with fail
                  go_roundw
                  case rel => exact ⟨S2, f', by first | rfl | rw [hw2], HSZ2, HB3, HS3⟩
                  case measure => first | (rw [hw2]; simpa [intOf] using HMO.out) | (simpa [intOf] using HMO.out)
                · have hzm : ¬ (m : Int) < (n : Int) := by omega
                  have HB3 : Hid (Blk20 ky f S2 n ∧ PermOn id f 0 n) := by
                    rw [← hQ2]; exact HF.out.one (by omega) (by omega)
                  clear hA hlt hN hQ hQ2 hm hmn
                  go_wp2_with fail
                  go_roundw
                  case rel => exact ⟨S2, f, by first | rfl | rw [hw2], HSZ2, HB3, HS⟩
                  case measure => first | (rw [hw2]; simpa [intOf] using HMO.out) | (simpa [intOf] using HMO.out)
          · have hz : ¬ (s : Int) < (n : Int) := by omega
            have hE := HB.out.1.srt (show n ≤ s by omega)
            have HE : Hid (Srt ky f 0 n) := hE
            clear hlt hE
            go_wp2_with fail
            go_end0
            exact ⟨rfl, f, HS.out, HB.out.2, HE.out⟩
  clear hc hs HIN HMG
  go_enter Tryd.func13, Tryd.ntmps13
  go_wp2_with fail
  refine HS.out.mono ?_
  rintro e w1 ⟨rfl, hq⟩
  have HQ : Hid (∃ f', SAt w w1 g n f' ∧ PermOn id f' 0 n ∧ Srt ky f' 0 n) := hq
  clear hq
  go_wp2_with fail
  go_end0
  exact ⟨rfl, HQ.out⟩
end Go.Proofs.YtadollckekddgaaDoor.Hi
