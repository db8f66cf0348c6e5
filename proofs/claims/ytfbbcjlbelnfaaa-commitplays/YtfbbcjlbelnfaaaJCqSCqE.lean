/- The example at the head of layer 8's statements. -/
import Derived.Test.YtfbbcjlbelnfaaaCqJ
import Derived.Test.YtfbbcjlbelnfaaaJSigRSigF
namespace Go.Proofs.Ytfbbcjlbelnfaaa
open Go.ChangeShapes Go.WideShapes Go.ChangeAt Go.RowKit
attribute [local go_sem ↓] Go.wp_at_zero Go.wp_at_succ

def shR : List Nat := [0, 9007199254740992, 0, 0, 0, 0, 0, 0]
theorem shR_is : Sg.ofAll [2] = shR := by kernel_rfl
theorem shR_ok : Sg.Ok shR := by rw [← shR_is]; exact Sg.ok_ofAll _
def shP : Cp := ⟨4, 1, shR, false, ⟨0, false, false, false, 0, false, 0⟩⟩
theorem shP_ok : POk shP := ⟨by decide, by decide, by decide, by decide, shR_ok⟩
def kL0 : List Ac := storeL 2 4 [] 0 ⟨1, 0, 0⟩ 2
def kB1 : Ck := ⟨1, 2, 2, 0, 1, 0⟩
def kL1 : List Ac := nextKL 2 4 shP (ckNew shP) kL0 5
def kL2 : List Ac := nextKL 2 4 shP kB1 kL1 5
def kL3 : List Ac := storeL 2 4 kL2 0 ⟨2, 2, 0⟩ 5
def kB3 : Ck := ⟨2, 2, 2, 1, 2, 0⟩
def kL4 : List Ac := nextKL 2 4 shP kB1 kL3 5
def kB4 : Ck := ⟨4, 2, 2, 8, 2, 0⟩
def kL5 : List Ac := nextKL 2 4 shP kB3 kL4 5
theorem kn1 : nextK 4 shP (ckNew shP) kL0 = kB1 ∧ ansKK 4 shP (ckNew shP) kL0 = 2 ∧ errKK 4 shP (ckNew shP) kL0 = 0 ∧ goesK 4 shP (ckNew shP) = true ∧ nextN 4 shP (ckNew shP) kL0 0 = 1 := ⟨rfl, rfl, rfl, rfl, rfl⟩
theorem kn2 : nextK 4 shP kB1 kL1 = kB1 ∧ ansKK 4 shP kB1 kL1 = 1 ∧ errKK 4 shP kB1 kL1 = 0 ∧ goesK 4 shP kB1 = true ∧ nextN 4 shP kB1 kL1 1 = 1 := ⟨rfl, rfl, rfl, rfl, rfl⟩
theorem kn4 : nextK 4 shP kB1 kL3 = kB3 ∧ ansKK 4 shP kB1 kL3 = 2 ∧ errKK 4 shP kB1 kL3 = 0 ∧ goesK 4 shP kB1 = true ∧ nextN 4 shP kB1 kL3 1 = 2 := ⟨rfl, rfl, rfl, rfl, rfl⟩
theorem kn5 : nextK 4 shP kB3 kL4 = kB4 ∧ ansKK 4 shP kB3 kL4 = 3 ∧ errKK 4 shP kB3 kL4 = 0 ∧ goesK 4 shP kB3 = true ∧ nextN 4 shP kB3 kL4 2 = 3 := ⟨rfl, rfl, rfl, rfl, rfl⟩
theorem cells8 {w : World} {B : Nat} {t : TypeId} {c0 c1 c2 c3 c4 c5 c6 c7 : Value} (h : w.heap[B]? = some (.cells #[c0, c1, c2, c3, c4, c5, c6, c7] t (0, 0))) :
    w.cell? ⟨B, 0, none⟩ = some c0 ∧ w.cell? ⟨B, 1, none⟩ = some c1 ∧ w.cell? ⟨B, 2, none⟩ = some c2 ∧ w.cell? ⟨B, 3, none⟩ = some c3 ∧ w.cell? ⟨B, 4, none⟩ = some c4 ∧ w.cell? ⟨B, 5, none⟩ = some c5 ∧ w.cell? ⟨B, 6, none⟩ = some c6 ∧ w.cell? ⟨B, 7, none⟩ = some c7 :=
  ⟨by rw [cell_at h]; rfl, by rw [cell_at h]; rfl, by rw [cell_at h]; rfl, by rw [cell_at h]; rfl, by rw [cell_at h]; rfl, by rw [cell_at h]; rfl, by rw [cell_at h]; rfl, by rw [cell_at h]; rfl⟩
end Go.Proofs.Ytfbbcjlbelnfaaa
/- CheckElse walked. -/
namespace Go.Proofs.Ytfbbcjlbelnfaaa
open Go.ChangeShapes Go.WideShapes Go.ChangeAt Go.RowKit
attribute [local go_sem ↓] Go.wp_at_zero Go.wp_at_succ

def takesK (s z : Int) : Bool := decide (1 ≤ s) && decide (s ≤ 16) && decide (0 ≤ z)
theorem ctakes_any (s z : Int) (w : World) : Calls Try.prog 27 #[.int .i64 s, .int .i64 z] w fun e w' => e = .returned (.bool (takesK s z)) ∧ w' = w := by
  unfold takesK
  by_cases h1 : 1 ≤ s
  · have d1 : decide (1 ≤ s) = true := decide_eq_true h1
    by_cases h2 : s ≤ 16
    · have d2 : decide (s ≤ 16) = true := decide_eq_true h2
      rw [d1, d2]
      clear h1 h2
      go_enter Try.func27, Try.ntmps27
      go_wp2
      go_ret
      exact ⟨rfl, rfl⟩
    · have d2 : decide (s ≤ 16) = false := decide_eq_false h2
      rw [d1, d2]
      clear h1 h2
      go_enter Try.func27, Try.ntmps27
      go_wp2
      go_ret
      exact ⟨rfl, rfl⟩
  · have d1 : decide (1 ≤ s) = false := decide_eq_false h1
    rw [d1]
    clear h1
    go_enter Try.func27, Try.ntmps27
    go_wp2
    go_ret
    exact ⟨rfl, rfl⟩
def elC (s z : Int) (rd : List Nat) (r : Int) : Array Value := #[.int .i64 s, .int .i64 z, rdV rd 0, rdV rd 1, rdV rd 2, rdV rd 3, rdV rd 4, rdV rd 5, rdV rd 6, rdV rd 7, .int .i64 r]
end Go.Proofs.Ytfbbcjlbelnfaaa
