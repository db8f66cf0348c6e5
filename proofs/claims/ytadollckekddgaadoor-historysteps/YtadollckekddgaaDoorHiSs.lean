/- The library's stable sort of few. -/
import Derived.Test.YtadollckekddgaaDoorHiOr
namespace Go.Proofs.YtadollckekddgaaDoor.Hi
open Go.ChangeShapes Go.WideShapes Go.ChangeAt Go.RowKit
set_option linter.unusedVariables false

theorem stable_small {n : Nat} (hn : n < 20) : StQ n := by
  intro w g cv ky hc hs
  have HI : Hid (Calls Tryd.prog 43 #[.slice (some ⟨g, 0, none⟩) n n, .int .i64 0, .int .i64 (n : Int), .func (.func 14) #[] #[cv]] w fun e w' => e = .returned (.tuple #[]) ∧ ∃ f', SAt w w' g n f' ∧ PermOn id f' 0 n ∧ Srt ky f' 0 n) :=
    ins_any hc hs (Nat.zero_le _) (Nat.le_refl _) (by omega) (Nat.le_refl _) (fun i j _ h _ => h)
  have HS : Hid (Calls Tryd.prog 25 #[.slice (some ⟨g, 0, none⟩) n n, .int .i64 (n : Int), .func (.func 14) #[] #[cv]] w fun e w' => e = .returned (.tuple #[]) ∧ ∃ f', SAt w w' g n f' ∧ PermOn id f' 0 n ∧ Srt ky f' 0 n) := by
    rw [Hid]
    clear hc hs
    have h1 : ¬ (20 : Int) ≤ (n : Int) := by omega
    have h2 : ¬ (20 : Int) < (n : Int) := by omega
    go_enter Tryd.func25, Tryd.ntmps25
    go_wp2_with fail
    refine wp_loop_rounds 1 ?_
    rw [rounds_succ]
    go_wp2_with fail
    refine HI.out.mono ?_
    rintro e w1 ⟨rfl, hq⟩
    have HQ : Hid (∃ f', SAt w w1 g n f' ∧ PermOn id f' 0 n ∧ Srt ky f' 0 n) := hq
    clear hq
    go_wp2_with fail
    refine wp_loop_rounds 1 ?_
    rw [rounds_succ]
    go_wp2_with fail
    go_end0
    exact ⟨rfl, HQ.out⟩
  clear hc hs HI
  go_enter Tryd.func13, Tryd.ntmps13
  go_wp2_with fail
  refine HS.out.mono ?_
  rintro e w1 ⟨rfl, hq⟩
  have HQ : Hid (∃ f', SAt w w1 g n f' ∧ PermOn id f' 0 n ∧ Srt ky f' 0 n) := hq
  clear hq
  go_wp2_with fail
  go_end0
  exact ⟨rfl, HQ.out⟩
end Go.Proofs.YtadollckekddgaaDoor.Hi
