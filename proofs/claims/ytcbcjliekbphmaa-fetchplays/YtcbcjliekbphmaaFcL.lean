/- Both machines of layer 8: the document's Step whatever comes; the law's starts. -/
import Derived.Test.YtcbcjliekbphmaaFcK
namespace Go.Proofs.Ytcbcjliekbphmaa
open Go.ChangeShapes Go.WideShapes Go.ChangeAt Go.RowKit
attribute [local go_sem ↓] Go.wp_at_zero Go.wp_at_succ

/-- The loads that the document's machine keeps behind a step. -/
def nextKI (r : Nat) (P : Cp) (b : Ck) (L : List Ac) (l : List Int) : List Int := if goesK r P b then (if waitK b (wordOf L (adK P b)) then l else l ++ [wordOf L (adK P b)]) else l
theorem rkstep_some {w : World} {base Y : Nat} {P : Cp} {q : Value} {c : Nat} {L : List Ac} {l : List Int} {K G : List Nat} (h : RKM w base q c L K Y P l G) (hb : base ≤ w.heap.size) (hL : L.length < 3298534883328) (hk : LKk P l) (hp : POk P) (ht : ¬ thr (runK P l)) (hv : W64 (wordOf L (adK P (runK P l)))) (t : Int) :
    Calls Try.prog 39 #[.pointer (some ⟨Y, 3, none⟩), q, .int .i64 t] w fun e w' => e = .returned (.tuple #[.int .i64 (kindK P (runK P l) (wordOf L (adK P (runK P l)))), .int .i64 (errK P (runK P l) (wordOf L (adK P (runK P l))))]) ∧ ∃ K' G', RKM w' base q c (loadL c P.s L t (adK P (runK P l))) K' Y P (if waitK (runK P l) (wordOf L (adK P (runK P l))) then l else l ++ [wordOf L (adK P (runK P l))]) G' ∧ Next (G ++ K) (G' ++ K') w w' := by
  by_cases hw : waitK (runK P l) (wordOf L (adK P (runK P l))) = true
  · have h1 : (runK P l).st = 1 := by unfold waitK at hw; simp at hw; exact hw.1.1
    have e1 : kindK P (runK P l) (wordOf L (adK P (runK P l))) = 1 := by unfold kindK; rw [if_pos hw]
    have e2 : errK P (runK P l) (wordOf L (adK P (runK P l))) = 0 := by unfold errK; rw [if_pos hw]
    rw [e1, e2, if_pos hw]
    exact rkstep_w h hb hL hk hp ht hv t h1 hw
  · have hw' : waitK (runK P l) (wordOf L (adK P (runK P l))) = false := by simpa using hw
    have hok := kok_step hk.all hv ht
    rw [hw'] at hok
    rw [(kindK_of hw').1, (kindK_of hw').2, if_neg hw]
    by_cases h5 : (stepK P (runK P l) (wordOf L (adK P (runK P l)))).st = 5
    · have hne : ((stepK P (runK P l) (wordOf L (adK P (runK P l)))).err != 0) = true := by
        rcases hok.c with ⟨z, _⟩ | ⟨z, _⟩ | ⟨z, _⟩ | ⟨z, _⟩ | ⟨z, _⟩ | ⟨_, _, z⟩
        · rw [z] at h5; simp [ckNew] at h5
        · omega
        · omega
        · omega
        · omega
        · rw [bne_iff_ne]; omega
      have ek : kindV (stepK P (runK P l) (wordOf L (adK P (runK P l)))) = 4 := by unfold kindV; rw [if_neg (by omega), if_pos h5]
      rw [ek]
      by_cases h1 : (runK P l).st = 1
      · exact rkstep_P5 h hb hL hk hp ht hv t h1 hw' h5 _ rfl hne
      · exact rkstep_Z5 h hb hL hk hp ht hv t h1 hw' h5 _ rfl hne
    · by_cases h4 : (stepK P (runK P l) (wordOf L (adK P (runK P l)))).st = 4
      · have ek : kindV (stepK P (runK P l) (wordOf L (adK P (runK P l)))) = 3 := by unfold kindV; rw [if_pos h4]
        have e0 : (stepK P (runK P l) (wordOf L (adK P (runK P l)))).err = 0 := by
          rcases hok.c with ⟨z, _⟩ | ⟨z, _⟩ | ⟨z, _⟩ | ⟨z, _⟩ | ⟨_, _, z⟩ | ⟨z, _⟩
          · rw [z] at h4; simp [ckNew] at h4
          · omega
          · omega
          · omega
          · exact z
          · omega
        rw [ek, e0]
        by_cases h1 : (runK P l).st = 1
        · exact rkstep_P4 h hb hL hk hp ht hv t h1 hw' h4
        · exact rkstep_Z4 h hb hL hk hp ht hv t h1 hw' h4
      · have ek : kindV (stepK P (runK P l) (wordOf L (adK P (runK P l)))) = 2 := by unfold kindV; rw [if_neg h4, if_neg h5]
        have e0 : (stepK P (runK P l) (wordOf L (adK P (runK P l)))).err = 0 := by
          rcases hok.c with ⟨z, _⟩ | ⟨_, z, _⟩ | ⟨_, z, _⟩ | ⟨_, z, _⟩ | ⟨_, _, z⟩ | ⟨z, _⟩
          · rw [z]; rfl
          · exact z.e
          · exact z.e
          · exact z.e
          · exact z
          · omega
        rw [ek, e0]
        by_cases h1 : (runK P l).st = 1
        · exact rkstep_P2 h hb hL hk hp ht hv t h1 hw' ⟨h4, h5⟩
        · exact rkstep_Z2 h hb hL hk hp ht hv t h1 hw' ⟨h4, h5⟩
theorem lkk_next {r : Nat} {P : Cp} {L : List Ac} {l : List Int} (h : LKk P l) (hg : Gd L) : LKk P (nextKI r P (runK P l) L l) ∧ runK P (nextKI r P (runK P l) L l) = nextK r P (runK P l) L := by
  unfold nextKI nextK
  by_cases e : goesK r P (runK P l) = true
  · rw [if_pos e, if_pos e]
    have ht := (goesK_iff.mp e).1
    by_cases hw : waitK (runK P l) (wordOf L (adK P (runK P l))) = true
    · rw [if_pos hw]
      refine ⟨h, ?_⟩
      have hb1 : (runK P l).st = 1 := by unfold waitK at hw; simp at hw; exact hw.1.1
      unfold waitK at hw
      simp only [Bool.and_eq_true, Bool.not_eq_true', decide_eq_true_eq] at hw
      unfold stepK lookK
      rw [if_neg (by omega), if_pos hb1, if_neg (by simp [hw.1.2]), if_neg (by simp [hw.2])]
    · rw [if_neg hw]
      exact ⟨lkk_snoc h (hg _) ht (by simpa using hw), runK_snoc P l _⟩
  · rw [if_neg e, if_neg e]
    exact ⟨h, rfl⟩
end Go.Proofs.Ytcbcjliekbphmaa
