/- What CommitSafe asks of a step, as numbers. -/
import Derived.Test.YtfbbcjlbelnfaaaCwA
import Derived.Test.YtfbbcjlbelnfaaaCmS
import Derived.Test.YtfbbcjlbelnfaaaSigQ
namespace Go.Proofs.Ytfbbcjlbelnfaaa
open Go.ChangeShapes Go.WideShapes Go.ChangeAt Go.RowKit
attribute [local go_sem ↓] Go.wp_at_zero Go.wp_at_succ

theorem z_cases {r : Nat} {L : List Ac} {P : Cp} {b : Ck} {u : Cu} (hk : COk P b u) (hv : W64 (wordOf L (adK P b))) :
    (ansZ r P b u L = 4 ∧ (errZ r P b u L = 3 ∨ errZ r P b u L = 4 ∨ errZ r P b u L = 6)) ∨ (errZ r P b u L = 0 ∧ (ansZ r P b u L = 0 ∨ ansZ r P b u L = 1 ∨ ansZ r P b u L = 2 ∨ ansZ r P b u L = 3)) := by
  obtain ⟨n, kk⟩ := hk.k
  unfold ansZ errZ
  by_cases hg : goesC r P u = true
  · rw [if_pos hg, if_pos hg]
    obtain ⟨e3, er⟩ := goesC_iff.mp hg
    by_cases e0 : u.st = 0
    · rw [if_pos e0, if_pos e0]
      have ht : ¬ thr b := by
        rcases hk.c with c | c | c
        · exact c.2
        · omega
        · omega
      have hgk : goesK r P b = true := goesK_iff.mpr ⟨ht, er⟩
      unfold holdA holdE
      by_cases k3 : ansKK r P b L = 3
      · rw [if_pos k3, if_pos k3]
        unfold heldK heldE
        split
        · exact Or.inl ⟨rfl, Or.inr (Or.inr rfl)⟩
        · exact Or.inr ⟨rfl, Or.inr (Or.inr (Or.inl rfl))⟩
      · rw [if_neg k3, if_neg k3]
        have hA : ansKK r P b L = kindK P b (wordOf L (adK P b)) := by unfold ansKK; rw [if_pos hgk]
        have hE : errKK r P b L = errK P b (wordOf L (adK P b)) := by unfold errKK; rw [if_pos hgk]
        rw [hA] at k3 ⊢
        rw [hE]
        have hks := kok_step kk hv ht
        by_cases hw : waitK b (wordOf L (adK P b)) = true
        · unfold kindK errK
          rw [if_pos hw, if_pos hw]
          exact Or.inr ⟨rfl, Or.inr (Or.inl rfl)⟩
        · have hw' : waitK b (wordOf L (adK P b)) = false := by simpa using hw
          rw [if_neg hw] at hks
          rw [(kindK_of hw').1] at k3 ⊢
          rw [(kindK_of hw').2]
          unfold kindV at k3 ⊢
          rcases hks.c with ⟨z, _⟩ | ⟨z, k, _⟩ | ⟨z, k, _⟩ | ⟨z, k, _⟩ | ⟨z, _, _⟩ | ⟨z, _, k⟩
          · rw [z]
            exact Or.inr ⟨rfl, Or.inr (Or.inr (Or.inl rfl))⟩
          · rw [if_neg (by omega), if_neg (by omega)]
            exact Or.inr ⟨k.e, Or.inr (Or.inr (Or.inl rfl))⟩
          · rw [if_neg (by omega), if_neg (by omega)]
            exact Or.inr ⟨k.e, Or.inr (Or.inr (Or.inl rfl))⟩
          · rw [if_neg (by omega), if_neg (by omega)]
            exact Or.inr ⟨k.e, Or.inr (Or.inr (Or.inl rfl))⟩
          · rw [if_pos z] at k3
            exact absurd rfl k3
          · rw [if_neg (by omega), if_pos z]
            rcases k with k | k
            · exact Or.inl ⟨rfl, Or.inl k⟩
            · exact Or.inl ⟨rfl, Or.inr (Or.inl k)⟩
    · rw [if_neg e0, if_neg e0]
      split
      · split
        · exact Or.inr ⟨rfl, Or.inr (Or.inr (Or.inl rfl))⟩
        · exact Or.inr ⟨rfl, Or.inr (Or.inl rfl)⟩
      · split
        · exact Or.inr ⟨rfl, Or.inr (Or.inr (Or.inr rfl))⟩
        · exact Or.inr ⟨rfl, Or.inr (Or.inr (Or.inl rfl))⟩
  · rw [if_neg hg, if_neg hg]
    exact Or.inr ⟨rfl, Or.inl rfl⟩
/-- What is so of the machine behind q turns. -/
structure PubOk (g : GR) (P : Cp) (b : Ck) (u : Cu) : Prop where
  ok : COk P b u
  sc : Sc g P b u
  un : u.stamp = 0
theorem pub_cases {L : List Ac} {g : GR} {P : Cp} {b : Ck} {u : Cu} {s q : Nat} (h : PubOk g P b u) (hr : RingOk L g s q) (ho : ∀ e ∈ g.l, Sg.Ok e.s) :
    ((nextU g.size P b u L).stamp = 0 ∧ PubOk g P (nextCB g.size P b u L) (nextU g.size P b u L) ∧ RingOk (nextCL 8 g.size P b u L 1) g s (q + 1) ∧ wordOf (nextCL 8 g.size P b u L 1) nwA = (g.l.length : Int) ∧
      ((errZ g.size P b u L = 3 ∧ ansZ g.size P b u L = 4 ∧ sharesV g P.z (g.l.length : Int) P.rd = true) ∨ (errZ g.size P b u L = 4 ∧ ansZ g.size P b u L = 4 ∧ P.z + (s : Int) < (g.l.length : Int)) ∨ (errZ g.size P b u L = 6 ∧ ansZ g.size P b u L = 4 ∧ P.ex.n ≤ (g.l.length : Int)) ∨
       (errZ g.size P b u L = 0 ∧ ansZ g.size P b u L = 1 ∧ g.done ≠ g.l.length) ∨ (errZ g.size P b u L = 0 ∧ ansZ g.size P b u L = 2) ∨ (errZ g.size P b u L = 0 ∧ ansZ g.size P b u L = 0))) ∨
    ((nextU g.size P b u L).stamp = (g.l.length : Int) + 1 ∧ errZ g.size P b u L = 0 ∧ ansZ g.size P b u L = 3 ∧ valZ g.size P u L = (g.l.length : Int) + 1 ∧ wordOf (nextCL 8 g.size P b u L 1) nwA = (g.l.length : Int) + 1 ∧ sharesV g P.z (g.l.length : Int) P.rd = false ∧ (g.l.length : Int) - (g.done : Int) < (s : Int) ∧ (P.ex.mu = false → g.done = g.l.length) ∧ (g.l.length : Int) + 1 ≤ P.ex.n) := by
  have hv := sc_w h.sc h.ok hr.gz hr.gs hr.gok
  have hz0 := h.ok.p.z0
  obtain ⟨s1, s2, s3, s4, s5, s6⟩ := sc_step h.sc h.ok hr.gz hr.gs hr.gok ho h.un
  have hk2 := cok_next (r := g.size) h.ok (fun _ _ => hv)
  have hc := z_cases (r := g.size) h.ok hv
  by_cases hst : (nextU g.size P b u L).stamp = 0
  · obtain ⟨t1, t2, t3⟩ := s5 hst
    refine Or.inl ⟨hst, ⟨hk2, t2, hst⟩, ringOk_step hr (t3 8 1), by rw [t3]; exact hr.gz.n, ?_⟩
    rcases hc with ⟨c1, c2 | c2 | c2⟩ | ⟨c1, c2 | c2 | c2 | c2⟩
    · obtain ⟨t, u1, u2, u3⟩ := s1 c2
      exact Or.inl ⟨c2, c1, (shares_iff ho h.ok.p.rd hz0).mpr ⟨t, u1, by omega, u2, u3⟩⟩
    · exact Or.inr (Or.inl ⟨c2, c1, by have := s2 c2; rw [hr.size] at this; exact this⟩)
    · exact Or.inr (Or.inr (Or.inl ⟨c2, c1, s3 c2⟩))
    · exact Or.inr (Or.inr (Or.inr (Or.inr (Or.inr ⟨c1, c2⟩))))
    · exact Or.inr (Or.inr (Or.inr (Or.inl ⟨c1, c2, s4 c2⟩)))
    · exact Or.inr (Or.inr (Or.inr (Or.inr (Or.inl ⟨c1, c2⟩))))
    · exact absurd c2 t1
  · obtain ⟨t1, t2, t3, t4, t5, t6, t7, t8⟩ := s6 hst
    refine Or.inr ⟨t3, ?_, t1, t2, t4 8 1, ?_, by rw [← hr.size]; exact t6, t7, t8⟩
    · rcases hc with ⟨c1, _⟩ | ⟨c1, _⟩
      · omega
      · exact c1
    · cases hh : sharesV g P.z (g.l.length : Int) P.rd
      · rfl
      · exfalso
        obtain ⟨t, u1, u2, _, u4⟩ := (shares_iff ho h.ok.p.rd hz0).mp hh
        exact t5 t u1 (by omega) u4
end Go.Proofs.Ytfbbcjlbelnfaaa
