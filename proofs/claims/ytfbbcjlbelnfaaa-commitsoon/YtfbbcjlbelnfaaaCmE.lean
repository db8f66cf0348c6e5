/- What CommitSoon comes to, as numbers. -/
import Derived.Test.YtfbbcjlbelnfaaaCwA
import Derived.Test.YtfbbcjlbelnfaaaCmS
namespace Go.Proofs.Ytfbbcjlbelnfaaa
open Go.ChangeShapes Go.WideShapes Go.ChangeAt Go.RowKit
attribute [local go_sem ↓] Go.wp_at_zero Go.wp_at_succ

theorem wlst_nil (w : World) : WLst w (.slice none 0 0) [] := ⟨none, 0, rfl, by simp, Or.inl rfl⟩
theorem soon_two {c : Nat} {L : List Ac} {g : GR} {i : Nat} (hs : 1 ≤ g.size) (h1 : g.l.length = i) (h2 : g.laid = i) (h3 : g.done = i) :
    (actS c 4 [] (actS c 0 [] (g, L))).1.l.length = i + 1 ∧ (actS c 4 [] (actS c 0 [] (g, L))).1.laid = i + 1 ∧ (actS c 4 [] (actS c 0 [] (g, L))).1.done = i + 1 := by
  have e0 : ∃ L1, actS c 0 [] (g, L) = (⟨g.size, g.l ++ [newE [] c], i, i⟩, L1) := by
    refine ⟨storeL c g.size L (-1) ⟨1, 0, 0⟩ ((g.l.length : Int) + 1), ?_⟩
    unfold actS pubS
    rw [if_pos (by decide), if_pos (show pubOk g = true by unfold pubOk; simp; omega)]
    simp only [h2, h3]
  obtain ⟨L1, e0⟩ := e0
  rw [e0]
  have hce : (curE ⟨g.size, g.l ++ [newE [] c], i + 1, i⟩) = newE [] c := by
    unfold curE
    simp only [List.getD_eq_getElem?_getD]
    rw [← h1, List.getElem?_append_right (Nat.le_refl _)]
    simp
  have hfit : fitW ([] : List Wt) c = [] := by simp [fitW]
  have hb : ∀ L2, backS c (⟨g.size, g.l ++ [newE [] c], i + 1, i⟩, L2) = (⟨g.size, g.l ++ [newE [] c], i + 1, i⟩, L2) := fun L2 => by
    have hno : backOk ⟨g.size, g.l ++ [newE [] c], i + 1, i⟩ = false := by
      unfold backOk
      rw [hce]
      simp [newE, hfit]
    unfold backS backG backL
    simp only [hno, Bool.false_eq_true, if_false]
  have he : ∀ L2, (endS c (⟨g.size, g.l ++ [newE [] c], i + 1, i⟩, L2)).1 = ⟨g.size, g.l ++ [newE [] c], i + 1, i + 1⟩ := fun L2 => by
    have hyes : endOk ⟨g.size, g.l ++ [newE [] c], i + 1, i⟩ = true := by
      unfold endOk
      rw [hce]
      simp [newE, hfit]
    unfold endS endG
    simp only [hyes, if_true]
  have ho : ∃ L2, openS c (⟨g.size, g.l ++ [newE [] c], i, i⟩, L1) = (⟨g.size, g.l ++ [newE [] c], i + 1, i⟩, L2) := by
    refine ⟨layL c ⟨g.size, g.l ++ [newE [] c], i, i⟩ L1, ?_⟩
    unfold openS layS layG
    rw [if_pos rfl, if_pos (show layOk ⟨g.size, g.l ++ [newE [] c], i, i⟩ = true by unfold layOk; simp; omega)]
  obtain ⟨L2, ho⟩ := ho
  have ha : actS c 4 [] (⟨g.size, g.l ++ [newE [] c], i, i⟩, L1) = endS c (⟨g.size, g.l ++ [newE [] c], i + 1, i⟩, L2) := by
    unfold actS allS
    rw [if_neg (by decide), if_neg (by decide), if_neg (by decide), if_neg (by decide), ho, if_pos (by simp)]
    unfold backsS backsS backsS backsS backsS
    rw [hb, hb, hb, hb]
  rw [ha, he]
  exact ⟨by simp [h1], rfl, rfl⟩
def soR : List Nat := [3, 0, 0, 0, 0, 0, 0, 1]
theorem soR_ok : Sg.Ok soR := ⟨rfl, fun j => by
  rcases j with _ | _ | _ | _ | _ | _ | _ | _ | j
  all_goals first
    | decide
    | (simp [soR])⟩
def soP (s : Nat) (z n : Int) (mu : Bool) : Cp := ⟨s, z, soR, false, ⟨n, mu, false, false, 0, false, 0⟩⟩
def soB (z : Int) : Ck := ⟨4, z, z, 0, z, 0⟩
theorem soon_k {L : List Ac} {g : GR} {P : Cp} (hz : Gz (wordOf L) g) (hn : (g.l.length : Int) = P.z) (hs : g.size = P.s) :
    nextK g.size P (ckNew P) L = soB P.z ∧ ansKK g.size P (ckNew P) L = 3 ∧ errKK g.size P (ckNew P) L = 0 := by
  have hg : goesK g.size P (ckNew P) = true := goesK_iff.mpr ⟨fun e => by unfold thr ckNew at e; simp at e, hs⟩
  have ha : adK P (ckNew P) = ⟨1, 0, 0⟩ := by unfold adK; rw [if_neg (by simp [ckNew]), if_neg (by simp [ckNew])]
  have hS : stepK P (ckNew P) (g.l.length : Int) = soB P.z := by
    unfold stepK seeK
    rw [if_pos (show (ckNew P).st = 0 from rfl), if_pos (Or.inr (by omega)), hn]
    rfl
  unfold nextK ansKK errKK kindK errK
  rw [if_pos hg, if_pos hg, if_pos hg, ha, hz.n, hS]
  exact ⟨rfl, rfl, rfl⟩
theorem soon1 {L : List Ac} {g : GR} {P : Cp} (hz : Gz (wordOf L) g) (hn : (g.l.length : Int) = P.z) (hs : g.size = P.s) :
    goesC g.size P cuNew = true ∧ valZ g.size P cuNew L = 0 ∧ nextCB g.size P (ckNew P) cuNew L = soB P.z ∧ nextU g.size P (ckNew P) cuNew L = heldU P cuNew P.z ∧ ansZ g.size P (ckNew P) cuNew L = heldK P P.z ∧ errZ g.size P (ckNew P) cuNew L = heldE P P.z ∧ ∀ c t, wordOf (nextCL c g.size P (ckNew P) cuNew L t) = wordOf L := by
  obtain ⟨k1, k2, k3⟩ := soon_k hz hn hs
  have hg : goesC g.size P cuNew = true := goesC_iff.mpr ⟨by decide, hs⟩
  have h0 : cuNew.st = 0 := rfl
  refine ⟨hg, ?_, ?_, ?_, ?_, ?_, fun c t => ?_⟩
  · unfold valZ; rw [if_pos hg, if_pos h0]
  · unfold nextCB; rw [if_pos hg, if_pos h0, k1]
  · unfold nextU holdU; rw [if_pos hg, if_pos h0, k2, if_neg (by decide), if_pos rfl, k1]; rfl
  · unfold ansZ holdA; rw [if_pos hg, if_pos h0, k2, if_pos rfl, k1]; rfl
  · unfold errZ holdE; rw [if_pos hg, if_pos h0, k2, if_pos rfl, k1]; rfl
  · unfold nextCL nextKL
    rw [if_pos hg, if_pos h0]
    split
    · exact wordOf_load _ _ _ _ _
    · rfl
theorem soon_look {L : List Ac} {g : GR} {P : Cp} {z : Int} {b : Ck} (hz : Gz (wordOf L) g) (ho : GOk g) (hn : (g.l.length : Int) = z) (hd : (g.done : Int) = z) (hs : g.size = P.s) (h0 : ¬ (z = 0 ∧ P.ex.mu = false)) :
    goesC g.size P ⟨1, z, 0⟩ = true ∧ valZ g.size P ⟨1, z, 0⟩ L = 0 ∧ nextCB g.size P b ⟨1, z, 0⟩ L = b ∧ nextU g.size P b ⟨1, z, 0⟩ L = ⟨2, z, 0⟩ ∧ ansZ g.size P b ⟨1, z, 0⟩ L = 2 ∧ errZ g.size P b ⟨1, z, 0⟩ L = 0 ∧ ∀ c t, wordOf (nextCL c g.size P b ⟨1, z, 0⟩ L t) = wordOf L := by
  have hg : goesC g.size P ⟨1, z, 0⟩ = true := goesC_iff.mpr ⟨by simp, hs⟩
  have hs1 := ho.s1
  have hsl : lookA P ⟨1, z, 0⟩ = ⟨2, lookS P ⟨1, z, 0⟩ % (g.size : Int), 0⟩ := by
    unfold lookA slotV
    rw [← hs, if_pos (sizeOk_iff.mpr ⟨by omega, by have := ho.s16; omega⟩)]
  have hy : looksY P ⟨1, z, 0⟩ L = true := by
    unfold looksY lookY
    rw [hsl]
    unfold lookS
    by_cases hm : P.ex.mu = true
    · rw [if_pos hm, if_pos hm, ← hs]
      exact gz_free2 hz ho (z + 1) (by omega)
    · rw [if_neg hm, if_neg hm]
      have hne : z ≠ 0 := fun e => h0 ⟨e, by simpa using hm⟩
      have := gz_over hz ho z (by omega) (by omega)
      rw [this]
      simp
      omega
  refine ⟨hg, ?_, ?_, ?_, ?_, ?_, fun c t => ?_⟩
  · unfold valZ; rw [if_pos hg, if_neg (by simp), if_pos rfl]
  · unfold nextCB; rw [if_pos hg, if_neg (by simp), if_pos rfl]
  · unfold nextU lookU; rw [if_pos hg, if_neg (by simp), if_pos rfl, if_pos hy]
  · unfold ansZ; rw [if_pos hg, if_neg (by simp), if_pos rfl, if_pos hy]
  · unfold errZ; rw [if_pos hg, if_neg (by simp)]
  · unfold nextCL; rw [if_pos hg, if_neg (by simp), if_pos rfl]; exact wordOf_load _ _ _ _ _
theorem soon_swap {L : List Ac} {g : GR} {P : Cp} {z : Int} {b : Ck} (hz : Gz (wordOf L) g) (hn : (g.l.length : Int) = z) (hs : g.size = P.s) :
    goesC g.size P ⟨2, z, 0⟩ = true ∧ valZ g.size P ⟨2, z, 0⟩ L = z + 1 ∧ nextCB g.size P b ⟨2, z, 0⟩ L = b ∧ nextU g.size P b ⟨2, z, 0⟩ L = ⟨3, z, z + 1⟩ ∧ ansZ g.size P b ⟨2, z, 0⟩ L = 3 ∧ errZ g.size P b ⟨2, z, 0⟩ L = 0 := by
  have hg : goesC g.size P ⟨2, z, 0⟩ = true := goesC_iff.mpr ⟨by simp, hs⟩
  have hy : swapsY ⟨2, z, 0⟩ L = true := by
    unfold swapsY
    rw [show wordOf L nwA = (g.l.length : Int) from hz.n, hn]
    simp
  refine ⟨hg, ?_, ?_, ?_, ?_, ?_⟩
  · unfold valZ; rw [if_pos hg, if_neg (by simp), if_neg (by simp), if_pos hy]
  · unfold nextCB swapB; rw [if_pos hg, if_neg (by simp), if_neg (by simp), if_pos hy]
  · unfold nextU swapU; rw [if_pos hg, if_neg (by simp), if_neg (by simp), if_pos hy]
  · unfold ansZ; rw [if_pos hg, if_neg (by simp), if_neg (by simp), if_pos hy]
  · unfold errZ; rw [if_pos hg, if_neg (by simp)]
theorem soon_none {L : List Ac} {r : Nat} {P : Cp} {z s : Int} {b : Ck} :
    goesC r P ⟨3, z, s⟩ = false ∧ valZ r P ⟨3, z, s⟩ L = 0 ∧ nextCB r P b ⟨3, z, s⟩ L = b ∧ nextU r P b ⟨3, z, s⟩ L = ⟨3, z, s⟩ ∧ ansZ r P b ⟨3, z, s⟩ L = 0 ∧ errZ r P b ⟨3, z, s⟩ L = 0 := by
  have hg : goesC r P ⟨3, z, s⟩ = false := by unfold goesC; simp
  refine ⟨hg, ?_, ?_, ?_, ?_, ?_⟩
  · unfold valZ; rw [hg]; rfl
  · unfold nextCB; rw [hg]; rfl
  · unfold nextU; rw [hg]; rfl
  · unfold ansZ; rw [hg]; rfl
  · unfold errZ; rw [hg]; rfl
theorem cw_soon1 {w0 w : World} {base : Nat} {p : Value} {c : Nat} {L : List Ac} {Z Gk : Nat} {g : GR} {P : Cp} {R : List (Nat × Obj)} (h : CW w0 w base p c L Z Gk g P (ckNew P) cuNew R) (hL : L.length < 3298534883328) (hk : COk P (ckNew P) cuNew) (hz : Gz (wordOf L) g) (ho : GOk g) (hn : (g.l.length : Int) = P.z) (hs : g.size = P.s) (t : Int) :
    Calls Try.prog 15 #[.pointer (some ⟨Z, 0, none⟩), p, .int .i64 t] w fun e w' => e = .returned (ansW (heldK P P.z) (heldE P P.z) 0 true) ∧ ∃ L1, (wordOf L1 = wordOf L ∧ L1.length ≤ L.length + 1 ∧ COk P (soB P.z) (heldU P cuNew P.z)) ∧ CW w0 w' base p c L1 Z Gk g P (soB P.z) (heldU P cuNew P.z) R := by
  have hw : W64 (wordOf L (adK P (ckNew P))) := by
    have ha : adK P (ckNew P) = ⟨1, 0, 0⟩ := by unfold adK; rw [if_neg (by simp [ckNew]), if_neg (by simp [ckNew])]
    rw [ha, hz.n]
    have := ho.len
    unfold W64
    omega
  obtain ⟨e1, e2, e3, e4, e5, e6, e7⟩ := soon1 hz hn hs
  have hk2 := cok_next (r := g.size) (L := L) hk (fun _ _ => hw)
  rw [e3, e4] at hk2
  refine (cw_step h hL hk (fun _ _ => hw) t).mono ?_
  rintro e w' ⟨rfl, h2⟩
  rw [e1, e2, e5, e6]
  rw [e3, e4] at h2
  exact ⟨rfl, _, ⟨e7 c t, nextCL_len _ _ _ _ _ _ _, hk2⟩, h2⟩
theorem cw_soon2 {w0 w : World} {base : Nat} {p : Value} {c : Nat} {L : List Ac} {Z Gk : Nat} {g : GR} {P : Cp} {b : Ck} {z : Int} {R : List (Nat × Obj)} (h : CW w0 w base p c L Z Gk g P b ⟨1, z, 0⟩ R) (hL : L.length < 3298534883328) (hk : COk P b ⟨1, z, 0⟩) (hz : Gz (wordOf L) g) (ho : GOk g) (hn : (g.l.length : Int) = z) (hd : (g.done : Int) = z) (hs : g.size = P.s) (h0 : ¬ (z = 0 ∧ P.ex.mu = false)) (t : Int) :
    Calls Try.prog 15 #[.pointer (some ⟨Z, 0, none⟩), p, .int .i64 t] w fun e w' => e = .returned (ansW 2 0 0 true) ∧ ∃ L1, (wordOf L1 = wordOf L ∧ L1.length ≤ L.length + 1 ∧ COk P b ⟨2, z, 0⟩) ∧ CW w0 w' base p c L1 Z Gk g P b ⟨2, z, 0⟩ R := by
  obtain ⟨e1, e2, e3, e4, e5, e6, e7⟩ := soon_look (b := b) hz ho hn hd hs h0
  have hk2 := cok_next (r := g.size) (L := L) hk (fun _ e => by simp at e)
  rw [e3, e4] at hk2
  refine (cw_step h hL hk (fun _ e => by simp at e) t).mono ?_
  rintro e w' ⟨rfl, h2⟩
  rw [e1, e2, e5, e6]
  rw [e3, e4] at h2
  exact ⟨rfl, _, ⟨e7 c t, nextCL_len _ _ _ _ _ _ _, hk2⟩, h2⟩
theorem cw_soon3 {w0 w : World} {base : Nat} {p : Value} {c : Nat} {L : List Ac} {Z Gk : Nat} {g : GR} {P : Cp} {b : Ck} {z : Int} {R : List (Nat × Obj)} (h : CW w0 w base p c L Z Gk g P b ⟨2, z, 0⟩ R) (hL : L.length < 3298534883328) (hk : COk P b ⟨2, z, 0⟩) (hz : Gz (wordOf L) g) (hn : (g.l.length : Int) = z) (hs : g.size = P.s) (t : Int) :
    Calls Try.prog 15 #[.pointer (some ⟨Z, 0, none⟩), p, .int .i64 t] w fun e w' => e = .returned (ansW 3 0 (z + 1) true) ∧ ∃ L1, (L1.length ≤ L.length + 1 ∧ COk P b ⟨3, z, z + 1⟩) ∧ CW w0 w' base p c L1 Z Gk g P b ⟨3, z, z + 1⟩ R := by
  obtain ⟨e1, e2, e3, e4, e5, e6⟩ := soon_swap (b := b) hz hn hs
  have hk2 := cok_next (r := g.size) (L := L) hk (fun _ e => by simp at e)
  rw [e3, e4] at hk2
  refine (cw_step h hL hk (fun _ e => by simp at e) t).mono ?_
  rintro e w' ⟨rfl, h2⟩
  rw [e1, e2, e5, e6]
  rw [e3, e4] at h2
  exact ⟨rfl, _, ⟨nextCL_len _ _ _ _ _ _ _, hk2⟩, h2⟩
theorem cw_soon0 {w0 w : World} {base : Nat} {p : Value} {c : Nat} {L : List Ac} {Z Gk : Nat} {g : GR} {P : Cp} {b : Ck} {z s : Int} {R : List (Nat × Obj)} (h : CW w0 w base p c L Z Gk g P b ⟨3, z, s⟩ R) (hL : L.length < 3298534883328) (hk : COk P b ⟨3, z, s⟩) (t : Int) :
    Calls Try.prog 15 #[.pointer (some ⟨Z, 0, none⟩), p, .int .i64 t] w fun e w' => e = .returned (ansW 0 0 0 false) ∧ ∃ L1, CW w0 w' base p c L1 Z Gk g P b ⟨3, z, s⟩ R := by
  obtain ⟨e1, e2, e3, e4, e5, e6⟩ := soon_none (L := L) (r := g.size) (P := P) (z := z) (s := s) (b := b)
  refine (cw_step h hL hk (fun _ e => by simp at e) t).mono ?_
  rintro e w' ⟨rfl, h2⟩
  rw [e1, e2, e5, e6]
  rw [e3, e4] at h2
  exact ⟨rfl, _, h2⟩
end Go.Proofs.Ytfbbcjlbelnfaaa
