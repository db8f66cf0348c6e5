/- What a machine of layer 9 finds in a ring, by what the ring's words say. -/
import Derived.Test.YtgjahjnomfijfaaGreatWlV
import Derived.Test.YtgjahjnomfijfaaGreatFcJ
namespace Go.Proofs.YtgjahjnomfijfaaGreat.Fe
open Go.RowKit (wrap64)
def Clash (g : Vw) (rd : List Nat) (t : Nat) : Prop := ∃ j, j < 8 ∧ (g.e t j &&& rd.getD j 0) ≠ 0
def Clean (g : Vw) (P : Cp) (u : Int) : Prop := ∀ t : Nat, P.z < (t : Int) → (t : Int) < u → ¬ Clash g P.rd t
structure Sf (g : Vw) (P : Cp) (b : Ck) : Prop where
 z : P.z ≤ (g.d : Int)
 sz : P.s = g.size
 last : P.last = true
 c : b.st = 0 ∨ b.st = 5 ∨
  (b.st = 1 ∧ b.seen ≤ (g.n : Int) ∧ b.comp ≤ (g.d : Int) ∧ ((g.n : Int) ≤ P.z + (g.size : Int) → Clean g P b.stamp)) ∨
  (b.st = 2 ∧ b.seen ≤ (g.n : Int) ∧ b.comp ≤ (g.d : Int) ∧ g.laid b.stamp ∧ ((g.n : Int) ≤ P.z + (g.size : Int) → Clean g P b.stamp ∧ ∀ j : Nat, (j : Int) < b.word → (g.e b.stamp.toNat j &&& P.rd.getD j 0) = 0)) ∨
  (b.st = 3 ∧ b.seen ≤ (g.n : Int) ∧ b.comp ≤ (g.d : Int) ∧ ((g.n : Int) ≤ P.z + (g.size : Int) → Clean g P (b.seen + 1))) ∨
  (b.st = 4 ∧ b.seen ≤ (g.n : Int) ∧ P.z ≤ b.comp ∧ b.comp ≤ (g.d : Int) ∧ Clean g P (b.seen + 1))
theorem clean_stay {g g' : Vw} {P : Cp} {u : Int} (hs : Stay g g') (hz : 0 ≤ P.z) (hu : u ≤ (g.n : Int) + 1) (h : Clean g P u) : Clean g' P u := fun t h1 h2 hc => by
 obtain ⟨j, hj, hc⟩ := hc
 rw [hs.2.2.2.2 t j (by omega) (by omega)] at hc
 exact h t h1 h2 ⟨j, hj, hc⟩
theorem sf_stay {g g' : Vw} {P : Cp} {b : Ck} {n : Nat} (h : Sf g P b) (hk : KOk P b n) (hs : Stay g g') : Sf g' P b := by
 obtain ⟨s1, s2, s3, s4, s5⟩ := id hs
 have hz := hk.p.z0
 have hz' := h.z
 refine ⟨by omega, by rw [h.sz, s4], h.last, ?_⟩
 rcases h.c with e | e | ⟨e, h1, h2, h3⟩ | ⟨e, h1, h2, h3, h4⟩ | ⟨e, h1, h2, h3⟩ | ⟨e, h1, h2, h3, h4⟩
 ·exact Or.inl e
 ·exact Or.inr (Or.inl e)
 ·have km := (kok_mid hk (Or.inl e)).1.hi
  exact Or.inr (Or.inr (Or.inl ⟨e, by omega, by omega, fun hl => clean_stay hs hz (by omega) (h3 (by rw [s4] at hl; omega))⟩))
 ·have km := (kok_mid hk (Or.inr (Or.inl e))).1.hi
  have kl := (kok_mid hk (Or.inr (Or.inl e))).1.lo
  refine Or.inr (Or.inr (Or.inr (Or.inl ⟨e, by omega, by omega, s2 _ (by omega) h3, fun hl => ?_⟩)))
  obtain ⟨c1, c2⟩ := h4 (by rw [s4] at hl; omega)
  exact ⟨clean_stay hs hz (by omega) c1, fun j hj => by rw [s5 _ j (by omega) (by omega)]; exact c2 j hj⟩
 ·exact Or.inr (Or.inr (Or.inr (Or.inr (Or.inl ⟨e, by omega, by omega, fun hl => clean_stay hs hz (by omega) (h3 (by rw [s4] at hl; omega))⟩))))
 ·exact Or.inr (Or.inr (Or.inr (Or.inr (Or.inr ⟨e, by omega, h2, by omega, clean_stay hs hz (by omega) h4⟩))))
theorem wrapU_64 {x : Nat} (h : x < 18446744073709551616) : (IntKind.u64.wrap (wrap64 (x : Int))).toNat = x := by
 rw [IntKind.wrap_u64]
 unfold wrap64
 omega
theorem hit_is {rd : List Nat} {j x : Nat} (h : x < 18446744073709551616) : hitV rd j (wrap64 (x : Int)) = ((x &&& rd.getD j 0) != 0) := by unfold hitV; rw [wrapU_64 h]
theorem nx_zero {rd : List Nat} {k j : Nat} (h : k ≤ 8) (h1 : k ≤ j) (h2 : j < nxW rd k) : rd.getD j 0 = 0 := (nxW_hit rd k h).2 j h1 h2
theorem sf_on {g : Vw} {P : Cp} {b : Ck} (hz : P.z ≤ (g.d : Int)) (hs : P.s = g.size) (hl : P.last = true) (h1 : b.seen ≤ (g.n : Int)) (h2 : b.comp ≤ (g.d : Int)) (hle : b.stamp ≤ b.seen) (h3 : (g.n : Int) ≤ P.z + (g.size : Int) → Clean g P (b.stamp + 1)) : Sf g P (stampOn P b) := by
 refine ⟨hz, hs, hl, ?_⟩
 unfold stampOn
 by_cases e : b.stamp < b.seen
 ·rw [if_pos e]
  exact Or.inr (Or.inr (Or.inl ⟨rfl, h1, h2, h3⟩))
 ·rw [if_neg e, if_pos hl]
  have he : b.stamp = b.seen := by omega
  exact Or.inr (Or.inr (Or.inr (Or.inr (Or.inl ⟨rfl, h1, h2, fun h => by simp only; rw [← he]; exact h3 h⟩))))
theorem sf_word {g : Vw} {P : Cp} {b : Ck} (hz : P.z ≤ (g.d : Int)) (hs : P.s = g.size) (hl : P.last = true) (hw : -1 ≤ b.word ∧ b.word ≤ 7) (h0 : 1 ≤ b.stamp) (h1 : b.seen ≤ (g.n : Int)) (h2 : b.comp ≤ (g.d : Int)) (hle : b.stamp ≤ b.seen) (hla : g.laid b.stamp)
  (h3 : (g.n : Int) ≤ P.z + (g.size : Int) → Clean g P b.stamp ∧ ∀ j : Nat, (j : Int) < b.word + 1 → (g.e b.stamp.toNat j &&& P.rd.getD j 0) = 0) : Sf g P (wordOn P b) := by
 obtain ⟨hw1, hw2⟩ := hw
 have hb := nxW_bd P.rd (b.word + 1).toNat (by omega)
 have hall : (g.n : Int) ≤ P.z + (g.size : Int) → ∀ j : Nat, j < nxW P.rd (b.word + 1).toNat → (g.e b.stamp.toNat j &&& P.rd.getD j 0) = 0 := fun h j hj => by
  by_cases e : (j : Int) < b.word + 1
  ·exact (h3 h).2 j e
  ·rw [nx_zero (k := (b.word + 1).toNat) (by omega) (by omega) hj]; simp
 unfold wordOn
 by_cases e : nxW P.rd (b.word + 1).toNat < 8
 ·rw [if_pos e]
  exact ⟨hz, hs, hl, Or.inr (Or.inr (Or.inr (Or.inl ⟨rfl, h1, h2, hla, fun h => ⟨(h3 h).1, fun j hj => hall h j (by simp only at hj; omega)⟩⟩)))⟩
 ·rw [if_neg e]
  refine sf_on hz hs hl h1 h2 hle (fun h t t1 t2 hc => ?_)
  simp only at t2
  by_cases et : (t : Int) < b.stamp
  ·exact (h3 h).1 t t1 et hc
  ·obtain rfl : t = b.stamp.toNat := by omega
   obtain ⟨j, hj, hc⟩ := hc
   exact hc (hall h j (by omega))
theorem sf_step {f : Ad → Int} {g : Vw} {P : Cp} {b : Ck} {n : Nat} (h : Sf g P b) (hk : KOk P b n) (ht : ¬ thr b) (hv : VI f g) :
  Sf g P (stepK P b (f (adK P b))) ∧ ((stepK P b (f (adK P b))).err = 3 → ∃ t : Nat, P.z < (t : Int) ∧ t ≤ g.n ∧ Clash g P.rd t) ∧ ((stepK P b (f (adK P b))).err = 4 → P.z + (g.size : Int) < (g.n : Int)) ∧ (waitK b (f (adK P b)) = true → g.d ≠ g.n) := by
 have hs1 := hv.s1
 have hda := hv.dn
 have hsz : sizeOk (P.s : Int) = true := by rw [h.sz]; exact sizeOk_iff.mpr ⟨by omega, by have := hv.s16; omega⟩
 have hzz := h.z
 have hp0 := hk.p.z0
 have hlt := hv.lt
 rcases h.c with e | e | ⟨e, h1, h2, h3⟩ | ⟨e, h1, h2, h3, h4⟩ | ⟨e, h1, h2, h3⟩ | ⟨e, _⟩
 ·have hb := kok_zero hk e
  have ha : adK P b = ⟨1, 0, 0⟩ := by unfold adK; rw [if_neg (by omega), if_neg (by omega)]
  rw [ha, hv.nw]
  have hS : stepK P b (g.n : Int) = seeK P (ckNew P) (g.n : Int) := by unfold stepK; rw [if_pos e, hb]
  rw [hS]
  refine ⟨?_, ?_, ?_, fun hw => by unfold waitK at hw; simp [e] at hw⟩
  all_goals unfold seeK
  ·split
   ·next hc =>
    refine ⟨hzz, h.sz, h.last, Or.inr (Or.inr (Or.inr (Or.inr (Or.inr ⟨rfl, Int.le_refl _, Int.le_refl _, hzz, fun t t1 t2 hcl => ?_⟩))))⟩
    obtain ⟨j, hj, hcl⟩ := hcl
    rcases hc with hc | hc
    ·rw [hc] at hcl
     have : Sg.nought.getD j 0 = 0 := by
      rcases j with _ | _ | _ | _ | _ | _ | _ | _ | j
      all_goals first
       | rfl
       | omega
     rw [this] at hcl
     simp at hcl
    ·simp only at t2; omega
   ·next hc =>
    split
    ·exact ⟨hzz, h.sz, h.last, Or.inr (Or.inl rfl)⟩
    ·unfold onV
     rw [if_neg (by simp [ckNew]), if_neg (by simp [ckNew]), if_pos (show (ckNew P).st = 0 from rfl)]
     exact sf_on hzz h.sz h.last (Int.le_refl _) hzz (by simp only [ckNew]; omega) (fun _ t t1 t2 => by simp only [ckNew] at t2; omega)
  ·split
   ·intro hc; simp [ckNew] at hc
   ·split
    ·intro hc; simp [failV] at hc
    ·intro hc; rw [onV_err] at hc; simp [ckNew] at hc
  ·split
   ·intro hc; simp [ckNew] at hc
   ·split
    ·next hf => intro _; unfold farV at hf; simp at hf; rw [h.sz] at hf; omega
    ·intro hc; rw [onV_err] at hc; simp [ckNew] at hc
 ·exact absurd (Or.inr e) ht
 ·have km := (kok_mid hk (Or.inl e)).1
  have kl := km.lo
  have kh := km.hi
  have kc := km.c2
  have ha : adK P b = ⟨2, b.stamp % (g.size : Int), 0⟩ := by unfold adK slotV; rw [if_pos e, if_pos hsz, h.sz]
  rw [ha]
  have hh := hv.head b.stamp (by omega) (by omega)
  generalize f ⟨2, b.stamp % (g.size : Int), 0⟩ = v at *
  have hS : stepK P b v = lookK P b v := by unfold stepK; rw [if_neg (by omega), if_pos e]
  rw [hS]
  have hla : laidV v b.stamp = true ↔ v / 2 = b.stamp := by unfold laidV; simp
  have hov : overV v b.stamp = true ↔ (v / 2 > b.stamp ∨ v / 2 = b.stamp ∧ v % 2 = 1) := by
   unfold overV laidV
   simp
   omega
  rcases hh with ⟨a1, a2, a3, a4⟩ | ⟨a1, a2⟩ | ⟨a1, a2⟩
  ·have hL : laidV v b.stamp = true := hla.mpr a3
   have hK : lookK P b v = wordOn P ⟨b.st, b.seen, b.stamp, -1, compV b v, b.err⟩ := by unfold lookK onV; rw [if_pos hL]; simp only; rw [if_pos e]
   rw [hK]
   have hcv : compV b v ≤ (g.d : Int) := by
    unfold compV
    split
    ·next hc =>
     have := hov.mp hc.1
     have h5 : v % 2 = 1 := by omega
     exact a4.mp h5
    ·exact h2
   refine ⟨sf_word hzz h.sz h.last ⟨by simp, by simp⟩ (by simp only; omega) h1 hcv kh a1 (fun hl => ⟨h3 hl, fun j hj => by simp only at hj; omega⟩), fun hc => ?_, fun hc => ?_, fun hw => ?_⟩
   ·rw [wordOn_err] at hc; simp only at hc; rw [km.e] at hc; omega
   ·rw [wordOn_err] at hc; simp only at hc; rw [km.e] at hc; omega
   ·unfold waitK at hw; rw [hL] at hw; simp at hw
  ·have hL : ¬ laidV v b.stamp = true := fun hc => by have := hla.mp hc; omega
   have hO : overV v b.stamp = true := hov.mpr (Or.inl a2)
   have hK : lookK P b v = failV b 4 := by unfold lookK; rw [if_neg hL, if_pos hO]
   rw [hK]
   refine ⟨⟨hzz, h.sz, h.last, Or.inr (Or.inl rfl)⟩, fun hc => by simp [failV] at hc, fun _ => by omega, fun hw => ?_⟩
   unfold waitK at hw; rw [hO] at hw; simp at hw
  ·have hL : ¬ laidV v b.stamp = true := fun hc => by have := hla.mp hc; omega
   have hO : ¬ overV v b.stamp = true := fun hc => by have := hov.mp hc; omega
   have hK : lookK P b v = b := by unfold lookK; rw [if_neg hL, if_neg hO]
   rw [hK]
   exact ⟨h, fun hc => by rw [km.e] at hc; omega, fun hc => by rw [km.e] at hc; omega, fun _ hd => by omega⟩
 ·obtain ⟨km, hwd⟩ := kok_mid hk (Or.inr (Or.inl e))
  obtain ⟨w1, w2⟩ := hwd e
  have kl := km.lo
  have kh := km.hi
  obtain ⟨j, hj⟩ : ∃ j : Nat, b.word = (j : Int) := ⟨b.word.toNat, by omega⟩
  have ha : adK P b = ⟨3, b.stamp % (g.size : Int), (j : Int)⟩ := by unfold adK slotV; rw [if_neg (by omega), if_pos e, if_pos hsz, h.sz, hj]
  obtain ⟨u, u1, u2, u3, u4⟩ := hv.word b.stamp (by omega) (by omega) h3 j (by omega)
  rw [ha, u4]
  have hS : stepK P b (wrap64 ((g.e u j : Nat) : Int)) = holdK P b (wrap64 ((g.e u j : Nat) : Int)) := by unfold stepK; rw [if_neg (by omega), if_neg (by omega), if_pos e]
  rw [hS]
  have hH : hitV P.rd b.word.toNat (wrap64 ((g.e u j : Nat) : Int)) = ((g.e u j &&& P.rd.getD j 0) != 0) := by rw [hj, Int.toNat_natCast]; exact hit_is (hlt u j)
  have hwt : ∀ v, ¬ waitK b v = true := fun v hw => by unfold waitK at hw; simp [e] at hw
  by_cases hc : (g.e u j &&& P.rd.getD j 0) = 0
  ·have hK : holdK P b (wrap64 ((g.e u j : Nat) : Int)) = wordOn P b := by
    unfold holdK onV
    rw [hH, hc, if_neg (by decide), if_neg (by omega), if_pos e]
   rw [hK]
   refine ⟨sf_word hzz h.sz h.last ⟨by omega, by omega⟩ (by omega) h1 h2 kh h3 (fun hl => ⟨(h4 hl).1, fun q hq => ?_⟩), fun hx => ?_, fun hx => ?_, fun hw => absurd hw (hwt _)⟩
   ·by_cases eq : (q : Int) < b.word
    ·exact (h4 hl).2 q eq
    ·obtain rfl : q = j := by omega
     have : (u : Int) = b.stamp := u3 (by omega)
     rw [show b.stamp.toNat = u by omega]
     exact hc
   ·rw [wordOn_err, km.e] at hx; omega
   ·rw [wordOn_err, km.e] at hx; omega
  ·have hK : holdK P b (wrap64 ((g.e u j : Nat) : Int)) = failV b 3 := by
    unfold holdK
    rw [hH, if_pos (bne_iff_ne.2 hc)]
   rw [hK]
   exact ⟨⟨hzz, h.sz, h.last, Or.inr (Or.inl rfl)⟩, fun _ => ⟨u, by omega, by omega, j, by omega, hc⟩, fun hx => by simp [failV] at hx, fun hw => absurd hw (hwt _)⟩
 ·have km := (kok_mid hk (Or.inr (Or.inr e))).1
  have kc := km.c1
  have ha : adK P b = ⟨1, 0, 0⟩ := by unfold adK; rw [if_neg (by omega), if_neg (by omega)]
  rw [ha, hv.nw]
  have hS : stepK P b (g.n : Int) = againK P b (g.n : Int) := by unfold stepK; rw [if_neg (by omega), if_neg (by omega), if_neg (by omega), if_pos e]
  rw [hS]
  by_cases hf : farV P (g.n : Int) = true
  ·have hK : againK P b (g.n : Int) = failV b 4 := by unfold againK; rw [if_pos hf]
   rw [hK]
   exact ⟨⟨hzz, h.sz, h.last, Or.inr (Or.inl rfl)⟩, fun hx => by simp [failV] at hx, fun _ => by unfold farV at hf; simp at hf; rw [h.sz] at hf; omega, fun hw => by unfold waitK at hw; simp [e] at hw⟩
  ·have hK : againK P b (g.n : Int) = ⟨4, b.seen, b.stamp, b.word, b.comp, b.err⟩ := by
    unfold againK onV
    rw [if_neg hf, if_neg (by omega), if_neg (by omega), if_neg (by omega)]
   rw [hK]
   have hn : (g.n : Int) ≤ P.z + (g.size : Int) := by
    unfold farV at hf
    rw [h.sz] at hf
    simp only [Bool.and_eq_true, decide_eq_true_eq, not_and] at hf
    omega
   exact ⟨⟨hzz, h.sz, h.last, Or.inr (Or.inr (Or.inr (Or.inr (Or.inr ⟨rfl, h1, kc, h2, h3 hn⟩))))⟩, fun hx => by simp only at hx; rw [km.e] at hx; omega, fun hx => by simp only at hx; rw [km.e] at hx; omega, fun hw => by unfold waitK at hw; simp [e] at hw⟩
 ·exact absurd (Or.inl e) ht
end Go.Proofs.YtgjahjnomfijfaaGreat.Fe
