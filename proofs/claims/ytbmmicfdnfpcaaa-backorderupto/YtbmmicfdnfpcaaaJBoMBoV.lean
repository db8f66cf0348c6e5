/- Two machines of neighbouring stamps over one memory, as plain numbers: entries get complete in order; the younger's value stays. -/
import Derived.Test.YtbmmicfdnfpcaaaBkU
import Derived.Test.YtbmmicfdnfpcaaaBkX
import Derived.Test.YtbmmicfdnfpcaaaBkR
import Derived.Test.YtbmmicfdnfpcaaaSigL
import Derived.Test.YtbmmicfdnfpcaaaBkT
import Derived.Deep.CutBlock
import Derived.Deep.DeepCutAuto
import Derived.Deep.LoopGhost
namespace Go.Proofs.Ytbmmicfdnfpcaaa
open Go.RowKit (wrap64)

/-- Stamps 1 and 2 over one ring. -/
structure Oq (P Q : Bp) : Prop where
  p : BpOk P
  q : BpOk Q
  s : Q.s = P.s
  s2 : 2 ≤ P.s
  st1 : P.st = 1
  st2 : Q.st = 2
/-- They share no bit. -/
def Apt (P Q : Bp) : Prop := ∀ j, j < 8 → P.sg.getD j 0 &&& Q.sg.getD j 0 = 0
structure OI (P Q : Bp) (b d : Bk) (f : Ad → Int) : Prop where
  o : Oq P Q
  bk : BkOk P b
  dk : BkOk Q d
  bkn : b.kn = true
  h1 : f (hdB P 1) = if b.nx = 0 then 3 else if b.nx = 1 ∨ b.nx = 2 then 1 else 2
  w1 : ∀ j, j < (if b.nx = 1 then b.wd else 8) → f ⟨3, slotV 1 P.s, (j : Int)⟩ = wrap64 ((P.sg.getD j 0 : Nat) : Int)
  y3 : d.nx = 4 ∨ d.nx = 5 → b.nx ≠ 1 ∧ b.nx ≠ 2
  y4 : d.nx = 4 → ∀ j, j < d.wd → P.sg.getD j 0 &&& Q.sg.getD j 0 = 0
  y6 : d.kn = true → b.nx = 0
  y7 : d.nx = 6 ∨ d.nx = 7 ∨ d.nx = 8 ∨ d.nx = 0 → b.nx = 0 ∨ Apt P Q
  h2 : d.nx ≠ 0 → f (hdB Q 2) ≠ 5
  cells : ∀ c, f ⟨4, c, 0⟩ = (lastW (Q.W.take d.wr) c).getD ((lastW (P.W.take b.wr) c).getD 0)
theorem bit_sgOf {W : List Wt} {x : Wt} (h : x ∈ W) : Sg.bit (sgOf W) (Sg.sigN x.c) = true := by
  unfold sgOf
  have mono : ∀ (W : List Wt) s, Sg.Ok s → ∀ k, Sg.bit s k = true → Sg.bit (W.foldl (fun s x => Sg.put s (Sg.sigN x.c)) s) k = true := by
    intro W
    induction W with
    | nil => exact fun s _ k h => h
    | cons y W ih => exact fun s hs k hb => ih _ (Sg.ok_put hs _ (Sg.sigN_lt _)) k (by rw [Sg.bit_put hs _ _ (Sg.sigN_lt _), hb]; rfl)
  suffices hh : ∀ s, Sg.Ok s → Sg.bit (W.foldl (fun s x => Sg.put s (Sg.sigN x.c)) s) (Sg.sigN x.c) = true from hh _ Sg.ok_nought
  induction W with
  | nil => simp at h
  | cons y W ih =>
    intro s hs
    rw [List.foldl_cons]
    rcases List.mem_cons.1 h with rfl | h
    · exact mono W _ (Sg.ok_put hs _ (Sg.sigN_lt _)) _ (by rw [Sg.bit_put hs _ _ (Sg.sigN_lt _)]; simp)
    · exact ih h _ (Sg.ok_put hs _ (Sg.sigN_lt _))
theorem lastW_none {W : List Wt} {c : Int} (h : ∀ x ∈ W, x.c ≠ c) : lastW W c = none := by
  suffices hh : ∀ o, (W.foldl (fun o x => if x.c = c then some x.v else o) o) = o from hh none
  induction W with
  | nil => intro o; rfl
  | cons y W ih =>
    intro o
    rw [List.foldl_cons, if_neg (h y (by simp))]
    exact ih (fun x hx => h x (List.mem_cons_of_mem _ hx)) o
/-- Where no bit is shared no cell is. -/
theorem apt_cell {P Q : Bp} (ho : Oq P Q) (ha : Apt P Q) {x y : Wt} (hx : x ∈ P.W) (hy : y ∈ Q.W) : y.c ≠ x.c := by
  intro e
  have h1 := bit_sgOf hx
  have h2 := bit_sgOf hy
  rw [← ho.p.sg] at h1
  rw [← ho.q.sg, e] at h2
  have h3 := ha (Sg.sigN x.c / 64) (by have := Sg.sigN_lt x.c; omega)
  unfold Sg.bit at h1 h2
  have : (P.sg.getD (Sg.sigN x.c / 64) 0 &&& Q.sg.getD (Sg.sigN x.c / 64) 0).testBit (Sg.sigN x.c % 64) = true := by
    rw [Nat.testBit_and, h1, h2]; rfl
  rw [h3] at this
  simp at this
theorem ho_slot {P Q : Bp} (ho : Oq P Q) : slotV 1 P.s ≠ slotV 2 P.s := by
  have h1 := ho.s2
  have h2 := ho.p.s16
  have hs : sizeOk (P.s : Int) = true := sizeOk_iff.mpr ⟨by omega, by omega⟩
  unfold slotV
  rw [if_pos hs, if_pos hs]
  rw [Int.emod_eq_of_lt (by omega) (by omega : (1 : Int) < P.s)]
  by_cases e : P.s = 2
  · rw [e]; decide
  · rw [Int.emod_eq_of_lt (by omega) (by omega : (2 : Int) < P.s)]; decide
theorem sgw_back {s : List Nat} (h : Sg.Ok s) (j : Nat) : (IntKind.u64.wrap (wrap64 ((s.getD j 0 : Nat) : Int))).toNat = s.getD j 0 := by
  have := h.2 j
  rw [IntKind.wrap_u64]
  unfold wrap64
  omega
theorem over1 (v : Int) : overV v 1 = decide (3 ≤ v) := by
  unfold overV laidV
  by_cases h : 3 ≤ v
  · rw [decide_eq_true h]
    by_cases h2 : v / 2 > 1
    · simp [h2]
    · have e1 : v / 2 = 1 := by omega
      have e2 : v % 2 = 1 := by omega
      simp [e1, e2]
  · rw [decide_eq_false h]
    have h2 : ¬ v / 2 > 1 := by omega
    by_cases e1 : v / 2 = 1
    · have e2 : ¬ v % 2 = 1 := by omega
      simp [e1, e2]
    · simp [e1, h2]
/-- The words behind a step of one of them. -/
def stW (P : Bp) (b : Bk) (f : Ad → Int) : Ad → Int := if ldB b then f else upd f (adB P b) (valB P b)
/-- A step of the older. -/
theorem oi_old {P Q : Bp} {b d : Bk} {f : Ad → Int} (h : OI P Q b d f) (hn : b.nx ≠ 0) : OI P Q (stepB P b (f (adB P b))) d (stW P b f) := by
  have hp := h.o.p
  have hb := h.bk
  have hst := h.o.st1
  have hsl := ho_slot h.o
  have hnx := hb.nx
  have e7 : b.nx ≠ 7 := fun e => by have := hb.n7 e; rw [h.bkn] at this; cases this
  have e35 : b.nx ≠ 3 ∧ b.nx ≠ 4 ∧ b.nx ≠ 5 := by
    refine ⟨fun e => ?_, fun e => ?_, fun e => ?_⟩ <;> (have := (hb.old (by omega)).2; rw [h.bkn] at this; cases this)
  have hk' := bk_step hb (f (adB P b))
  have hcs : b.nx = 1 ∨ b.nx = 2 ∨ b.nx = 6 ∨ b.nx = 8 := by omega
  have hld : ldB b = false := by
    unfold ldB
    rcases hcs with e | e | e | e <;> simp [e]
  have hwt : ∀ v, waitB P b v = false := fun v => by
    unfold waitB
    rcases hcs with e | e | e | e <;> simp [e]
  have hq2 : Q.st = 2 := h.o.st2
  have hq8 : d.kn = true → False := fun e => hn (h.y6 e)
  have hd0 : d.nx ≠ 0 := fun e => hq8 (h.dk.n8 (Or.inr e))
  have hnn := h.h1
  rw [if_neg hn] at hnn
  have hsw : stW P b f = upd f (adB P b) (valB P b) := by unfold stW; rw [hld]; rfl
  rw [hsw]
  rcases hcs with e | e | e | e
  · have hwd := hb.w1 e
    have had : adB P b = ⟨3, slotV 1 P.s, (b.wd : Int)⟩ := by unfold adB; rw [if_pos e, hst]
    have hvl : valB P b = wrap64 ((P.sg.getD b.wd 0 : Nat) : Int) := by unfold valB; rw [if_pos e]
    have hs : stepB P b (f (adB P b)) = ⟨if b.wd + 1 = 8 then 2 else 1, b.wd + 1, b.old, b.kn, b.wr⟩ := by unfold stepB; rw [hwt]; simp [e]
    have hn1 : (stepB P b (f (adB P b))).nx = 1 ∨ (stepB P b (f (adB P b))).nx = 2 := by rw [hs]; simp only; split <;> simp
    have hy3 : ¬ (d.nx = 4 ∨ d.nx = 5) := fun e4 => (h.y3 e4).1 e
    rw [hs] at hk' hn1 ⊢
    refine ⟨h.o, hk', h.dk, h.bkn, ?_, ?_, fun e4 => absurd e4 hy3, fun e4 => absurd (Or.inl e4) hy3, fun e4 => absurd e4 hq8, fun e4 => ?_, fun e4 => ?_, fun c => ?_⟩
    · rw [had, upd_other (by unfold hdB; simp), hnn, if_pos (Or.inl e), if_neg (fun h0 => by rcases hn1 with h1 | h1 <;> (rw [h0] at h1; simp at h1)), if_pos hn1]
    · intro j hj
      rw [had, hvl]
      by_cases ej : j = b.wd
      · subst ej; rw [upd_same]
      · rw [upd_other (fun e4 => ej (by simp at e4; omega))]
        apply h.w1 j
        rw [if_pos e]
        simp only at hj
        split at hj <;> split at hj <;> first | omega | contradiction
    · rcases h.y7 e4 with h0 | h0
      · exact absurd h0 hn
      · exact Or.inr h0
    · rw [had, upd_other (by unfold hdB; simp)]
      exact h.h2 e4
    · rw [had, upd_other (by simp)]
      exact h.cells c
  · have had : adB P b = hdB P 1 := by unfold adB hdB; simp [e, hst]
    have hvl : valB P b = 2 := by unfold valB; simp [e, hst]
    have hs : stepB P b (f (adB P b)) = goB P b := by unfold stepB; rw [hwt]; simp [e, h.bkn]
    have hn1 : (goB P b).nx = 6 ∨ (goB P b).nx = 8 := by unfold goB; simp only [h.bkn]; split <;> simp
    have hy3 : ¬ (d.nx = 4 ∨ d.nx = 5) := fun e4 => (h.y3 e4).2 e
    rw [hs] at hk' ⊢
    refine ⟨h.o, hk', h.dk, h.bkn, ?_, ?_, fun e4 => absurd e4 hy3, fun e4 => absurd (Or.inl e4) hy3, fun e4 => absurd e4 hq8, fun e4 => ?_, fun e4 => ?_, fun c => ?_⟩
    · rw [had, hvl, upd_same, if_neg (by omega), if_neg (by omega)]
    · intro j hj
      rw [if_neg (by omega)] at hj
      rw [had, upd_other (by unfold hdB; simp)]
      exact h.w1 j (by rw [if_neg (by omega)]; exact hj)
    · rcases h.y7 e4 with h0 | h0
      · exact absurd h0 hn
      · exact Or.inr h0
    · rw [had, upd_other (fun e5 => hsl (by unfold hdB at e5; simp at e5; rw [← h.o.s]; rw [h.o.s] at e5 ⊢; exact e5))]
      exact h.h2 e4
    · rw [had, upd_other (by unfold hdB; simp)]
      exact h.cells c
  · have hwr := hb.wr6 e
    have had : adB P b = ⟨4, (P.W.getD b.wr noWt).c, 0⟩ := by unfold adB; simp [e]
    have hvl : valB P b = (P.W.getD b.wr noWt).v := by unfold valB; simp [e]
    have hs : stepB P b (f (adB P b)) = goB P ⟨b.nx, b.wd, b.old, b.kn, b.wr + 1⟩ := by unfold stepB; rw [hwt]; simp [e]
    have hn1 : (goB P ⟨b.nx, b.wd, b.old, b.kn, b.wr + 1⟩).nx = 6 ∨ (goB P ⟨b.nx, b.wd, b.old, b.kn, b.wr + 1⟩).nx = 8 := by unfold goB; simp only [h.bkn]; split <;> simp
    rw [hs] at hk' ⊢
    refine ⟨h.o, hk', h.dk, h.bkn, ?_, ?_, fun e4 => by omega, h.y4, fun e4 => absurd e4 hq8, fun e4 => ?_, fun e4 => ?_, fun c => ?_⟩
    · rw [had, upd_other (by unfold hdB; simp), hnn, if_neg (by omega), if_neg (by omega), if_neg (by omega)]
    · intro j hj
      rw [if_neg (by omega)] at hj
      rw [had, upd_other (by simp)]
      exact h.w1 j (by rw [if_neg (by omega)]; exact hj)
    · rcases h.y7 e4 with h0 | h0
      · exact absurd h0 hn
      · exact Or.inr h0
    · rw [had, upd_other (by unfold hdB; simp)]
      exact h.h2 e4
    · have hgw : (goB P ⟨b.nx, b.wd, b.old, b.kn, b.wr + 1⟩).wr = b.wr + 1 := rfl
      rw [hgw, lastW_take hwr, had, hvl]
      have hm : P.W.getD b.wr noWt ∈ P.W := by rw [List.getD_eq_getElem?_getD, List.getElem?_eq_getElem hwr]; simp
      by_cases ec : (P.W.getD b.wr noWt).c = c
      · rw [if_pos ec, ec, upd_same]
        have hnone : lastW (Q.W.take d.wr) c = none := by
          by_cases hw0 : d.wr = 0
          · rw [hw0]; rfl
          · have hdn := h.dk.nx
            have h7 : d.nx = 6 ∨ d.nx = 7 ∨ d.nx = 8 ∨ d.nx = 0 := by
              have hea := h.dk.early
              by_cases hq : d.nx = 1 ∨ d.nx = 2 ∨ d.nx = 3 ∨ d.nx = 4 ∨ d.nx = 5
              · exact absurd (hea hq) hw0
              · omega
            rcases h.y7 h7 with h0 | h0
            · exact absurd h0 hn
            · refine lastW_none fun y hy => ?_
              rw [← ec]
              exact apt_cell h.o h0 hm (List.mem_of_mem_take hy)
        rw [hnone]
        rfl
      · rw [if_neg ec, upd_other (by simpa using ec)]
        exact h.cells c
  · have had : adB P b = hdB P 1 := by unfold adB hdB; simp [e, hst]
    have hvl : valB P b = 3 := by unfold valB; simp [e, hst]
    have hs : stepB P b (f (adB P b)) = ⟨0, b.wd, b.old, b.kn, b.wr⟩ := by unfold stepB; rw [hwt]; simp [e]
    rw [hs] at hk' ⊢
    refine ⟨h.o, hk', h.dk, h.bkn, ?_, ?_, fun e4 => by simp, h.y4, fun e4 => absurd e4 hq8, fun e4 => Or.inl rfl, fun e4 => ?_, fun c => ?_⟩
    · rw [had, hvl, upd_same]; rfl
    · intro j hj
      rw [had, upd_other (by unfold hdB; simp)]
      exact h.w1 j (by rw [if_neg (by omega)]; simpa using hj)
    · rw [had, upd_other (fun e5 => hsl (by unfold hdB at e5; simp at e5; rw [h.o.s] at e5; exact e5))]
      exact h.h2 e4
    · rw [had, upd_other (by unfold hdB; simp)]
      exact h.cells c
theorem goB_nx (P : Bp) (b : Bk) : (goB P b).nx = 6 ∨ (goB P b).nx = 7 ∨ (goB P b).nx = 8 := by
  unfold goB
  simp only
  split
  · simp
  · split <;> simp
/-- The younger goes on to what comes behind its looking back. -/
theorem oi_go {P Q : Bp} {b d : Bk} {f f' : Ad → Int} (h : OI P Q b d f) (d' : Bk) (hf : ∀ a, f' a = f a) (hw : d'.wr = d.wr) (hd : d'.wd ≤ 8) (hk : d'.kn = false → olderOk Q (Q.st - 1)) (h6 : d'.kn = true → b.nx = 0) (h7 : b.nx = 0 ∨ Apt P Q) (h2 : f (hdB Q 2) ≠ 5) : OI P Q b (goB Q d') f' := by
  have hn := goB_nx Q d'
  have hwr : (goB Q d').wr = d.wr := hw
  have hkn : (goB Q d').kn = d'.kn := rfl
  have hok : BkOk Q (goB Q d') := go_ok h.o.q (by rw [hw]; exact h.dk.wr) hd hk
  refine ⟨h.o, h.bk, hok, h.bkn, by rw [hf]; exact h.h1, fun j hj => by rw [hf]; exact h.w1 j hj, fun e => by omega, fun e => by omega, fun e => h6 (hkn ▸ e), fun _ => h7, fun _ => by rw [hf]; exact h2, fun c => by rw [hf, hwr]; exact h.cells c⟩
/-- The younger goes on to a word. -/
theorem oi_word {P Q : Bp} {b d : Bk} {f : Ad → Int} (h : OI P Q b d f) (d' : Bk) (hw : d'.wr = d.wr) (hw0 : d.wr = 0) (hd : d'.wd ≤ 8) (hk : d'.kn = false) (hol : d'.old = 1) (hl : b.nx ≠ 1 ∧ b.nx ≠ 2) (hz : ∀ j, j < d'.wd → P.sg.getD j 0 &&& Q.sg.getD j 0 = 0) (h2 : f (hdB Q 2) ≠ 5) : OI P Q b (toWordB Q d') f := by
  have hs2 := h.o.s2
  have hss := h.o.s
  have hst := h.o.st2
  have ho1 : olderOk Q 1 := ⟨by omega, by rw [hst]; omega, by rw [hst, hss]; omega⟩
  have hof : olderOk Q (Q.st - 1) := by rw [hst]; exact ho1
  have hok : BkOk Q (toWordB Q d') := toWord_ok h.o.q (by omega) hd hk hof (by rw [hol]; exact ho1)
  have hb := fsW_bd Q.sg d'.wd hd
  have hh := fsW_hit Q.sg d'.wd hd
  have hzz : ∀ j, j < fsW Q.sg d'.wd → P.sg.getD j 0 &&& Q.sg.getD j 0 = 0 := fun j hj => by
    by_cases e : j < d'.wd
    · exact hz j e
    · rw [hh.2 j (by omega) hj, Nat.and_zero]
  by_cases hf : fsW Q.sg d'.wd < 8
  · have ht : toWordB Q d' = ⟨4, fsW Q.sg d'.wd, d'.old, d'.kn, d'.wr⟩ := by unfold toWordB; rw [if_pos hf]
    rw [ht] at hok ⊢
    exact ⟨h.o, h.bk, hok, h.bkn, h.h1, h.w1, fun _ => hl, fun _ => hzz, (fun e => by simp only at e; rw [hk] at e; cases e), (fun e => by simp at e), fun _ => h2, fun c => by simp only; rw [hw]; exact h.cells c⟩
  · have ht : toWordB Q d' = goB Q ⟨d'.nx, 8, d'.old, d'.kn, d'.wr⟩ := by
      unfold toWordB lookAtB
      rw [if_neg hf]
      simp only
      rw [if_pos (Or.inl (by omega))]
    rw [ht]
    exact oi_go h ⟨d'.nx, 8, d'.old, d'.kn, d'.wr⟩ (fun _ => rfl) hw (by simp) (fun _ => hof) (fun e => by simp only at e; rw [hk] at e; cases e) (Or.inr fun j hj => hzz j (by omega)) h2
/-- A step of the younger. -/
theorem oi_new {P Q : Bp} {b d : Bk} {f : Ad → Int} (h : OI P Q b d f) (hn : d.nx ≠ 0) : OI P Q b (stepB Q d (f (adB Q d))) (stW Q d f) := by
  have hq := h.o.q
  have hd := h.dk
  have hst := h.o.st2
  have hss := h.o.s
  have hs2 := h.o.s2
  have hsl := ho_slot h.o
  have hnx := hd.nx
  have ho1 : olderOk Q 1 := ⟨by omega, by rw [hst]; omega, by rw [hst, hss]; omega⟩
  have hof : olderOk Q (Q.st - 1) := by rw [hst]; exact ho1
  have hk' := bk_step hd (f (adB Q d))
  have h2 := h.h2 hn
  have hone : ∀ k, olderOk Q k → k = 1 := fun k hk => by obtain ⟨a1, a2, a3⟩ := hk; rw [hst] at a2; omega
  have hhd : hdB Q 1 = hdB P 1 := by unfold hdB; rw [hss]
  have hov : overV (f (hdB Q 1)) 1 = true → b.nx = 0 := fun e => by
    rw [hhd, over1, h.h1] at e
    by_cases e0 : b.nx = 0
    · exact e0
    · rw [if_neg e0] at e
      split at e <;> simp at e
  have hlaid : laidV (f (hdB Q 1)) 1 = true → b.nx ≠ 1 ∧ b.nx ≠ 2 := fun e => by
    rw [hhd, h.h1] at e
    by_cases e0 : b.nx = 0
    · omega
    · rw [if_neg e0] at e
      by_cases e1 : b.nx = 1 ∨ b.nx = 2
      · rw [if_pos e1] at e; simp [laidV] at e
      · omega
  have hcs : d.nx = 1 ∨ d.nx = 2 ∨ d.nx = 3 ∨ d.nx = 4 ∨ d.nx = 5 ∨ d.nx = 6 ∨ d.nx = 7 ∨ d.nx = 8 := by omega
  rcases hcs with e | e | e | e | e | e | e | e
  · have hwd := hd.w1 e
    have hwt : ∀ v, waitB Q d v = false := fun v => by unfold waitB; simp [e]
    have had : adB Q d = ⟨3, slotV 2 P.s, (d.wd : Int)⟩ := by unfold adB; rw [if_pos e, hst, hss]
    have hsw : stW Q d f = upd f (adB Q d) (valB Q d) := by unfold stW ldB; simp [e]
    have hs : stepB Q d (f (adB Q d)) = ⟨if d.wd + 1 = 8 then 2 else 1, d.wd + 1, d.old, d.kn, d.wr⟩ := by unfold stepB; rw [hwt]; simp [e]
    have hn1 : (stepB Q d (f (adB Q d))).nx = 1 ∨ (stepB Q d (f (adB Q d))).nx = 2 := by rw [hs]; simp only; split <;> simp
    rw [hsw]
    rw [hs] at hk' hn1 ⊢
    refine ⟨h.o, h.bk, hk', h.bkn, ?_, fun j hj => ?_, fun e4 => by omega, fun e4 => by omega, h.y6, fun e4 => by omega, fun _ => ?_, fun c => ?_⟩
    · rw [had, upd_other (by unfold hdB; simp)]; exact h.h1
    · rw [had, upd_other (fun e5 => hsl (by simp at e5; exact e5.1.symm))]; exact h.w1 j hj
    · rw [had, upd_other (by unfold hdB; simp)]; exact h2
    · rw [had, upd_other (by simp)]; exact h.cells c
  · have hwt : ∀ v, waitB Q d v = false := fun v => by unfold waitB; simp [e]
    have had : adB Q d = hdB Q 2 := by unfold adB hdB; simp [e, hst]
    have hvl : valB Q d = 4 := by unfold valB; simp [e, hst]
    have hsw : stW Q d f = upd f (hdB Q 2) 4 := by unfold stW ldB; rw [had, hvl]; simp [e]
    have hw0 := hd.early (by omega)
    have hi : OI P Q b d (upd f (hdB Q 2) 4) := by
      refine ⟨h.o, h.bk, hd, h.bkn, ?_, fun j hj => ?_, h.y3, h.y4, h.y6, h.y7, fun _ => by rw [upd_same]; decide, fun c => ?_⟩
      · rw [upd_other (fun e5 => hsl (by unfold hdB at e5; simp at e5; rw [hss] at e5; exact e5.symm))]; exact h.h1
      · rw [upd_other (by unfold hdB; simp)]; exact h.w1 j hj
      · rw [upd_other (by unfold hdB; simp)]; exact h.cells c
    have hs : stepB Q d (f (adB Q d)) = if d.kn then goB Q d else lookAtB Q d (Q.st - 1) := by unfold stepB; rw [hwt]; simp [e]
    rw [hs] at hk' ⊢
    rw [hsw]
    by_cases hkn : d.kn = true
    · rw [if_pos hkn]
      exact oi_go hi d (fun _ => rfl) rfl hd.wd hd.kn h.y6 (Or.inl (h.y6 hkn)) (by rw [upd_same]; decide)
    · rw [if_neg hkn] at hk' ⊢
      have hl : lookAtB Q d (Q.st - 1) = ⟨3, d.wd, 1, d.kn, d.wr⟩ := by
        unfold lookAtB
        rw [if_neg (by rw [hst, hss]; omega), hst]
        rfl
      rw [hl] at hk' ⊢
      exact ⟨h.o, h.bk, hk', h.bkn, hi.h1, hi.w1, fun e4 => by simp at e4, fun e4 => by simp at e4, h.y6, fun e4 => by simp at e4, fun _ => by rw [upd_same]; decide, hi.cells⟩
  · have ho := hd.old (by omega)
    have hol := hone _ ho.1
    have hw0 := hd.early (by omega)
    have had : adB Q d = hdB Q 1 := by unfold adB hdB; simp [e, hol]
    have hsw : stW Q d f = f := by unfold stW ldB; simp [e]
    rw [hsw]
    by_cases hwt : waitB Q d (f (adB Q d)) = true
    · have hs : stepB Q d (f (adB Q d)) = d := by unfold stepB; rw [if_pos hwt]
      rw [hs]
      exact h
    · by_cases hov1 : overV (f (hdB Q 1)) 1 = true
      · have hs : stepB Q d (f (adB Q d)) = overB Q d := by
          unfold stepB
          rw [if_neg hwt, had, hol]
          simp [e, hov1]
        rw [hs]
        unfold overB
        have hb0 := hov hov1
        exact oi_go h ⟨d.nx, d.wd, d.old, d.old == Q.st - 1, d.wr⟩ (fun _ => rfl) rfl hd.wd (fun _ => hof) (fun _ => hb0) (Or.inl hb0) h2
      · have hla : laidV (f (hdB Q 1)) 1 = true := by
          unfold waitB at hwt
          rw [if_pos e, had, hol] at hwt
          have hov2 : overV (f (hdB Q 1)) 1 = false := by simpa using hov1
          rw [hov2] at hwt
          simpa using hwt
        have hs : stepB Q d (f (adB Q d)) = toWordB Q ⟨d.nx, 0, d.old, d.kn, d.wr⟩ := by
          unfold stepB
          rw [if_neg hwt, had, hol]
          simp [e, hov1]
        rw [hs]
        exact oi_word h ⟨d.nx, 0, d.old, d.kn, d.wr⟩ rfl hw0 (by simp) ho.2 hol (hlaid hla) (fun j hj => by simp at hj) h2
  · have ho := hd.old (by omega)
    have hol := hone _ ho.1
    have hw0 := hd.early (by omega)
    have h4 := hd.w4 e
    have hl3 := h.y3 (Or.inl e)
    have hwt : ∀ v, waitB Q d v = false := fun v => by unfold waitB; simp [e]
    have had : adB Q d = ⟨3, slotV 1 P.s, (d.wd : Int)⟩ := by unfold adB; simp [e, hol, hss]
    have hsw : stW Q d f = f := by unfold stW ldB; simp [e]
    have hs : stepB Q d (f (adB Q d)) = if hitS Q.sg d.wd (f (adB Q d)) then ⟨5, d.wd, d.old, d.kn, d.wr⟩ else toWordB Q ⟨d.nx, d.wd + 1, d.old, d.kn, d.wr⟩ := by unfold stepB; rw [hwt]; simp [e]
    rw [hsw]
    rw [hs] at hk' ⊢
    by_cases hh : hitS Q.sg d.wd (f (adB Q d)) = true
    · rw [if_pos hh] at hk' ⊢
      exact ⟨h.o, h.bk, hk', h.bkn, h.h1, h.w1, fun _ => hl3, fun e4 => by simp at e4, h.y6, fun e4 => by simp at e4, fun _ => h2, h.cells⟩
    · rw [if_neg hh]
      have hwv : f (adB Q d) = wrap64 ((P.sg.getD d.wd 0 : Nat) : Int) := by rw [had]; exact h.w1 d.wd (by rw [if_neg hl3.1]; exact h4.1)
      have hz : P.sg.getD d.wd 0 &&& Q.sg.getD d.wd 0 = 0 := by
        unfold hitS at hh
        rw [hwv, sgw_back (by rw [h.o.p.sg]; exact sgOf_ok _)] at hh
        simpa using hh
      refine oi_word h ⟨d.nx, d.wd + 1, d.old, d.kn, d.wr⟩ rfl hw0 (by simp only; omega) ho.2 hol hl3 (fun j hj => ?_) h2
      simp only at hj
      by_cases ej : j = d.wd
      · rw [ej]; exact hz
      · exact h.y4 e j (by omega)
  · have ho := hd.old (by omega)
    have hol := hone _ ho.1
    have had : adB Q d = hdB Q 1 := by unfold adB hdB; simp [e, hol]
    have hsw : stW Q d f = f := by unfold stW ldB; simp [e]
    rw [hsw]
    by_cases hwt : waitB Q d (f (adB Q d)) = true
    · have hs : stepB Q d (f (adB Q d)) = d := by unfold stepB; rw [if_pos hwt]
      rw [hs]
      exact h
    · have hov1 : overV (f (hdB Q 1)) 1 = true := by
        unfold waitB at hwt
        rw [if_neg (by omega), if_pos e, had, hol] at hwt
        simpa using hwt
      have hs : stepB Q d (f (adB Q d)) = overB Q d := by
        unfold stepB
        rw [if_neg hwt]
        simp [e]
      rw [hs]
      unfold overB
      have hb0 := hov hov1
      exact oi_go h ⟨d.nx, d.wd, d.old, d.old == Q.st - 1, d.wr⟩ (fun _ => rfl) rfl hd.wd (fun _ => hof) (fun _ => hb0) (Or.inl hb0) h2
  · have hwr := hd.wr6 e
    have hwt : ∀ v, waitB Q d v = false := fun v => by unfold waitB; simp [e]
    have had : adB Q d = ⟨4, (Q.W.getD d.wr noWt).c, 0⟩ := by unfold adB; simp [e]
    have hvl : valB Q d = (Q.W.getD d.wr noWt).v := by unfold valB; simp [e]
    have hsw : stW Q d f = upd f ⟨4, (Q.W.getD d.wr noWt).c, 0⟩ (Q.W.getD d.wr noWt).v := by unfold stW ldB; rw [had, hvl]; simp [e]
    have hs : stepB Q d (f (adB Q d)) = goB Q ⟨d.nx, d.wd, d.old, d.kn, d.wr + 1⟩ := by unfold stepB; rw [hwt]; simp [e]
    have hn1 := goB_nx Q ⟨d.nx, d.wd, d.old, d.kn, d.wr + 1⟩
    rw [hsw]
    rw [hs] at hk' ⊢
    refine ⟨h.o, h.bk, hk', h.bkn, ?_, fun j hj => ?_, fun e4 => by omega, fun e4 => by omega, h.y6, fun _ => h.y7 (Or.inl e), fun _ => ?_, fun c => ?_⟩
    · rw [upd_other (by unfold hdB; simp)]; exact h.h1
    · rw [upd_other (by simp)]; exact h.w1 j hj
    · rw [upd_other (by unfold hdB; simp)]; exact h2
    · have hgw : (goB Q ⟨d.nx, d.wd, d.old, d.kn, d.wr + 1⟩).wr = d.wr + 1 := rfl
      rw [hgw, lastW_take hwr]
      by_cases ec : (Q.W.getD d.wr noWt).c = c
      · rw [if_pos ec, ec, upd_same]
        rfl
      · rw [if_neg ec, upd_other (by simpa using ec)]
        exact h.cells c
  · have had : adB Q d = hdB Q 1 := by unfold adB hdB; simp [e, hst]
    have hsw : stW Q d f = f := by unfold stW ldB; simp [e]
    rw [hsw]
    by_cases hwt : waitB Q d (f (adB Q d)) = true
    · have hs : stepB Q d (f (adB Q d)) = d := by unfold stepB; rw [if_pos hwt]
      rw [hs]
      exact h
    · have hov1 : overV (f (hdB Q 1)) 1 = true := by
        unfold waitB at hwt
        rw [if_neg (by omega), if_neg (by omega), if_pos e, had, hst] at hwt
        simpa using hwt
      have hs : stepB Q d (f (adB Q d)) = goB Q ⟨d.nx, d.wd, d.old, true, d.wr⟩ := by
        unfold stepB
        rw [if_neg hwt]
        simp [e]
      rw [hs]
      have hb0 := hov hov1
      exact oi_go h ⟨d.nx, d.wd, d.old, true, d.wr⟩ (fun _ => rfl) rfl hd.wd (fun _ => hof) (fun _ => hb0) (Or.inl hb0) h2
  · have hwt : ∀ v, waitB Q d v = false := fun v => by unfold waitB; simp [e]
    have had : adB Q d = hdB Q 2 := by unfold adB hdB; simp [e, hst]
    have hsw : stW Q d f = upd f (hdB Q 2) (valB Q d) := by unfold stW ldB; rw [had]; simp [e]
    have hs : stepB Q d (f (adB Q d)) = ⟨0, d.wd, d.old, d.kn, d.wr⟩ := by unfold stepB; rw [hwt]; simp [e]
    rw [hsw]
    rw [hs] at hk' ⊢
    refine ⟨h.o, h.bk, hk', h.bkn, ?_, fun j hj => ?_, fun e4 => by simp at e4, fun e4 => by simp at e4, h.y6, fun _ => h.y7 (by simp [e]), fun e4 => by simp at e4, fun c => ?_⟩
    · rw [upd_other (fun e5 => hsl (by unfold hdB at e5; simp at e5; rw [hss] at e5; exact e5.symm))]; exact h.h1
    · rw [upd_other (by unfold hdB; simp)]; exact h.w1 j hj
    · rw [upd_other (by unfold hdB; simp)]; exact h.cells c
end Go.Proofs.Ytbmmicfdnfpcaaa
/- Two machines of layer 11 over one memory under way. -/
namespace Go.Proofs.Ytbmmicfdnfpcaaa
open Go.ChangeShapes Go.WideShapes Go.ChangeAt Go.RowKit

/-- A machine that does not move while another one does. -/
theorem BS.beside {w w' : World} {base : Nat} {p : Value} {c r : Nat} {L L' : List Ac} {F F' : List Nat} {X Y : Nat} {Q : Bp} {d : Bk} {v : Value} (h : BS w base p c r L F Y Q d v) (hm : MemAt w' base p c r L' F') (hn : Next (X :: F) (X :: F') w w') (hne : Y ≠ X) (hv : ∀ k, v.ownBlock = some k → k ≠ X) : BS w' base p c r L' F' Y Q d v := by
  have hY := heap_lt h.row
  have hYo : Y ∉ X :: F := fun e => by
    rcases List.mem_cons.1 e with e | e
    · exact hne e
    · exact h.out e
  have hko : ∀ k, v.ownBlock = some k → k ∉ X :: F := fun k hk e => by
    rcases List.mem_cons.1 e with e | e
    · exact hv k hk e
    · exact h.gout k hk (List.mem_cons_of_mem _ e)
  refine ⟨hm, h.row.keep hn.1 hYo, own_keep h.own hn.1 hko, fun e => ?_, fun k hk e => ?_, h.lo⟩
  · rcases hn.2 Y (List.mem_cons_of_mem _ e) with h1 | h1
    · exact hYo h1
    · omega
  · rcases List.mem_cons.1 e with e | e
    · exact h.gout k hk (by simp [e])
    · rcases hn.2 k (List.mem_cons_of_mem _ e) with h1 | h1
      · exact hko k hk h1
      · have := (own_block h.own k hk).2; omega
structure OS (w : World) (base : Nat) (p : Value) (s : Nat) (L : List Ac) (F : List Nat) (X : Nat) (P : Bp) (b : Bk) (u : Value) (Y : Nat) (Q : Bp) (d : Bk) (v : Value) (R : List (Nat × Obj)) : Prop where
  x : BS w base p 8 s L F X P b u
  y : BS w base p 8 s L F Y Q d v
  ne : X ≠ Y
  xv : ∀ k, v.ownBlock = some k → k ≠ X
  yu : ∀ k, u.ownBlock = some k → k ≠ Y
  kept : ∀ z ∈ R, w.heap[z.1]? = some z.2 ∧ z.1 ≠ X ∧ z.1 ≠ Y ∧ z.1 ∉ F
/-- Some way into the law. -/
structure OW (w0 w : World) (M X Y s : Nat) (P Q : Bp) (u v : Value) (n : Nat) (b d : Bk) (L : List Ac) (R : List (Nat × Obj)) : Prop where
  os : ∃ base F, OS w base (.pointer (some ⟨M, 0, none⟩)) s L F X P b u Y Q d v R ∧ w0.heap.size ≤ base ∧ base ≤ w.heap.size
  bel : Below w0.heap.size w0 w
  oi : OI P Q b d (wordOf L)
  len : L.length ≤ n
  ps : P.s = s
  c1 : ∀ x ∈ P.W, x.c < 8
  c2 : ∀ x ∈ Q.W, x.c < 8
theorem OW.later {w0 w w' : World} {M X Y s : Nat} {P Q : Bp} {u v : Value} {n : Nat} {b d : Bk} {L : List Ac} {R : List (Nat × Obj)} (h : OW w0 w M X Y s P Q u v n b d L R) (hb : Below w.heap.size w w') : OW w0 w' M X Y s P Q u v n b d L R := by
  obtain ⟨base, F, ho, h1, h2⟩ := h.os
  exact ⟨⟨base, F, ⟨ho.x.below hb, ho.y.below hb, ho.ne, ho.xv, ho.yu, fun z hz => ⟨row_on (ho.kept z hz).1 hb, (ho.kept z hz).2⟩⟩, h1, Nat.le_trans h2 hb.size⟩, below_then h.bel hb, h.oi, h.len, h.ps, h.c1, h.c2⟩
theorem OW.row {w0 w : World} {M X Y s : Nat} {P Q : Bp} {u v : Value} {n : Nat} {b d : Bk} {L : List Ac} {R : List (Nat × Obj)} (h : OW w0 w M X Y s P Q u v n b d L R) : ∀ z ∈ R, w.heap[z.1]? = some z.2 := fun z hz => by
  obtain ⟨base, F, ho, h1, h2⟩ := h.os
  exact (ho.kept z hz).1
theorem OW.mono {w0 w : World} {M X Y s : Nat} {P Q : Bp} {u v : Value} {n : Nat} {b d : Bk} {L : List Ac} {R : List (Nat × Obj)} (h : OW w0 w M X Y s P Q u v n b d L R) {n' : Nat} (hn : n ≤ n') : OW w0 w M X Y s P Q u v n' b d L R := ⟨h.os, h.bel, h.oi, Nat.le_trans h.len hn, h.ps, h.c1, h.c2⟩
theorem ho_old {P Q : Bp} (h : Oq P Q) (L : List Ac) : HO P L := fun k hk => by
  obtain ⟨h1, h2, _⟩ := hk
  rw [h.st1] at h2
  omega
theorem ho_new {P Q : Bp} {b d : Bk} {L : List Ac} (h : OI P Q b d (wordOf L)) (h0 : b.nx = 0) : HO Q L := fun k hk => by
  obtain ⟨h1, h2, _⟩ := hk
  rw [h.o.st2] at h2
  obtain rfl : k = 1 := by omega
  have hhd : hdB Q 1 = hdB P 1 := by unfold hdB; rw [h.o.s]
  rw [hhd, over1, h.h1, if_pos h0]
  rfl
theorem nextBL_stW {c r : Nat} {P : Bp} {b : Bk} {L : List Ac} {t : Int} (hk : BkOk P b) (hg : goesB c r P b = true) : wordOf (nextBL c r P b L t) = stW P b (wordOf L) := by
  rw [nextBL_word hk]
  unfold stW
  cases hl : ldB b
  · rw [if_pos ⟨hg, rfl⟩]; rfl
  · rw [if_neg (by simp)]; rfl
theorem kept_next {w w' : World} {X Y : Nat} {F F' : List Nat} {R : List (Nat × Obj)} (h : ∀ z ∈ R, w.heap[z.1]? = some z.2 ∧ z.1 ≠ X ∧ z.1 ≠ Y ∧ z.1 ∉ F) (hn : Next (X :: F) (X :: F') w w') : ∀ z ∈ R, w'.heap[z.1]? = some z.2 ∧ z.1 ≠ X ∧ z.1 ≠ Y ∧ z.1 ∉ F' := fun z hz => by
  obtain ⟨h1, h2, h3, h4⟩ := h z hz
  have ho : z.1 ∉ X :: F := fun e => by
    rcases List.mem_cons.1 e with e | e
    · exact h2 e
    · exact h4 e
  refine ⟨by rw [hn.1.block _ (heap_lt h1) ho]; exact h1, h2, h3, fun e => ?_⟩
  rcases hn.2 _ (List.mem_cons_of_mem _ e) with h5 | h5
  · exact ho h5
  · have := heap_lt h1; omega
theorem ow_old {w0 w : World} {M X Y s : Nat} {P Q : Bp} {u v : Value} {n : Nat} {b d : Bk} {L : List Ac} {R : List (Nat × Obj)} (h : OW w0 w M X Y s P Q u v n b d L R) (hn : n < 3298534883328) :
    Calls Try.prog 15 #[.pointer (some ⟨X, 0, none⟩), .pointer (some ⟨M, 0, none⟩), .int .i64 1] w fun e w' => (∃ k y, e = .returned (.agg #[.int .i64 k, .int .i64 0, .int .i64 0, .bool y])) ∧ ∃ b' L', OW w0 w' M X Y s P Q u v (n + 1) b' d L' R ∧ mB P b' ≤ mB P b - 1 ∧ (b.nx = 0 → b' = b) := by
  obtain ⟨base, F, ho, hlo, hsz⟩ := h.os
  have hl := h.len
  refine (bstep ho.x h.oi.bk hsz (by omega) 1).mono ?_
  rintro e w' ⟨rfl, F', hx, hnx⟩
  have hgo : goesB 8 s P b = true ↔ b.nx ≠ 0 := by rw [goesB_iff]; exact ⟨fun q => q.1, fun q => ⟨q, h.ps.symm, h.c1⟩⟩
  have hbel : Below w0.heap.size w0 w' := h.bel.trans (hnx.below h.bel.size (fun q hq => by have := (ho.x.lt q hq).1; omega))
  refine ⟨⟨_, _, rfl⟩, nextBk 8 s P b L, nextBL 8 s P b L 1, ⟨⟨base, F', ⟨hx, ho.y.beside hx.mem hnx (Ne.symm ho.ne) ho.xv, ho.ne, ho.xv, ho.yu, kept_next ho.kept hnx⟩, hlo, Nat.le_trans hsz hnx.1.size⟩, hbel, ?_, Nat.le_trans nextBL_len (by omega), h.ps, h.c1, h.c2⟩, ?_, ?_⟩
  · by_cases h0 : b.nx = 0
    · have hg : ¬ goesB 8 s P b = true := fun e => hgo.mp e h0
      unfold nextBk nextBL
      rw [if_neg hg, if_neg hg]
      exact h.oi
    · have hg := hgo.mpr h0
      rw [nextBL_stW h.oi.bk hg]
      unfold nextBk
      rw [if_pos hg]
      exact oi_old h.oi h0
  · by_cases h0 : b.nx = 0
    · have hg : ¬ goesB 8 s P b = true := fun e => hgo.mp e h0
      have hm : mB P b = 0 := by unfold mB; rw [if_pos h0]
      unfold nextBk
      rw [if_neg hg, hm]
      simp
    · have hg := hgo.mpr h0
      have := (end_step h.oi.bk (ho_old h.oi.o L) hg).2
      unfold nextBk
      rw [if_pos hg]
      omega
  · intro h0
    have hg : ¬ goesB 8 s P b = true := fun e => hgo.mp e h0
    unfold nextBk
    rw [if_neg hg]
theorem ow_new {w0 w : World} {M X Y s : Nat} {P Q : Bp} {u v : Value} {n : Nat} {b d : Bk} {L : List Ac} {R : List (Nat × Obj)} (h : OW w0 w M X Y s P Q u v n b d L R) (hn : n < 3298534883328) :
    Calls Try.prog 15 #[.pointer (some ⟨Y, 0, none⟩), .pointer (some ⟨M, 0, none⟩), .int .i64 2] w fun e w' => (∃ k y, e = .returned (.agg #[.int .i64 k, .int .i64 0, .int .i64 0, .bool y])) ∧ ∃ d' L', OW w0 w' M X Y s P Q u v (n + 1) b d' L' R ∧ (b.nx = 0 → mB Q d' ≤ mB Q d - 1) := by
  obtain ⟨base, F, ho, hlo, hsz⟩ := h.os
  have hl := h.len
  have hqs : Q.s = s := by rw [h.oi.o.s]; exact h.ps
  refine (bstep ho.y h.oi.dk hsz (by omega) 2).mono ?_
  rintro e w' ⟨rfl, F', hy, hnx⟩
  have hgo : goesB 8 s Q d = true ↔ d.nx ≠ 0 := by rw [goesB_iff]; exact ⟨fun q => q.1, fun q => ⟨q, hqs.symm, h.c2⟩⟩
  have hbel : Below w0.heap.size w0 w' := h.bel.trans (hnx.below h.bel.size (fun q hq => by have := (ho.y.lt q hq).1; omega))
  have hkn := kept_next (X := Y) (Y := X) (fun z hz => ⟨(ho.kept z hz).1, (ho.kept z hz).2.2.1, (ho.kept z hz).2.1, (ho.kept z hz).2.2.2⟩) hnx
  refine ⟨⟨_, _, rfl⟩, nextBk 8 s Q d L, nextBL 8 s Q d L 2, ⟨⟨base, F', ⟨ho.x.beside hy.mem hnx ho.ne ho.yu, hy, ho.ne, ho.xv, ho.yu, fun z hz => ⟨(hkn z hz).1, (hkn z hz).2.2.1, (hkn z hz).2.1, (hkn z hz).2.2.2⟩⟩, hlo, Nat.le_trans hsz hnx.1.size⟩, hbel, ?_, Nat.le_trans nextBL_len (by omega), h.ps, h.c1, h.c2⟩, ?_⟩
  · by_cases h0 : d.nx = 0
    · have hg : ¬ goesB 8 s Q d = true := fun e => hgo.mp e h0
      unfold nextBk nextBL
      rw [if_neg hg, if_neg hg]
      exact h.oi
    · have hg := hgo.mpr h0
      rw [nextBL_stW h.oi.dk hg]
      unfold nextBk
      rw [if_pos hg]
      exact oi_new h.oi h0
  · intro hb0
    by_cases h0 : d.nx = 0
    · have hg : ¬ goesB 8 s Q d = true := fun e => hgo.mp e h0
      have hm : mB Q d = 0 := by unfold mB; rw [if_pos h0]
      unfold nextBk
      rw [if_neg hg, hm]
      simp
    · have hg := hgo.mpr h0
      have := (end_step h.oi.dk (ho_new h.oi hb0) hg).2
      unfold nextBk
      rw [if_pos hg]
      omega
theorem ow_peek {w0 w : World} {M X Y s : Nat} {P Q : Bp} {u v : Value} {n : Nat} {b d : Bk} {L : List Ac} {R : List (Nat × Obj)} (h : OW w0 w M X Y s P Q u v n b d L R) (a : Ad) (ha : isAd 8 s a = true) :
    Calls Try.prog 23 #[.pointer (some ⟨M, 0, none⟩), .agg #[.int .i64 a.k, .int .i64 a.i, .int .i64 a.j]] w fun e w' => e = .returned (.tuple #[.int .i64 (wordOf L a), .int .i64 0]) ∧ OW w0 w' M X Y s P Q u v n b d L R := by
  obtain ⟨base, F, ho, hlo, hsz⟩ := h.os
  have := peek_any ho.x.mem a
  rw [if_pos ha, if_pos ha] at this
  refine Calls.mono this ?_
  rintro e w' ⟨rfl, hb⟩
  exact ⟨rfl, h.later hb⟩
theorem ow_left {w0 w : World} {M X Y s : Nat} {P Q : Bp} {u v : Value} {n : Nat} {b d : Bk} {L : List Ac} {R : List (Nat × Obj)} (h : OW w0 w M X Y s P Q u v n b d L R) :
    Calls Try.prog 18 #[.pointer (some ⟨Y, 0, none⟩)] w fun e w' => e = .returned (.int .i64 ((Q.W.length : Int) - (d.wr : Int))) ∧ OW w0 w' M X Y s P Q u v n b d L R := by
  obtain ⟨base, F, ho, hlo, hsz⟩ := h.os
  obtain ⟨a, cap, hl⟩ := ho.y.slice
  refine (bleft_any ho.y.row hl h.oi.dk.p.len h.oi.dk.wr).mono ?_
  rintro e w' ⟨rfl, hb⟩
  exact ⟨rfl, h.later hb⟩
theorem ow_sig1 {w0 w : World} {M X Y s : Nat} {P Q : Bp} {u v : Value} {n : Nat} {b d : Bk} {L : List Ac} {R : List (Nat × Obj)} (h : OW w0 w M X Y s P Q u v n b d L R) :
    Calls Try.prog 17 #[.pointer (some ⟨X, 0, none⟩)] w fun e w' => e = .returned (Sg.sv P.sg) ∧ OW w0 w' M X Y s P Q u v n b d L R := by
  obtain ⟨base, F, ho, hlo, hsz⟩ := h.os
  refine (bsig_any ho.x.row (by rw [h.oi.bk.p.sg]; exact sgOf_ok _)).mono ?_
  rintro e w' ⟨rfl, hb⟩
  exact ⟨rfl, h.later hb⟩
theorem ow_sig2 {w0 w : World} {M X Y s : Nat} {P Q : Bp} {u v : Value} {n : Nat} {b d : Bk} {L : List Ac} {R : List (Nat × Obj)} (h : OW w0 w M X Y s P Q u v n b d L R) :
    Calls Try.prog 17 #[.pointer (some ⟨Y, 0, none⟩)] w fun e w' => e = .returned (Sg.sv Q.sg) ∧ OW w0 w' M X Y s P Q u v n b d L R := by
  obtain ⟨base, F, ho, hlo, hsz⟩ := h.os
  refine (bsig_any ho.y.row (by rw [h.oi.dk.p.sg]; exact sgOf_ok _)).mono ?_
  rintro e w' ⟨rfl, hb⟩
  exact ⟨rfl, h.later hb⟩
/-- What the law asks behind each turn. -/
theorem ow_asks1 {w0 w : World} {M X Y s : Nat} {P Q : Bp} {u v : Value} {n : Nat} {b d : Bk} {L : List Ac} {R : List (Nat × Obj)} (h : OW w0 w M X Y s P Q u v n b d L R) (h5 : wordOf L (hdB Q 2) = 5) : wordOf L (hdB P 1) = 3 := by
  have hd0 : d.nx = 0 := by
    by_cases e : d.nx = 0
    · exact e
    · exact absurd h5 (h.oi.h2 e)
  have hb0 := h.oi.y6 (h.oi.dk.n8 (Or.inr hd0))
  rw [h.oi.h1, if_pos hb0]
theorem ow_asks2 {w0 w : World} {M X Y s : Nat} {P Q : Bp} {u v : Value} {n : Nat} {b d : Bk} {L : List Ac} {R : List (Nat × Obj)} (h : OW w0 w M X Y s P Q u v n b d L R) (h3 : wordOf L (hdB P 1) ≠ 3) : d.wr = 0 ∨ Apt P Q := by
  by_cases hw0 : d.wr = 0
  · exact Or.inl hw0
  · have hdn := h.oi.dk.nx
    have h7 : d.nx = 6 ∨ d.nx = 7 ∨ d.nx = 8 ∨ d.nx = 0 := by
      have hea := h.oi.dk.early
      by_cases hq : d.nx = 1 ∨ d.nx = 2 ∨ d.nx = 3 ∨ d.nx = 4 ∨ d.nx = 5
      · exact absurd (hea hq) hw0
      · omega
    rcases h.oi.y7 h7 with h0 | h0
    · exact absurd (by rw [h.oi.h1, if_pos h0]) h3
    · exact Or.inr h0
theorem apt_meet {P Q : Bp} (ho : Oq P Q) (h : Apt P Q) : (!(Sg.meet P.sg Q.sg == Sg.nought)) = false := by
  have hp : Sg.Ok P.sg := by rw [ho.p.sg]; exact sgOf_ok _
  have hq : Sg.Ok Q.sg := by rw [ho.q.sg]; exact sgOf_ok _
  have : Sg.meet P.sg Q.sg = Sg.nought := Sg.sig_ext (Sg.ok_meet hp hq) Sg.ok_nought fun k hk => by
    rw [Sg.bit_meet hp hq, Sg.bit_nought]
    unfold Sg.bit
    rw [← Nat.testBit_and, h (k / 64) (by omega)]
    simp
  rw [this]
  rfl
/-- In the end. -/
theorem ow_cell {w0 w : World} {M X Y s : Nat} {P Q : Bp} {u v : Value} {n : Nat} {b d : Bk} {L : List Ac} {R : List (Nat × Obj)} (h : OW w0 w M X Y s P Q u v n b d L R) (hb : b.nx = 0) (hd : d.nx = 0) (c : Int) : wordOf L ⟨4, c, 0⟩ = (lastW Q.W c).getD ((lastW P.W c).getD 0) := by
  have h1 := h.oi.bk.late (by omega)
  have h2 := h.oi.dk.late (by omega)
  rw [h.oi.cells c, h1, h2, List.take_length, List.take_length]
theorem oi_start {P Q : Bp} (ho : Oq P Q) : OI P Q (bkNew P true) (bkNew Q true) (wordOf []) := by
  have hs := ho.s2
  have hss := ho.s
  refine ⟨ho, bk_new ho.p true, bk_new ho.q true, by simp [bkNew, ho.st1], ?_, fun j hj => by simp [bkNew] at hj, fun e => by simp [bkNew] at e, fun e => by simp [bkNew] at e, fun e => ?_, fun e => by simp [bkNew] at e, fun _ => ?_, fun c => ?_⟩
  · rw [wordOf_nil]
    simp [bkNew, first, hdB]
  · simp [bkNew, ho.st2] at e
    omega
  · rw [wordOf_nil]
    simp [first, hdB]
  · rw [wordOf_nil]
    simp [bkNew, lastW, first]
end Go.Proofs.Ytbmmicfdnfpcaaa
/- BackOrder: what the law makes; how far both have come; turns that are handed in. -/
namespace Go.Proofs.Ytbmmicfdnfpcaaa
open Go.ChangeShapes Go.WideShapes Go.ChangeAt Go.RowKit

/-- A machine of the law. -/
def orP (s : Nat) (st : Int) (S : List Wt) : Bp := ⟨s, st, inW S 6, sgOf (inW S 6)⟩
theorem orP_ok {s : Nat} {st : Int} {S : List Wt} (h1 : 2 ≤ s) (h2 : s ≤ 16) (h3 : 1 ≤ st) (h4 : st ≤ 1000) (hS : ∀ i, i < S.length → W64 (S.getD i noWt).v) : BpOk (orP s st S) :=
  ⟨by unfold orP; simp only; omega, h2, h3, by unfold orP; simp only; omega, by have := inW_len S 6; unfold orP; simp only; omega, fun x hx => by obtain ⟨a, b, c⟩ := inW_cell hS x hx; exact ⟨a, by omega, c⟩, rfl⟩
theorem orP_tk {s : Nat} {st : Int} {S : List Wt} (h1 : 2 ≤ s) (h2 : s ≤ 16) (h3 : 1 ≤ st) (h4 : st ≤ 1000) (hS : ∀ i, i < S.length → W64 (S.getD i noWt).v) : tkB s st (inW S 6) = true := by
  unfold tkB
  simp only [Bool.and_eq_true, decide_eq_true_eq, List.all_eq_true]
  refine ⟨⟨⟨⟨⟨by omega, by omega⟩, by omega⟩, by omega⟩, by have := inW_len S 6; omega⟩, fun x hx => ?_⟩
  obtain ⟨a, b, _⟩ := inW_cell hS x hx
  exact ⟨a, by omega⟩
theorem orP_two {s : Nat} {A B : List Wt} (h1 : 2 ≤ s) (h2 : s ≤ 16) (hA : ∀ i, i < A.length → W64 (A.getD i noWt).v) (hB : ∀ i, i < B.length → W64 (B.getD i noWt).v) : Oq (orP s 1 A) (orP s 2 B) :=
  ⟨orP_ok h1 h2 (by decide) (by decide) hA, orP_ok h1 h2 (by decide) (by decide) hB, rfl, h1, rfl, rfl⟩
theorem ow_start {w0 wc w1 w2 w3 : World} {M X Y s : Nat} {P Q : Bp} {u v : Value} {F : List Nat} {R : List (Nat × Obj)} (ho : Oq P Q) (hps : P.s = s) (hc1 : ∀ x ∈ P.W, x.c < 8) (hc2 : ∀ x ∈ Q.W, x.c < 8) (hbc : Below w0.heap.size w0 wc)
    (hm : MemAt w1 wc.heap.size (.pointer (some ⟨M, 0, none⟩)) 8 s [] F) (hb1 : Below wc.heap.size wc w1)
    (hX : w1.heap.size ≤ X) (hrx : BRow w2 X P (bkNew P true) u) (hox : w2.ownsRow w1.heap.size 36 2 u P.W.length (wtC P.W)) (hnx : ∀ k, u.ownBlock = some k → k ≠ X) (hb2 : Below w1.heap.size w1 w2)
    (hY : w2.heap.size ≤ Y) (hry : BRow w3 Y Q (bkNew Q true) v) (hoy : w3.ownsRow w2.heap.size 36 2 v Q.W.length (wtC Q.W)) (hny : ∀ k, v.ownBlock = some k → k ≠ Y) (hb3 : Below w2.heap.size w2 w3)
    (hR : ∀ z ∈ R, wc.heap[z.1]? = some z.2) : OW w0 w3 M X Y s P Q u v 0 (bkNew P true) (bkNew Q true) [] R := by
  have hs1 := hb1.size
  have hs2 := hb2.size
  have hs3 := hb3.size
  have hXl := heap_lt hrx
  have hx2 : BS w2 wc.heap.size (.pointer (some ⟨M, 0, none⟩)) 8 s [] F X P (bkNew P true) u := bs_new1 hm hs1 hX hrx hox hnx hb2
  have hy3 : BS w3 wc.heap.size (.pointer (some ⟨M, 0, none⟩)) 8 s [] F Y Q (bkNew Q true) v := bs_new1 (hm.below hb2) (by omega) hY hry hoy hny hb3
  refine ⟨⟨wc.heap.size, F, ⟨hx2.below hb3, hy3, by omega, fun k hk e => by have := (own_block hoy k hk).1; omega, fun k hk e => by have := (own_block hox k hk).2; omega, fun z hz => ?_⟩, hbc.size, by omega⟩, below_then (below_then (below_then hbc hb1) hb2) hb3, oi_start ho, by simp, hps, hc1, hc2⟩
  have hz1 := hR z hz
  have hzl := heap_lt hz1
  exact ⟨row_on (row_on (row_on hz1 hb1) hb2) hb3, by omega, by omega, fun e => by have := (hm.lt _ e).1; omega⟩
/-- How far both have come: n turns that are handed in, then one by one. -/
def OPr (n i : Nat) (P Q : Bp) (b d : Bk) : Prop := (n ≤ i → mB P b ≤ 17 - ((i + 1) / 2 - (n + 1) / 2)) ∧ (n + 36 ≤ i → b.nx = 0 ∧ mB Q d ≤ 17 - (i / 2 - (n + 36) / 2))
theorem opr_start {n : Nat} {P Q : Bp} {b d : Bk} (hb : BkOk P b) (hl : P.W.length ≤ 6) : OPr n 0 P Q b d := by
  have := mB_le hb
  exact ⟨fun _ => by omega, fun h => by omega⟩
theorem opr_old {n i : Nat} {P Q : Bp} {b b' d : Bk} (h : OPr n i P Q b d) (hb : BkOk P b') (hd : BkOk Q d) (hl : P.W.length ≤ 6) (hq : Q.W.length ≤ 6) (he : n ≤ i → i % 2 = 0) (hm : mB P b' ≤ mB P b - 1) (h0 : b.nx = 0 → b' = b) : OPr n (i + 1) P Q b' d := by
  have m1 := mB_le hb
  have m2 := mB_le hd
  have h1 : n ≤ i + 1 → mB P b' ≤ 17 - ((i + 1 + 1) / 2 - (n + 1) / 2) := fun hn => by
    by_cases e : n ≤ i
    · have h3 := h.1 e
      have h4 := he e
      omega
    · omega
  refine ⟨h1, fun hn => ?_⟩
  by_cases e : n + 36 ≤ i
  · obtain ⟨h3, h4⟩ := h.2 e
    have h5 := he (by omega)
    have h6 := h0 h3
    rw [h6]
    exact ⟨h3, by omega⟩
  · have h3 := h1 (by omega)
    refine ⟨mB_zero hb (by omega), by omega⟩
theorem opr_new {n i : Nat} {P Q : Bp} {b d d' : Bk} (h : OPr n i P Q b d) (hb : BkOk P b) (hd : BkOk Q d') (hl : P.W.length ≤ 6) (hq : Q.W.length ≤ 6) (he : n ≤ i → i % 2 = 1) (hm : b.nx = 0 → mB Q d' ≤ mB Q d - 1) : OPr n (i + 1) P Q b d' := by
  have m1 := mB_le hb
  have m2 := mB_le hd
  have h1 : n ≤ i + 1 → mB P b ≤ 17 - ((i + 1 + 1) / 2 - (n + 1) / 2) := fun hn => by
    by_cases e : n ≤ i
    · have h3 := h.1 e
      have h4 := he e
      omega
    · omega
  refine ⟨h1, fun hn => ?_⟩
  by_cases e : n + 36 ≤ i
  · obtain ⟨h3, h4⟩ := h.2 e
    have h5 := he (by omega)
    have h6 := hm h3
    exact ⟨h3, by omega⟩
  · have h3 := h1 (by omega)
    refine ⟨mB_zero hb (by omega), by omega⟩
theorem opr_end {n : Nat} {P Q : Bp} {b d : Bk} (h : OPr n (n + 200) P Q b d) (hd : BkOk Q d) : b.nx = 0 ∧ d.nx = 0 := by
  obtain ⟨h1, h2⟩ := h.2 (by omega)
  exact ⟨h1, mB_zero hd (by omega)⟩
/-- Turns behind a slice. -/
def TL (w : World) (v : Value) (T : List Bool) : Prop := ∃ a cap, v = .slice a T.length cap ∧ T.length ≤ 1048576 ∧ (T = [] ∨ ∃ x, a = some x ∧ x.block < w.heap.size ∧ ∀ i, i < T.length → w.cell? (x.add i) = some (.bool (T.getD i false)))
theorem cells_bool11 : Try.prog.cellsOf 4 = 1 := by kernel_rfl
theorem obulk_one {H : Type} (d : DataW H) : 1 ≤ Rows.uptoBulk d := by
  cases d with
  | lit l => cases l <;> simp [Rows.uptoBulk]
  | nil => simp [Rows.uptoBulk]
  | ptr d => simp [Rows.uptoBulk]
  | slice e s => simp [Rows.uptoBulk]
  | agg p => simp [Rows.uptoBulk]
  | iface t d => simp [Rows.uptoBulk]
  | map e => simp [Rows.uptoBulk]
  | held h => simp [Rows.uptoBulk]
theorem obulk_len {H : Type} (ds : List (DataW H)) : ds.length ≤ Rows.uptoBulkAll ds := by
  induction ds with
  | nil => simp [Rows.uptoBulkAll]
  | cons d r ih => have := obulk_one d; simp [Rows.uptoBulkAll]; omega
theorem open_bools11 {H : Type} {enc : TypeId × Value → H} {W : World} {fuel : Nat} {cs : List Value} {x : DataW H × List MemPlace} (hb : Rows.uptoBulk x.1 ≤ 1048576)
    (hf : DataW.trod enc Try.prog W 0 (fun _ => true) true fuel 75 cs = some x) : ∃ v T, cs = [v] ∧ TL W v T := by
  rcases Go.Deep.open_slice Try.underlying75 hf with ⟨hcs, hx⟩ | ⟨x0, n, c, m, n', D, Pl, hcs, _, hl, hm, hmm, hx, hcell⟩
  · exact ⟨_, [], hcs, none, _, rfl, by simp, Or.inl rfl⟩
  · have hmc : m = c := by simpa using hmm
    subst hmc
    have hn : n ≤ 1048576 := by
      have := obulk_len ((List.range n).map D)
      rw [hx] at hb
      simp only [Rows.uptoBulk] at hb
      simp at this
      omega
    have hrow : ∀ i, i < n → ∃ s : Bool, W.cell? (x0.add i) = some (.bool s) ∧ x0.block < W.heap.size := fun i hi => by
      obtain ⟨cs', hc, ht⟩ := hcell i (by omega)
      obtain ⟨s, hs, _⟩ := DataW.trod_bool Try.underlying4 ht
      subst hs
      rw [cells_bool11, Nat.mul_one] at hc
      have h0 : W.cell? ((x0.add i).add 0) = [Value.bool s][0]? := (World.cells?_some hc).2.2 0 (by decide)
      rw [add_zero'] at h0
      refine ⟨s, h0, ?_⟩
      have := World.block_lt_of_cell? _ _ (h0.trans (show _ = some (Value.bool s) from rfl))
      rwa [add_block] at this
    obtain ⟨S, hSl, hS⟩ := list_choose false _ n hrow
    refine ⟨_, S, hcs, some x0, m, by rw [hSl], by omega, ?_⟩
    by_cases h0 : n = 0
    · exact Or.inl (List.length_eq_zero_iff.1 (by omega))
    · exact Or.inr ⟨x0, rfl, (hS 0 (by omega)).2, fun i hi => (hS i (by omega)).1⟩
theorem open_wlb {H : Type} {enc : TypeId × Value → H} {W : World} {fuel : Nat} {cs : List Value} {x : DataW H × List MemPlace} (hb : Rows.uptoBulk x.1 ≤ 1048576)
    (hf : DataW.trod enc Try.prog W 0 (fun _ => true) true fuel 25 cs = some x) : ∃ v S, cs = [v] ∧ WL W v S ∧ (∀ i, i < S.length → W64 (S.getD i noWt).v) ∧ ∀ i, i < S.length → W64 (S.getD i noWt).c := by
  rcases Go.Deep.open_slice Try.underlying25 hf with ⟨hcs, hx⟩ | ⟨x0, n, c, m, n', D, Pl, hcs, _, hl, hm, hmm, hx, hcell⟩
  · exact ⟨_, [], hcs, ⟨none, _, rfl, by simp, Or.inl rfl⟩, fun i hi => absurd hi (by simp), fun i hi => absurd hi (by simp)⟩
  · have hmc : m = c := by simpa using hmm
    subst hmc
    have hlen : n ≤ 8796093022208 := by
      have := obulk_len ((List.range n).map D)
      rw [hx] at hb
      simp only [Rows.uptoBulk] at hb
      simp at this
      omega
    have hrow : ∀ i, i < n → ∃ s : Wt, (W.cell? (x0.add (i * 2)) = some (.int .i64 s.c) ∧ W.cell? ((x0.add (i * 2)).add 1) = some (.int .i64 s.v)) ∧ (W64 s.v ∧ W64 s.c) ∧ x0.block < W.heap.size := fun i hi => by
      obtain ⟨cs', hc, ht⟩ := hcell i (by omega)
      obtain ⟨s, rfl, hfit⟩ := wr11_of_cells ht
      rw [cells_wr11] at hc
      have hj : ∀ j, j < 2 → W.cell? ((x0.add (i * 2)).add j) = [Value.int .i64 s.c, .int .i64 s.v][j]? := fun j hj => (World.cells?_some hc).2.2 j hj
      refine ⟨s, ⟨?_, ?_⟩, hfit, ?_⟩
      · have := hj 0 (by decide); rw [add_zero'] at this; exact this
      · exact hj 1 (by decide)
      · have := World.block_lt_of_cell? _ _ ((hj 0 (by decide)).trans (show _ = some (Value.int .i64 s.c) from rfl))
        rwa [add_block, add_block] at this
    obtain ⟨S, hSl, hS⟩ := list_choose noWt _ n hrow
    refine ⟨_, S, hcs, ⟨some x0, m, by rw [hSl], by omega, ?_⟩, fun i hi => (hS i (by omega)).2.1.1, fun i hi => (hS i (by omega)).2.1.2⟩
    by_cases h0 : n = 0
    · exact Or.inl (List.length_eq_zero_iff.1 (by omega))
    · exact Or.inr ⟨x0, rfl, (hS 0 (by omega)).2.2, fun i hi => (hS i (by omega)).1⟩
end Go.Proofs.Ytbmmicfdnfpcaaa
/- BackOrder walked. -/
namespace Go.Proofs.Ytbmmicfdnfpcaaa
open Go.ChangeShapes Go.WideShapes Go.ChangeAt Go.RowKit
attribute [local go_sem ↓] Go.wp_at_zero Go.wp_at_succ

set_option maxRecDepth 100000 in
set_option maxHeartbeats 6400000 in
theorem order_walk (w : World) (raw : Int) {av bv tv : Value} {A B : List Wt} {T : List Bool} (hAv : WL w av A) (hA : ∀ i, i < A.length → W64 (A.getD i noWt).v) (hBv : WL w bv B) (hB : ∀ i, i < B.length → W64 (B.getD i noWt).v) (hT : TL w tv T) :
    Calls Try.prog 5 #[.agg #[.int .i64 raw, av, bv, tv]] w fun e w' => e = .returned (.bool true) ∧ Below w.heap.size w w' := by
  obtain ⟨i0, hi, hz0, hz1, hz2⟩ := info_parts info_wr
  have HS : Hid (∀ w : World, Calls Try.prog 6 #[] w fun e w' => e = .returned (.bool true) ∧ Below w.heap.size w w') := bshown_any
  obtain ⟨s, hs2, hs16, hse⟩ : ∃ s : Nat, 2 ≤ s ∧ s ≤ 16 ∧ raw % 15 = (s : Int) - 2 := ⟨(raw % 15 + 2).toNat, by omega, by omega, by omega⟩
  have HP : Hid (∀ w : World, Calls Try.prog 22 #[.int .i64 raw, .int .i64 15] w fun e w' => e = .returned (.int .i64 ((s : Int) - 2)) ∧ w' = w) := fun w => by rw [← hse]; exact gpick_any raw 15 (by decide) (by decide) w
  have HP8 : Hid (∀ x w, Calls Try.prog 22 #[.int .i64 x, .int .i64 8] w fun e w' => e = .returned (.int .i64 (x % 8)) ∧ w' = w) := fun x w => gpick_any x 8 (by decide) (by decide) w
  have HN : Hid (∀ w : World, Calls Try.prog 10 #[.int .i64 8, .int .i64 (s : Int)] w fun e w' => ∃ p F, e = .returned (.tuple #[p, .int .i64 0]) ∧ p ≠ .pointer none ∧ MemAt w' w.heap.size p 8 s [] F ∧ Below w.heap.size w w') := fun w => new_yes w 8 s (by decide) ⟨by omega, hs16⟩
  have HF1 : Hid (∀ (w : World) lv, WL w lv (inW A 6) → Calls Try.prog 7 #[.agg #[.int .i64 0, .int .i64 (s : Int), .int .i64 0, .int .i64 0, .bool true, .int .i64 0, .slice none 0 0], .int .i64 1, lv] w fun e w' => ∃ Z u, e = .returned (.tuple #[.pointer (some ⟨Z, 0, none⟩), .int .i64 0]) ∧ w.heap.size ≤ Z ∧ BRow w' Z (orP s 1 A) (bkNew (orP s 1 A) true) u ∧ w'.ownsRow w.heap.size 36 2 u (orP s 1 A).W.length (wtC (orP s 1 A).W) ∧ (∀ k, u.ownBlock = some k → k ≠ Z) ∧ Below w.heap.size w w') := fun w lv hl => by
    refine (bnew_any w 0 0 0 true 0 (.slice none 0 0) (P := orP s 1 A) hl (by unfold orP; simp only; omega) hs16 (by unfold orP; simp only; omega) (by unfold orP; simp only; omega) (by have := inW_len A 6; unfold orP; simp only; omega)).mono ?_
    rintro e w' ⟨hb, hh⟩
    rw [if_pos (show tkB ((orP s 1 A).s : Int) (orP s 1 A).st (orP s 1 A).W = true from orP_tk hs2 hs16 (by simp [orP]) (by simp [orP]) hA)] at hh
    obtain ⟨Z, u, rfl, h1, h2, h3, h4⟩ := hh
    exact ⟨Z, u, rfl, h1, h2, h3, h4, hb⟩
  have HF2 : Hid (∀ (w : World) lv, WL w lv (inW B 6) → Calls Try.prog 7 #[.agg #[.int .i64 0, .int .i64 (s : Int), .int .i64 0, .int .i64 0, .bool true, .int .i64 0, .slice none 0 0], .int .i64 2, lv] w fun e w' => ∃ Z u, e = .returned (.tuple #[.pointer (some ⟨Z, 0, none⟩), .int .i64 0]) ∧ w.heap.size ≤ Z ∧ BRow w' Z (orP s 2 B) (bkNew (orP s 2 B) true) u ∧ w'.ownsRow w.heap.size 36 2 u (orP s 2 B).W.length (wtC (orP s 2 B).W) ∧ (∀ k, u.ownBlock = some k → k ≠ Z) ∧ Below w.heap.size w w') := fun w lv hl => by
    refine (bnew_any w 0 0 0 true 0 (.slice none 0 0) (P := orP s 2 B) hl (by unfold orP; simp only; omega) hs16 (by unfold orP; simp only; omega) (by unfold orP; simp only; omega) (by have := inW_len B 6; unfold orP; simp only; omega)).mono ?_
    rintro e w' ⟨hb, hh⟩
    rw [if_pos (show tkB ((orP s 2 B).s : Int) (orP s 2 B).st (orP s 2 B).W = true from orP_tk hs2 hs16 (by simp [orP]) (by simp [orP]) hB)] at hh
    obtain ⟨Z, u, rfl, h1, h2, h3, h4⟩ := hh
    exact ⟨Z, u, rfl, h1, h2, h3, h4, hb⟩
  have HOQ : Hid (Oq (orP s 1 A) (orP s 2 B)) := orP_two hs2 hs16 hA hB
  have HBG : Hid (2 ≤ s ∧ s ≤ 16) := ⟨hs2, hs16⟩
  have HMT : Hid (∀ w : World, Calls Try.prog 24 #[Sg.sv (orP s 1 A).sg, Sg.sv (orP s 2 B).sg] w fun e w' => e = .returned (.bool (!(Sg.meet (orP s 1 A).sg (orP s 2 B).sg == Sg.nought))) ∧ Below w.heap.size w w') := fun w => Sg.rmeets_any _ _ (sgOf_ok _) (sgOf_ok _) w
  have w1 : IntKind.i64.wrap (2 + ((s : Int) - 2)) = (s : Int) := by rw [IntKind.wrap_i64]; omega
  have w1b : 2 + ((s : Int) - 2) = (s : Int) := by omega
  have w1c : wrap64 (s : Int) = (s : Int) := by unfold wrap64; omega
  obtain ⟨Aa, Acap, rfl, Abig, Al⟩ := hAv
  have HDA : Hid (∀ w' i, Below w.heap.size w w' → i < A.length → ∃ x, Aa = some x ∧ x.block < w.heap.size ∧ w'.cell? (x.add (i * 2)) = some (.int .i64 (A.getD i noWt).c) ∧ w'.cell? ((x.add (i * 2)).add 1) = some (.int .i64 (A.getD i noWt).v)) := fun w' i k hi => by
    rcases Al with h | ⟨x, e1, e2, e3⟩
    · rw [h] at hi; simp at hi
    · exact ⟨x, e1, e2, (k.cell (p := x.add (i * 2)) (by rw [add_block]; exact e2)).trans (e3 i hi).1, (k.cell (p := (x.add (i * 2)).add 1) (by rw [add_block, add_block]; exact e2)).trans (e3 i hi).2⟩
  have HSNA : Hid (∀ q, q < A.length → inW A (q + 1) = inW A q ++ [⟨(A.getD q noWt).c % 8, (A.getD q noWt).v⟩]) := fun q h => inW_snoc h
  have HTKA : Hid (∀ q, q = 6 ∨ (q = A.length ∧ q ≤ 6) → inW A q = inW A 6) := fun q h => inW_end h
  have HLNA : Hid (∀ q, (inW A q).length ≤ q) := fun q => inW_len A q
  have HWA0 : Hid (∀ x ∈ inW A 6, 0 ≤ x.c ∧ x.c < 8 ∧ W64 x.v) := inW_cell hA
  obtain ⟨mA, HMA⟩ : ∃ m, Hid ((inW A 6).length = m) := ⟨_, rfl⟩
  have hmA : mA ≤ 6 := by have h := inW_len A 6; rw [HMA.out] at h; exact h
  clear Al
  obtain ⟨Ba, Bcap, rfl, Bbig, Bl⟩ := hBv
  have HDB : Hid (∀ w' i, Below w.heap.size w w' → i < B.length → ∃ x, Ba = some x ∧ x.block < w.heap.size ∧ w'.cell? (x.add (i * 2)) = some (.int .i64 (B.getD i noWt).c) ∧ w'.cell? ((x.add (i * 2)).add 1) = some (.int .i64 (B.getD i noWt).v)) := fun w' i k hi => by
    rcases Bl with h | ⟨x, e1, e2, e3⟩
    · rw [h] at hi; simp at hi
    · exact ⟨x, e1, e2, (k.cell (p := x.add (i * 2)) (by rw [add_block]; exact e2)).trans (e3 i hi).1, (k.cell (p := (x.add (i * 2)).add 1) (by rw [add_block, add_block]; exact e2)).trans (e3 i hi).2⟩
  have HSNB : Hid (∀ q, q < B.length → inW B (q + 1) = inW B q ++ [⟨(B.getD q noWt).c % 8, (B.getD q noWt).v⟩]) := fun q h => inW_snoc h
  have HTKB : Hid (∀ q, q = 6 ∨ (q = B.length ∧ q ≤ 6) → inW B q = inW B 6) := fun q h => inW_end h
  have HLNB : Hid (∀ q, (inW B q).length ≤ q) := fun q => inW_len B q
  have HWB9 : Hid (∀ x ∈ inW B 6, 0 ≤ x.c ∧ x.c < 8 ∧ W64 x.v) := inW_cell hB
  obtain ⟨mB', HMB⟩ : ∃ m, Hid ((inW B 6).length = m) := ⟨_, rfl⟩
  have hmB : mB' ≤ 6 := by have h := inW_len B 6; rw [HMB.out] at h; exact h
  clear Bl
  obtain ⟨ta, tcap, rfl, htb, htl⟩ := hT
  have HTD : Hid (∀ w' i, Below w.heap.size w w' → i < T.length → ∃ x, ta = some x ∧ x.block < w.heap.size ∧ w'.cell? (x.add i) = some (.bool (T.getD i false))) := fun w' i k hi => by
    rcases htl with h | ⟨x, e1, e2, e3⟩
    · rw [h] at hi; simp at hi
    · exact ⟨x, e1, e2, (k.cell (p := x.add i) (by rw [add_block]; exact e2)).trans (e3 i hi)⟩
  clear htl hse hs2 hs16 hA hB
  generalize hnA : A.length = nA at *
  generalize hnB : B.length = nB at *
  generalize hnT : T.length = nT at *
  clear hnA hnB hnT
  go_enter Try.func5, Try.ntmps5
  go_wp2_with fail
  refine (HS.out _).mono ?_
  rintro e y1 ⟨rfl, hb1⟩
  have HB1 : Hid (Below w.heap.size w y1) := by first | exact hb1 | exact below_then (below_a1 _ _) hb1
  clear hb1 HS
  go_wp2_with fail
  refine (HP.out _).mono ?_
  rintro e y2 ⟨rfl, rfl⟩
  go_upto_block 0 with fail
  try simp only [w1c]
  go_cut [9] (fun s9 wx => wx.ownsRow y2.heap.size 36 2 s9 mA (wtC (inW A 6)) ∧ Below y2.heap.size y2 wx)
  case first =>
    go_wp2_with fail
    go_loopw [9, 11] (fun ov iv wr => ∃ q : Nat, q ≤ nA ∧ q ≤ 6 ∧ iv = .int .i64 q ∧ wr.ownsRow y2.heap.size 36 2 ov (inW A q).length (wtC (inW A q)) ∧ Below y2.heap.size y2 wr) (fun _ iv _ => 6 - (intOf iv).toNat)
    case atStart => exact ⟨0, Nat.zero_le _, by omega, rfl, by simpa [inW, wtC] using World.ownsRow_nil _ _ _ _, Below.refl _ _⟩
    case round =>
      obtain ⟨q, hq, hq4, rfl, how, hb⟩ := hrel
      have HO : Hid (wr.ownsRow y2.heap.size 36 2 u9 (inW A q).length (wtC (inW A q))) := how
      have HB : Hid (Below y2.heap.size y2 wr) := hb
      have HBB : Hid (Below w.heap.size w wr) := below_then HB1.out hb
      clear how hb
      by_cases hlt : q < nA ∧ q < 6
      · obtain ⟨hlt, hlt4⟩ := hlt
        have d1 : decide ((q : Int) < (nA : Int)) = true := by simp; omega
        have d2 : decide ((q : Int) < 6) = true := by simp; omega
        have hx1 : (q : Int) < (nA : Int) := by omega
        obtain ⟨x, rfl, hxb, c0', c1'⟩ := HDA.out _ q HBB.out hlt
        rw [add_pos' _ _ (by decide)] at c1'
        have HS2 := HSNA.out q hlt
        have hl4 := HLNA.out q
        generalize A.getD q noWt = wt at *
        obtain ⟨wc, wv⟩ := wt
        simp only at c0' c1' HS2
        have HPK : Hid (∀ w, Calls Try.prog 22 #[.int .i64 wc, .int .i64 8] w fun e w' => e = .returned (.int .i64 (wc % 8)) ∧ w' = w) := HP8.out wc
        obtain ⟨av, cv, rfl⟩ := own_slice HO.out
        have HAP : Hid (wtC (inW A q ++ [⟨wc % 8, wv⟩]) = wtC (inW A q) ++ [.int .i64 (wc % 8), .int .i64 wv]) := by rw [Hid, wtC_app]; rfl
        have hlen : (wtC (inW A q)).length = (inW A q).length * 2 := wtC_len _
        generalize hK : inW A q = K at *
        generalize hm : K.length = m at *
        have HKM : Hid (K.length = m) := hm
        have hsz := HB.out.size
        generalize wc % (8 : Int) = wc' at *
        clear hK hm
        go_wp2_with fail
        go_region_law ((first | (refine step_lies_wide _ (by rfl) _ _ _ (by rfl) y2.heap.size 36 i0 _ 2 16 Try.underlying25 hi hz0 hz1 hz2 rfl (by omega) (.slice av m cv) m (wtC K) (by rfl) ((HO.out.alloc _).drew) ⟨wr.heap.size, 0, none⟩ 1 1 [.int .i64 wc', .int .i64 wv] (by rfl) (by rfl) (World.news_of_block (cs := #[.int .i64 wc', .int .i64 wv]) (t := 36) (fr := (0, 0)) (heap_alloc_new wr _)) (by simp [Value.oneCell']) (by omega) (by unfold maxLen; omega) (by omega) (by simp; omega) (wr.heap.size + 1) (by simp) ?_; intro gg cap' w3 hown1 hgrow hat hlt2) | (go_simp; go_at_call 22; refine (HPK.out _).mono ?_; rintro e w' ⟨rfl, rfl⟩)))
        all_goals
          have HO3 : Hid (w3.ownsRow y2.heap.size 36 2 (.slice (some ⟨gg, 0, none⟩) (m + 1) cap') (K ++ [Wt.mk wc' wv]).length (wtC (K ++ [Wt.mk wc' wv]))) := by
            rw [Hid, HAP.out, List.length_append, HKM.out]; exact hown1
          have HB3 : Hid (Below y2.heap.size y2 w3) := (below_drawn (below_alloc HB.out _) 1).grown hgrow (by simp; omega) (fun b hb => (own_block HO.out b hb).1)
          clear hown1 hgrow hat hlt2
          go_wp2
          go_roundw
          case rel => exact ⟨q + 1, by omega, by omega, by go_num, by rw [HS2]; exact HO3.out, HB3.out⟩
          case measure => simp [intOf]; omega
      · have hend : q = 6 ∨ (q = nA ∧ q ≤ 6) := by omega
        have HE := HTKA.out q hend
        rw [HE, HMA.out] at HO
        have hx : (q : Int) < (nA : Int) ∧ ¬ (q : Int) < 6 ∨ ¬ (q : Int) < (nA : Int) := by omega
        rcases hx with ⟨hx1, hx2⟩ | hx1
        · go_wp2
          go_meet
          exact ⟨HO.out, HB.out⟩
        · go_wp2
          go_meet
          exact ⟨HO.out, HB.out⟩
  case rest =>
    obtain ⟨hown0, hbel0⟩ := hcut
    obtain ⟨aa, ca, rfl⟩ := own_slice hown0
    obtain ⟨y3, rfl⟩ : ∃ y3, y3 = wc := ⟨_, rfl⟩
    have HB2 : Hid (Below w.heap.size w y3) := below_then HB1.out hbel0
    have HOA : Hid (y3.ownsRow y2.heap.size 36 2 (.slice aa mA ca) mA (wtC (inW A 6))) := hown0
    clear hown0 hbel0 HSNA HTKA HDA HB1 HP
    go_upto_block 2 with fail
    go_cut [10] (fun s10 wx => wx.ownsRow y3.heap.size 36 2 s10 mB' (wtC (inW B 6)) ∧ Below y3.heap.size y3 wx)
    case first =>
      go_wp2_with fail
      go_loopw [10, 12] (fun ov iv wr => ∃ q : Nat, q ≤ nB ∧ q ≤ 6 ∧ iv = .int .i64 q ∧ wr.ownsRow y3.heap.size 36 2 ov (inW B q).length (wtC (inW B q)) ∧ Below y3.heap.size y3 wr) (fun _ iv _ => 6 - (intOf iv).toNat)
      case atStart => exact ⟨0, Nat.zero_le _, by omega, rfl, by simpa [inW, wtC] using World.ownsRow_nil _ _ _ _, Below.refl _ _⟩
      case round =>
        obtain ⟨q, hq, hq4, rfl, how, hb⟩ := hrel
        have HO : Hid (wr.ownsRow y3.heap.size 36 2 u10 (inW B q).length (wtC (inW B q))) := how
        have HB : Hid (Below y3.heap.size y3 wr) := hb
        have HBB : Hid (Below w.heap.size w wr) := below_then HB2.out hb
        clear how hb
        by_cases hlt : q < nB ∧ q < 6
        · obtain ⟨hlt, hlt4⟩ := hlt
          have d1 : decide ((q : Int) < (nB : Int)) = true := by simp; omega
          have d2 : decide ((q : Int) < 6) = true := by simp; omega
          have hx1 : (q : Int) < (nB : Int) := by omega
          obtain ⟨x, rfl, hxb, c0', c1'⟩ := HDB.out _ q HBB.out hlt
          rw [add_pos' _ _ (by decide)] at c1'
          have HS2 := HSNB.out q hlt
          have hl4 := HLNB.out q
          generalize B.getD q noWt = wt at *
          obtain ⟨wc, wv⟩ := wt
          simp only at c0' c1' HS2
          have HPK : Hid (∀ w, Calls Try.prog 22 #[.int .i64 wc, .int .i64 8] w fun e w' => e = .returned (.int .i64 (wc % 8)) ∧ w' = w) := HP8.out wc
          obtain ⟨av, cv, rfl⟩ := own_slice HO.out
          have HAP : Hid (wtC (inW B q ++ [⟨wc % 8, wv⟩]) = wtC (inW B q) ++ [.int .i64 (wc % 8), .int .i64 wv]) := by rw [Hid, wtC_app]; rfl
          have hlen : (wtC (inW B q)).length = (inW B q).length * 2 := wtC_len _
          generalize hK : inW B q = K at *
          generalize hm : K.length = m at *
          have HKM : Hid (K.length = m) := hm
          have hsz := HB.out.size
          generalize wc % (8 : Int) = wc' at *
          clear hK hm
          go_wp2_with fail
          go_region_law ((first | (refine step_lies_wide _ (by rfl) _ _ _ (by rfl) y3.heap.size 36 i0 _ 2 16 Try.underlying25 hi hz0 hz1 hz2 rfl (by omega) (.slice av m cv) m (wtC K) (by rfl) ((HO.out.alloc _).drew) ⟨wr.heap.size, 0, none⟩ 1 1 [.int .i64 wc', .int .i64 wv] (by rfl) (by rfl) (World.news_of_block (cs := #[.int .i64 wc', .int .i64 wv]) (t := 36) (fr := (0, 0)) (heap_alloc_new wr _)) (by simp [Value.oneCell']) (by omega) (by unfold maxLen; omega) (by omega) (by simp; omega) (wr.heap.size + 1) (by simp) ?_; intro gg cap' w3 hown1 hgrow hat hlt2) | (go_simp; go_at_call 22; refine (HPK.out _).mono ?_; rintro e w' ⟨rfl, rfl⟩)))
          all_goals
            have HO3 : Hid (w3.ownsRow y3.heap.size 36 2 (.slice (some ⟨gg, 0, none⟩) (m + 1) cap') (K ++ [Wt.mk wc' wv]).length (wtC (K ++ [Wt.mk wc' wv]))) := by
              rw [Hid, HAP.out, List.length_append, HKM.out]; exact hown1
            have HB3 : Hid (Below y3.heap.size y3 w3) := (below_drawn (below_alloc HB.out _) 1).grown hgrow (by simp; omega) (fun b hb => (own_block HO.out b hb).1)
            clear hown1 hgrow hat hlt2
            go_wp2
            go_roundw
            case rel => exact ⟨q + 1, by omega, by omega, by go_num, by rw [HS2]; exact HO3.out, HB3.out⟩
            case measure => simp [intOf]; omega
        · have hend : q = 6 ∨ (q = nB ∧ q ≤ 6) := by omega
          have HE := HTKB.out q hend
          rw [HE, HMB.out] at HO
          have hx : (q : Int) < (nB : Int) ∧ ¬ (q : Int) < 6 ∨ ¬ (q : Int) < (nB : Int) := by omega
          rcases hx with ⟨hx1, hx2⟩ | hx1
          · go_wp2
            go_meet
            exact ⟨HO.out, HB.out⟩
          · go_wp2
            go_meet
            exact ⟨HO.out, HB.out⟩
    case rest =>
      obtain ⟨hown0, hbel0⟩ := hcut
      obtain ⟨ab, cb, rfl⟩ := own_slice hown0
      obtain ⟨y4, rfl⟩ : ∃ y4, y4 = wc := ⟨_, rfl⟩
      have HB3 : Hid (Below w.heap.size w y4) := below_then HB2.out hbel0
      have HBA : Hid (y4.ownsRow y2.heap.size 36 2 (.slice aa mA ca) mA (wtC (inW A 6))) := own_keep HOA.out (Keep.of_below hbel0 []) (fun _ _ => by simp)
      have HOB : Hid (y4.ownsRow y3.heap.size 36 2 (.slice ab mB' cb) mB' (wtC (inW B 6))) := hown0
      have HWA : Hid (WL y4 (.slice aa mA ca) (inW A 6)) := WL.of_own (by rw [HMA.out]; exact HBA.out) (by have h := HMA.out; omega)
      have HWB0 : Hid (WL y4 (.slice ab mB' cb) (inW B 6)) := WL.of_own (by rw [HMB.out]; exact HOB.out) (by have h := HMB.out; omega)
      obtain ⟨R1, hR11, hR12⟩ := own_rows HBA.out
      obtain ⟨R2, hR21, hR22⟩ := own_rows HOB.out
      have HR1 : Hid (∀ w' : World, (∀ z ∈ R1 ++ R2, w'.heap[z.1]? = some z.2) → w'.ownsRow y2.heap.size 36 2 (.slice aa mA ca) mA (wtC (inW A 6))) := fun w' h => hR12 w' (fun z hz => h z (by simp [hz]))
      have HR2 : Hid (∀ w' : World, (∀ z ∈ R1 ++ R2, w'.heap[z.1]? = some z.2) → w'.ownsRow y3.heap.size 36 2 (.slice ab mB' cb) mB' (wtC (inW B 6))) := fun w' h => hR22 w' (fun z hz => h z (by simp [hz]))
      have HRR : Hid (∀ z ∈ R1 ++ R2, y4.heap[z.1]? = some z.2) := fun z hz => by
        rcases List.mem_append.1 hz with h | h
        · exact hR11 z h
        · exact hR21 z h
      clear hown0 hbel0 HSNB HTKB HDB HB2 HOA HBA HOB hR11 hR12 hR21 hR22 HP8 hi hz0 hz1 hz2
      generalize R1 ++ R2 = R at *
      go_wp2_with fail
      refine (HN.out _).mono ?_
      rintro e z1 ⟨p, F1, rfl, _, hm1, hb1⟩
      obtain ⟨M, rfl⟩ := hm1.ptr
      have HM1 : Hid (MemAt z1 y4.heap.size (.pointer (some ⟨M, 0, none⟩)) 8 s [] F1 ∧ Below y4.heap.size y4 z1) := ⟨hm1, hb1⟩
      clear hm1 hb1 HN
      have HWA1 : Hid (WL z1 (.slice aa mA ca) (inW A 6)) := HWA.out.later HM1.out.2
      go_wp2_with fail
      refine (HF1.out _ _ HWA1.out).mono ?_
      rintro e z2 ⟨X, u, rfl, hX, hrx, hox, hnx, hb2⟩
      have HX : Hid (z1.heap.size ≤ X ∧ BRow z2 X (orP s 1 A) (bkNew (orP s 1 A) true) u ∧ z2.ownsRow z1.heap.size 36 2 u (orP s 1 A).W.length (wtC (orP s 1 A).W) ∧ (∀ k, u.ownBlock = some k → k ≠ X) ∧ Below z1.heap.size z1 z2) := ⟨hX, hrx, hox, hnx, hb2⟩
      have HWB2 : Hid (WL z2 (.slice ab mB' cb) (inW B 6)) := (HWB0.out.later HM1.out.2).later hb2
      clear hX hrx hox hnx hb2 HF1 HWA HWA1 HWB0
      go_wp2_with fail
      refine (HF2.out _ _ HWB2.out).mono ?_
      rintro e z3 ⟨Y, v, rfl, hY, hry, hoy, hny, hb3⟩
      have HE0 : Hid (OW w z3 M X Y s (orP s 1 A) (orP s 2 B) u v 0 (bkNew (orP s 1 A) true) (bkNew (orP s 2 B) true) [] R) := ow_start HOQ.out rfl (fun x hx => (HWA0.out x hx).2.1) (fun x hx => (HWB9.out x hx).2.1) HB3.out HM1.out.1 HM1.out.2 HX.out.1 HX.out.2.1 HX.out.2.2.1 HX.out.2.2.2.1 HX.out.2.2.2.2 hY hry hoy hny hb3 HRR.out
      clear hY hry hoy hny hb3 HF2 HWB2 HX HM1 HRR HB3
      have HPL : Hid ((orP s 1 A).W.length ≤ 6 ∧ (orP s 2 B).W.length ≤ 6 ∧ (orP s 1 A).W = inW A 6 ∧ (orP s 2 B).W = inW B 6 ∧ (orP s 2 B).W.length = mB') := ⟨inW_len _ _, inW_len _ _, rfl, rfl, HMB.out⟩
      have HAM : Hid (Apt (orP s 1 A) (orP s 2 B) → (!(Sg.meet (orP s 1 A).sg (orP s 2 B).sg == Sg.nought)) = false) := apt_meet HOQ.out
      have HSG1 : Hid (∀ w', OW w w' M X Y s (orP s 1 A) (orP s 2 B) u v 0 (bkNew (orP s 1 A) true) (bkNew (orP s 2 B) true) [] R → Calls Try.prog 17 #[.pointer (some ⟨X, 0, none⟩)] w' fun e w'' => e = .returned (Sg.sv (orP s 1 A).sg) ∧ OW w w'' M X Y s (orP s 1 A) (orP s 2 B) u v 0 (bkNew (orP s 1 A) true) (bkNew (orP s 2 B) true) [] R) := fun w' h => ow_sig1 h
      have HSG2 : Hid (∀ w', OW w w' M X Y s (orP s 1 A) (orP s 2 B) u v 0 (bkNew (orP s 1 A) true) (bkNew (orP s 2 B) true) [] R → Calls Try.prog 17 #[.pointer (some ⟨Y, 0, none⟩)] w' fun e w'' => e = .returned (Sg.sv (orP s 2 B).sg) ∧ OW w w'' M X Y s (orP s 1 A) (orP s 2 B) u v 0 (bkNew (orP s 1 A) true) (bkNew (orP s 2 B) true) [] R) := fun w' h => ow_sig2 h
      generalize (!(Sg.meet (orP s 1 A).sg (orP s 2 B).sg == Sg.nought)) = sm at *
      generalize Sg.sv (orP s 1 A).sg = sv1 at *
      generalize Sg.sv (orP s 2 B).sg = sv2 at *
      have HPR : Hid (OPr nT 0 (orP s 1 A) (orP s 2 B) (bkNew (orP s 1 A) true) (bkNew (orP s 2 B) true)) := opr_start HE0.out.oi.bk HPL.out.1
      generalize bkNew (orP s 1 A) true = b0 at *
      generalize bkNew (orP s 2 B) true = d0 at *
      obtain ⟨P, hP⟩ : ∃ P, P = orP s 1 A := ⟨_, rfl⟩
      obtain ⟨Q, hQ⟩ : ∃ Q, Q = orP s 2 B := ⟨_, rfl⟩
      rw [← hP, ← hQ] at HPR HSG1 HSG2 HAM HPL HE0 HOQ
      have HPS : Hid (P.s = s ∧ Q.s = s) := by rw [hP, hQ]; exact ⟨rfl, rfl⟩
      clear hP hQ
      go_wp2_with fail
      refine (HSG1.out _ HE0.out).mono ?_
      rintro e z4 ⟨rfl, h4⟩
      have HE1 : Hid (OW w z4 M X Y s P Q u v 0 b0 d0 [] R) := h4
      clear h4 HE0
      go_wp2_with fail
      refine (HSG2.out _ HE1.out).mono ?_
      rintro e z5 ⟨rfl, h5⟩
      have HE2 : Hid (OW w z5 M X Y s P Q u v 0 b0 d0 [] R) := h5
      clear h5 HE1 HSG1 HSG2
      go_wp2_with fail
      refine (HMT.out _).mono ?_
      rintro e z6 ⟨rfl, h6⟩
      have HE3 : Hid (OW w z6 M X Y s P Q u v 0 b0 d0 [] R) := HE2.out.later h6
      clear h6 HE2 HMT
      go_upto_block 4 with fail
      clear w1 w1b w1c
      go_cut [20] (fun _ wx => ∃ (b d : Bk) (L : List Ac), OW w wx M X Y s P Q u v (nT + 200) b d L R ∧ b.nx = 0 ∧ d.nx = 0)
      case first =>
        go_wp2_with fail
        have b3 : wrap64 ((nT : Int) + 200) = (nT : Int) + 200 := by unfold wrap64; omega
        obtain ⟨sl1, HS1⟩ : ∃ x, Hid (x = slotV 1 (s : Int)) := ⟨_, rfl⟩
        obtain ⟨sl2, HS2⟩ : ∃ x, Hid (x = slotV 2 (s : Int)) := ⟨_, rfl⟩
        have HBD : Hid ((0 ≤ sl1 ∧ sl1 < (s : Int)) ∧ 0 ≤ sl2 ∧ sl2 < (s : Int)) := by rw [Hid, HS1.out, HS2.out]; have h := sizeOk_iff.mpr (show 1 ≤ (s : Int) ∧ (s : Int) ≤ 16 by have := HBG.out; omega); exact ⟨slotV_bd _ _ h, slotV_bd _ _ h⟩
        have t1 : (1 : Int).tmod (s : Int) = sl1 := by rw [HS1.out]; unfold slotV; rw [if_pos (sizeOk_iff.mpr (by have := HBG.out; omega))]; exact Int.tmod_eq_emod_of_nonneg (by decide)
        have t2 : (2 : Int).tmod (s : Int) = sl2 := by rw [HS2.out]; unfold slotV; rw [if_pos (sizeOk_iff.mpr (by have := HBG.out; omega))]; exact Int.tmod_eq_emod_of_nonneg (by decide)
        have hsz : (s : Int) ≠ 0 := by have := HBG.out; omega
        have e1 : wrap64 sl1 = sl1 := by have := HBD.out; have := HBG.out; unfold wrap64; omega
        have e2 : wrap64 sl2 = sl2 := by have := HBD.out; have := HBG.out; unfold wrap64; omega
        have e3 : IntKind.i64.wrap sl1 = sl1 := by have := HBD.out; have := HBG.out; rw [IntKind.wrap_i64]; omega
        have e4 : IntKind.i64.wrap sl2 = sl2 := by have := HBD.out; have := HBG.out; rw [IntKind.wrap_i64]; omega
        go_loopg [20] (nT + 200) (fun g iv wr => ∃ (i : Nat) (b d : Bk) (L : List Ac), i ≤ nT + 200 ∧ g = nT + 200 - i ∧ iv = .int .i64 i ∧ OW w wr M X Y s P Q u v i b d L R ∧ OPr nT i P Q b d)
        case atStart => exact ⟨0, b0, d0, [], by omega, by omega, rfl, HE3.out, HPR.out⟩
        case round =>
          obtain ⟨i, b, d, L, hi', rfl, rfl, how, hpr⟩ := hrel
          have HEW : Hid (OW w wr M X Y s P Q u v i b d L R ∧ OPr nT i P Q b d) := ⟨how, hpr⟩
          clear how hpr HE3 HPR
          by_cases hlt : i < nT + 200
          · have hlt' : (i : Int) < (nT : Int) + 200 := by omega
            obtain ⟨tb, HTB⟩ : ∃ tb : Bool, Hid (tb = if i < nT then T.getD i false else decide (i % 2 = 0)) := ⟨_, rfl⟩
            go_upto_region 26 with fail
            go_cut [167] (fun c wx => c = .bool tb ∧ wr = wx)
            case first =>
              clear t1 t2 e1 e2 e3 e4
              by_cases h1 : i < nT
              · obtain ⟨x, rfl, hxb, hc⟩ := HTD.out wr i HEW.out.1.bel h1
                have HTT : Hid (tb = T.getD i false) := by rw [Hid, HTB.out, if_pos h1]
                have h1' : (i : Int) < (nT : Int) := by omega
                have h1'' : ¬ (nT : Int) ≤ (i : Int) := by omega
                generalize T.getD i false = tt at *
                cases tt
                · go_wp2
                  go_meet
                  exact ⟨by rw [HTT.out], rfl⟩
                · go_wp2
                  go_meet
                  exact ⟨by rw [HTT.out], rfl⟩
              · have h1' : ¬ (i : Int) < (nT : Int) := by omega
                have h1'' : (nT : Int) ≤ (i : Int) := by omega
                by_cases h2 : i % 2 = 0
                · have HTT : Hid (tb = true) := by rw [Hid, HTB.out, if_neg h1, h2]; rfl
                  have h2' : (i : Int).tmod 2 = 0 := by rw [Int.tmod_eq_emod_of_nonneg (by omega)]; omega
                  clear h2
                  go_wp2
                  go_meet
                  exact ⟨by rw [HTT.out], rfl⟩
                · have HTT : Hid (tb = false) := by rw [Hid, HTB.out, if_neg h1]; exact decide_eq_false h2
                  have h2' : (i : Int).tmod 2 = 1 := by rw [Int.tmod_eq_emod_of_nonneg (by omega)]; omega
                  clear h2
                  go_wp2
                  go_meet
                  exact ⟨by rw [HTT.out], rfl⟩
            case rest =>
              obtain ⟨rfl, rfl⟩ := hcut
              go_upto_if 167 with fail
              go_cut [167] (fun _ wx => ∃ (b' d' : Bk) (L' : List Ac), OW w wx M X Y s P Q u v (i + 1) b' d' L' R ∧ OPr nT (i + 1) P Q b' d')
              case first =>
                cases htb : tb
                · have HEV : Hid (nT ≤ i → i % 2 = 1) := fun h => by
                    have h2 := HTB.out
                    rw [htb, if_neg (by omega)] at h2
                    have h3 := of_decide_eq_false h2.symm
                    omega
                  go_wp2_with fail
                  refine (ow_new HEW.out.1 (by omega)).mono ?_
                  rintro e z7 ⟨⟨kk, yy, rfl⟩, d', L', h7, h8⟩
                  have HM7 : Hid (OW w z7 M X Y s P Q u v (i + 1) b d' L' R ∧ OPr nT (i + 1) P Q b d') := ⟨h7, opr_new HEW.out.2 h7.oi.bk h7.oi.dk HPL.out.1 HPL.out.2.1 HEV.out h8⟩
                  clear h7 h8
                  go_wp2
                  go_meet
                  exact ⟨b, d', L', HM7.out⟩
                · have HEV : Hid (nT ≤ i → i % 2 = 0) := fun h => by
                    have h2 := HTB.out
                    rw [htb, if_neg (by omega)] at h2
                    exact of_decide_eq_true h2.symm
                  go_wp2_with fail
                  refine (ow_old HEW.out.1 (by omega)).mono ?_
                  rintro e z7 ⟨⟨kk, yy, rfl⟩, b', L', h7, h8, h9⟩
                  have HM7 : Hid (OW w z7 M X Y s P Q u v (i + 1) b' d L' R ∧ OPr nT (i + 1) P Q b' d) := ⟨h7, opr_old HEW.out.2 h7.oi.bk h7.oi.dk HPL.out.1 HPL.out.2.1 HEV.out h8 h9⟩
                  clear h7 h8 h9
                  go_wp2
                  go_meet
                  exact ⟨b', d, L', HM7.out⟩
              case rest =>
                obtain ⟨b', d', L', h7, h8⟩ := hcut
                obtain ⟨z7, rfl⟩ : ∃ z7, z7 = wc := ⟨_, rfl⟩
                have HE7 : Hid (OW w z7 M X Y s P Q u v (i + 1) b' d' L' R ∧ OPr nT (i + 1) P Q b' d') := ⟨h7, h8⟩
                have HA1 : Hid (wordOf L' ⟨2, sl2, 0⟩ = 5 → wordOf L' ⟨2, sl1, 0⟩ = 3) := fun h => by
                  have h1 := ow_asks1 h7
                  unfold hdB at h1
                  rw [HPS.out.1, HPS.out.2, ← HS1.out, ← HS2.out] at h1
                  exact h1 h
                have HA2 : Hid (wordOf L' ⟨2, sl1, 0⟩ ≠ 3 → d'.wr = 0 ∨ Apt P Q) := fun h => by
                  have h1 := ow_asks2 h7
                  unfold hdB at h1
                  rw [HPS.out.1, ← HS1.out] at h1
                  exact h1 h
                have HK1 : Hid (∀ w', OW w w' M X Y s P Q u v (i + 1) b' d' L' R → Calls Try.prog 23 #[.pointer (some ⟨M, 0, none⟩), .agg #[.int .i64 2, .int .i64 sl1, .int .i64 0]] w' fun e w'' => e = .returned (.tuple #[.int .i64 (wordOf L' ⟨2, sl1, 0⟩), .int .i64 0]) ∧ OW w w'' M X Y s P Q u v (i + 1) b' d' L' R) := fun w' h => ow_peek h ⟨2, sl1, 0⟩ (by have h2 := HBD.out; simp [isAd, h2.1.1, h2.1.2])
                have HK2 : Hid (∀ w', OW w w' M X Y s P Q u v (i + 1) b' d' L' R → Calls Try.prog 23 #[.pointer (some ⟨M, 0, none⟩), .agg #[.int .i64 2, .int .i64 sl2, .int .i64 0]] w' fun e w'' => e = .returned (.tuple #[.int .i64 (wordOf L' ⟨2, sl2, 0⟩), .int .i64 0]) ∧ OW w w'' M X Y s P Q u v (i + 1) b' d' L' R) := fun w' h => ow_peek h ⟨2, sl2, 0⟩ (by have h2 := HBD.out; simp [isAd, h2.2.1, h2.2.2])
                have HK3 : Hid (∀ w', OW w w' M X Y s P Q u v (i + 1) b' d' L' R → Calls Try.prog 18 #[.pointer (some ⟨Y, 0, none⟩)] w' fun e w'' => e = .returned (.int .i64 ((Q.W.length : Int) - (d'.wr : Int))) ∧ OW w w'' M X Y s P Q u v (i + 1) b' d' L' R) := fun w' h => ow_left h
                have HNL : Hid (d'.wr = 0 → (Q.W.length : Int) - (d'.wr : Int) = (mB' : Int)) := fun h => by rw [h, HPL.out.2.2.2.2]; omega
                generalize wordOf L' ⟨2, sl1, 0⟩ = p at *
                generalize wordOf L' ⟨2, sl2, 0⟩ = q at *
                generalize (Q.W.length : Int) - (d'.wr : Int) = nl at *
                have e7 : wrap64 ((i : Int) + 1) = (i : Int) + 1 := by unfold wrap64; omega
                clear h7 h8 HEW HTB htb
                go_wp2_with fail
                refine (HK1.out _ HE7.out.1).mono ?_
                rintro e z8 ⟨rfl, h8⟩
                have HE8 : Hid (OW w z8 M X Y s P Q u v (i + 1) b' d' L' R) := h8
                clear h8 HK1
                go_wp2_with fail
                refine (HK2.out _ HE8.out).mono ?_
                rintro e z9 ⟨rfl, h9⟩
                have HE9 : Hid (OW w z9 M X Y s P Q u v (i + 1) b' d' L' R) := h9
                clear h9 HK2 HE8 t1 t2 e1 e2 e3 e4
                go_wp2_with fail
                refine (HK3.out _ HE9.out).mono ?_
                rintro e z10 ⟨rfl, h10⟩
                have HE10 : Hid (OW w z10 M X Y s P Q u v (i + 1) b' d' L' R) := h10
                clear h10 HK3 HE9
                by_cases q5 : q = 5
                · have hp3 := HA1.out q5
                  subst q5 hp3
                  cases hsm : sm
                  all_goals
                    subst hsm
                    go_wp2
                    go_roundg (nT + 200 - (i + 1))
                    case measure => omega
                    case rel => exact ⟨i + 1, b', d', L', by omega, rfl, by go_num, HE10.out, HE7.out.2⟩
                · have q5b : (q == 5) = false := by simp [q5]
                  cases hsm : sm
                  · subst hsm
                    go_wp2
                    go_roundg (nT + 200 - (i + 1))
                    case measure => omega
                    case rel => exact ⟨i + 1, b', d', L', by omega, rfl, by go_num, HE10.out, HE7.out.2⟩
                  · by_cases p3 : p = 3
                    · subst p3
                      subst hsm
                      go_wp2
                      go_roundg (nT + 200 - (i + 1))
                      case measure => omega
                      case rel => exact ⟨i + 1, b', d', L', by omega, rfl, by go_num, HE10.out, HE7.out.2⟩
                    · have hnl : nl = (mB' : Int) := by
                        rcases HA2.out p3 with h | h
                        · exact HNL.out h
                        · have := HAM.out h
                          rw [hsm] at this
                          cases this
                      have p3b : (p == 3) = false := by simp [p3]
                      subst hnl
                      subst hsm
                      go_wp2
                      go_roundg (nT + 200 - (i + 1))
                      case measure => omega
                      case rel => exact ⟨i + 1, b', d', L', by omega, rfl, by go_num, HE10.out, HE7.out.2⟩
          · obtain rfl : i = nT + 200 := by omega
            have hnn : ¬ ((nT + 200 : Nat) : Int) < (nT : Int) + 200 := by omega
            go_wp2
            go_meet
            exact ⟨b, d, L, HEW.out.1, opr_end HEW.out.2 HEW.out.1.oi.dk⟩
      case rest =>
        obtain ⟨b, d, L, how0, hb0, hd0⟩ := hcut
        have HE4 : Hid (OW w wc M X Y s P Q u v (nT + 200) b d L R) := how0
        have HCV : Hid (∀ c : Int, wordOf L ⟨4, c, 0⟩ = (lastW (inW B 6) c).getD ((lastW (inW A 6) c).getD 0)) := fun c => by
          have h := ow_cell how0 hb0 hd0 c
          rw [HPL.out.2.2.1, HPL.out.2.2.2.1] at h
          exact h
        clear how0 hb0 hd0 HE3 HPR HAM HTD HPL HOQ HBG HPS
        go_wp2
        go_loopw [26] (fun cv wr => ∃ c : Nat, c ≤ 8 ∧ cv = .int .i64 c ∧ OW w wr M X Y s P Q u v (nT + 200) b d L R) (fun cv _ => 8 - (intOf cv).toNat)
        case atStart => exact ⟨0, by omega, rfl, HE4.out⟩
        case round =>
          obtain ⟨c, hc, rfl, how⟩ := hrel
          obtain ⟨x6, rfl⟩ : ∃ x6, x6 = wr := ⟨_, rfl⟩
          have HEA : Hid (OW w x6 M X Y s P Q u v (nT + 200) b d L R) := how
          clear how HE4
          by_cases hlt : c < 8
          · have hlt' : (c : Int) < 8 := by omega
            have HCA : Hid (∀ i, i < mA → ∃ g, aa = some ⟨g, 0, none⟩ ∧ x6.cell? ⟨g, i * 2, none⟩ = some (.int .i64 ((inW A 6).getD i noWt).c) ∧ x6.cell? ⟨g, i * 2 + 1, none⟩ = some (.int .i64 ((inW A 6).getD i noWt).v)) := fun i hi => by
              have ho := HR1.out x6 HEA.out.row
              obtain ⟨g, cap2, hfm, -⟩ := ho.form (by omega)
              simp at hfm
              obtain ⟨rfl, rfl⟩ := hfm
              exact ⟨g, rfl, own_wr (W := inW A 6) (by rw [HMA.out]; exact ho) i (by rw [HMA.out]; exact hi)⟩
            have HCB : Hid (∀ i, i < mB' → ∃ g, ab = some ⟨g, 0, none⟩ ∧ x6.cell? ⟨g, i * 2, none⟩ = some (.int .i64 ((inW B 6).getD i noWt).c) ∧ x6.cell? ⟨g, i * 2 + 1, none⟩ = some (.int .i64 ((inW B 6).getD i noWt).v)) := fun i hi => by
              have ho := HR2.out x6 HEA.out.row
              obtain ⟨g, cap2, hfm, -⟩ := ho.form (by omega)
              simp at hfm
              obtain ⟨rfl, rfl⟩ := hfm
              exact ⟨g, rfl, own_wr (W := inW B 6) (by rw [HMB.out]; exact ho) i (by rw [HMB.out]; exact hi)⟩
            have g3 : wrap64 ((c : Int) + 1) = (c : Int) + 1 := by unfold wrap64; omega
            go_wp2
            go_loopw [27, 28] (fun vv kv wr => ∃ (q : Nat) (z : Int), q ≤ mA ∧ kv = .int .i64 q ∧ vv = .int .i64 z ∧ z = (lastW ((inW A 6).take q) (c : Int)).getD 0 ∧ x6 = wr) (fun _ kv _ => mA - (intOf kv).toNat)
            case atStart => exact ⟨0, 0, Nat.zero_le _, rfl, rfl, by simp [lastW], rfl⟩
            case round =>
              obtain ⟨q, z, hq, rfl, rfl, hz, rfl⟩ := hrel
              have HZ : Hid (z = (lastW ((inW A 6).take q) (c : Int)).getD 0) := hz
              clear hz
              by_cases hqm : q < mA
              · have hqm' : (q : Int) < (mA : Int) := by omega
                have g4 : wrap64 ((q : Int) + 1) = (q : Int) + 1 := by unfold wrap64; omega
                obtain ⟨g, rfl, k0, k1⟩ := HCA.out q hqm
                have HLT : Hid (lastW ((inW A 6).take (q + 1)) (c : Int) = if ((inW A 6).getD q noWt).c = (c : Int) then some ((inW A 6).getD q noWt).v else lastW ((inW A 6).take q) (c : Int)) := lastW_take (by rw [HMA.out]; exact hqm) _
                generalize (inW A 6).getD q noWt = xk at *
                obtain ⟨kc, kv⟩ := xk
                simp only at k0 k1 HLT
                by_cases hce : kc = (c : Int)
                · subst hce
                  go_wp2
                  go_roundw
                  case rel => exact ⟨q + 1, kv, by omega, by go_num, rfl, by rw [HLT.out]; simp, by first | trivial | rfl⟩
                  case measure => simp [intOf]; omega
                · have hcb : (kc == (c : Int)) = false := by simp [hce]
                  go_wp2
                  go_roundw
                  case rel => exact ⟨q + 1, z, by omega, by go_num, rfl, by rw [HLT.out, if_neg hce]; exact HZ.out, by first | trivial | rfl⟩
                  case measure => simp [intOf]; omega
              · have hqe : q = mA := by omega
                have HZA : Hid (z = (lastW (inW A 6) (c : Int)).getD 0) := by have h := HZ.out; rw [hqe, ← HMA.out, List.take_length] at h; exact h
                have hqm' : ¬ (q : Int) < (mA : Int) := by omega
                clear hqe HZ HCA
                go_wp2
                go_loopw [27, 29] (fun vv kv wr => ∃ (q : Nat) (z2 : Int), q ≤ mB' ∧ kv = .int .i64 q ∧ vv = .int .i64 z2 ∧ z2 = (lastW ((inW B 6).take q) (c : Int)).getD z ∧ x6 = wr) (fun _ kv _ => mB' - (intOf kv).toNat)
                case atStart => exact ⟨0, z, Nat.zero_le _, rfl, rfl, by simp [lastW], rfl⟩
                case round =>
                  obtain ⟨r, z2, hr, rfl, rfl, hz2, rfl⟩ := hrel
                  have HZ2 : Hid (z2 = (lastW ((inW B 6).take r) (c : Int)).getD z) := hz2
                  clear hz2
                  by_cases hrm : r < mB'
                  · have hrm' : (r : Int) < (mB' : Int) := by omega
                    have g4 : wrap64 ((r : Int) + 1) = (r : Int) + 1 := by unfold wrap64; omega
                    obtain ⟨g, rfl, k0, k1⟩ := HCB.out r hrm
                    have HLT : Hid (lastW ((inW B 6).take (r + 1)) (c : Int) = if ((inW B 6).getD r noWt).c = (c : Int) then some ((inW B 6).getD r noWt).v else lastW ((inW B 6).take r) (c : Int)) := lastW_take (by rw [HMB.out]; exact hrm) _
                    generalize (inW B 6).getD r noWt = xk at *
                    obtain ⟨kc, kv⟩ := xk
                    simp only at k0 k1 HLT
                    by_cases hce : kc = (c : Int)
                    · subst hce
                      go_wp2
                      go_roundw
                      case rel => exact ⟨r + 1, kv, by omega, by go_num, rfl, by rw [HLT.out]; simp, by first | trivial | rfl⟩
                      case measure => simp [intOf]; omega
                    · have hcb : (kc == (c : Int)) = false := by simp [hce]
                      go_wp2
                      go_roundw
                      case rel => exact ⟨r + 1, z2, by omega, by go_num, rfl, by rw [HLT.out, if_neg hce]; exact HZ2.out, by first | trivial | rfl⟩
                      case measure => simp [intOf]; omega
                  · have hre : r = mB' := by omega
                    have hzz : wordOf L ⟨4, (c : Int), 0⟩ = z2 := by
                      have h := HZ2.out
                      rw [hre, ← HMB.out, List.take_length, HZA.out] at h
                      rw [HCV.out, h]
                    have HPK : Hid (Calls Try.prog 23 #[.pointer (some ⟨M, 0, none⟩), .agg #[.int .i64 4, .int .i64 (c : Int), .int .i64 0]] x6 fun e w' => e = .returned (.tuple #[.int .i64 z2, .int .i64 0]) ∧ OW w w' M X Y s P Q u v (nT + 200) b d L R) := by
                      have hq := ow_peek HEA.out ⟨4, (c : Int), 0⟩ (by simp [isAd]; omega)
                      rw [hzz] at hq
                      exact hq
                    have hrm' : ¬ (r : Int) < (mB' : Int) := by omega
                    clear hre hzz HZ2 HZA HCB
                    go_wp2_with fail
                    refine HPK.out.mono ?_
                    rintro e z10 ⟨rfl, h10⟩
                    have HE10 : Hid (OW w z10 M X Y s P Q u v (nT + 200) b d L R) := h10
                    clear h10 HPK
                    go_wp2
                    go_roundw
                    case rel => exact ⟨c + 1, by omega, by go_num, HE10.out⟩
                    case measure => simp [intOf]; omega
          · have hce : c = 8 := by omega
            subst hce
            go_wp2
            go_ret
            exact ⟨rfl, HEA.out.bel⟩
end Go.Proofs.Ytbmmicfdnfpcaaa
