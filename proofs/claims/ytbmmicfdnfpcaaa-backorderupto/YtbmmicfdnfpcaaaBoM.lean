/- Two machines of neighbouring stamps over one memory, as plain numbers: entries get complete in order; the younger's value stays. -/
import Derived.Test.YtbmmicfdnfpcaaaBkU
namespace Go.Proofs.Ytbmmicfdnfpcaaa
open Go.RowKit (wrap64)

/-- Stamps 1 and 2 over one ring. -/
structure Oq (P Q : Bp) : Prop where
  p : BpOk P
  q : BpOk Q
  s : Q.s = P.s
  s2 : 2 ≤ P.s
  st1 : P.st = 1
  st2 : Q.st = 2
/-- They share no bit. -/
def Apt (P Q : Bp) : Prop := ∀ j, j < 8 → P.sg.getD j 0 &&& Q.sg.getD j 0 = 0
structure OI (P Q : Bp) (b d : Bk) (f : Ad → Int) : Prop where
  o : Oq P Q
  bk : BkOk P b
  dk : BkOk Q d
  bkn : b.kn = true
  h1 : f (hdB P 1) = if b.nx = 0 then 3 else if b.nx = 1 ∨ b.nx = 2 then 1 else 2
  w1 : ∀ j, j < (if b.nx = 1 then b.wd else 8) → f ⟨3, slotV 1 P.s, (j : Int)⟩ = wrap64 ((P.sg.getD j 0 : Nat) : Int)
  y3 : d.nx = 4 ∨ d.nx = 5 → b.nx ≠ 1 ∧ b.nx ≠ 2
  y4 : d.nx = 4 → ∀ j, j < d.wd → P.sg.getD j 0 &&& Q.sg.getD j 0 = 0
  y6 : d.kn = true → b.nx = 0
  y7 : d.nx = 6 ∨ d.nx = 7 ∨ d.nx = 8 ∨ d.nx = 0 → b.nx = 0 ∨ Apt P Q
  h2 : d.nx ≠ 0 → f (hdB Q 2) ≠ 5
  cells : ∀ c, f ⟨4, c, 0⟩ = (lastW (Q.W.take d.wr) c).getD ((lastW (P.W.take b.wr) c).getD 0)
theorem bit_sgOf {W : List Wt} {x : Wt} (h : x ∈ W) : Sg.bit (sgOf W) (Sg.sigN x.c) = true := by
  unfold sgOf
  have mono : ∀ (W : List Wt) s, Sg.Ok s → ∀ k, Sg.bit s k = true → Sg.bit (W.foldl (fun s x => Sg.put s (Sg.sigN x.c)) s) k = true := by
    intro W
    induction W with
    | nil => exact fun s _ k h => h
    | cons y W ih => exact fun s hs k hb => ih _ (Sg.ok_put hs _ (Sg.sigN_lt _)) k (by rw [Sg.bit_put hs _ _ (Sg.sigN_lt _), hb]; rfl)
  suffices hh : ∀ s, Sg.Ok s → Sg.bit (W.foldl (fun s x => Sg.put s (Sg.sigN x.c)) s) (Sg.sigN x.c) = true from hh _ Sg.ok_nought
  induction W with
  | nil => simp at h
  | cons y W ih =>
    intro s hs
    rw [List.foldl_cons]
    rcases List.mem_cons.1 h with rfl | h
    · exact mono W _ (Sg.ok_put hs _ (Sg.sigN_lt _)) _ (by rw [Sg.bit_put hs _ _ (Sg.sigN_lt _)]; simp)
    · exact ih h _ (Sg.ok_put hs _ (Sg.sigN_lt _))
theorem lastW_none {W : List Wt} {c : Int} (h : ∀ x ∈ W, x.c ≠ c) : lastW W c = none := by
  suffices hh : ∀ o, (W.foldl (fun o x => if x.c = c then some x.v else o) o) = o from hh none
  induction W with
  | nil => intro o; rfl
  | cons y W ih =>
    intro o
    rw [List.foldl_cons, if_neg (h y (by simp))]
    exact ih (fun x hx => h x (List.mem_cons_of_mem _ hx)) o
/-- Where no bit is shared no cell is. -/
theorem apt_cell {P Q : Bp} (ho : Oq P Q) (ha : Apt P Q) {x y : Wt} (hx : x ∈ P.W) (hy : y ∈ Q.W) : y.c ≠ x.c := by
  intro e
  have h1 := bit_sgOf hx
  have h2 := bit_sgOf hy
  rw [← ho.p.sg] at h1
  rw [← ho.q.sg, e] at h2
  have h3 := ha (Sg.sigN x.c / 64) (by have := Sg.sigN_lt x.c; omega)
  unfold Sg.bit at h1 h2
  have : (P.sg.getD (Sg.sigN x.c / 64) 0 &&& Q.sg.getD (Sg.sigN x.c / 64) 0).testBit (Sg.sigN x.c % 64) = true := by
    rw [Nat.testBit_and, h1, h2]; rfl
  rw [h3] at this
  simp at this
theorem ho_slot {P Q : Bp} (ho : Oq P Q) : slotV 1 P.s ≠ slotV 2 P.s := by
  have h1 := ho.s2
  have h2 := ho.p.s16
  have hs : sizeOk (P.s : Int) = true := sizeOk_iff.mpr ⟨by omega, by omega⟩
  unfold slotV
  rw [if_pos hs, if_pos hs]
  rw [Int.emod_eq_of_lt (by omega) (by omega : (1 : Int) < P.s)]
  by_cases e : P.s = 2
  · rw [e]; decide
  · rw [Int.emod_eq_of_lt (by omega) (by omega : (2 : Int) < P.s)]; decide
theorem sgw_back {s : List Nat} (h : Sg.Ok s) (j : Nat) : (IntKind.u64.wrap (wrap64 ((s.getD j 0 : Nat) : Int))).toNat = s.getD j 0 := by
  have := h.2 j
  rw [IntKind.wrap_u64]
  unfold wrap64
  omega
theorem over1 (v : Int) : overV v 1 = decide (3 ≤ v) := by
  unfold overV laidV
  by_cases h : 3 ≤ v
  · rw [decide_eq_true h]
    by_cases h2 : v / 2 > 1
    · simp [h2]
    · have e1 : v / 2 = 1 := by omega
      have e2 : v % 2 = 1 := by omega
      simp [e1, e2]
  · rw [decide_eq_false h]
    have h2 : ¬ v / 2 > 1 := by omega
    by_cases e1 : v / 2 = 1
    · have e2 : ¬ v % 2 = 1 := by omega
      simp [e1, e2]
    · simp [e1, h2]
/-- The words behind a step of one of them. -/
def stW (P : Bp) (b : Bk) (f : Ad → Int) : Ad → Int := if ldB b then f else upd f (adB P b) (valB P b)
/-- A step of the older. -/
theorem oi_old {P Q : Bp} {b d : Bk} {f : Ad → Int} (h : OI P Q b d f) (hn : b.nx ≠ 0) : OI P Q (stepB P b (f (adB P b))) d (stW P b f) := by
  have hp := h.o.p
  have hb := h.bk
  have hst := h.o.st1
  have hsl := ho_slot h.o
  have hnx := hb.nx
  have e7 : b.nx ≠ 7 := fun e => by have := hb.n7 e; rw [h.bkn] at this; cases this
  have e35 : b.nx ≠ 3 ∧ b.nx ≠ 4 ∧ b.nx ≠ 5 := by
    refine ⟨fun e => ?_, fun e => ?_, fun e => ?_⟩ <;> (have := (hb.old (by omega)).2; rw [h.bkn] at this; cases this)
  have hk' := bk_step hb (f (adB P b))
  have hcs : b.nx = 1 ∨ b.nx = 2 ∨ b.nx = 6 ∨ b.nx = 8 := by omega
  have hld : ldB b = false := by
    unfold ldB
    rcases hcs with e | e | e | e <;> simp [e]
  have hwt : ∀ v, waitB P b v = false := fun v => by
    unfold waitB
    rcases hcs with e | e | e | e <;> simp [e]
  have hq2 : Q.st = 2 := h.o.st2
  have hq8 : d.kn = true → False := fun e => hn (h.y6 e)
  have hd0 : d.nx ≠ 0 := fun e => hq8 (h.dk.n8 (Or.inr e))
  have hnn := h.h1
  rw [if_neg hn] at hnn
  have hsw : stW P b f = upd f (adB P b) (valB P b) := by unfold stW; rw [hld]; rfl
  rw [hsw]
  rcases hcs with e | e | e | e
  · have hwd := hb.w1 e
    have had : adB P b = ⟨3, slotV 1 P.s, (b.wd : Int)⟩ := by unfold adB; rw [if_pos e, hst]
    have hvl : valB P b = wrap64 ((P.sg.getD b.wd 0 : Nat) : Int) := by unfold valB; rw [if_pos e]
    have hs : stepB P b (f (adB P b)) = ⟨if b.wd + 1 = 8 then 2 else 1, b.wd + 1, b.old, b.kn, b.wr⟩ := by unfold stepB; rw [hwt]; simp [e]
    have hn1 : (stepB P b (f (adB P b))).nx = 1 ∨ (stepB P b (f (adB P b))).nx = 2 := by rw [hs]; simp only; split <;> simp
    have hy3 : ¬ (d.nx = 4 ∨ d.nx = 5) := fun e4 => (h.y3 e4).1 e
    rw [hs] at hk' hn1 ⊢
    refine ⟨h.o, hk', h.dk, h.bkn, ?_, ?_, fun e4 => absurd e4 hy3, fun e4 => absurd (Or.inl e4) hy3, fun e4 => absurd e4 hq8, fun e4 => ?_, fun e4 => ?_, fun c => ?_⟩
    · rw [had, upd_other (by unfold hdB; simp), hnn, if_pos (Or.inl e), if_neg (fun h0 => by rcases hn1 with h1 | h1 <;> (rw [h0] at h1; simp at h1)), if_pos hn1]
    · intro j hj
      rw [had, hvl]
      by_cases ej : j = b.wd
      · subst ej; rw [upd_same]
      · rw [upd_other (fun e4 => ej (by simp at e4; omega))]
        apply h.w1 j
        rw [if_pos e]
        simp only at hj
        split at hj <;> split at hj <;> first | omega | contradiction
    · rcases h.y7 e4 with h0 | h0
      · exact absurd h0 hn
      · exact Or.inr h0
    · rw [had, upd_other (by unfold hdB; simp)]
      exact h.h2 e4
    · rw [had, upd_other (by simp)]
      exact h.cells c
  · have had : adB P b = hdB P 1 := by unfold adB hdB; simp [e, hst]
    have hvl : valB P b = 2 := by unfold valB; simp [e, hst]
    have hs : stepB P b (f (adB P b)) = goB P b := by unfold stepB; rw [hwt]; simp [e, h.bkn]
    have hn1 : (goB P b).nx = 6 ∨ (goB P b).nx = 8 := by unfold goB; simp only [h.bkn]; split <;> simp
    have hy3 : ¬ (d.nx = 4 ∨ d.nx = 5) := fun e4 => (h.y3 e4).2 e
    rw [hs] at hk' ⊢
    refine ⟨h.o, hk', h.dk, h.bkn, ?_, ?_, fun e4 => absurd e4 hy3, fun e4 => absurd (Or.inl e4) hy3, fun e4 => absurd e4 hq8, fun e4 => ?_, fun e4 => ?_, fun c => ?_⟩
    · rw [had, hvl, upd_same, if_neg (by omega), if_neg (by omega)]
    · intro j hj
      rw [if_neg (by omega)] at hj
      rw [had, upd_other (by unfold hdB; simp)]
      exact h.w1 j (by rw [if_neg (by omega)]; exact hj)
    · rcases h.y7 e4 with h0 | h0
      · exact absurd h0 hn
      · exact Or.inr h0
    · rw [had, upd_other (fun e5 => hsl (by unfold hdB at e5; simp at e5; rw [← h.o.s]; rw [h.o.s] at e5 ⊢; exact e5))]
      exact h.h2 e4
    · rw [had, upd_other (by unfold hdB; simp)]
      exact h.cells c
  · have hwr := hb.wr6 e
    have had : adB P b = ⟨4, (P.W.getD b.wr noWt).c, 0⟩ := by unfold adB; simp [e]
    have hvl : valB P b = (P.W.getD b.wr noWt).v := by unfold valB; simp [e]
    have hs : stepB P b (f (adB P b)) = goB P ⟨b.nx, b.wd, b.old, b.kn, b.wr + 1⟩ := by unfold stepB; rw [hwt]; simp [e]
    have hn1 : (goB P ⟨b.nx, b.wd, b.old, b.kn, b.wr + 1⟩).nx = 6 ∨ (goB P ⟨b.nx, b.wd, b.old, b.kn, b.wr + 1⟩).nx = 8 := by unfold goB; simp only [h.bkn]; split <;> simp
    rw [hs] at hk' ⊢
    refine ⟨h.o, hk', h.dk, h.bkn, ?_, ?_, fun e4 => by omega, h.y4, fun e4 => absurd e4 hq8, fun e4 => ?_, fun e4 => ?_, fun c => ?_⟩
    · rw [had, upd_other (by unfold hdB; simp), hnn, if_neg (by omega), if_neg (by omega), if_neg (by omega)]
    · intro j hj
      rw [if_neg (by omega)] at hj
      rw [had, upd_other (by simp)]
      exact h.w1 j (by rw [if_neg (by omega)]; exact hj)
    · rcases h.y7 e4 with h0 | h0
      · exact absurd h0 hn
      · exact Or.inr h0
    · rw [had, upd_other (by unfold hdB; simp)]
      exact h.h2 e4
    · have hgw : (goB P ⟨b.nx, b.wd, b.old, b.kn, b.wr + 1⟩).wr = b.wr + 1 := rfl
      rw [hgw, lastW_take hwr, had, hvl]
      have hm : P.W.getD b.wr noWt ∈ P.W := by rw [List.getD_eq_getElem?_getD, List.getElem?_eq_getElem hwr]; simp
      by_cases ec : (P.W.getD b.wr noWt).c = c
      · rw [if_pos ec, ec, upd_same]
        have hnone : lastW (Q.W.take d.wr) c = none := by
          by_cases hw0 : d.wr = 0
          · rw [hw0]; rfl
          · have hdn := h.dk.nx
            have h7 : d.nx = 6 ∨ d.nx = 7 ∨ d.nx = 8 ∨ d.nx = 0 := by
              have hea := h.dk.early
              by_cases hq : d.nx = 1 ∨ d.nx = 2 ∨ d.nx = 3 ∨ d.nx = 4 ∨ d.nx = 5
              · exact absurd (hea hq) hw0
              · omega
            rcases h.y7 h7 with h0 | h0
            · exact absurd h0 hn
            · refine lastW_none fun y hy => ?_
              rw [← ec]
              exact apt_cell h.o h0 hm (List.mem_of_mem_take hy)
        rw [hnone]
        rfl
      · rw [if_neg ec, upd_other (by simpa using ec)]
        exact h.cells c
  · have had : adB P b = hdB P 1 := by unfold adB hdB; simp [e, hst]
    have hvl : valB P b = 3 := by unfold valB; simp [e, hst]
    have hs : stepB P b (f (adB P b)) = ⟨0, b.wd, b.old, b.kn, b.wr⟩ := by unfold stepB; rw [hwt]; simp [e]
    rw [hs] at hk' ⊢
    refine ⟨h.o, hk', h.dk, h.bkn, ?_, ?_, fun e4 => by simp, h.y4, fun e4 => absurd e4 hq8, fun e4 => Or.inl rfl, fun e4 => ?_, fun c => ?_⟩
    · rw [had, hvl, upd_same]; rfl
    · intro j hj
      rw [had, upd_other (by unfold hdB; simp)]
      exact h.w1 j (by rw [if_neg (by omega)]; simpa using hj)
    · rw [had, upd_other (fun e5 => hsl (by unfold hdB at e5; simp at e5; rw [h.o.s] at e5; exact e5))]
      exact h.h2 e4
    · rw [had, upd_other (by unfold hdB; simp)]
      exact h.cells c
theorem goB_nx (P : Bp) (b : Bk) : (goB P b).nx = 6 ∨ (goB P b).nx = 7 ∨ (goB P b).nx = 8 := by
  unfold goB
  simp only
  split
  · simp
  · split <;> simp
/-- The younger goes on to what comes behind its looking back. -/
theorem oi_go {P Q : Bp} {b d : Bk} {f f' : Ad → Int} (h : OI P Q b d f) (d' : Bk) (hf : ∀ a, f' a = f a) (hw : d'.wr = d.wr) (hd : d'.wd ≤ 8) (hk : d'.kn = false → olderOk Q (Q.st - 1)) (h6 : d'.kn = true → b.nx = 0) (h7 : b.nx = 0 ∨ Apt P Q) (h2 : f (hdB Q 2) ≠ 5) : OI P Q b (goB Q d') f' := by
  have hn := goB_nx Q d'
  have hwr : (goB Q d').wr = d.wr := hw
  have hkn : (goB Q d').kn = d'.kn := rfl
  have hok : BkOk Q (goB Q d') := go_ok h.o.q (by rw [hw]; exact h.dk.wr) hd hk
  refine ⟨h.o, h.bk, hok, h.bkn, by rw [hf]; exact h.h1, fun j hj => by rw [hf]; exact h.w1 j hj, fun e => by omega, fun e => by omega, fun e => h6 (hkn ▸ e), fun _ => h7, fun _ => by rw [hf]; exact h2, fun c => by rw [hf, hwr]; exact h.cells c⟩
/-- The younger goes on to a word. -/
theorem oi_word {P Q : Bp} {b d : Bk} {f : Ad → Int} (h : OI P Q b d f) (d' : Bk) (hw : d'.wr = d.wr) (hw0 : d.wr = 0) (hd : d'.wd ≤ 8) (hk : d'.kn = false) (hol : d'.old = 1) (hl : b.nx ≠ 1 ∧ b.nx ≠ 2) (hz : ∀ j, j < d'.wd → P.sg.getD j 0 &&& Q.sg.getD j 0 = 0) (h2 : f (hdB Q 2) ≠ 5) : OI P Q b (toWordB Q d') f := by
  have hs2 := h.o.s2
  have hss := h.o.s
  have hst := h.o.st2
  have ho1 : olderOk Q 1 := ⟨by omega, by rw [hst]; omega, by rw [hst, hss]; omega⟩
  have hof : olderOk Q (Q.st - 1) := by rw [hst]; exact ho1
  have hok : BkOk Q (toWordB Q d') := toWord_ok h.o.q (by omega) hd hk hof (by rw [hol]; exact ho1)
  have hb := fsW_bd Q.sg d'.wd hd
  have hh := fsW_hit Q.sg d'.wd hd
  have hzz : ∀ j, j < fsW Q.sg d'.wd → P.sg.getD j 0 &&& Q.sg.getD j 0 = 0 := fun j hj => by
    by_cases e : j < d'.wd
    · exact hz j e
    · rw [hh.2 j (by omega) hj, Nat.and_zero]
  by_cases hf : fsW Q.sg d'.wd < 8
  · have ht : toWordB Q d' = ⟨4, fsW Q.sg d'.wd, d'.old, d'.kn, d'.wr⟩ := by unfold toWordB; rw [if_pos hf]
    rw [ht] at hok ⊢
    exact ⟨h.o, h.bk, hok, h.bkn, h.h1, h.w1, fun _ => hl, fun _ => hzz, (fun e => by simp only at e; rw [hk] at e; cases e), (fun e => by simp at e), fun _ => h2, fun c => by simp only; rw [hw]; exact h.cells c⟩
  · have ht : toWordB Q d' = goB Q ⟨d'.nx, 8, d'.old, d'.kn, d'.wr⟩ := by
      unfold toWordB lookAtB
      rw [if_neg hf]
      simp only
      rw [if_pos (Or.inl (by omega))]
    rw [ht]
    exact oi_go h ⟨d'.nx, 8, d'.old, d'.kn, d'.wr⟩ (fun _ => rfl) hw (by simp) (fun _ => hof) (fun e => by simp only at e; rw [hk] at e; cases e) (Or.inr fun j hj => hzz j (by omega)) h2
/-- A step of the younger. -/
theorem oi_new {P Q : Bp} {b d : Bk} {f : Ad → Int} (h : OI P Q b d f) (hn : d.nx ≠ 0) : OI P Q b (stepB Q d (f (adB Q d))) (stW Q d f) := by
  have hq := h.o.q
  have hd := h.dk
  have hst := h.o.st2
  have hss := h.o.s
  have hs2 := h.o.s2
  have hsl := ho_slot h.o
  have hnx := hd.nx
  have ho1 : olderOk Q 1 := ⟨by omega, by rw [hst]; omega, by rw [hst, hss]; omega⟩
  have hof : olderOk Q (Q.st - 1) := by rw [hst]; exact ho1
  have hk' := bk_step hd (f (adB Q d))
  have h2 := h.h2 hn
  have hone : ∀ k, olderOk Q k → k = 1 := fun k hk => by obtain ⟨a1, a2, a3⟩ := hk; rw [hst] at a2; omega
  have hhd : hdB Q 1 = hdB P 1 := by unfold hdB; rw [hss]
  have hov : overV (f (hdB Q 1)) 1 = true → b.nx = 0 := fun e => by
    rw [hhd, over1, h.h1] at e
    by_cases e0 : b.nx = 0
    · exact e0
    · rw [if_neg e0] at e
      split at e <;> simp at e
  have hlaid : laidV (f (hdB Q 1)) 1 = true → b.nx ≠ 1 ∧ b.nx ≠ 2 := fun e => by
    rw [hhd, h.h1] at e
    by_cases e0 : b.nx = 0
    · omega
    · rw [if_neg e0] at e
      by_cases e1 : b.nx = 1 ∨ b.nx = 2
      · rw [if_pos e1] at e; simp [laidV] at e
      · omega
  have hcs : d.nx = 1 ∨ d.nx = 2 ∨ d.nx = 3 ∨ d.nx = 4 ∨ d.nx = 5 ∨ d.nx = 6 ∨ d.nx = 7 ∨ d.nx = 8 := by omega
  rcases hcs with e | e | e | e | e | e | e | e
  · have hwd := hd.w1 e
    have hwt : ∀ v, waitB Q d v = false := fun v => by unfold waitB; simp [e]
    have had : adB Q d = ⟨3, slotV 2 P.s, (d.wd : Int)⟩ := by unfold adB; rw [if_pos e, hst, hss]
    have hsw : stW Q d f = upd f (adB Q d) (valB Q d) := by unfold stW ldB; simp [e]
    have hs : stepB Q d (f (adB Q d)) = ⟨if d.wd + 1 = 8 then 2 else 1, d.wd + 1, d.old, d.kn, d.wr⟩ := by unfold stepB; rw [hwt]; simp [e]
    have hn1 : (stepB Q d (f (adB Q d))).nx = 1 ∨ (stepB Q d (f (adB Q d))).nx = 2 := by rw [hs]; simp only; split <;> simp
    rw [hsw]
    rw [hs] at hk' hn1 ⊢
    refine ⟨h.o, h.bk, hk', h.bkn, ?_, fun j hj => ?_, fun e4 => by omega, fun e4 => by omega, h.y6, fun e4 => by omega, fun _ => ?_, fun c => ?_⟩
    · rw [had, upd_other (by unfold hdB; simp)]; exact h.h1
    · rw [had, upd_other (fun e5 => hsl (by simp at e5; exact e5.1.symm))]; exact h.w1 j hj
    · rw [had, upd_other (by unfold hdB; simp)]; exact h2
    · rw [had, upd_other (by simp)]; exact h.cells c
  · have hwt : ∀ v, waitB Q d v = false := fun v => by unfold waitB; simp [e]
    have had : adB Q d = hdB Q 2 := by unfold adB hdB; simp [e, hst]
    have hvl : valB Q d = 4 := by unfold valB; simp [e, hst]
    have hsw : stW Q d f = upd f (hdB Q 2) 4 := by unfold stW ldB; rw [had, hvl]; simp [e]
    have hw0 := hd.early (by omega)
    have hi : OI P Q b d (upd f (hdB Q 2) 4) := by
      refine ⟨h.o, h.bk, hd, h.bkn, ?_, fun j hj => ?_, h.y3, h.y4, h.y6, h.y7, fun _ => by rw [upd_same]; decide, fun c => ?_⟩
      · rw [upd_other (fun e5 => hsl (by unfold hdB at e5; simp at e5; rw [hss] at e5; exact e5.symm))]; exact h.h1
      · rw [upd_other (by unfold hdB; simp)]; exact h.w1 j hj
      · rw [upd_other (by unfold hdB; simp)]; exact h.cells c
    have hs : stepB Q d (f (adB Q d)) = if d.kn then goB Q d else lookAtB Q d (Q.st - 1) := by unfold stepB; rw [hwt]; simp [e]
    rw [hs] at hk' ⊢
    rw [hsw]
    by_cases hkn : d.kn = true
    · rw [if_pos hkn]
      exact oi_go hi d (fun _ => rfl) rfl hd.wd hd.kn h.y6 (Or.inl (h.y6 hkn)) (by rw [upd_same]; decide)
    · rw [if_neg hkn] at hk' ⊢
      have hl : lookAtB Q d (Q.st - 1) = ⟨3, d.wd, 1, d.kn, d.wr⟩ := by
        unfold lookAtB
        rw [if_neg (by rw [hst, hss]; omega), hst]
        rfl
      rw [hl] at hk' ⊢
      exact ⟨h.o, h.bk, hk', h.bkn, hi.h1, hi.w1, fun e4 => by simp at e4, fun e4 => by simp at e4, h.y6, fun e4 => by simp at e4, fun _ => by rw [upd_same]; decide, hi.cells⟩
  · have ho := hd.old (by omega)
    have hol := hone _ ho.1
    have hw0 := hd.early (by omega)
    have had : adB Q d = hdB Q 1 := by unfold adB hdB; simp [e, hol]
    have hsw : stW Q d f = f := by unfold stW ldB; simp [e]
    rw [hsw]
    by_cases hwt : waitB Q d (f (adB Q d)) = true
    · have hs : stepB Q d (f (adB Q d)) = d := by unfold stepB; rw [if_pos hwt]
      rw [hs]
      exact h
    · by_cases hov1 : overV (f (hdB Q 1)) 1 = true
      · have hs : stepB Q d (f (adB Q d)) = overB Q d := by
          unfold stepB
          rw [if_neg hwt, had, hol]
          simp [e, hov1]
        rw [hs]
        unfold overB
        have hb0 := hov hov1
        exact oi_go h ⟨d.nx, d.wd, d.old, d.old == Q.st - 1, d.wr⟩ (fun _ => rfl) rfl hd.wd (fun _ => hof) (fun _ => hb0) (Or.inl hb0) h2
      · have hla : laidV (f (hdB Q 1)) 1 = true := by
          unfold waitB at hwt
          rw [if_pos e, had, hol] at hwt
          have hov2 : overV (f (hdB Q 1)) 1 = false := by simpa using hov1
          rw [hov2] at hwt
          simpa using hwt
        have hs : stepB Q d (f (adB Q d)) = toWordB Q ⟨d.nx, 0, d.old, d.kn, d.wr⟩ := by
          unfold stepB
          rw [if_neg hwt, had, hol]
          simp [e, hov1]
        rw [hs]
        exact oi_word h ⟨d.nx, 0, d.old, d.kn, d.wr⟩ rfl hw0 (by simp) ho.2 hol (hlaid hla) (fun j hj => by simp at hj) h2
  · have ho := hd.old (by omega)
    have hol := hone _ ho.1
    have hw0 := hd.early (by omega)
    have h4 := hd.w4 e
    have hl3 := h.y3 (Or.inl e)
    have hwt : ∀ v, waitB Q d v = false := fun v => by unfold waitB; simp [e]
    have had : adB Q d = ⟨3, slotV 1 P.s, (d.wd : Int)⟩ := by unfold adB; simp [e, hol, hss]
    have hsw : stW Q d f = f := by unfold stW ldB; simp [e]
    have hs : stepB Q d (f (adB Q d)) = if hitS Q.sg d.wd (f (adB Q d)) then ⟨5, d.wd, d.old, d.kn, d.wr⟩ else toWordB Q ⟨d.nx, d.wd + 1, d.old, d.kn, d.wr⟩ := by unfold stepB; rw [hwt]; simp [e]
    rw [hsw]
    rw [hs] at hk' ⊢
    by_cases hh : hitS Q.sg d.wd (f (adB Q d)) = true
    · rw [if_pos hh] at hk' ⊢
      exact ⟨h.o, h.bk, hk', h.bkn, h.h1, h.w1, fun _ => hl3, fun e4 => by simp at e4, h.y6, fun e4 => by simp at e4, fun _ => h2, h.cells⟩
    · rw [if_neg hh]
      have hwv : f (adB Q d) = wrap64 ((P.sg.getD d.wd 0 : Nat) : Int) := by rw [had]; exact h.w1 d.wd (by rw [if_neg hl3.1]; exact h4.1)
      have hz : P.sg.getD d.wd 0 &&& Q.sg.getD d.wd 0 = 0 := by
        unfold hitS at hh
        rw [hwv, sgw_back (by rw [h.o.p.sg]; exact sgOf_ok _)] at hh
        simpa using hh
      refine oi_word h ⟨d.nx, d.wd + 1, d.old, d.kn, d.wr⟩ rfl hw0 (by simp only; omega) ho.2 hol hl3 (fun j hj => ?_) h2
      simp only at hj
      by_cases ej : j = d.wd
      · rw [ej]; exact hz
      · exact h.y4 e j (by omega)
  · have ho := hd.old (by omega)
    have hol := hone _ ho.1
    have had : adB Q d = hdB Q 1 := by unfold adB hdB; simp [e, hol]
    have hsw : stW Q d f = f := by unfold stW ldB; simp [e]
    rw [hsw]
    by_cases hwt : waitB Q d (f (adB Q d)) = true
    · have hs : stepB Q d (f (adB Q d)) = d := by unfold stepB; rw [if_pos hwt]
      rw [hs]
      exact h
    · have hov1 : overV (f (hdB Q 1)) 1 = true := by
        unfold waitB at hwt
        rw [if_neg (by omega), if_pos e, had, hol] at hwt
        simpa using hwt
      have hs : stepB Q d (f (adB Q d)) = overB Q d := by
        unfold stepB
        rw [if_neg hwt]
        simp [e]
      rw [hs]
      unfold overB
      have hb0 := hov hov1
      exact oi_go h ⟨d.nx, d.wd, d.old, d.old == Q.st - 1, d.wr⟩ (fun _ => rfl) rfl hd.wd (fun _ => hof) (fun _ => hb0) (Or.inl hb0) h2
  · have hwr := hd.wr6 e
    have hwt : ∀ v, waitB Q d v = false := fun v => by unfold waitB; simp [e]
    have had : adB Q d = ⟨4, (Q.W.getD d.wr noWt).c, 0⟩ := by unfold adB; simp [e]
    have hvl : valB Q d = (Q.W.getD d.wr noWt).v := by unfold valB; simp [e]
    have hsw : stW Q d f = upd f ⟨4, (Q.W.getD d.wr noWt).c, 0⟩ (Q.W.getD d.wr noWt).v := by unfold stW ldB; rw [had, hvl]; simp [e]
    have hs : stepB Q d (f (adB Q d)) = goB Q ⟨d.nx, d.wd, d.old, d.kn, d.wr + 1⟩ := by unfold stepB; rw [hwt]; simp [e]
    have hn1 := goB_nx Q ⟨d.nx, d.wd, d.old, d.kn, d.wr + 1⟩
    rw [hsw]
    rw [hs] at hk' ⊢
    refine ⟨h.o, h.bk, hk', h.bkn, ?_, fun j hj => ?_, fun e4 => by omega, fun e4 => by omega, h.y6, fun _ => h.y7 (Or.inl e), fun _ => ?_, fun c => ?_⟩
    · rw [upd_other (by unfold hdB; simp)]; exact h.h1
    · rw [upd_other (by simp)]; exact h.w1 j hj
    · rw [upd_other (by unfold hdB; simp)]; exact h2
    · have hgw : (goB Q ⟨d.nx, d.wd, d.old, d.kn, d.wr + 1⟩).wr = d.wr + 1 := rfl
      rw [hgw, lastW_take hwr]
      by_cases ec : (Q.W.getD d.wr noWt).c = c
      · rw [if_pos ec, ec, upd_same]
        rfl
      · rw [if_neg ec, upd_other (by simpa using ec)]
        exact h.cells c
  · have had : adB Q d = hdB Q 1 := by unfold adB hdB; simp [e, hst]
    have hsw : stW Q d f = f := by unfold stW ldB; simp [e]
    rw [hsw]
    by_cases hwt : waitB Q d (f (adB Q d)) = true
    · have hs : stepB Q d (f (adB Q d)) = d := by unfold stepB; rw [if_pos hwt]
      rw [hs]
      exact h
    · have hov1 : overV (f (hdB Q 1)) 1 = true := by
        unfold waitB at hwt
        rw [if_neg (by omega), if_neg (by omega), if_pos e, had, hst] at hwt
        simpa using hwt
      have hs : stepB Q d (f (adB Q d)) = goB Q ⟨d.nx, d.wd, d.old, true, d.wr⟩ := by
        unfold stepB
        rw [if_neg hwt]
        simp [e]
      rw [hs]
      have hb0 := hov hov1
      exact oi_go h ⟨d.nx, d.wd, d.old, true, d.wr⟩ (fun _ => rfl) rfl hd.wd (fun _ => hof) (fun _ => hb0) (Or.inl hb0) h2
  · have hwt : ∀ v, waitB Q d v = false := fun v => by unfold waitB; simp [e]
    have had : adB Q d = hdB Q 2 := by unfold adB hdB; simp [e, hst]
    have hsw : stW Q d f = upd f (hdB Q 2) (valB Q d) := by unfold stW ldB; rw [had]; simp [e]
    have hs : stepB Q d (f (adB Q d)) = ⟨0, d.wd, d.old, d.kn, d.wr⟩ := by unfold stepB; rw [hwt]; simp [e]
    rw [hsw]
    rw [hs] at hk' ⊢
    refine ⟨h.o, h.bk, hk', h.bkn, ?_, fun j hj => ?_, fun e4 => by simp at e4, fun e4 => by simp at e4, h.y6, fun _ => h.y7 (by simp [e]), fun e4 => by simp at e4, fun c => ?_⟩
    · rw [upd_other (fun e5 => hsl (by unfold hdB at e5; simp at e5; rw [hss] at e5; exact e5.symm))]; exact h.h1
    · rw [upd_other (by unfold hdB; simp)]; exact h.w1 j hj
    · rw [upd_other (by unfold hdB; simp)]; exact h.cells c
end Go.Proofs.Ytbmmicfdnfpcaaa
