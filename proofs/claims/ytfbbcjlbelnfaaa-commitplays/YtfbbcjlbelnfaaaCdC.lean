/- The document's machine of layer 10: Step. -/
import Derived.Test.YtfbbcjlbelnfaaaCdB
namespace Go.Proofs.Ytfbbcjlbelnfaaa
open Go.ChangeShapes Go.WideShapes Go.ChangeAt Go.RowKit
attribute [local go_sem ↓] Go.wp_at_zero Go.wp_at_succ

def nextCI (r : Nat) (P : Cp) (u : Cu) (L : List Ac) (l : List Int) : List Int := if goesC r P u then (if u.st = 0 then nextKI r P (runK P l) L l else if u.st = 1 then l else (if swapsY u L then l else [])) else l
theorem rdstep_none {w : World} {base Y : Nat} {P : Cp} {q : Value} {c r : Nat} {L : List Ac} {l : List Int} {K G : List Nat} {u : Cu} (h : KD w base q c r L K Y P l G) (hr : Rel u P.ex) (hn : goesC r P u = false) (t : Int) :
    Calls Try.prog 16 #[.pointer (some ⟨Y, 0, none⟩), q, .int .i64 t] w fun e w' => e = .returned (.tuple #[.int .i64 0, .int .i64 0, .int .i64 0]) ∧ Below w.heap.size w w' := by
  obtain ⟨R, rfl⟩ := h.ref.ptr
  obtain ⟨r0, r1, hR⟩ := h.ref.sizes
  obtain ⟨⟨y0, y1, y2, y3, y4, y5, y6, y7⟩, _⟩ := h.rk.head
  have hY : Y < w.heap.size := (h.rk.lt Y h.rk.mem).2
  rw [hr.o] at y6
  by_cases e3 : u.st = 3
  · rw [decide_eq_true e3] at y6
    clear h hr hn
    go_enter Try.func16, Try.ntmps16
    go_wp2
    first | (go_ret3; exact ⟨rfl, Below.refl _ _⟩) | (go_quiet (fail); go_wp2; go_ret3; exact ⟨rfl, below_drawn (Below.refl _ _) _⟩)
  · rw [decide_eq_false e3] at y6
    have er : ¬ (r = P.s) := fun e => by
      unfold goesC at hn
      simp [e3, e] at hn
    have eb : ((r : Int) != (P.s : Int)) = true := by simp; omega
    have eb2 : ((r : Int) == (P.s : Int)) = false := by simp; omega
    clear h hr hn
    go_enter Try.func16, Try.ntmps16
    go_wp2
    first | (go_ret3; exact ⟨rfl, Below.refl _ _⟩) | (go_quiet (fail); go_wp2; go_ret3; exact ⟨rfl, below_drawn (Below.refl _ _) _⟩)
theorem RD.of_below {w w' w'' : World} {base : Nat} {q : Value} {c r : Nat} {L : List Ac} {Y : Nat} {P : Cp} {l : List Int} {u : Cu} {G K : List Nat} (hb : Below w.heap.size w w') (h : RD w' w'' base q c r L Y P l u G K) : RD w w'' base q c r L Y P l u G K := by
  obtain ⟨G', K', e', h1, h2, h3⟩ := h
  exact ⟨G', K', e', h1, (Next.of_below hb _).trans h2, h3⟩
set_option maxRecDepth 10000 in
theorem rdstep_round {w : World} {base Y : Nat} {P : Cp} {q : Value} {c : Nat} {L : List Ac} {l : List Int} {K G : List Nat} {u : Cu} (h : KD w base q c P.s L K Y P l G) (hb : base ≤ w.heap.size) (hL : L.length < 3298534883328) (hk : LKk P l) (hp : POk P) (hgd : Gd L) (hgo : goesK P.s P (runK P l) = true) (hu : u.st = 0) (hr : Rel u P.ex) (t : Int) :
    Calls Try.prog 16 #[.pointer (some ⟨Y, 0, none⟩), q, .int .i64 t] w fun e w' => e = .returned (.tuple #[.int .i64 (holdA P.s P (runK P l) L), .int .i64 (holdE P.s P (runK P l) L), .int .i64 0]) ∧ RD w w' base q c P.s (nextKL c P.s P (runK P l) L t) Y P (nextKI P.s P (runK P l) L l) (holdU P.s P (runK P l) u L) G K := by
  have HS : Hid (∀ w', Below w.heap.size w w' → Calls Try.prog 35 #[.pointer (some ⟨Y, 0, none⟩), q, .int .i64 t] w' fun e w'' => e = .returned (.tuple #[.int .i64 (holdA P.s P (runK P l) L), .int .i64 (holdE P.s P (runK P l) L), .int .i64 0]) ∧ RD w w'' base q c P.s (nextKL c P.s P (runK P l) L t) Y P (nextKI P.s P (runK P l) L l) (holdU P.s P (runK P l) u L) G K) := fun w' hb' => by
    refine (rdround_any (h.below hb') (Nat.le_trans hb hb'.size) hL hk hp hgd hgo hu hr t).mono ?_
    rintro e w'' ⟨rfl, h1⟩
    exact ⟨rfl, h1.of_below hb'⟩
  obtain ⟨R, rfl⟩ := h.ref.ptr
  obtain ⟨r0, r1, hR⟩ := h.ref.sizes
  obtain ⟨⟨y0, y1, y2, y3, y4, y5, y6, y7⟩, _⟩ := h.rk.head
  have hY : Y < w.heap.size := (h.rk.lt Y h.rk.mem).2
  rw [hr.o, decide_eq_false (show ¬ u.st = 3 by omega)] at y6
  rw [hr.r hu] at y3
  clear h hr hk hp hgd hgo hu
  generalize holdA P.s P (runK P l) L = aa at *
  generalize holdE P.s P (runK P l) L = ee at *
  generalize holdU P.s P (runK P l) u L = u' at *
  generalize nextKL c P.s P (runK P l) L t = L' at *
  generalize nextKI P.s P (runK P l) L l = l' at *
  go_enter Try.func16, Try.ntmps16
  go_wp2
  go_quiet (fail)
  have HBq : Hid (Below w.heap.size w (w.drewN nq)) := below_drawn (Below.refl _ _) nq
  have y3' : (w.drewN nq).cell? ⟨Y, 15, none⟩ = some (.bool false) := y3
  have hY' : Y < (w.drewN nq).heap.size := hY
  clear y0 y1 y2 y3 y4 y5 y6 y7 r0 r1 hY hR
  generalize w.drewN nq = wq at *
  go_wp2_with fail
  refine (HS.out _ HBq.out).mono ?_
  rintro e w1 ⟨rfl, h1⟩
  have HE : Hid (RD w w1 base (.pointer (some ⟨R, 0, none⟩)) c P.s L' Y P l' u' G K) := h1
  clear h1 y3'
  go_wp2
  go_ret3
  exact ⟨rfl, HE.out⟩
set_option maxRecDepth 10000 in
theorem rdstep_look {w : World} {base Y : Nat} {P : Cp} {q : Value} {c : Nat} {L : List Ac} {l : List Int} {K G : List Nat} {u : Cu} (h : KD w base q c P.s L K Y P l G) (hb : base ≤ w.heap.size) (hL : L.length < 3298534883328) (hp : POk P) (hgd : Gd L) (hu : u.st = 1) (h0 : 0 ≤ u.seen) (h1 : u.seen < 1099511627776) (hr : Rel u P.ex) (t : Int) :
    Calls Try.prog 16 #[.pointer (some ⟨Y, 0, none⟩), q, .int .i64 t] w fun e w' => e = .returned (.tuple #[.int .i64 (if looksY P u L then 2 else 1), .int .i64 0, .int .i64 0]) ∧ RD w w' base q c P.s (loadL c P.s L t (lookA P u)) Y P l (lookU P u L) G K := by
  have HS : Hid (∀ w', Below w.heap.size w w' → Calls Try.prog 36 #[.pointer (some ⟨Y, 0, none⟩), q, .int .i64 t] w' fun e w'' => e = .returned (.bool (looksY P u L)) ∧ ∃ K', KD w'' base q c P.s (loadL c P.s L t (lookA P u)) K' Y P l G ∧ Next (G ++ K) (G ++ K') w w'') := fun w' hb' => by
    refine (rdlook_any (h.below hb') hp (Nat.le_trans hb hb'.size) hL hgd hr.se h0 h1 t).mono ?_
    rintro e w'' ⟨rfl, K', h1, h2⟩
    exact ⟨rfl, K', h1, (Next.of_below hb' _).trans h2⟩
  obtain ⟨R, rfl⟩ := h.ref.ptr
  obtain ⟨r0, r1, hR⟩ := h.ref.sizes
  obtain ⟨⟨y0, y1, y2, y3, y4, y5, y6, y7⟩, _⟩ := h.rk.head
  have hY : Y < w.heap.size := (h.rk.lt Y h.rk.mem).2
  rw [hr.o, decide_eq_false (show ¬ u.st = 3 by omega)] at y6
  rw [hr.r1 (Or.inl hu)] at y3
  rw [hr.l hu] at y4
  have HR : Hid (Rel u P.ex ∧ u.st = 1) := ⟨hr, hu⟩
  clear h hr hp hgd hu h0 h1
  unfold lookU
  generalize looksY P u L = yy at *
  generalize loadL c P.s L t (lookA P u) = L' at *
  cases yy
  · rw [if_neg (by simp), if_neg (by simp)]
    go_enter Try.func16, Try.ntmps16
    go_wp2
    go_quiet (fail)
    have HBq : Hid (Below w.heap.size w (w.drewN nq)) := below_drawn (Below.refl _ _) nq
    have y3' : (w.drewN nq).cell? ⟨Y, 15, none⟩ = some (.bool true) := y3
    have y4' : (w.drewN nq).cell? ⟨Y, 16, none⟩ = some (.bool false) := y4
    have hY' : Y < (w.drewN nq).heap.size := hY
    clear y0 y1 y2 y3 y4 y5 y6 y7 r0 r1 hY hR
    generalize w.drewN nq = wq at *
    go_wp2_with fail
    refine (HS.out _ HBq.out).mono ?_
    rintro e w1 ⟨rfl, K1, k1, n1⟩
    obtain ⟨_, f14, f15, f16, f17, f18, f19⟩ := k1.rk.head
    have hY1 : Y < w1.heap.size := (k1.rk.lt Y k1.rk.mem).2
    have HE : Hid (KD w1 base (.pointer (some ⟨R, 0, none⟩)) c P.s L' K1 Y P l G ∧ Next (G ++ K) (G ++ K1) w w1) := ⟨k1, n1⟩
    clear k1 n1 y3' y4'
    go_wp2
    go_ret3
    have q1 := (kd_cell HE.out.1).2.1 false
    exact ⟨rfl, G, K1, _, q1.1, HE.out.2.trans q1.2, ⟨HR.out.1.o, HR.out.1.r, HR.out.1.r1, fun _ => rfl, fun h => by have := HR.out.2; omega, HR.out.1.st, HR.out.1.se⟩, rfl, rfl⟩
  · rw [if_pos rfl, if_pos rfl]
    go_enter Try.func16, Try.ntmps16
    go_wp2
    go_quiet (fail)
    have HBq : Hid (Below w.heap.size w (w.drewN nq)) := below_drawn (Below.refl _ _) nq
    have y3' : (w.drewN nq).cell? ⟨Y, 15, none⟩ = some (.bool true) := y3
    have y4' : (w.drewN nq).cell? ⟨Y, 16, none⟩ = some (.bool false) := y4
    have hY' : Y < (w.drewN nq).heap.size := hY
    clear y0 y1 y2 y3 y4 y5 y6 y7 r0 r1 hY hR
    generalize w.drewN nq = wq at *
    go_wp2_with fail
    refine (HS.out _ HBq.out).mono ?_
    rintro e w1 ⟨rfl, K1, k1, n1⟩
    obtain ⟨_, f14, f15, f16, f17, f18, f19⟩ := k1.rk.head
    have hY1 : Y < w1.heap.size := (k1.rk.lt Y k1.rk.mem).2
    have HE : Hid (KD w1 base (.pointer (some ⟨R, 0, none⟩)) c P.s L' K1 Y P l G ∧ Next (G ++ K) (G ++ K1) w w1) := ⟨k1, n1⟩
    clear k1 n1 y3' y4'
    go_wp2
    go_ret3
    have q1 := (kd_cell HE.out.1).2.1 true
    exact ⟨rfl, G, K1, _, q1.1, HE.out.2.trans q1.2, ⟨by show P.ex.over = decide ((2 : Int) = 3); rw [HR.out.1.o, HR.out.2]; rfl, fun h => by simp at h, fun _ => HR.out.1.r1 (Or.inl HR.out.2), fun h => by simp at h, fun _ => rfl, HR.out.1.st, HR.out.1.se⟩, rfl, rfl⟩
set_option maxRecDepth 10000 in
theorem rdstep_swap {w : World} {base Y : Nat} {P : Cp} {q : Value} {c : Nat} {L : List Ac} {l : List Int} {K G : List Nat} {u : Cu} (h : KD w base q c P.s L K Y P l G) (hb : base ≤ w.heap.size) (hL : L.length < 3298534883328) (hu : u.st = 2) (h0 : 0 ≤ u.seen) (h1 : u.seen < 1099511627776) (hr : Rel u P.ex) (t : Int) :
    Calls Try.prog 16 #[.pointer (some ⟨Y, 0, none⟩), q, .int .i64 t] w fun e w' => e = .returned (.tuple #[.int .i64 (if swapsY u L then 3 else 2), .int .i64 0, .int .i64 (if swapsY u L then u.seen + 1 else 0)]) ∧ RD w w' base q c P.s (swapL c P.s L t nwA u.seen (u.seen + 1)) Y P (if swapsY u L then l else []) (swapU u L) G K := by
  have HS : Hid (∀ w', Below w.heap.size w w' → Calls Try.prog 37 #[q, .int .i64 t, .agg #[.int .i64 1, .int .i64 0, .int .i64 0], .int .i64 u.seen, .int .i64 (u.seen + 1)] w' fun e w'' => e = .returned (.tuple #[.bool (swapsY u L), .int .i64 0]) ∧ ∃ K', KD w'' base q c P.s (swapL c P.s L t nwA u.seen (u.seen + 1)) K' Y P l G ∧ Next (G ++ K) (G ++ K') w w'') := fun w' hb' => by
    have := rswap_any (h.below hb').ref (Nat.le_trans hb hb'.size) hL t nwA u.seen (u.seen + 1)
    rw [show isAd c P.s nwA = true from rfl, Bool.true_and, if_pos rfl] at this
    refine Calls.mono this ?_
    rintro e w'' ⟨rfl, K', h1, h2⟩
    exact ⟨rfl, K', (h.below hb').onRef h1 h2, (Next.of_below hb' _).trans h2.right⟩
  have hw : wrap64 (u.seen + 1) = u.seen + 1 := by unfold wrap64; omega
  obtain ⟨R, rfl⟩ := h.ref.ptr
  obtain ⟨r0, r1, hR⟩ := h.ref.sizes
  obtain ⟨⟨y0, y1, y2, y3, y4, y5, y6, y7⟩, _⟩ := h.rk.head
  have hY : Y < w.heap.size := (h.rk.lt Y h.rk.mem).2
  rw [hr.o, decide_eq_false (show ¬ u.st = 3 by omega)] at y6
  rw [hr.r1 (Or.inr hu)] at y3
  rw [hr.l2 hu] at y4
  rw [hr.se] at y7
  have HR : Hid (Rel u P.ex ∧ u.st = 2) := ⟨hr, hu⟩
  clear h hr hu h0 h1
  unfold swapU
  generalize swapsY u L = yy at *
  generalize swapL c P.s L t nwA u.seen (u.seen + 1) = L' at *
  cases yy
  · rw [if_neg (by simp), if_neg (by simp), if_neg (by simp), if_neg (by simp)]
    go_enter Try.func16, Try.ntmps16
    go_wp2
    go_quiet (fail)
    have HBq : Hid (Below w.heap.size w (w.drewN nq)) := below_drawn (Below.refl _ _) nq
    have y3' : (w.drewN nq).cell? ⟨Y, 15, none⟩ = some (.bool true) := y3
    have y4' : (w.drewN nq).cell? ⟨Y, 16, none⟩ = some (.bool true) := y4
    have y7' : (w.drewN nq).cell? ⟨Y, 19, none⟩ = some (.int .i64 u.seen) := y7
    have hY' : Y < (w.drewN nq).heap.size := hY
    clear y0 y1 y2 y3 y4 y5 y6 y7 r0 r1 hY hR
    generalize w.drewN nq = wq at *
    go_wp2_with fail
    refine (HS.out _ HBq.out).mono ?_
    rintro e w1 ⟨rfl, K1, k1, n1⟩
    obtain ⟨_, f14, f15, f16, f17, f18, f19⟩ := k1.rk.head
    obtain ⟨la, lcap, hkl⟩ := k1.rk.kl
    have y14 := hkl.cells.2.2.2
    clear hkl
    have hY1 : Y < w1.heap.size := (k1.rk.lt Y k1.rk.mem).2
    have HE : Hid (KD w1 base (.pointer (some ⟨R, 0, none⟩)) c P.s L' K1 Y P l G ∧ Next (G ++ K) (G ++ K1) w w1) := ⟨k1, n1⟩
    clear k1 n1 y3' y4' y7'
    go_wp2
    go_ret3
    have q1 := (kd_cell HE.out.1).1 false
    have q2 := kd_nil q1.1
    exact ⟨rfl, [Y], K1, _, q2.1, (HE.out.2.trans q1.2).trans q2.2, ⟨by show P.ex.over = decide ((0 : Int) = 3); rw [HR.out.1.o, HR.out.2]; rfl, fun _ => rfl, fun h => by simp at h, fun h => by simp at h, fun h => by simp at h, HR.out.1.st, HR.out.1.se⟩, rfl, rfl⟩
  · rw [if_pos rfl, if_pos rfl, if_pos rfl, if_pos rfl]
    go_enter Try.func16, Try.ntmps16
    go_wp2
    go_quiet (fail)
    have HBq : Hid (Below w.heap.size w (w.drewN nq)) := below_drawn (Below.refl _ _) nq
    have y3' : (w.drewN nq).cell? ⟨Y, 15, none⟩ = some (.bool true) := y3
    have y4' : (w.drewN nq).cell? ⟨Y, 16, none⟩ = some (.bool true) := y4
    have y7' : (w.drewN nq).cell? ⟨Y, 19, none⟩ = some (.int .i64 u.seen) := y7
    have hY' : Y < (w.drewN nq).heap.size := hY
    clear y0 y1 y2 y3 y4 y5 y6 y7 r0 r1 hY hR
    generalize w.drewN nq = wq at *
    go_wp2_with fail
    refine (HS.out _ HBq.out).mono ?_
    rintro e w1 ⟨rfl, K1, k1, n1⟩
    obtain ⟨_, f14, f15, f16, f17, f18, f19⟩ := k1.rk.head
    have hY1 : Y < w1.heap.size := (k1.rk.lt Y k1.rk.mem).2
    have HE : Hid (KD w1 base (.pointer (some ⟨R, 0, none⟩)) c P.s L' K1 Y P l G ∧ Next (G ++ K) (G ++ K1) w w1) := ⟨k1, n1⟩
    clear k1 n1 y3' y4' y7'
    go_wp2
    simp only [hw]
    go_ret3
    have q1 := (kd_cell HE.out.1).2.2.1 (u.seen + 1)
    have q2 := (kd_cell q1.1).2.2.2.1 true
    exact ⟨rfl, G, K1, _, q2.1, (HE.out.2.trans q1.2).trans q2.2, ⟨by simp, fun h => by simp at h, fun h => by simp at h, fun h => by simp at h, fun h => by simp at h, rfl, HR.out.1.se⟩, rfl, rfl⟩
theorem rdstep {w : World} {base Y : Nat} {P : Cp} {q : Value} {c r : Nat} {L : List Ac} {l : List Int} {K G : List Nat} {u : Cu} (h : KD w base q c r L K Y P l G) (hb : base ≤ w.heap.size) (hL : L.length < 3298534883328) (hk : LKk P l) (hc : COk P (runK P l) u) (hgd : Gd L) (hr : Rel u P.ex) (t : Int) :
    Calls Try.prog 16 #[.pointer (some ⟨Y, 0, none⟩), q, .int .i64 t] w fun e w' => e = .returned (.tuple #[.int .i64 (ansZ r P (runK P l) u L), .int .i64 (errZ r P (runK P l) u L), .int .i64 (valZ r P u L)]) ∧ RD w w' base q c r (nextCL c r P (runK P l) u L t) Y P (nextCI r P u L l) (nextU r P (runK P l) u L) G K := by
  unfold ansZ errZ valZ nextCL nextCI nextU
  by_cases hg : goesC r P u = true
  · simp only [if_pos hg]
    obtain ⟨e3, er⟩ := goesC_iff.mp hg
    subst er
    have hn2 := hc.n2
    by_cases e0 : u.st = 0
    · simp only [if_pos e0]
      have ht : ¬ thr (runK P l) := by
        rcases hc.c with c | c | c
        · exact c.2
        · omega
        · omega
      exact rdstep_round h hb hL hk hc.p hgd (goesK_iff.mpr ⟨ht, rfl⟩) e0 hr t
    · simp only [if_neg e0]
      have hcc : (u.st = 1 ∨ u.st = 2) ∧ 0 ≤ u.seen ∧ u.seen < P.ex.n := by
        rcases hc.c with c | c | c
        · omega
        · exact c
        · omega
      by_cases e1 : u.st = 1
      · simp only [if_pos e1]
        exact rdstep_look h hb hL hc.p hgd e1 hcc.2.1 (by omega) hr t
      · simp only [if_neg e1]
        exact rdstep_swap h hb hL (by omega) hcc.2.1 (by omega) hr t
  · simp only [if_neg hg]
    refine (rdstep_none h hr (by simpa using hg) t).mono ?_
    rintro e w' ⟨rfl, hb'⟩
    exact ⟨rfl, G, K, P.ex, h.below hb', Next.of_below hb' _, hr, rfl, rfl⟩
end Go.Proofs.Ytfbbcjlbelnfaaa
