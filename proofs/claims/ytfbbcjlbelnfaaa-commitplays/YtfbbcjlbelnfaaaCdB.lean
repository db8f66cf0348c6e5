/- The document's machine of layer 10: round, Step. (Printed by tools/cdb.py.) -/
import Derived.Test.YtfbbcjlbelnfaaaCdA
import Derived.Test.YtfbbcjlbelnfaaaCmD
namespace Go.Proofs.Ytfbbcjlbelnfaaa
open Go.ChangeShapes Go.WideShapes Go.ChangeAt Go.RowKit
attribute [local go_sem ↓] Go.wp_at_zero Go.wp_at_succ

theorem pok_on {P : Cp} (e : Ex) (h : POk P) : POk (P.on e) := ⟨h.s1, h.s16, h.z0, h.z1, h.rd⟩
theorem kmid_on {P : Cp} (e : Ex) {b : Ck} (h : KMid P b) : KMid (P.on e) b := ⟨h.lo, h.hi, h.far, h.w, h.c1, h.c2, h.rd, h.e⟩
theorem kok_on {P : Cp} (e : Ex) {b : Ck} {n : Nat} (h : KOk P b n) : KOk (P.on e) b n := by
  refine ⟨pok_on e h.p, ?_⟩
  rcases h.c with c | ⟨c, k, m⟩ | ⟨c, k, m1, m2, m3⟩ | ⟨c, k, m⟩ | c | c
  · exact Or.inl c
  · exact Or.inr (Or.inl ⟨c, kmid_on e k, m⟩)
  · exact Or.inr (Or.inr (Or.inl ⟨c, kmid_on e k, m1, m2, m3⟩))
  · exact Or.inr (Or.inr (Or.inr (Or.inl ⟨c, kmid_on e k, m⟩)))
  · exact Or.inr (Or.inr (Or.inr (Or.inr (Or.inl c))))
  · exact Or.inr (Or.inr (Or.inr (Or.inr (Or.inr c))))
theorem lkk_on {P : Cp} (e : Ex) {l : List Int} (h : LKk P l) : LKk (P.on e) l := ⟨h.w, fun k hk => kok_on e (h.ok k hk), h.go⟩
theorem on_on (P : Cp) (e e' : Ex) : (P.on e).on e' = P.on e' := rfl
theorem on_self (P : Cp) : P.on P.ex = P := rfl
/-- A cell of what it keeps is set. -/
theorem kd_cell {w : World} {base Y : Nat} {P : Cp} {q : Value} {c r : Nat} {L : List Ac} {l : List Int} {K G : List Nat} (h : KD w base q c r L K Y P l G) :
    (∀ v, KD (w.setCell ⟨Y, 15, none⟩ (.bool v)) base q c r L K Y (P.on ⟨P.ex.n, P.ex.mu, v, P.ex.looked, P.ex.stamp, P.ex.over, P.ex.seen⟩) l G ∧ Next (G ++ K) (G ++ K) w (w.setCell ⟨Y, 15, none⟩ (.bool v))) ∧
    (∀ v, KD (w.setCell ⟨Y, 16, none⟩ (.bool v)) base q c r L K Y (P.on ⟨P.ex.n, P.ex.mu, P.ex.ready, v, P.ex.stamp, P.ex.over, P.ex.seen⟩) l G ∧ Next (G ++ K) (G ++ K) w (w.setCell ⟨Y, 16, none⟩ (.bool v))) ∧
    (∀ v, KD (w.setCell ⟨Y, 17, none⟩ (.int .i64 v)) base q c r L K Y (P.on ⟨P.ex.n, P.ex.mu, P.ex.ready, P.ex.looked, v, P.ex.over, P.ex.seen⟩) l G ∧ Next (G ++ K) (G ++ K) w (w.setCell ⟨Y, 17, none⟩ (.int .i64 v))) ∧
    (∀ v, KD (w.setCell ⟨Y, 18, none⟩ (.bool v)) base q c r L K Y (P.on ⟨P.ex.n, P.ex.mu, P.ex.ready, P.ex.looked, P.ex.stamp, v, P.ex.seen⟩) l G ∧ Next (G ++ K) (G ++ K) w (w.setCell ⟨Y, 18, none⟩ (.bool v))) ∧
    (∀ v, KD (w.setCell ⟨Y, 19, none⟩ (.int .i64 v)) base q c r L K Y (P.on ⟨P.ex.n, P.ex.mu, P.ex.ready, P.ex.looked, P.ex.stamp, P.ex.over, v⟩) l G ∧ Next (G ++ K) (G ++ K) w (w.setCell ⟨Y, 19, none⟩ (.int .i64 v))) :=
  ⟨fun v => kd_put h (kkeep (Keep.refl _ _) _ _) (fun x hx => by rw [heap_set hx]; rfl), fun v => kd_put h (kkeep (Keep.refl _ _) _ _) (fun x hx => by rw [heap_set hx]; rfl), fun v => kd_put h (kkeep (Keep.refl _ _) _ _) (fun x hx => by rw [heap_set hx]; rfl), fun v => kd_put h (kkeep (Keep.refl _ _) _ _) (fun x hx => by rw [heap_set hx]; rfl), fun v => kd_put h (kkeep (Keep.refl _ _) _ _) (fun x hx => by rw [heap_set hx]; rfl)⟩
/-- What was loaded is forgotten. -/
theorem kd_nil {w : World} {base Y : Nat} {P : Cp} {q : Value} {c r : Nat} {L : List Ac} {l : List Int} {K G : List Nat} (h : KD w base q c r L K Y P l G) :
    KD (w.setCell ⟨Y, 14, none⟩ (.slice none 0 0)) base q c r L K Y P [] [Y] ∧ Next (G ++ K) ([Y] ++ K) w (w.setCell ⟨Y, 14, none⟩ (.slice none 0 0)) := by
  have hY := h.rk.mem
  have k : Keep [Y] w (w.setCell ⟨Y, 14, none⟩ (.slice none 0 0)) := kkeep (Keep.refl _ _) _ _
  refine ⟨⟨h.ref.keep k (fun b hb e => by simp at e; subst e; exact h.apart _ hY hb), ?_, fun b hb hk => by simp at hb; subst hb; exact h.apart _ hY hk⟩, k.mono (fun b hb => by simp at hb; subst hb; exact List.mem_append_left _ hY), fun b hb => ?_⟩
  · obtain ⟨v, h1⟩ := h.rk
    exact ⟨.slice none 0 0, by rw [heap_set h1.m]; rfl, World.ownsRow_nil _ _ _ _, rfl, h1.bY⟩
  · rcases List.mem_append.1 hb with h1 | h1
    · simp at h1; subst h1; exact Or.inl (List.mem_append_left _ hY)
    · exact Or.inl (List.mem_append_right _ h1)
/-- The document's machine, whatever it keeps. -/
def RD (w0 w : World) (base : Nat) (q : Value) (c r : Nat) (L : List Ac) (Y : Nat) (P : Cp) (l : List Int) (u : Cu) (G K : List Nat) : Prop :=
  ∃ G' K' e', KD w base q c r L K' Y (P.on e') l G' ∧ Next (G ++ K) (G' ++ K') w0 w ∧ Rel u e' ∧ e'.n = P.ex.n ∧ e'.mu = P.ex.mu
set_option maxRecDepth 10000 in
set_option maxHeartbeats 1600000 in
theorem rdround_any {w : World} {base Y : Nat} {P : Cp} {q : Value} {c r : Nat} {L : List Ac} {l : List Int} {K G : List Nat} {u : Cu} (h : KD w base q c r L K Y P l G) (hb : base ≤ w.heap.size) (hL : L.length < 3298534883328) (hk : LKk P l) (hp : POk P) (hgd : Gd L) (hgo : goesK r P (runK P l) = true) (hu : u.st = 0) (hr : Rel u P.ex) (t : Int) :
    Calls Try.prog 35 #[.pointer (some ⟨Y, 0, none⟩), q, .int .i64 t] w fun e w' => e = .returned (.tuple #[.int .i64 (holdA r P (runK P l) L), .int .i64 (holdE r P (runK P l) L), .int .i64 0]) ∧ RD w w' base q c r (nextKL c r P (runK P l) L t) Y P (nextKI r P (runK P l) L l) (holdU r P (runK P l) u L) G K := by
  have HS : Hid (Calls Try.prog 55 #[.pointer (some ⟨Y, 3, none⟩), q, .int .i64 t] w fun e w'' => e = .returned (.tuple #[.int .i64 (ansKK r P (runK P l) L), .int .i64 (errKK r P (runK P l) L)]) ∧ ∃ K' G', KD w'' base q c r (nextKL c r P (runK P l) L t) K' Y P (nextKI r P (runK P l) L l) G' ∧ Next (G ++ K) (G' ++ K') w w'') := kdstep h hb hL hk hp hgd t
  obtain ⟨k1, k2⟩ := lkk_next (r := r) hk hgd
  have HA : Hid (ansKK r P (runK P l) L = 3 → (nextK r P (runK P l) L).st = 4) := (ansKK_go (L := L) hgo).2.1
  have HT : Hid (ansKK r P (runK P l) L = 3 → ∀ w' G', RK w' base Y P (nextKI r P (runK P l) L l) G' → Calls Try.prog 56 #[.pointer (some ⟨Y, 3, none⟩)] w' fun e w'' => e = .returned (.tuple #[.int .i64 (nextK r P (runK P l) L).comp, .int .i64 (nextK r P (runK P l) L).seen, .bool true]) ∧ Below w'.heap.size w' w'') := fun h3 w' G' h' => by
    have := rkstart_any h' k1 hp
    rw [k2, HA.out h3] at this
    exact this
  have HR : Hid (Rel u P.ex ∧ u.st = 0) := ⟨hr, hu⟩
  have hY : Y < w.heap.size := (h.rk.lt Y h.rk.mem).2
  obtain ⟨R, rfl⟩ := h.ref.ptr
  unfold holdA holdE holdU
  clear h hk hp hgd hgo k1 k2 HA hr hu
  generalize ansKK r P (runK P l) L = kk at *
  generalize errKK r P (runK P l) L = ee at *
  generalize nextKL c r P (runK P l) L t = L' at *
  generalize nextKI r P (runK P l) L l = l' at *
  generalize nextK r P (runK P l) L = b' at *
  generalize b'.seen = sn at *
  generalize b'.comp = cc at *
  by_cases k3 : kk = 3
  · subst k3
    have HT2 := HT.out rfl
    rw [if_pos rfl, if_pos rfl, if_neg (by omega), if_pos rfl]
    unfold heldK heldE heldU spent
    by_cases c0 : sn < 0
    · have d0 : decide (sn < 0) = true := decide_eq_true c0
      rw [d0]
      simp only [Bool.true_or, if_true]
      go_enter Try.func35, Try.ntmps35
      go_wp2_with fail
      refine HS.out.mono ?_
      rintro e w1 ⟨rfl, K1, G1, h1, n1⟩
      have HE : Hid (KD w1 base (.pointer (some ⟨R, 0, none⟩)) c r L' K1 Y P l' G1 ∧ Next (G ++ K) (G1 ++ K1) w w1) := ⟨h1, n1⟩
      have hY1 : Y < w1.heap.size := (h1.rk.lt Y h1.rk.mem).2
      clear h1 n1
      go_wp2_with fail
      refine (HT2 _ _ HE.out.1.rk).mono ?_
      rintro e w2 ⟨rfl, hb2⟩
      have HE2 : Hid (KD w2 base (.pointer (some ⟨R, 0, none⟩)) c r L' K1 Y P l' G1 ∧ Next (G ++ K) (G1 ++ K1) w w2) := ⟨HE.out.1.below hb2, HE.out.2.trans (Next.of_below hb2 _)⟩
      clear hb2 hY1 HE
      obtain ⟨⟨y0, y1, y2, y3, y4, y5, y6, y7⟩, f14, f15, f16, f17, f18, f19⟩ := HE2.out.1.rk.head
      have hY2 : Y < w2.heap.size := (HE2.out.1.rk.lt Y HE2.out.1.rk.mem).2
      go_wp2
      first
        | go_ret3
          have q1 := (kd_cell HE2.out.1).2.2.2.2 sn
          have q2 := (kd_cell q1.1).2.2.2.1 true
          exact ⟨rfl, G1, K1, _, q2.1, (HE2.out.2.trans q1.2).trans q2.2, ⟨by simp, fun h => by simp at h, fun h => by simp at h, fun h => by simp at h, fun h => by simp at h, HR.out.1.st, rfl⟩, rfl, rfl⟩
        | go_quiet (fail)
          go_wp2
          go_ret3
          have q1 := (kd_cell HE2.out.1).2.2.2.2 sn
          have q1b := q1.1.below (below_drawn (Below.refl _ _) nq)
          have q2 := (kd_cell q1b).2.2.2.1 true
          exact ⟨rfl, G1, K1, _, q2.1, ((HE2.out.2.trans q1.2).trans (Next.of_below (below_drawn (Below.refl _ _) nq) _)).trans q2.2, ⟨by simp, fun h => by simp at h, fun h => by simp at h, fun h => by simp at h, fun h => by simp at h, HR.out.1.st, rfl⟩, rfl, rfl⟩
    · have d0 : decide (sn < 0) = false := decide_eq_false c0
      rw [d0]
      simp only [Bool.false_or]
      by_cases c1 : P.ex.n ≤ sn
      · have d1 : decide (P.ex.n ≤ sn) = true := decide_eq_true c1
        rw [d1]
        simp only [if_true]
        go_enter Try.func35, Try.ntmps35
        go_wp2_with fail
        refine HS.out.mono ?_
        rintro e w1 ⟨rfl, K1, G1, h1, n1⟩
        have HE : Hid (KD w1 base (.pointer (some ⟨R, 0, none⟩)) c r L' K1 Y P l' G1 ∧ Next (G ++ K) (G1 ++ K1) w w1) := ⟨h1, n1⟩
        have hY1 : Y < w1.heap.size := (h1.rk.lt Y h1.rk.mem).2
        clear h1 n1
        go_wp2_with fail
        refine (HT2 _ _ HE.out.1.rk).mono ?_
        rintro e w2 ⟨rfl, hb2⟩
        have HE2 : Hid (KD w2 base (.pointer (some ⟨R, 0, none⟩)) c r L' K1 Y P l' G1 ∧ Next (G ++ K) (G1 ++ K1) w w2) := ⟨HE.out.1.below hb2, HE.out.2.trans (Next.of_below hb2 _)⟩
        clear hb2 hY1 HE
        obtain ⟨⟨y0, y1, y2, y3, y4, y5, y6, y7⟩, f14, f15, f16, f17, f18, f19⟩ := HE2.out.1.rk.head
        have hY2 : Y < w2.heap.size := (HE2.out.1.rk.lt Y HE2.out.1.rk.mem).2
        go_wp2
        first
          | go_ret3
            have q1 := (kd_cell HE2.out.1).2.2.2.2 sn
            have q2 := (kd_cell q1.1).2.2.2.1 true
            exact ⟨rfl, G1, K1, _, q2.1, (HE2.out.2.trans q1.2).trans q2.2, ⟨by simp, fun h => by simp at h, fun h => by simp at h, fun h => by simp at h, fun h => by simp at h, HR.out.1.st, rfl⟩, rfl, rfl⟩
          | go_quiet (fail)
            go_wp2
            go_ret3
            have q1 := (kd_cell HE2.out.1).2.2.2.2 sn
            have q1b := q1.1.below (below_drawn (Below.refl _ _) nq)
            have q2 := (kd_cell q1b).2.2.2.1 true
            exact ⟨rfl, G1, K1, _, q2.1, ((HE2.out.2.trans q1.2).trans (Next.of_below (below_drawn (Below.refl _ _) nq) _)).trans q2.2, ⟨by simp, fun h => by simp at h, fun h => by simp at h, fun h => by simp at h, fun h => by simp at h, HR.out.1.st, rfl⟩, rfl, rfl⟩
      · have d1 : decide (P.ex.n ≤ sn) = false := decide_eq_false c1
        rw [d1]
        simp only [Bool.false_eq_true, if_false]
        cases hmu : P.ex.mu
        · by_cases c2 : sn = 0
          · subst c2
            rw [if_pos ⟨rfl, rfl⟩]
            go_enter Try.func35, Try.ntmps35
            go_wp2_with fail
            refine HS.out.mono ?_
            rintro e w1 ⟨rfl, K1, G1, h1, n1⟩
            have HE : Hid (KD w1 base (.pointer (some ⟨R, 0, none⟩)) c r L' K1 Y P l' G1 ∧ Next (G ++ K) (G1 ++ K1) w w1) := ⟨h1, n1⟩
            have hY1 : Y < w1.heap.size := (h1.rk.lt Y h1.rk.mem).2
            clear h1 n1
            go_wp2_with fail
            refine (HT2 _ _ HE.out.1.rk).mono ?_
            rintro e w2 ⟨rfl, hb2⟩
            have HE2 : Hid (KD w2 base (.pointer (some ⟨R, 0, none⟩)) c r L' K1 Y P l' G1 ∧ Next (G ++ K) (G1 ++ K1) w w2) := ⟨HE.out.1.below hb2, HE.out.2.trans (Next.of_below hb2 _)⟩
            clear hb2 hY1 HE
            obtain ⟨⟨y0, y1, y2, y3, y4, y5, y6, y7⟩, f14, f15, f16, f17, f18, f19⟩ := HE2.out.1.rk.head
            have hY2 : Y < w2.heap.size := (HE2.out.1.rk.lt Y HE2.out.1.rk.mem).2
            rw [hmu] at y2
            go_wp2
            go_ret3
            have q1 := (kd_cell HE2.out.1).2.2.2.2 0
            have q2 := (kd_cell q1.1).1 true
            have q3 := (kd_cell q2.1).2.1 true
            exact ⟨rfl, G1, K1, _, q3.1, ((HE2.out.2.trans q1.2).trans q2.2).trans q3.2, ⟨by show P.ex.over = decide ((2 : Int) = 3); rw [HR.out.1.o, HR.out.2]; rfl, fun h => by simp at h, fun _ => rfl, fun h => by simp at h, fun _ => rfl, HR.out.1.st, rfl⟩, rfl, hmu.symm ▸ rfl⟩
          · have d2 : decide (sn < 1) = false := decide_eq_false (by omega)
            have c3 : ¬ (sn < 1) := by omega
            rw [if_neg (fun hc => c2 hc.1)]
            go_enter Try.func35, Try.ntmps35
            go_wp2_with fail
            refine HS.out.mono ?_
            rintro e w1 ⟨rfl, K1, G1, h1, n1⟩
            have HE : Hid (KD w1 base (.pointer (some ⟨R, 0, none⟩)) c r L' K1 Y P l' G1 ∧ Next (G ++ K) (G1 ++ K1) w w1) := ⟨h1, n1⟩
            have hY1 : Y < w1.heap.size := (h1.rk.lt Y h1.rk.mem).2
            clear h1 n1
            go_wp2_with fail
            refine (HT2 _ _ HE.out.1.rk).mono ?_
            rintro e w2 ⟨rfl, hb2⟩
            have HE2 : Hid (KD w2 base (.pointer (some ⟨R, 0, none⟩)) c r L' K1 Y P l' G1 ∧ Next (G ++ K) (G1 ++ K1) w w2) := ⟨HE.out.1.below hb2, HE.out.2.trans (Next.of_below hb2 _)⟩
            clear hb2 hY1 HE
            obtain ⟨⟨y0, y1, y2, y3, y4, y5, y6, y7⟩, f14, f15, f16, f17, f18, f19⟩ := HE2.out.1.rk.head
            have hY2 : Y < w2.heap.size := (HE2.out.1.rk.lt Y HE2.out.1.rk.mem).2
            rw [hmu] at y2
            go_wp2
            go_ret3
            have q1 := (kd_cell HE2.out.1).2.2.2.2 sn
            have q2 := (kd_cell q1.1).1 true
            have q3 := (kd_cell q2.1).2.1 false
            exact ⟨rfl, G1, K1, _, q3.1, ((HE2.out.2.trans q1.2).trans q2.2).trans q3.2, ⟨by show P.ex.over = decide ((1 : Int) = 3); rw [HR.out.1.o, HR.out.2]; rfl, fun h => by simp at h, fun _ => rfl, fun _ => rfl, fun h => by simp at h, HR.out.1.st, rfl⟩, rfl, hmu.symm ▸ rfl⟩
        · rw [if_neg (by simp)]
          go_enter Try.func35, Try.ntmps35
          go_wp2_with fail
          refine HS.out.mono ?_
          rintro e w1 ⟨rfl, K1, G1, h1, n1⟩
          have HE : Hid (KD w1 base (.pointer (some ⟨R, 0, none⟩)) c r L' K1 Y P l' G1 ∧ Next (G ++ K) (G1 ++ K1) w w1) := ⟨h1, n1⟩
          have hY1 : Y < w1.heap.size := (h1.rk.lt Y h1.rk.mem).2
          clear h1 n1
          go_wp2_with fail
          refine (HT2 _ _ HE.out.1.rk).mono ?_
          rintro e w2 ⟨rfl, hb2⟩
          have HE2 : Hid (KD w2 base (.pointer (some ⟨R, 0, none⟩)) c r L' K1 Y P l' G1 ∧ Next (G ++ K) (G1 ++ K1) w w2) := ⟨HE.out.1.below hb2, HE.out.2.trans (Next.of_below hb2 _)⟩
          clear hb2 hY1 HE
          obtain ⟨⟨y0, y1, y2, y3, y4, y5, y6, y7⟩, f14, f15, f16, f17, f18, f19⟩ := HE2.out.1.rk.head
          have hY2 : Y < w2.heap.size := (HE2.out.1.rk.lt Y HE2.out.1.rk.mem).2
          rw [hmu] at y2
          go_wp2
          go_ret3
          have q1 := (kd_cell HE2.out.1).2.2.2.2 sn
          have q2 := (kd_cell q1.1).1 true
          have q3 := (kd_cell q2.1).2.1 false
          exact ⟨rfl, G1, K1, _, q3.1, ((HE2.out.2.trans q1.2).trans q2.2).trans q3.2, ⟨by show P.ex.over = decide ((1 : Int) = 3); rw [HR.out.1.o, HR.out.2]; rfl, fun h => by simp at h, fun _ => rfl, fun _ => rfl, fun h => by simp at h, HR.out.1.st, rfl⟩, rfl, hmu.symm ▸ rfl⟩
  · rw [if_neg k3, if_neg k3]
    have d3 : (kk == 3) = false := by simpa using k3
    have d3n : (kk != 3) = true := by simpa using k3
    by_cases k4 : kk = 4
    · subst k4
      rw [if_pos rfl]
      go_enter Try.func35, Try.ntmps35
      go_wp2_with fail
      refine HS.out.mono ?_
      rintro e w1 ⟨rfl, K1, G1, h1, n1⟩
      have HE : Hid (KD w1 base (.pointer (some ⟨R, 0, none⟩)) c r L' K1 Y P l' G1 ∧ Next (G ++ K) (G1 ++ K1) w w1) := ⟨h1, n1⟩
      obtain ⟨_, f14, f15, f16, f17, f18, f19⟩ := h1.rk.head
      have hY1 : Y < w1.heap.size := (h1.rk.lt Y h1.rk.mem).2
      clear h1 n1
      go_wp2
      go_ret3
      have q := (kd_cell HE.out.1).2.2.2.1 true
      exact ⟨rfl, G1, K1, _, q.1, HE.out.2.trans q.2, ⟨by simp, fun h => by simp at h, fun h => by simp at h, fun h => by simp at h, fun h => by simp at h, HR.out.1.st, HR.out.1.se⟩, rfl, rfl⟩
    · rw [if_neg k4, if_neg k3]
      have d4 : (kk == 4) = false := by simpa using k4
      go_enter Try.func35, Try.ntmps35
      go_wp2_with fail
      refine HS.out.mono ?_
      rintro e w1 ⟨rfl, K1, G1, h1, n1⟩
      have HE : Hid (KD w1 base (.pointer (some ⟨R, 0, none⟩)) c r L' K1 Y P l' G1 ∧ Next (G ++ K) (G1 ++ K1) w w1) := ⟨h1, n1⟩
      clear h1 n1
      go_wp2
      go_ret3
      exact ⟨rfl, G1, K1, P.ex, HE.out.1, HE.out.2, HR.out.1, rfl, rfl⟩
end Go.Proofs.Ytfbbcjlbelnfaaa
