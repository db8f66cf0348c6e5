/- The document's machine of layer 9: Takes, New, Step. -/
import Derived.Test.YtcbcjliekbphmaaFcP
import Derived.Test.YtcbcjliekbphmaaJFtBFtS
import Derived.Test.YtcbcjliekbphmaaJSigRSigF
namespace Go.Proofs.Ytcbcjliekbphmaa
open Go.ChangeShapes Go.WideShapes Go.ChangeAt Go.RowKit
attribute [local go_sem ↓] Go.wp_at_zero Go.wp_at_succ

def takesF (s z cell : Int) : Bool := takesK s z && decide (0 ≤ cell) && decide (cell < 1024)
theorem takes9_any (s z cell : Int) (w : World) : Calls Try.prog 8 #[.int .i64 s, .int .i64 z, .int .i64 cell] w fun e w' => e = .returned (.bool (takesF s z cell)) ∧ w' = w := by
  have HC : Hid (∀ w, Calls Try.prog 30 #[.int .i64 s, .int .i64 z] w fun e w' => e = .returned (.bool (takesK s z)) ∧ w' = w) := ctakes_any s z
  unfold takesF
  generalize takesK s z = tk at *
  generalize hd1 : decide (0 ≤ cell) = d1
  generalize hd2 : decide (cell < 1024) = d2
  cases tk <;> cases d1
  all_goals
    go_enter Try.func8, Try.ntmps8
    go_wp2_with fail
    refine (HC.out _).mono ?_
    rintro e w1 ⟨rfl, rfl⟩
    go_wp2
    go_ret
    exact ⟨rfl, rfl⟩
set_option maxRecDepth 10000 in
theorem rnew9_any (w : World) (s : Nat) (z : Int) (rd : List Nat) (cell : Int) (hr : Sg.Ok rd) :
    Calls Try.prog 12 #[.int .i64 (s : Int), .int .i64 z, .agg #[rdV rd 0, rdV rd 1, rdV rd 2, rdV rd 3, rdV rd 4, rdV rd 5, rdV rd 6, rdV rd 7], .int .i64 cell] w fun e w' => ∃ Y, e = .returned (.pointer (some ⟨Y, 0, none⟩)) ∧ w.heap.size ≤ Y ∧ w'.heap[Y]? = some (.cells (rmC (newP s z rd cell) (.slice none 0 0)) 101 (0, 0)) ∧ Below w.heap.size w w' := by
  have hok : Sg.Ok (Sg.put rd (Sg.sigN cell)) := Sg.ok_put hr _ (Sg.sigN_lt _)
  have HW : Hid (∀ w, Calls Try.prog 31 #[.agg #[rdV rd 0, rdV rd 1, rdV rd 2, rdV rd 3, rdV rd 4, rdV rd 5, rdV rd 6, rdV rd 7], .int .i64 cell] w fun e w' => e = .returned (.agg #[rdV (newP s z rd cell).rd 0, rdV (newP s z rd cell).rd 1, rdV (newP s z rd cell).rd 2, rdV (newP s z rd cell).rd 3, rdV (newP s z rd cell).rd 4, rdV (newP s z rd cell).rd 5, rdV (newP s z rd cell).rd 6, rdV (newP s z rd cell).rd 7]) ∧ Below w.heap.size w w') := fun w => by
    rw [rd_cells hr.1, rd_cells (rd := (newP s z rd cell).rd) hok.1]; exact Sg.rwith_any rd hr cell w
  have HRM : Hid (rmC (newP s z rd cell) (.slice none 0 0) = #[.int .i64 cell, .bool false, .int .i64 0, .int .i64 (s : Int), .int .i64 z, rdV (newP s z rd cell).rd 0, rdV (newP s z rd cell).rd 1, rdV (newP s z rd cell).rd 2, rdV (newP s z rd cell).rd 3, rdV (newP s z rd cell).rd 4, rdV (newP s z rd cell).rd 5, rdV (newP s z rd cell).rd 6, rdV (newP s z rd cell).rd 7, .bool true, .slice none 0 0]) := rfl
  rw [HRM.out]
  clear HRM
  unfold rdV at *
  generalize newP s z rd cell = P at *
  generalize P.rd.getD 0 0 = n0 at *
  generalize P.rd.getD 1 0 = n1 at *
  generalize P.rd.getD 2 0 = n2 at *
  generalize P.rd.getD 3 0 = n3 at *
  generalize P.rd.getD 4 0 = n4 at *
  generalize P.rd.getD 5 0 = n5 at *
  generalize P.rd.getD 6 0 = n6 at *
  generalize P.rd.getD 7 0 = n7 at *
  generalize rd.getD 0 0 = m0 at *
  generalize rd.getD 1 0 = m1 at *
  generalize rd.getD 2 0 = m2 at *
  generalize rd.getD 3 0 = m3 at *
  generalize rd.getD 4 0 = m4 at *
  generalize rd.getD 5 0 = m5 at *
  generalize rd.getD 6 0 = m6 at *
  generalize rd.getD 7 0 = m7 at *
  clear hr hok
  go_enter Try.func12, Try.ntmps12
  go_wp2_with fail
  refine (HW.out _).mono ?_
  rintro e w1 ⟨rfl, hb1⟩
  have HB1 : Hid (Below w.heap.size w w1) := by first | exact hb1 | exact below_then (below_a1 _ _) hb1
  clear hb1
  go_wp2
  go_ret
  first
    | exact ⟨_, rfl, by have := HB1.out.size; simp; omega, heap_alloc_new _ _, below_alloc (below_alloc HB1.out _) _⟩
    | exact ⟨_, rfl, by have := HB1.out.size; simp; omega, heap_alloc2_new _ _ _, below_alloc (below_alloc HB1.out _) _⟩
/-- What of the document's machine is read. -/
theorem rm_cells {w : World} {Y : Nat} {P : Cp} {v : Value} (h : w.heap[Y]? = some (.cells (rmC P v) 101 (0, 0))) : (w.cell? ⟨Y, 0, none⟩ = some (.int .i64 P.cell) ∧ w.cell? ⟨Y, 1, none⟩ = some (.bool P.read) ∧ w.cell? ⟨Y, 2, none⟩ = some (.int .i64 P.val) ∧ w.cell? ⟨Y, 3, none⟩ = some (.int .i64 (P.s : Int))) ∧ w.frozen? ⟨Y, 1, none⟩ = false ∧ w.frozen? ⟨Y, 2, none⟩ = false :=
  ⟨⟨by rw [cell_at h]; rfl, by rw [cell_at h]; rfl, by rw [cell_at h]; rfl, by rw [cell_at h]; rfl⟩, frozen_at h 1, frozen_at h 2⟩
theorem RK.head {w : World} {base Y : Nat} {P : Cp} {l : List Int} {G : List Nat} (h : RK w base Y P l G) : (w.cell? ⟨Y, 0, none⟩ = some (.int .i64 P.cell) ∧ w.cell? ⟨Y, 1, none⟩ = some (.bool P.read) ∧ w.cell? ⟨Y, 2, none⟩ = some (.int .i64 P.val) ∧ w.cell? ⟨Y, 3, none⟩ = some (.int .i64 (P.s : Int))) ∧ w.frozen? ⟨Y, 1, none⟩ = false ∧ w.frozen? ⟨Y, 2, none⟩ = false := by
  obtain ⟨v, h⟩ := h
  exact rm_cells h.m
theorem RK.mem {w : World} {base Y : Nat} {P : Cp} {l : List Int} {G : List Nat} (h : RK w base Y P l G) : Y ∈ G := by
  obtain ⟨v, h⟩ := h
  rw [h.G]; simp
theorem rk_look {w : World} {base Y : Nat} {P : Cp} {l : List Int} {G : List Nat} (h : RK w base Y P l G) (v : Int) : RK ((w.setCell ⟨Y, 1, none⟩ (.bool true)).setCell ⟨Y, 2, none⟩ (.int .i64 v)) base Y (lookP P v) l G := by
  obtain ⟨u, h⟩ := h
  have k : Keep [Y] w ((w.setCell ⟨Y, 1, none⟩ (.bool true)).setCell ⟨Y, 2, none⟩ (.int .i64 v)) := kkeep (kkeep (Keep.refl _ _) _ _) _ _
  have h1 : (w.setCell ⟨Y, 1, none⟩ (.bool true)).heap[Y]? = some (.cells (rmC ⟨P.s, P.z, P.rd, P.last, P.cell, true, P.val⟩ u) 101 (0, 0)) := by rw [heap_set h.m]; rfl
  refine ⟨u, by rw [heap_set h1]; rfl, own_keep h.own k (fun b hb e => ?_), h.G, h.bY⟩
  simp at e
  subst e
  exact own_ne h.own h.m (by decide) hb
theorem RefAt.sizes {w : World} {base R : Nat} {c r : Nat} {L : List Ac} {F : List Nat} (h : RefAt w base (.pointer (some ⟨R, 0, none⟩)) c r L F) : w.cell? ⟨R, 0, none⟩ = some (.int .i64 (c : Int)) ∧ w.cell? ⟨R, 1, none⟩ = some (.int .i64 (r : Int)) ∧ R < w.heap.size := by
  obtain ⟨R', v, h⟩ := h
  obtain rfl : R = R' := by simpa using h.p
  exact ⟨by rw [cell_at h.m]; rfl, by rw [cell_at h.m]; rfl, heap_lt h.m⟩
theorem goesF_not {c r : Nat} {P : Cp} (h : goesF c r P = false) : ((r : Int) == (P.s : Int)) = false ∨ (((r : Int) == (P.s : Int)) = true ∧ decide ((c : Int) ≤ P.cell) = true) := by
  by_cases e : r = P.s
  · subst e
    unfold goesF at h
    simp at h
    exact Or.inr ⟨by simp, by simpa using h⟩
  · exact Or.inl (by simp; omega)
theorem goesF_yes {c r : Nat} {P : Cp} (h : goesF c r P = true) : r = P.s ∧ P.cell < (c : Int) ∧ ((r : Int) == (P.s : Int)) = true ∧ decide ((c : Int) ≤ P.cell) = false := by
  unfold goesF at h
  simp at h
  exact ⟨h.1, h.2, by simp [h.1], by simp; omega⟩
theorem fdstep_none {w : World} {base Y : Nat} {P : Cp} {q : Value} {c r : Nat} {L : List Ac} {l : List Int} {K G : List Nat} (h : KD w base q c r L K Y P l G) (hn : goesF c r P = false) (t : Int) :
    Calls Try.prog 16 #[.pointer (some ⟨Y, 0, none⟩), q, .int .i64 t] w fun e w' => e = .returned (.tuple #[.int .i64 0, .int .i64 0, .int .i64 0]) ∧ Below w.heap.size w w' := by
  obtain ⟨R, rfl⟩ := h.ref.ptr
  obtain ⟨r0, r1, hR⟩ := h.ref.sizes
  obtain ⟨⟨y0, y1, y2, y3⟩, z1, z2⟩ := h.rk.head
  have hY : Y < w.heap.size := (h.rk.lt Y h.rk.mem).2
  clear h
  rcases goesF_not hn with e | ⟨e, e2⟩
  · clear hn
    have eb : ((r : Int) != (P.s : Int)) = true := by rw [bne, e]; rfl
    go_enter Try.func16, Try.ntmps16
    go_wp2
    first | (go_ret3; exact ⟨rfl, Below.refl _ _⟩) | (go_quiet (fail); go_wp2; go_ret3; exact ⟨rfl, below_drawn (Below.refl _ _) _⟩)
  · clear hn
    have eb : ((r : Int) != (P.s : Int)) = false := by rw [bne, e]; rfl
    go_enter Try.func16, Try.ntmps16
    go_wp2
    first | (go_ret3; exact ⟨rfl, Below.refl _ _⟩) | (go_quiet (fail); go_wp2; go_ret3; exact ⟨rfl, below_drawn (Below.refl _ _) _⟩)
theorem KD.onLook {w w1 : World} {base Y : Nat} {P : Cp} {q : Value} {c r : Nat} {L L' : List Ac} {l : List Int} {K K' G : List Nat} (h : KD w base q c r L K Y P l G) (hr : RefAt w1 base q c r L' K') (hn : Next K K' w w1) (v : Int) :
    KD ((w1.setCell ⟨Y, 1, none⟩ (.bool true)).setCell ⟨Y, 2, none⟩ (.int .i64 v)) base q c r L' K' Y (lookP P v) l G ∧ Next (G ++ K) (G ++ K') w ((w1.setCell ⟨Y, 1, none⟩ (.bool true)).setCell ⟨Y, 2, none⟩ (.int .i64 v)) := by
  have h1 := h.onRef hr hn
  have k : Keep [Y] w1 ((w1.setCell ⟨Y, 1, none⟩ (.bool true)).setCell ⟨Y, 2, none⟩ (.int .i64 v)) := kkeep (kkeep (Keep.refl _ _) _ _) _ _
  have hY := h1.rk.mem
  refine ⟨⟨h1.ref.keep k (fun b hb e => ?_), rk_look h1.rk v, h1.apart⟩, hn.right.1.trans k (fun b hb => ?_), hn.right.2⟩
  · simp at e; subst e; exact h1.apart _ hY hb
  · simp at hb; subst hb; exact Or.inl (List.mem_append_left _ hY)
set_option maxRecDepth 10000 in
theorem fdstep_look {w : World} {base Y : Nat} {P : Cp} {q : Value} {c r : Nat} {L : List Ac} {l : List Int} {K G : List Nat} (h : KD w base q c r L K Y P l G) (hb : base ≤ w.heap.size) (hL : L.length < 3298534883328) (h0 : 0 ≤ P.cell) (hg : goesF c r P = true) (hr : P.read = false) (t : Int) :
    Calls Try.prog 16 #[.pointer (some ⟨Y, 0, none⟩), q, .int .i64 t] w fun e w' => e = .returned (.tuple #[.int .i64 2, .int .i64 0, .int .i64 0]) ∧ ∃ K', KD w' base q c r (loadL c r L t (cellA P)) K' Y (lookP P (wordOf L (cellA P))) l G ∧ Next (G ++ K) (G ++ K') w w' := by
  obtain ⟨er, hc, eq1, eq2⟩ := goesF_yes hg
  have HL : Hid (∀ w', Below w.heap.size w w' → Calls Try.prog 38 #[q, .int .i64 t, .agg #[.int .i64 4, .int .i64 P.cell, .int .i64 0]] w' fun e w'' => e = .returned (.tuple #[.int .i64 (wordOf L (cellA P)), .int .i64 0]) ∧ ∃ K', RefAt w'' base q c r (loadL c r L t (cellA P)) K' ∧ Next K K' w' w'') := fun w' hb' => by
    have := rload_any (h.ref.below hb') (Nat.le_trans hb hb'.size) hL t (cellA P)
    rw [if_pos (cellA_is h0 hc), if_pos (cellA_is h0 hc)] at this
    exact this
  have eb : ((r : Int) != (P.s : Int)) = false := by rw [bne, eq1]; rfl
  have HH : Hid (KD w base q c r L K Y P l G) := h
  obtain ⟨R, rfl⟩ := h.ref.ptr
  obtain ⟨r0, r1, hR⟩ := h.ref.sizes
  obtain ⟨⟨y0, y1, y2, y3⟩, z1, z2⟩ := h.rk.head
  rw [hr] at y1
  have hY : Y < w.heap.size := (h.rk.lt Y h.rk.mem).2
  clear h hg hr h0 hc er
  generalize wordOf L (cellA P) = v at *
  generalize loadL c r L t (cellA P) = L' at *
  go_enter Try.func16, Try.ntmps16
  go_wp2
  go_quiet (fail)
  have HBq : Hid (Below w.heap.size w (w.drewN nq)) := below_drawn (Below.refl _ _) nq
  have y0' : (w.drewN nq).cell? ⟨Y, 0, none⟩ = some (.int .i64 P.cell) := y0
  have y1' : (w.drewN nq).cell? ⟨Y, 1, none⟩ = some (.bool false) := y1
  have hY' : Y < (w.drewN nq).heap.size := hY
  clear y0 y1 y2 y3 z1 z2 r0 r1 hY hR
  generalize w.drewN nq = wq at *
  go_wp2_with fail
  refine (HL.out _ HBq.out).mono ?_
  rintro e w1 ⟨rfl, K', hm1, hn1⟩
  have h1 := (HH.out.below HBq.out).onRef hm1 hn1
  have HN1 : Hid (RefAt w1 base (.pointer (some ⟨R, 0, none⟩)) c r L' K' ∧ Next K K' wq w1) := ⟨hm1, hn1⟩
  clear y0' y1'
  obtain ⟨⟨y0, y1, y2, y3⟩, z1, z2⟩ := h1.rk.head
  have hY1 : Y < w1.heap.size := (h1.rk.lt Y h1.rk.mem).2
  clear h1 hm1 hn1
  go_wp2
  go_ret3
  have q := (HH.out.below HBq.out).onLook HN1.out.1 HN1.out.2 v
  exact ⟨rfl, K', q.1, (Next.of_below HBq.out _).trans q.2⟩
set_option maxRecDepth 10000 in
theorem fdstep_hold {w : World} {base Y : Nat} {P : Cp} {q : Value} {c r : Nat} {L : List Ac} {l : List Int} {K G : List Nat} (h : KD w base q c r L K Y P l G) (hb : base ≤ w.heap.size) (hL : L.length < 3298534883328) (hk : LKk P l) (hp : POk P) (hgd : Gd L) (hg : goesF c r P = true) (hr : P.read = true) (t : Int) :
    Calls Try.prog 16 #[.pointer (some ⟨Y, 0, none⟩), q, .int .i64 t] w fun e w' => e = .returned (.tuple #[.int .i64 (ansKK r P (runK P l) L), .int .i64 (errKK r P (runK P l) L), .int .i64 (if ansKK r P (runK P l) L = 3 then P.val else 0)]) ∧ ∃ K' G', KD w' base q c r (nextKL c r P (runK P l) L t) K' Y P (nextKI r P (runK P l) L l) G' ∧ Next (G ++ K) (G' ++ K') w w' := by
  obtain ⟨er, hc, eq1, eq2⟩ := goesF_yes hg
  have HS : Hid (∀ w', Below w.heap.size w w' → Calls Try.prog 39 #[.pointer (some ⟨Y, 3, none⟩), q, .int .i64 t] w' fun e w'' => e = .returned (.tuple #[.int .i64 (ansKK r P (runK P l) L), .int .i64 (errKK r P (runK P l) L)]) ∧ ∃ K' G', KD w'' base q c r (nextKL c r P (runK P l) L t) K' Y P (nextKI r P (runK P l) L l) G' ∧ Next (G ++ K) (G' ++ K') w w'') := fun w' hb' => by
    refine (kdstep (h.below hb') (Nat.le_trans hb hb'.size) hL hk hp hgd t).mono ?_
    rintro e w'' ⟨rfl, K', G', h1, h2⟩
    exact ⟨rfl, K', G', h1, (Next.of_below hb' _).trans h2⟩
  have eb : ((r : Int) != (P.s : Int)) = false := by rw [bne, eq1]; rfl
  obtain ⟨R, rfl⟩ := h.ref.ptr
  obtain ⟨r0, r1, hR⟩ := h.ref.sizes
  obtain ⟨⟨y0, y1, y2, y3⟩, z1, z2⟩ := h.rk.head
  rw [hr] at y1
  have hY : Y < w.heap.size := (h.rk.lt Y h.rk.mem).2
  clear h hg hr hc er
  generalize ansKK r P (runK P l) L = kk at *
  generalize errKK r P (runK P l) L = ee at *
  generalize nextKL c r P (runK P l) L t = L' at *
  generalize nextKI r P (runK P l) L l = l' at *
  by_cases hk3 : kk = 3
  · subst hk3
    rw [if_pos rfl]
    go_enter Try.func16, Try.ntmps16
    go_wp2
    go_quiet (fail)
    have HBq : Hid (Below w.heap.size w (w.drewN nq)) := below_drawn (Below.refl _ _) nq
    have y0' : (w.drewN nq).cell? ⟨Y, 0, none⟩ = some (.int .i64 P.cell) := y0
    have y1' : (w.drewN nq).cell? ⟨Y, 1, none⟩ = some (.bool true) := y1
    have hY' : Y < (w.drewN nq).heap.size := hY
    clear y0 y1 y2 y3 z1 z2 r0 r1 hY hR
    generalize w.drewN nq = wq at *
    go_wp2_with fail
    refine (HS.out _ HBq.out).mono ?_
    rintro e w1 ⟨rfl, K', G', h1, hn1⟩
    have HN1 : Hid (KD w1 base (.pointer (some ⟨R, 0, none⟩)) c r L' K' Y P l' G' ∧ Next (G ++ K) (G' ++ K') w w1) := ⟨h1, hn1⟩
    clear y0' y1'
    obtain ⟨⟨y0, y1, y2, y3⟩, z1, z2⟩ := h1.rk.head
    have hY1 : Y < w1.heap.size := (h1.rk.lt Y h1.rk.mem).2
    clear h1 hn1
    go_wp2
    first | (go_ret3; exact ⟨rfl, K', G', HN1.out⟩) | (go_quiet (fail); go_wp2; go_ret3; exact ⟨rfl, K', G', HN1.out.1.below (below_drawn (Below.refl _ _) _), HN1.out.2.trans (Next.of_below (below_drawn (Below.refl _ _) _) _)⟩)
  · have hd : (kk == 3) = false := by simpa using hk3
    rw [if_neg hk3]
    go_enter Try.func16, Try.ntmps16
    go_wp2
    go_quiet (fail)
    have HBq : Hid (Below w.heap.size w (w.drewN nq)) := below_drawn (Below.refl _ _) nq
    have y0' : (w.drewN nq).cell? ⟨Y, 0, none⟩ = some (.int .i64 P.cell) := y0
    have y1' : (w.drewN nq).cell? ⟨Y, 1, none⟩ = some (.bool true) := y1
    have hY' : Y < (w.drewN nq).heap.size := hY
    clear y0 y1 y2 y3 z1 z2 r0 r1 hY hR
    generalize w.drewN nq = wq at *
    go_wp2_with fail
    refine (HS.out _ HBq.out).mono ?_
    rintro e w1 ⟨rfl, K', G', h1, hn1⟩
    have HN1 : Hid (KD w1 base (.pointer (some ⟨R, 0, none⟩)) c r L' K' Y P l' G' ∧ Next (G ++ K) (G' ++ K') w w1) := ⟨h1, hn1⟩
    clear y0' y1' h1 hn1
    go_wp2
    go_ret3
    exact ⟨rfl, K', G', HN1.out⟩
def nextFI (c r : Nat) (P : Cp) (l : List Int) (L : List Ac) : List Int := if goesF c r P then (if P.read then nextKI r P (runK P l) L l else l) else l
theorem fdstep {w : World} {base Y : Nat} {P : Cp} {q : Value} {c r : Nat} {L : List Ac} {l : List Int} {K G : List Nat} (h : KD w base q c r L K Y P l G) (hb : base ≤ w.heap.size) (hL : L.length < 3298534883328) (hk : LKk P l) (hp : POk P) (hgd : Gd L) (h0 : 0 ≤ P.cell) (t : Int) :
    Calls Try.prog 16 #[.pointer (some ⟨Y, 0, none⟩), q, .int .i64 t] w fun e w' => e = .returned (.tuple #[.int .i64 (ansF c r P (runK P l) L), .int .i64 (errF c r P (runK P l) L), .int .i64 (valF c r P (runK P l) L)]) ∧ ∃ K' G', KD w' base q c r (nextFL c r P (runK P l) L t) K' Y (nextFP c r P L) (nextFI c r P l L) G' ∧ Next (G ++ K) (G' ++ K') w w' := by
  unfold ansF errF valF nextFL nextFP nextFI
  by_cases hg : goesF c r P = true
  · simp only [if_pos hg]
    by_cases hr : P.read = true
    · simp only [if_pos hr]
      exact fdstep_hold h hb hL hk hp hgd hg hr t
    · simp only [if_neg hr]
      refine (fdstep_look h hb hL h0 hg (by simpa using hr) t).mono ?_
      rintro e w' ⟨rfl, K', h1, h2⟩
      exact ⟨rfl, K', G, h1, h2⟩
  · simp only [if_neg hg]
    refine (fdstep_none h (by simpa using hg) t).mono ?_
    rintro e w' ⟨rfl, hb'⟩
    exact ⟨rfl, K, G, h.below hb', Next.of_below hb' _⟩
end Go.Proofs.Ytcbcjliekbphmaa
