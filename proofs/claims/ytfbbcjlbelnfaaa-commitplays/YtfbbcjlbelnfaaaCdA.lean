/- The document's machine of layer 10: Takes, New; how it lies; look. -/
import Derived.Test.YtfbbcjlbelnfaaaCqP
import Derived.Test.YtfbbcjlbelnfaaaCmC
namespace Go.Proofs.Ytfbbcjlbelnfaaa
open Go.ChangeShapes Go.WideShapes Go.ChangeAt Go.RowKit
attribute [local go_sem ↓] Go.wp_at_zero Go.wp_at_succ

def takesM (s z n : Int) : Bool := takesK s z && decide (1 ≤ n) && decide (n ≤ 1099511627776)
theorem takes10_any (raw s wr n : Int) (mu : Bool) (tr : Int) (v : Value) (z : Int) (w : World) : Calls Try.prog 8 #[confC raw s wr n mu tr v, .int .i64 z] w fun e w' => e = .returned (.bool (takesM s z n)) ∧ Below w.heap.size w w' := by
  have HC : Hid (∀ w, Calls Try.prog 27 #[.int .i64 s, .int .i64 z] w fun e w' => e = .returned (.bool (takesK s z)) ∧ w' = w) := ctakes_any s z
  unfold takesM confC
  generalize takesK s z = tk at *
  generalize hd1 : decide (1 ≤ n) = d1
  generalize hd2 : decide (n ≤ 1099511627776) = d2
  cases tk <;> cases d1
  all_goals
    go_enter Try.func8, Try.ntmps8
    go_wp2_with fail
    refine (HC.out _).mono ?_
    rintro e w1 ⟨rfl, rfl⟩
    go_wp2
    first | (go_ret; exact ⟨rfl, below_a1 _ _⟩) | (go_quiet (fail); go_wp2; go_ret; exact ⟨rfl, below_drawn (below_a1 _ _) _⟩)
/-- What the document's machine keeps changes. -/
def Cp.on (P : Cp) (e : Ex) : Cp := ⟨P.s, P.z, P.rd, P.last, e⟩
def exNew (n : Int) (mu : Bool) : Ex := ⟨n, mu, false, false, 0, false, 0⟩
set_option maxRecDepth 10000 in
theorem rnew10_any (w : World) {P : Cp} (hl : P.last = false) (he : P.ex = exNew P.ex.n P.ex.mu) (raw wr tr : Int) (v : Value) :
    Calls Try.prog 12 #[confC raw (P.s : Int) wr P.ex.n P.ex.mu tr v, .int .i64 P.z, .agg #[rdV P.rd 0, rdV P.rd 1, rdV P.rd 2, rdV P.rd 3, rdV P.rd 4, rdV P.rd 5, rdV P.rd 6, rdV P.rd 7]] w fun e w' => ∃ Y, e = .returned (.pointer (some ⟨Y, 0, none⟩)) ∧ w.heap.size ≤ Y ∧ w'.heap[Y]? = some (.cells (rmC P (.slice none 0 0)) 98 (0, 0)) ∧ Below w.heap.size w w' := by
  have HRM : Hid (rmC P (.slice none 0 0) = #[.int .i64 (P.s : Int), .int .i64 P.ex.n, .bool P.ex.mu, .int .i64 (P.s : Int), .int .i64 P.z, rdV P.rd 0, rdV P.rd 1, rdV P.rd 2, rdV P.rd 3, rdV P.rd 4, rdV P.rd 5, rdV P.rd 6, rdV P.rd 7, .bool false, .slice none 0 0, .bool false, .bool false, .int .i64 0, .bool false, .int .i64 0]) := by
    unfold rmC
    rw [Hid, hl, he]
    rfl
  rw [HRM.out]
  clear HRM hl he
  unfold confC
  unfold rdV
  generalize P.rd.getD 0 0 = n0 at *
  generalize P.rd.getD 1 0 = n1 at *
  generalize P.rd.getD 2 0 = n2 at *
  generalize P.rd.getD 3 0 = n3 at *
  generalize P.rd.getD 4 0 = n4 at *
  generalize P.rd.getD 5 0 = n5 at *
  generalize P.rd.getD 6 0 = n6 at *
  generalize P.rd.getD 7 0 = n7 at *
  go_enter Try.func12, Try.ntmps12
  go_wp2
  go_ret
  exact ⟨_, rfl, by omega, heap_alloc3_new _ _ _ _, below_alloc (below_alloc (below_a1 _ _) _) _⟩
theorem rm_cells {w : World} {Y : Nat} {P : Cp} {v : Value} (h : w.heap[Y]? = some (.cells (rmC P v) 98 (0, 0))) : (w.cell? ⟨Y, 0, none⟩ = some (.int .i64 (P.s : Int)) ∧ w.cell? ⟨Y, 1, none⟩ = some (.int .i64 P.ex.n) ∧ w.cell? ⟨Y, 2, none⟩ = some (.bool P.ex.mu) ∧ w.cell? ⟨Y, 15, none⟩ = some (.bool P.ex.ready) ∧ w.cell? ⟨Y, 16, none⟩ = some (.bool P.ex.looked) ∧ w.cell? ⟨Y, 17, none⟩ = some (.int .i64 P.ex.stamp) ∧ w.cell? ⟨Y, 18, none⟩ = some (.bool P.ex.over) ∧ w.cell? ⟨Y, 19, none⟩ = some (.int .i64 P.ex.seen)) ∧
    (w.frozen? ⟨Y, 14, none⟩ = false ∧ w.frozen? ⟨Y, 15, none⟩ = false ∧ w.frozen? ⟨Y, 16, none⟩ = false ∧ w.frozen? ⟨Y, 17, none⟩ = false ∧ w.frozen? ⟨Y, 18, none⟩ = false ∧ w.frozen? ⟨Y, 19, none⟩ = false) :=
  ⟨⟨by rw [cell_at h]; rfl, by rw [cell_at h]; rfl, by rw [cell_at h]; rfl, by rw [cell_at h]; rfl, by rw [cell_at h]; rfl, by rw [cell_at h]; rfl, by rw [cell_at h]; rfl, by rw [cell_at h]; rfl⟩, frozen_at h 14, frozen_at h 15, frozen_at h 16, frozen_at h 17, frozen_at h 18, frozen_at h 19⟩
theorem RK.head {w : World} {base Y : Nat} {P : Cp} {l : List Int} {G : List Nat} (h : RK w base Y P l G) : (w.cell? ⟨Y, 0, none⟩ = some (.int .i64 (P.s : Int)) ∧ w.cell? ⟨Y, 1, none⟩ = some (.int .i64 P.ex.n) ∧ w.cell? ⟨Y, 2, none⟩ = some (.bool P.ex.mu) ∧ w.cell? ⟨Y, 15, none⟩ = some (.bool P.ex.ready) ∧ w.cell? ⟨Y, 16, none⟩ = some (.bool P.ex.looked) ∧ w.cell? ⟨Y, 17, none⟩ = some (.int .i64 P.ex.stamp) ∧ w.cell? ⟨Y, 18, none⟩ = some (.bool P.ex.over) ∧ w.cell? ⟨Y, 19, none⟩ = some (.int .i64 P.ex.seen)) ∧
    (w.frozen? ⟨Y, 14, none⟩ = false ∧ w.frozen? ⟨Y, 15, none⟩ = false ∧ w.frozen? ⟨Y, 16, none⟩ = false ∧ w.frozen? ⟨Y, 17, none⟩ = false ∧ w.frozen? ⟨Y, 18, none⟩ = false ∧ w.frozen? ⟨Y, 19, none⟩ = false) := by
  obtain ⟨v, h⟩ := h
  exact rm_cells h.m
theorem RK.mem {w : World} {base Y : Nat} {P : Cp} {l : List Int} {G : List Nat} (h : RK w base Y P l G) : Y ∈ G := by
  obtain ⟨v, h⟩ := h
  rw [h.G]; simp
theorem rk_put {w w' : World} {base Y : Nat} {P Q : Cp} {l : List Int} {G : List Nat} (h : RK w base Y P l G) (k : Keep [Y] w w') (hm : ∀ v, w.heap[Y]? = some (.cells (rmC P v) 98 (0, 0)) → w'.heap[Y]? = some (.cells (rmC Q v) 98 (0, 0))) : RK w' base Y Q l G := by
  obtain ⟨v, h⟩ := h
  refine ⟨v, hm v h.m, own_keep h.own k (fun b hb e => ?_), h.G, h.bY⟩
  simp at e
  subst e
  exact own_ne h.own h.m (by decide) hb
theorem kd_put {w w' : World} {base Y : Nat} {P Q : Cp} {q : Value} {c r : Nat} {L : List Ac} {l : List Int} {K G : List Nat} (h : KD w base q c r L K Y P l G) (k : Keep [Y] w w') (hm : ∀ v, w.heap[Y]? = some (.cells (rmC P v) 98 (0, 0)) → w'.heap[Y]? = some (.cells (rmC Q v) 98 (0, 0))) : KD w' base q c r L K Y Q l G ∧ Next (G ++ K) (G ++ K) w w' := by
  have hY := h.rk.mem
  refine ⟨⟨h.ref.keep k (fun b hb e => by simp at e; subst e; exact h.apart _ hY hb), rk_put h.rk k hm, h.apart⟩, k.mono (fun b hb => by simp at hb; subst hb; exact List.mem_append_left _ hY), fun b hb => Or.inl hb⟩
theorem RefAt.sizes {w : World} {base R : Nat} {c r : Nat} {L : List Ac} {F : List Nat} (h : RefAt w base (.pointer (some ⟨R, 0, none⟩)) c r L F) : w.cell? ⟨R, 0, none⟩ = some (.int .i64 (c : Int)) ∧ w.cell? ⟨R, 1, none⟩ = some (.int .i64 (r : Int)) ∧ R < w.heap.size := by
  obtain ⟨R', v, h⟩ := h
  obtain rfl : R = R' := by simpa using h.p
  exact ⟨by rw [cell_at h.m]; rfl, by rw [cell_at h.m]; rfl, heap_lt h.m⟩
/-- What both keep. -/
structure Rel (u : Cu) (e : Ex) : Prop where
  o : e.over = decide (u.st = 3)
  r : u.st = 0 → e.ready = false
  r1 : u.st = 1 ∨ u.st = 2 → e.ready = true
  l : u.st = 1 → e.looked = false
  l2 : u.st = 2 → e.looked = true
  st : e.stamp = u.stamp
  se : e.seen = u.seen
set_option maxRecDepth 10000 in
theorem rdlook_any {w : World} {base Y : Nat} {P : Cp} {q : Value} {c : Nat} {L : List Ac} {l : List Int} {K G : List Nat} {u : Cu} (h : KD w base q c P.s L K Y P l G) (hp : POk P) (hb : base ≤ w.heap.size) (hL : L.length < 3298534883328) (hg : Gd L) (hse : P.ex.seen = u.seen) (h0 : 0 ≤ u.seen) (h1 : u.seen < 1099511627776) (t : Int) :
    Calls Try.prog 36 #[.pointer (some ⟨Y, 0, none⟩), q, .int .i64 t] w fun e w' => e = .returned (.bool (looksY P u L)) ∧ ∃ K', KD w' base q c P.s (loadL c P.s L t (lookA P u)) K' Y P l G ∧ Next (G ++ K) (G ++ K') w w' := by
  have HL : Hid (∀ w', Below w.heap.size w w' → Calls Try.prog 58 #[q, .int .i64 t, .agg #[.int .i64 2, .int .i64 (slotV (lookS P u) P.s), .int .i64 0]] w' fun e w'' => e = .returned (.tuple #[.int .i64 (wordOf L (lookA P u)), .int .i64 0]) ∧ ∃ K', KD w'' base q c P.s (loadL c P.s L t (lookA P u)) K' Y P l G ∧ Next (G ++ K) (G ++ K') w w'') := fun w' hb' => by
    have hi : isAd c P.s (lookA P u) = true := hdA_is hp (lookS P u)
    have := rload_any (h.ref.below hb') (Nat.le_trans hb hb'.size) hL t (lookA P u)
    rw [if_pos hi, if_pos hi] at this
    refine Calls.mono this ?_
    rintro e w'' ⟨rfl, K', h2, h3⟩
    exact ⟨rfl, K', (h.below hb').onRef h2 h3, (Next.of_below hb' _).trans h3.right⟩
  have HSL : Hid (∀ w, Calls Try.prog 57 #[.int .i64 (lookS P u), .int .i64 (P.s : Int)] w fun e w' => e = .returned (.int .i64 (slotV (lookS P u) P.s)) ∧ w' = w) := rslot_any _ _
  have hgw := hg (lookA P u)
  have hw : wrap64 (u.seen + 1) = u.seen + 1 := by unfold wrap64; omega
  obtain ⟨⟨y0, y1, y2, y3, y4, y5, y6, y7⟩, _⟩ := h.rk.head
  rw [hse] at y7
  have hY : Y < w.heap.size := (h.rk.lt Y h.rk.mem).2
  have HC : Hid (∀ w' L' K', KD w' base q c P.s L' K' Y P l G → (w'.cell? ⟨Y, 2, none⟩ = some (.bool P.ex.mu) ∧ w'.cell? ⟨Y, 0, none⟩ = some (.int .i64 (P.s : Int)))) := fun w' L' K' h' => ⟨h'.rk.head.1.2.2.1, h'.rk.head.1.1⟩
  obtain ⟨R, rfl⟩ := h.ref.ptr
  unfold looksY lookY
  cases hm : P.ex.mu
  · have els : lookS P u = u.seen := by unfold lookS; rw [if_neg (by simp [hm])]
    rw [if_neg (by simp)]
    rw [hm] at y2 HC
    have HO : Hid (∀ w, Calls Try.prog 60 #[.int .i64 (wordOf L (lookA P u)), .int .i64 u.seen] w fun e w' => e = .returned (.bool (overV (wordOf L (lookA P u)) u.seen)) ∧ w' = w) := rover_any _ _ hgw.1 hgw.2
    rw [els] at HL HSL
    generalize overV (wordOf L (lookA P u)) u.seen = ov at *
    generalize wordOf L (lookA P u) = v at *
    generalize loadL c P.s L t (lookA P u) = L' at *
    generalize slotV u.seen P.s = sl at *
    clear h hp hg hgw hse els hm
    go_enter Try.func36, Try.ntmps36
    go_wp2_with fail
    refine (HSL.out _).mono ?_
    rintro e w1 ⟨rfl, rfl⟩
    go_wp2_with fail
    refine (HL.out _ (Below.refl _ _)).mono ?_
    rintro e w2 ⟨rfl, K', k2, n2⟩
    obtain ⟨z2, z0⟩ := HC.out _ _ _ k2
    have hY2 : Y < w2.heap.size := (k2.rk.lt Y k2.rk.mem).2
    have HE : Hid (KD w2 base (.pointer (some ⟨R, 0, none⟩)) c P.s L' K' Y P l G ∧ Next (G ++ K) (G ++ K') _ w2) := ⟨k2, n2⟩
    clear k2 n2 y0 y1 y2 y3 y4 y5 y6 y7
    go_wp2_with fail
    refine (HO.out _).mono ?_
    rintro e w3 ⟨rfl, rfl⟩
    go_wp2
    go_ret
    exact ⟨rfl, K', HE.out⟩
  · have els : lookS P u = u.seen + 1 := by unfold lookS; rw [if_pos hm]
    rw [if_pos rfl]
    rw [hm] at y2 HC
    have HO : Hid (∀ w, Calls Try.prog 59 #[.int .i64 (wordOf L (lookA P u)), .int .i64 (u.seen + 1), .int .i64 (P.s : Int)] w fun e w' => e = .returned (.bool (freeV (wordOf L (lookA P u)) (u.seen + 1) P.s)) ∧ w' = w) := rfree_any _ _ _ (by omega) (by omega) hgw.1 hgw.2
    rw [els] at HL HSL
    generalize freeV (wordOf L (lookA P u)) (u.seen + 1) P.s = ov at *
    generalize wordOf L (lookA P u) = v at *
    generalize loadL c P.s L t (lookA P u) = L' at *
    generalize slotV (u.seen + 1) P.s = sl at *
    clear h hp hg hgw hse els hm
    go_enter Try.func36, Try.ntmps36
    go_wp2_with fail
    refine (HSL.out _).mono ?_
    rintro e w1 ⟨rfl, rfl⟩
    go_wp2_with fail
    refine (HL.out _ (Below.refl _ _)).mono ?_
    rintro e w2 ⟨rfl, K', k2, n2⟩
    obtain ⟨z2, z0⟩ := HC.out _ _ _ k2
    have hY2 : Y < w2.heap.size := (k2.rk.lt Y k2.rk.mem).2
    have HE : Hid (KD w2 base (.pointer (some ⟨R, 0, none⟩)) c P.s L' K' Y P l G ∧ Next (G ++ K) (G ++ K') _ w2) := ⟨k2, n2⟩
    clear k2 n2 y0 y1 y2 y3 y4 y5 y6 y7
    go_wp2_with fail
    refine (HO.out _).mono ?_
    rintro e w3 ⟨rfl, rfl⟩
    go_wp2
    go_ret
    exact ⟨rfl, K', HE.out⟩
end Go.Proofs.Ytfbbcjlbelnfaaa
