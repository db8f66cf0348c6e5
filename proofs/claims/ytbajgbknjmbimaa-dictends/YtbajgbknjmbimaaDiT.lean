/- The document's dict (layer 17): puts, Next. -/
import Derived.Test.YtbajgbknjmbimaaDiR
namespace Go.Proofs.Ytbajgbknjmbimaa.Di
open Go.ChangeShapes Go.WideShapes Go.ChangeAt Go.RowKit
attribute [local go_sem ↓] Go.wp_at_zero Go.wp_at_succ

theorem at_facts {b x : Int} (hb : 0 ≤ b ∧ b ≤ 1024) (hx : -1 ≤ x ∧ x ≤ 15) : wrap64 (3 * x) = 3 * x ∧ (wrap64 (b + 3) = b + 3 ∧ wrap64 (b + 3 + 3 * x) = b + 3 + 3 * x) ∧ (wrap64 (b + 1) = b + 1 ∧ wrap64 (b + 1 + 3 * x) = b + 1 + 3 * x) ∧ wrap64 (b + 1 + 3 * x + 1) = b + 1 + 3 * x + 1 ∧ wrap64 (b + 1 + 3 * x + 2) = b + 1 + 3 * x + 2 := by
  unfold wrap64
  omega
/-- A function whose argument and whose answer's variable are laid. -/
def Mid2 (w : World) (o : Obj) (w2 : World) : Prop := Below ((w.alloc o).alloc (.cells z4 34)).heap.size ((w.alloc o).alloc (.cells z4 34)) w2
theorem Mid2.on {w w2 w3 : World} {o : Obj} (h : Mid2 w o w2) (hb : Below w2.heap.size w2 w3) : Mid2 w o w3 := h.trans (hb.mono h.size)
theorem Mid2.first (w : World) (o : Obj) : Mid2 w o ((w.alloc o).alloc (.cells z4 34)) := Below.refl _ _
theorem Mid2.obj {w w2 : World} {o : Obj} (h : Mid2 w o w2) : w2.heap[w.heap.size]? = some o := row_next1 h
theorem Mid2.old {w w2 : World} {o : Obj} (h : Mid2 w o w2) {a : Addr} {v : Value} (ha : a.block < w.heap.size) (hc : w.cell? a = some v) : w2.cell? a = some v := cell_later (below_next2 h) ha hc
theorem Mid2.lay {w w4 : World} {o : Obj} (h : Mid2 w o w4) {x : Wn} {cs : Array Value} (hcs : Hid (wnC x = cs)) : ∃ w5, (storeCells ⟨w.heap.size + 1, 0, none⟩ cs.toList 0).run Try.prog w4 = .ok () w5 ∧ w5.heap[w.heap.size]? = some o ∧ Hid (w5.heap[w.heap.size + 1]? = some (.cells cs 34 (0, 0)) ∧ Below w.heap.size w w5) := by
  have hr := row_next2 h
  have hb := below_next2 h
  rw [← hcs.out]
  exact ⟨w4.setRow (w.heap.size + 1) (wnC x), store_wn hr rfl rfl (wnC_one x), by rw [setRow_other _ _ _ _ (by omega)]; exact h.obj, setRow_heap _ _ _ _ _ _ hr, below_row hb _ (by omega) _⟩
set_option maxRecDepth 10000 in
set_option maxHeartbeats 2000000 in
theorem rputs_any (w : World) (b m k : Int) (va vl : Value) (A L : List Int) (x : Lk) (ha : Nl w va A) (hl : Nl w vl L) (hA : A.length = 2) (hb : 0 ≤ b ∧ b ≤ 1024) (hd : -1 ≤ x.found ∧ x.found ≤ 15) (hf : -1 ≤ x.free ∧ x.free ≤ 15) :
    Calls Try.prog 45 #[.int .i64 b, .int .i64 m, va, .agg (lkC x), vl, .int .i64 k] w fun e w' => e = .returned (.agg (wnC (putsV b m A x L k))) ∧ Below w.heap.size w w' := by
  have HE : Hid (∀ (w : World) v c, Calls Try.prog 43 #[.int .i64 v, .int .i64 c] w (Tells w (endW v c))) := fun w v c => (rend_any w v c).mono tells_of
  have HR : Hid (∀ (w : World) c, Calls Try.prog 42 #[.int .i64 c] w (Tells w (readW c))) := fun w c => (rread_any w c).mono tells_of
  have HP : Hid (∀ (w : World) c v, Calls Try.prog 46 #[.int .i64 c, .int .i64 v] w (Tells w (putW c v))) := fun w c v => (rput_any w c v).mono tells_of
  obtain ⟨y, hy⟩ : ∃ y, putsV b m A x L k = y := ⟨_, rfl⟩
  rw [hy]
  suffices hs : Calls Try.prog 45 #[.int .i64 b, .int .i64 m, va, .agg (lkC x), vl, .int .i64 k] w (Tells w y) from hs.mono of_tells
  unfold putsV at hy
  obtain ⟨a, cap, rfl, hlen, hc1, hc2, hw, hla⟩ := ha
  obtain ⟨la, lcap, rfl⟩ := nl_slice hl
  obtain ⟨_, hll, hlc⟩ := nl_cells hl
  obtain ⟨xa, rfl, hxa, hcell⟩ := hla.resolve_left (by omega)
  have a0 := hcell 0 (by omega)
  have a1 := hcell 1 (by omega)
  rw [add_zero'] at a0
  rw [add_pos' _ _ (by decide)] at a1
  rw [hA]
  generalize nth A 0 = y0 at *
  generalize nth A 1 = y1 at *
  obtain ⟨xf, xr, xn, xo, xc⟩ := x
  simp only at hd hf hy
  unfold lkC
  simp only
  obtain ⟨u0, u1, u2, u3, u4⟩ := at_facts hb hd
  obtain ⟨v0, v1, v2, v3, v4⟩ := at_facts hb hf
  have HLC : Hid (0 < L.length → ∃ x, la = some x ∧ x.block < w.heap.size ∧ w.cell? x = some (.int .i64 (nth L 0))) := fun h => by
    obtain ⟨x, h1, h2, h3⟩ := hlc 0 h
    rw [add_zero'] at h3
    exact ⟨x, h1, h2, h3⟩
  have HXA : Hid (xa.block < w.heap.size) := hxa
  clear hcell hc1 hc2 hlen hw hla hl hlc
  have HM0 : Hid (Mid2 w (.cells #[.int .i64 xf, .int .i64 xr, .int .i64 (xn : Int), .bool xo, .int .i64 xc] 70) ((w.alloc (.cells #[.int .i64 xf, .int .i64 xr, .int .i64 (xn : Int), .bool xo, .int .i64 xc] 70)).alloc (.cells z4 34))) := Mid2.first _ _
  by_cases h0 : 0 ≤ xf
  · rw [if_pos h0] at hy
    have d0 : decide (0 ≤ xf) = true := by simpa using h0
    by_cases hk : k = 0
    · subst hk
      rw [if_pos rfl] at hy
      have HD : Hid (putW (b + 3 + 3 * xf) y1 = y) := hy
      have HA1 : Hid (w.cell? ⟨xa.block, xa.off + 1, none⟩ = some (.int .i64 y1)) := a1
      have i0 : IntKind.i64.wrap (3 * xf) = 3 * xf := by have h0 := u0; unfold wrap64 at h0; rw [IntKind.wrap_i64]; exact h0
      have i1 : IntKind.i64.wrap (b + 3) = b + 3 := by have h0 := u1.1; unfold wrap64 at h0; rw [IntKind.wrap_i64]; exact h0
      have i2 : IntKind.i64.wrap (b + 3 + 3 * xf) = b + 3 + 3 * xf := by have h0 := u1.2; unfold wrap64 at h0; rw [IntKind.wrap_i64]; exact h0
      clear hy h0 hb hd hf v0 v1 v2 v3 v4 HLC u2 u3 u4
      go_enter Try.func45, Try.ntmps45
      go_wp2_with fail
      obtain ⟨w2, hw2⟩ : ∃ w2, w2 = (w.alloc (.cells #[.int .i64 xf, .int .i64 xr, .int .i64 (xn : Int), .bool xo, .int .i64 xc] 70)).alloc (.cells z4 34) := ⟨_, rfl⟩
      have HM2 : Hid (Mid2 w (.cells #[.int .i64 xf, .int .i64 xr, .int .i64 (xn : Int), .bool xo, .int .i64 xc] 70) w2) := by rw [hw2]; exact HM0
      rw [← hw2]
      have e0 : w2.cell? ⟨w.heap.size, 0, none⟩ = some (.int .i64 xf) := by rw [cell_at HM2.out.obj]; rfl
      have e1 : w2.cell? ⟨xa.block, xa.off + 1, none⟩ = some (.int .i64 y1) := HM2.out.old (a := ⟨xa.block, xa.off + 1, none⟩) HXA.out HA1.out
      have hx2 : w.heap.size < w2.heap.size := heap_lt HM2.out.obj
      clear hw2 a0 a1 HM0
      go_region_held3 (fun w' => w'.cell? ⟨w.heap.size, 0, none⟩ = some (.int .i64 xf) ∧ w'.cell? ⟨xa.block, xa.off + 1, none⟩ = some (.int .i64 y1)) (first | go_keep | exact hS | exact hS5) (first
        | (go_at_call 46; refine (HP.out _ _ _).mono ?_; rintro e w4 ⟨cs, hcs, hz, rfl, hb4⟩; have hM4 : Mid2 w (.cells #[.int .i64 xf, .int .i64 xr, .int .i64 (xn : Int), .bool xo, .int .i64 xc] 70) w4 := HM2.out.on (below_then (bl_drew1 _) hb4); have hS : w4.cell? ⟨w.heap.size, 0, none⟩ = some (.int .i64 xf) ∧ w4.cell? ⟨xa.block, xa.off + 1, none⟩ = some (.int .i64 y1) := ⟨by rw [cell_at hM4.obj]; rfl, hM4.old (a := ⟨xa.block, xa.off + 1, none⟩) HXA.out HA1.out⟩; obtain ⟨w5, hs5, ho5, hr5⟩ := hM4.lay hcs; have hS5 : w5.cell? ⟨w.heap.size, 0, none⟩ = some (.int .i64 xf) ∧ w5.cell? ⟨xa.block, xa.off + 1, none⟩ = some (.int .i64 y1) := ⟨by rw [cell_at ho5]; rfl, cell_later (a := ⟨xa.block, xa.off + 1, none⟩) hr5.out.2 HXA.out HA1.out⟩))
      go_wp2_with fail
      exact ret_wn rfl rfl hr5.out.1 hz rfl ⟨cs, by rw [Hid, ← HD.out]; exact hcs, hz, rfl, hr5.out.2⟩
    · rw [if_neg hk] at hy
      have dk : (k == 0) = false := by simpa using hk
      have HD : Hid (endW 0 0 = y) := hy
      clear hy h0 hb hd hf HLC hk u0 u1 u2 u3 u4 v0 v1 v2 v3 v4
      go_enter Try.func45, Try.ntmps45
      go_wp2_with fail
      refine (HE.out _ _ _).mono ?_
      rintro e w4 ⟨cs, hcs, hz, rfl, hb4⟩
      obtain ⟨w5, hs5, ho5, hr5⟩ := (HM0.out.on hb4).lay hcs
      clear hb4 ho5
      go_wp2_with fail
      exact ret_wn rfl rfl hr5.out.1 hz rfl ⟨cs, by rw [Hid, ← HD.out]; exact hcs, hz, rfl, hr5.out.2⟩
  · rw [if_neg h0] at hy
    have d0 : decide (0 ≤ xf) = false := by simpa using h0
    by_cases hL : L.length = 0
    · rw [if_pos hL] at hy
      have HD : Hid (readW b = y) := hy
      rw [hL]
      clear hy h0 hb hd hf HLC u0 u1 u2 u3 u4 v0 v1 v2 v3 v4 hL
      go_enter Try.func45, Try.ntmps45
      go_wp2_with fail
      refine (HR.out _ _).mono ?_
      rintro e w4 ⟨cs, hcs, hz, rfl, hb4⟩
      obtain ⟨w5, hs5, ho5, hr5⟩ := (HM0.out.on hb4).lay hcs
      clear hb4 ho5
      go_wp2_with fail
      exact ret_wn rfl rfl hr5.out.1 hz rfl ⟨cs, by rw [Hid, ← HD.out]; exact hcs, hz, rfl, hr5.out.2⟩
    · rw [if_neg hL] at hy
      have dL : ((L.length : Int) == 0) = false := by simpa using hL
      have hL0 : 0 < L.length := Nat.pos_of_ne_zero hL
      obtain ⟨xl, rfl, hxl, l0⟩ := HLC.out hL0
      generalize nth L 0 = z at *
      clear HLC u0 u1 u2 u3 u4 hL h0 hb hd
      by_cases hz0 : m ≤ z
      · rw [if_pos (Or.inl hz0)] at hy
        have HD : Hid (endW 0 2 = y) := hy
        have dz : decide (m ≤ z) = true := by simpa using hz0
        clear hy hf v0 v1 v2 v3 v4 hz0
        go_enter Try.func45, Try.ntmps45
        go_wp2_with fail
        refine (HE.out _ _ _).mono ?_
        rintro e w4 ⟨cs, hcs, hz, rfl, hb4⟩
        obtain ⟨w5, hs5, ho5, hr5⟩ := (HM0.out.on hb4).lay hcs
        clear hb4 ho5
        go_wp2_with fail
        exact ret_wn rfl rfl hr5.out.1 hz rfl ⟨cs, by rw [Hid, ← HD.out]; exact hcs, hz, rfl, hr5.out.2⟩
      · have dz : decide (m ≤ z) = false := by simpa using hz0
        by_cases hr0 : xr < 0
        · rw [if_pos (Or.inr hr0)] at hy
          have HD : Hid (endW 0 2 = y) := hy
          have dr : decide (xr < 0) = true := by simpa using hr0
          clear hy hf v0 v1 v2 v3 v4 hz0 hr0
          go_enter Try.func45, Try.ntmps45
          go_wp2_with fail
          refine (HE.out _ _ _).mono ?_
          rintro e w4 ⟨cs, hcs, hz, rfl, hb4⟩
          obtain ⟨w5, hs5, ho5, hr5⟩ := (HM0.out.on hb4).lay hcs
          clear hb4 ho5
          go_wp2_with fail
          exact ret_wn rfl rfl hr5.out.1 hz rfl ⟨cs, by rw [Hid, ← HD.out]; exact hcs, hz, rfl, hr5.out.2⟩
        · rw [if_neg (fun e => e.elim hz0 hr0)] at hy
          have dr : decide (xr < 0) = false := by simpa using hr0
          clear hz0 hr0 hf
          by_cases k0 : k = 0
          · subst k0
            rw [if_pos rfl] at hy
            have HD : Hid (putW (b + 1 + 3 * xr) 1 = y) := hy
            clear hy
            go_enter Try.func45, Try.ntmps45
            go_wp2_with fail
            refine (HP.out _ _ _).mono ?_
            rintro e w4 ⟨cs, hcs, hz, rfl, hb4⟩
            obtain ⟨w5, hs5, ho5, hr5⟩ := (HM0.out.on hb4).lay hcs
            clear hb4 ho5
            go_wp2_with fail
            exact ret_wn rfl rfl hr5.out.1 hz rfl ⟨cs, by rw [Hid, ← HD.out]; exact hcs, hz, rfl, hr5.out.2⟩
          · rw [if_neg k0] at hy
            have b0 : (k == 0) = false := by simpa using k0
            by_cases k1 : k = 1
            · subst k1
              rw [if_pos rfl] at hy
              have HD : Hid (putW (b + 1 + 3 * xr + 1) y0 = y) := hy
              clear hy k0 b0
              go_enter Try.func45, Try.ntmps45
              go_wp2_with fail
              refine (HP.out _ _ _).mono ?_
              rintro e w4 ⟨cs, hcs, hz, rfl, hb4⟩
              obtain ⟨w5, hs5, ho5, hr5⟩ := (HM0.out.on hb4).lay hcs
              clear hb4 ho5
              go_wp2_with fail
              exact ret_wn rfl rfl hr5.out.1 hz rfl ⟨cs, by rw [Hid, ← HD.out]; exact hcs, hz, rfl, hr5.out.2⟩
            · rw [if_neg k1] at hy
              have b1 : (k == 1) = false := by simpa using k1
              by_cases k2 : k = 2
              · subst k2
                rw [if_pos rfl] at hy
                have HD : Hid (putW (b + 1 + 3 * xr + 2) y1 = y) := hy
                clear hy k0 b0 k1 b1
                go_enter Try.func45, Try.ntmps45
                go_wp2_with fail
                refine (HP.out _ _ _).mono ?_
                rintro e w4 ⟨cs, hcs, hz, rfl, hb4⟩
                obtain ⟨w5, hs5, ho5, hr5⟩ := (HM0.out.on hb4).lay hcs
                clear hb4 ho5
                go_wp2_with fail
                exact ret_wn rfl rfl hr5.out.1 hz rfl ⟨cs, by rw [Hid, ← HD.out]; exact hcs, hz, rfl, hr5.out.2⟩
              · rw [if_neg k2] at hy
                have b2 : (k == 2) = false := by simpa using k2
                by_cases k3 : k = 3
                · subst k3
                  rw [if_pos rfl] at hy
                  have HD : Hid (putW b (wrap64 (z + 1)) = y) := hy
                  clear hy k0 b0 k1 b1 k2 b2
                  go_enter Try.func45, Try.ntmps45
                  go_wp2_with fail
                  refine (HP.out _ _ _).mono ?_
                  rintro e w4 ⟨cs, hcs, hz, rfl, hb4⟩
                  obtain ⟨w5, hs5, ho5, hr5⟩ := (HM0.out.on hb4).lay hcs
                  clear hb4 ho5
                  go_wp2_with fail
                  exact ret_wn rfl rfl hr5.out.1 hz rfl ⟨cs, by rw [Hid, ← HD.out]; exact hcs, hz, rfl, hr5.out.2⟩
                · rw [if_neg k3] at hy
                  have b3 : (k == 3) = false := by simpa using k3
                  have HD : Hid (endW 0 0 = y) := hy
                  clear hy k0 k1 k2 k3
                  go_enter Try.func45, Try.ntmps45
                  go_wp2_with fail
                  refine (HE.out _ _ _).mono ?_
                  rintro e w4 ⟨cs, hcs, hz, rfl, hb4⟩
                  obtain ⟨w5, hs5, ho5, hr5⟩ := (HM0.out.on hb4).lay hcs
                  clear hb4 ho5
                  go_wp2_with fail
                  exact ret_wn rfl rfl hr5.out.1 hz rfl ⟨cs, by rw [Hid, ← HD.out]; exact hcs, hz, rfl, hr5.out.2⟩
theorem fg_ok {key n : Int} (hn : n ≤ 16) : ∀ (c : Nat) (i free : Int) (r : Nat) (T : List Int), (c = 0 ∨ (0 ≤ i ∧ i < n)) → (-1 ≤ free ∧ free ≤ 15) →
    (-1 ≤ (findG key n c i free r T).found ∧ (findG key n c i free r T).found ≤ 15) ∧ (-1 ≤ (findG key n c i free r T).free ∧ (findG key n c i free r T).free ≤ 15) ∧ (0 ≤ (findG key n c i free r T).cell ∧ (findG key n c i free r T).cell ≤ 100) ∧ (findG key n c i free r T).reads ≤ r + T.length
  | 0, i, free, r, T, _, hf => by simp only [findG]; omega
  | c + 1, i, free, r, [], hi, hf => by simp only [findG]; have := hi.resolve_left (by omega); simp; omega
  | c + 1, i, free, r, st :: R, hi, hf => by
    have hi' := hi.resolve_left (by omega)
    have hx := nxt_lt hi'
    have hf' : -1 ≤ (if free < 0 then i else free) ∧ (if free < 0 then i else free) ≤ 15 := by split <;> omega
    simp only [findG]
    split
    · cases R with
      | nil => simp; omega
      | cons k R' =>
        simp only
        split
        · simp; omega
        · have := fg_ok (key := key) hn c (nxtV n i) free (r + 2) R' (Or.inr hx) hf
          simp only [List.length_cons]
          omega
    · split
      · simp; omega
      · have := fg_ok (key := key) hn c (nxtV n i) (if free < 0 then i else free) (r + 1) R (Or.inr hx) hf'
        simp only [List.length_cons]
        omega
theorem find_ok {key n : Int} (hn : 0 ≤ n ∧ n ≤ 16) (R : List Int) : (-1 ≤ (findV key n R).found ∧ (findV key n R).found ≤ 15) ∧ (-1 ≤ (findV key n R).free ∧ (findV key n R).free ≤ 15) ∧ (0 ≤ (findV key n R).cell ∧ (findV key n R).cell ≤ 100) ∧ (findV key n R).reads ≤ R.length := by
  have h : n.toNat = 0 ∨ (0 ≤ firV key n ∧ firV key n < n) := by
    by_cases h0 : n = 0
    · left; omega
    · right; exact fir_lt (by omega)
  have := fg_ok (key := key) hn.2 n.toNat (firV key n) (-1) 0 R h (by omega)
  simp only [Nat.zero_add] at this
  exact this
theorem nl_drop {w : World} {a : Option Addr} {cap r : Nat} {R : List Int} (h : Nl w (.slice a R.length cap) R) (hr : r ≤ R.length) : Nl w (.slice (if cap = r then a else a.map (·.add (r * 1))) (R.length - r) (cap - r)) (R.drop r) := by
  obtain ⟨a', cap', hv, hm, hc1, ⟨hc2, hc3⟩, hs, hl⟩ := h
  injection hv with e1 _ e3
  subst e1 e3
  refine ⟨_, _, by rw [List.length_drop], by rw [List.length_drop]; omega, by rw [List.length_drop]; omega, ⟨by omega, fun e => ?_⟩, fun x hx => hs x (List.mem_of_mem_drop hx), ?_⟩
  · by_cases h1 : cap = r
    · omega
    · rw [if_neg h1] at e
      have : a = none := by cases a; rfl; cases e
      have := hc3 this
      omega
  · by_cases h0 : R.length - r = 0
    · exact Or.inl (by rw [List.length_drop]; exact h0)
    · right
      obtain ⟨x, hx, hxb, hc⟩ := hl.resolve_left (by omega)
      subst hx
      refine ⟨x.add r, by rw [if_neg (by omega), Nat.mul_one]; rfl, by rw [add_block]; exact hxb, fun i hi => ?_⟩
      rw [List.length_drop] at hi
      have e1 : nth (R.drop r) i = nth R (r + i) := by simp [nth]
      rw [e1, ← hc (r + i) (by omega)]
      congr 1
      by_cases hr0 : r = 0
      · subst hr0; rw [add_zero', Nat.zero_add]
      · by_cases hi0 : i = 0
        · subst hi0; rw [add_zero', Nat.add_zero]
        · rw [add_pos' _ _ (by omega), add_pos' _ _ (by omega), add_pos' _ _ (by omega)]
          simp [Nat.add_assoc]
set_option maxRecDepth 10000 in
set_option maxHeartbeats 2000000 in
theorem rnext_any (w : World) (b m c k : Int) (va vr : Value) (A R : List Int) (ha : Nl w va A) (hr : Nl w vr R) (h : rightV b m c A.length = true) :
    Calls Try.prog 27 #[.int .i64 b, .int .i64 m, .int .i64 c, va, vr, .int .i64 k] w fun e w' => e = .returned (.agg (wnC (docV b m c A R k))) ∧ Below w.heap.size w w' := by
  obtain ⟨hm1, hm2, hb1, hb2, hcc⟩ := call_of h
  have HE : Hid (∀ (w : World) v c, Calls Try.prog 43 #[.int .i64 v, .int .i64 c] w (Tells w (endW v c))) := fun w v c => (rend_any w v c).mono tells_of
  have HR : Hid (∀ (w : World) c, Calls Try.prog 42 #[.int .i64 c] w (Tells w (readW c))) := fun w c => (rread_any w c).mono tells_of
  have HP : Hid (∀ (w : World) c v, Calls Try.prog 46 #[.int .i64 c, .int .i64 v] w (Tells w (putW c v))) := fun w c v => (rput_any w c v).mono tells_of
  obtain ⟨y, hy⟩ : ∃ y, docV b m c A R k = y := ⟨_, rfl⟩
  rw [hy]
  suffices hs : Calls Try.prog 27 #[.int .i64 b, .int .i64 m, .int .i64 c, va, vr, .int .i64 k] w (Tells w y) from hs.mono of_tells
  unfold docV at hy
  by_cases h5 : c = 5
  · rw [if_pos h5] at hy
    subst h5
    obtain ⟨ra, rcap, rfl⟩ := nl_slice hr
    obtain ⟨_, hll, hlc⟩ := nl_cells hr
    obtain ⟨aa, acap, rfl⟩ := nl_slice ha
    have HM0 : Hid (Mid w (w.alloc (.cells z4 34))) := Mid.first w
    by_cases hL : R.length = 0
    · rw [if_pos hL] at hy
      have HD : Hid (readW b = y) := hy
      rw [hL]
      clear hy hL hm1 hm2 hb1 hb2 hcc h hr ha hlc hll
      go_enter Try.func27, Try.ntmps27
      go_wp2_with fail
      refine (HR.out _ _).mono ?_
      rintro e w4 ⟨cs, hcs, hz, rfl, hb4⟩
      obtain ⟨w5, hs5, hr5⟩ := (HM0.out.on hb4).lay hcs
      clear hb4
      go_wp2_with fail
      exact ret_wn rfl rfl hr5.out.1 hz rfl ⟨cs, by rw [Hid, ← HD.out]; exact hcs, hz, rfl, hr5.out.2⟩
    · rw [if_neg hL] at hy
      have HD : Hid (endW (nth R 0) 0 = y) := hy
      have dL : ((R.length : Int) == 0) = false := by simpa using hL
      have hL0 : 0 < R.length := Nat.pos_of_ne_zero hL
      obtain ⟨xl, rfl, hxl, l0⟩ := hlc 0 hL0
      rw [add_zero'] at l0
      generalize nth R 0 = z at *
      clear hy hL hm1 hm2 hb1 hb2 hcc h hr ha hlc hll
      go_enter Try.func27, Try.ntmps27
      go_wp2_with fail
      refine (HE.out _ _ _).mono ?_
      rintro e w4 ⟨cs, hcs, hz, rfl, hb4⟩
      obtain ⟨w5, hs5, hr5⟩ := (HM0.out.on hb4).lay hcs
      clear hb4
      go_wp2_with fail
      exact ret_wn rfl rfl hr5.out.1 hz rfl ⟨cs, by rw [Hid, ← HD.out]; exact hcs, hz, rfl, hr5.out.2⟩
  · rw [if_neg h5] at hy
    have HFI : Hid (∀ w' : World, Below w.heap.size w w' → Calls Try.prog 44 #[.int .i64 (nth A 0), .int .i64 m, vr] w' fun e w'' => e = .returned (.agg (lkC (findV (nth A 0) m R))) ∧ Below w'.heap.size w' w'') := fun w' hb => rfind_any w' _ m vr R (hr.later hb (Nat.le_refl _)) ⟨hm1, hm2⟩
    have HOK := find_ok (key := nth A 0) ⟨hm1, hm2⟩ R
    have HNR : Hid (∀ w' : World, Below w.heap.size w w' → Nl w' vr R) := fun w' hb => hr.later hb (Nat.le_refl _)
    have HNA : Hid (∀ w' : World, Below w.heap.size w w' → Nl w' va A) := fun w' hb => ha.later hb (Nat.le_refl _)
    obtain ⟨ra, rcap, rfl⟩ := nl_slice hr
    obtain ⟨aa, acap, rfl⟩ := nl_slice ha
    obtain ⟨_, hla, hca⟩ := nl_cells ha
    have hA0 : 0 < A.length := by omega
    obtain ⟨xa, rfl, hxa, a0⟩ := hca 0 hA0
    rw [add_zero'] at a0
    have HRO : Hid (∀ vl L w', Nl w' vl L → Below w.heap.size w w' → A.length = 2 → ∀ x : Lk, -1 ≤ x.found ∧ x.found ≤ 15 → -1 ≤ x.free ∧ x.free ≤ 15 → Calls Try.prog 45 #[.int .i64 b, .int .i64 m, .slice (some xa) A.length acap, .agg (lkC x), vl, .int .i64 k] w' (Tells w' (putsV b m A x L k))) := fun vl L w' hl hb h2 x hd hf => (rputs_any w' b m k _ vl A L x (HNA.out w' hb) hl h2 ⟨hb1, hb2⟩ hd hf).mono tells_of
    generalize findV (nth A 0) m R = F at *
    obtain ⟨xf, xr, xn, xo, xc⟩ := F
    obtain ⟨o1, o2, o3, o4⟩ := HOK
    simp only at o1 o2 o3 o4 hy
    have HLK : Hid (lkC ⟨xf, xr, xn, xo, xc⟩ = #[.int .i64 xf, .int .i64 xr, .int .i64 (xn : Int), .bool xo, .int .i64 xc]) := rfl
    rw [HLK.out] at HFI
    have HB : Hid (0 ≤ b ∧ b ≤ 1024) := ⟨hb1, hb2⟩
    have HM0 : Hid (Mid w (w.alloc (.cells z4 34))) := Mid.first w
    clear hca hla h hr ha hm1 hm2 hb1 hb2
    cases xo with
    | false =>
      rw [if_pos rfl] at hy
      have HD : Hid (readW (b + xc) = y) := hy
      have hw : wrap64 (b + xc) = b + xc := by have := HB.out; unfold wrap64; omega
      have d5 : (c == 5) = false := by simpa using h5
      clear hy o1 o2 o3 o4 HNR HNA HRO hcc h5
      go_enter Try.func27, Try.ntmps27
      go_wp2_with fail
      refine (HFI.out _ (below_a1 _ _)).mono ?_
      rintro e w1 ⟨rfl, hb1⟩
      have HM1 : Hid (∀ o, Mid w (w1.alloc o)) := fun o => (HM0.out.on hb1).on (below_a1 _ _)
      clear hb1 HFI a0
      go_wp2_with fail
      refine (HR.out _ _).mono ?_
      rintro e w4 ⟨cs, hcs, hz, rfl, hb4⟩
      obtain ⟨w5, hs5, hr5⟩ := ((HM1.out _).on hb4).lay hcs
      clear hb4
      go_wp2_with fail
      exact ret_wn rfl rfl hr5.out.1 hz rfl ⟨cs, by rw [Hid, ← HD.out]; exact hcs, hz, rfl, hr5.out.2⟩
    | true =>
      rw [if_neg (by decide)] at hy
      have HL : Hid (∀ w' : World, Below w.heap.size w w' → Nl w' (.slice (if rcap = xn then ra else ra.map (·.add (xn * 1))) (R.length - xn) (rcap - xn)) (R.drop xn)) := fun w' hb => nl_drop (HNR.out w' hb) o4
      have d5 : (c == 5) = false := by simpa using h5
      have HRC : Hid (R.length ≤ rcap ∧ (ra = none → rcap = 0)) := by
        obtain ⟨_, _, e, _, h1, h2, _⟩ := HNR.out w (Below.refl _ _)
        injection e with e1 _ e2
        subst e1 e2
        exact ⟨h1, h2.2⟩
      by_cases hrc : rcap = xn
      · have hxl : R.length = xn := by have := HRC.out.1; omega
        have hdr : R.drop xn = [] := drop_end hxl.symm
        rw [if_pos hrc] at HL
        subst hrc
        have HZ : Hid (R.length - rcap = 0 ∧ rcap - rcap = 0) := by have : R.length - rcap = 0 ∧ rcap - rcap = 0 := (by omega); exact this
        rw [HZ.out.1, HZ.out.2] at HL
        have hlz : (R.drop rcap).length = 0 := by rw [hdr]; rfl
        rw [hxl] at HFI ⊢
        clear HRC HZ hxl o4 hdr
        rcases hcc with ⟨rfl, hn⟩ | ⟨rfl, hn⟩ | ⟨rfl, hn⟩ | ⟨rfl, hn⟩
        · have HD : Hid (putsV b m A ⟨xf, xr, rcap, true, xc⟩ (R.drop rcap) k = y) := by unfold restV at hy; rw [if_pos rfl] at hy; exact hy
          rw [hn] at HRO ⊢
          clear h5 d5 hy
          go_enter Try.func27, Try.ntmps27
          go_wp2_with fail
          refine (HFI.out _ (below_a1 _ _)).mono ?_
          rintro e w1 ⟨rfl, hb1⟩
          have HM1 : Hid (∀ o, Mid w (w1.alloc o)) := fun o => (HM0.out.on hb1).on (below_a1 _ _)
          clear hb1 HFI a0 HM0
          go_wp2_with fail
          refine (HRO.out _ _ _ (HL.out _ (below_next (HM1.out _))) (below_next (HM1.out _)) trivial ⟨xf, xr, rcap, true, xc⟩ o1 o2).mono ?_
          rintro e w4 ⟨cs, hcs, hz, rfl, hb4⟩
          obtain ⟨w5, hs5, hr5⟩ := ((HM1.out _).on hb4).lay hcs
          clear hb4
          go_wp2_with fail
          exact ret_wn rfl rfl hr5.out.1 hz rfl ⟨cs, by rw [Hid, ← HD.out]; exact hcs, hz, rfl, hr5.out.2⟩
        · unfold restV at hy
          rw [if_neg (by decide)] at hy
          simp only at hy
          by_cases hf0 : xf < 0
          · rw [if_pos hf0] at hy
            have HD : Hid (endW 0 1 = y) := hy
            have df : decide (xf < 0) = true := by simpa using hf0
            clear hy hf0 o1 o2 o3 HRO HL HNR HNA h5
            go_enter Try.func27, Try.ntmps27
            go_wp2_with fail
            refine (HFI.out _ (below_a1 _ _)).mono ?_
            rintro e w1 ⟨rfl, hb1⟩
            have HM1 : Hid (∀ o, Mid w (w1.alloc o)) := fun o => (HM0.out.on hb1).on (below_a1 _ _)
            clear hb1 HFI a0 HM0
            go_wp2_with fail
            refine (HE.out _ _ _).mono ?_
            rintro e w4 ⟨cs, hcs, hz, rfl, hb4⟩
            obtain ⟨w5, hs5, hr5⟩ := ((HM1.out _).on hb4).lay hcs
            clear hb4
            go_wp2_with fail
            exact ret_wn rfl rfl hr5.out.1 hz rfl ⟨cs, by rw [Hid, ← HD.out]; exact hcs, hz, rfl, hr5.out.2⟩
          · rw [if_neg hf0] at hy
            have df : decide (xf < 0) = false := by simpa using hf0
            obtain ⟨u0, u1, u2, _⟩ := at_facts HB.out o1
            first | rw [if_pos rfl] at hy | rw [if_pos trivial] at hy
            rw [if_pos hlz] at hy
            have HD : Hid (readW (b + 3 + 3 * xf) = y) := hy
            clear hy hf0 o1 o2 o3 HRO HL HNR HNA h5 u2
            go_enter Try.func27, Try.ntmps27
            go_wp2_with fail
            refine (HFI.out _ (below_a1 _ _)).mono ?_
            rintro e w1 ⟨rfl, hb1⟩
            have HM1 : Hid (∀ o, Mid w (w1.alloc o)) := fun o => (HM0.out.on hb1).on (below_a1 _ _)
            clear hb1 HFI a0 HM0
            go_wp2_with fail
            refine (HR.out _ _).mono ?_
            rintro e w4 ⟨cs, hcs, hz, rfl, hb4⟩
            obtain ⟨w5, hs5, hr5⟩ := ((HM1.out _).on hb4).lay hcs
            clear hb4
            go_wp2_with fail
            exact ret_wn rfl rfl hr5.out.1 hz rfl ⟨cs, by rw [Hid, ← HD.out]; exact hcs, hz, rfl, hr5.out.2⟩
        · unfold restV at hy
          rw [if_neg (by decide)] at hy
          simp only at hy
          by_cases hf0 : xf < 0
          · rw [if_pos hf0] at hy
            have HD : Hid (endW 0 1 = y) := hy
            have df : decide (xf < 0) = true := by simpa using hf0
            clear hy hf0 o1 o2 o3 HRO HL HNR HNA h5
            go_enter Try.func27, Try.ntmps27
            go_wp2_with fail
            refine (HFI.out _ (below_a1 _ _)).mono ?_
            rintro e w1 ⟨rfl, hb1⟩
            have HM1 : Hid (∀ o, Mid w (w1.alloc o)) := fun o => (HM0.out.on hb1).on (below_a1 _ _)
            clear hb1 HFI a0 HM0
            go_wp2_with fail
            refine (HE.out _ _ _).mono ?_
            rintro e w4 ⟨cs, hcs, hz, rfl, hb4⟩
            obtain ⟨w5, hs5, hr5⟩ := ((HM1.out _).on hb4).lay hcs
            clear hb4
            go_wp2_with fail
            exact ret_wn rfl rfl hr5.out.1 hz rfl ⟨cs, by rw [Hid, ← HD.out]; exact hcs, hz, rfl, hr5.out.2⟩
          · rw [if_neg hf0] at hy
            have df : decide (xf < 0) = false := by simpa using hf0
            obtain ⟨u0, u1, u2, _⟩ := at_facts HB.out o1
            rw [if_neg (by decide)] at hy
            by_cases hk : k = 0
            · subst hk
              rw [if_pos rfl] at hy
              have HD : Hid (putW (b + 1 + 3 * xf) 2 = y) := hy
              clear hy hf0 o1 o2 o3 HRO HL HNR HNA h5 u1
              go_enter Try.func27, Try.ntmps27
              go_wp2_with fail
              refine (HFI.out _ (below_a1 _ _)).mono ?_
              rintro e w1 ⟨rfl, hb1⟩
              have HM1 : Hid (∀ o, Mid w (w1.alloc o)) := fun o => (HM0.out.on hb1).on (below_a1 _ _)
              clear hb1 HFI a0 HM0
              go_wp2_with fail
              refine (HP.out _ _ _).mono ?_
              rintro e w4 ⟨cs, hcs, hz, rfl, hb4⟩
              obtain ⟨w5, hs5, hr5⟩ := ((HM1.out _).on hb4).lay hcs
              clear hb4
              go_wp2_with fail
              exact ret_wn rfl rfl hr5.out.1 hz rfl ⟨cs, by rw [Hid, ← HD.out]; exact hcs, hz, rfl, hr5.out.2⟩
            · rw [if_neg hk] at hy
              have dk : (k == 0) = false := by simpa using hk
              rw [if_pos hlz] at hy
              have HD : Hid (readW b = y) := hy
              clear hy hf0 o1 o2 o3 HRO HL HNR HNA h5 u0 u1 u2 hk
              go_enter Try.func27, Try.ntmps27
              go_wp2_with fail
              refine (HFI.out _ (below_a1 _ _)).mono ?_
              rintro e w1 ⟨rfl, hb1⟩
              have HM1 : Hid (∀ o, Mid w (w1.alloc o)) := fun o => (HM0.out.on hb1).on (below_a1 _ _)
              clear hb1 HFI a0 HM0
              go_wp2_with fail
              refine (HR.out _ _).mono ?_
              rintro e w4 ⟨cs, hcs, hz, rfl, hb4⟩
              obtain ⟨w5, hs5, hr5⟩ := ((HM1.out _).on hb4).lay hcs
              clear hb4
              go_wp2_with fail
              exact ret_wn rfl rfl hr5.out.1 hz rfl ⟨cs, by rw [Hid, ← HD.out]; exact hcs, hz, rfl, hr5.out.2⟩
        · exact absurd rfl h5
      · obtain ⟨xr0, rfl⟩ : ∃ x, ra = some x := by
          cases ra with
          | none => have := HRC.out.2 rfl; have := HRC.out.1; omega
          | some x => exact ⟨x, rfl⟩
        rw [if_neg hrc] at HL
        have HXL : Hid (∀ w' : World, Below w.heap.size w w' → Nl w' (.slice (some (xr0.add xn)) (R.length - xn) (rcap - xn)) (R.drop xn)) := fun w' hb => by have := HL.out w' hb; rw [Nat.mul_one] at this; exact this
        by_cases hzz : R.length - xn = 0
        · have hlz : (R.drop xn).length = 0 := by rw [List.length_drop]; exact hzz
          have dz : (((R.length - xn : Nat) : Int) == 0) = true := by rw [hzz]; rfl
          clear HL hzz HRC
          have HL := HXL
          clear HXL
          rcases hcc with ⟨rfl, hn⟩ | ⟨rfl, hn⟩ | ⟨rfl, hn⟩ | ⟨rfl, hn⟩
          · have HD : Hid (putsV b m A ⟨xf, xr, xn, true, xc⟩ (R.drop xn) k = y) := by unfold restV at hy; rw [if_pos rfl] at hy; exact hy
            rw [hn] at HRO ⊢
            clear h5 d5 hy
            go_enter Try.func27, Try.ntmps27
            go_wp2_with fail
            refine (HFI.out _ (below_a1 _ _)).mono ?_
            rintro e w1 ⟨rfl, hb1⟩
            have HM1 : Hid (∀ o, Mid w (w1.alloc o)) := fun o => (HM0.out.on hb1).on (below_a1 _ _)
            clear hb1 HFI a0 HM0
            go_wp2_with fail
            refine (HRO.out _ _ _ (HL.out _ (below_next (HM1.out _))) (below_next (HM1.out _)) trivial ⟨xf, xr, xn, true, xc⟩ o1 o2).mono ?_
            rintro e w4 ⟨cs, hcs, hz, rfl, hb4⟩
            obtain ⟨w5, hs5, hr5⟩ := ((HM1.out _).on hb4).lay hcs
            clear hb4
            go_wp2_with fail
            exact ret_wn rfl rfl hr5.out.1 hz rfl ⟨cs, by rw [Hid, ← HD.out]; exact hcs, hz, rfl, hr5.out.2⟩
          · unfold restV at hy
            rw [if_neg (by decide)] at hy
            simp only at hy
            by_cases hf0 : xf < 0
            · rw [if_pos hf0] at hy
              have HD : Hid (endW 0 1 = y) := hy
              have df : decide (xf < 0) = true := by simpa using hf0
              clear hy hf0 o1 o2 o3 HRO HL HNR HNA h5
              go_enter Try.func27, Try.ntmps27
              go_wp2_with fail
              refine (HFI.out _ (below_a1 _ _)).mono ?_
              rintro e w1 ⟨rfl, hb1⟩
              have HM1 : Hid (∀ o, Mid w (w1.alloc o)) := fun o => (HM0.out.on hb1).on (below_a1 _ _)
              clear hb1 HFI a0 HM0
              go_wp2_with fail
              refine (HE.out _ _ _).mono ?_
              rintro e w4 ⟨cs, hcs, hz, rfl, hb4⟩
              obtain ⟨w5, hs5, hr5⟩ := ((HM1.out _).on hb4).lay hcs
              clear hb4
              go_wp2_with fail
              exact ret_wn rfl rfl hr5.out.1 hz rfl ⟨cs, by rw [Hid, ← HD.out]; exact hcs, hz, rfl, hr5.out.2⟩
            · rw [if_neg hf0] at hy
              have df : decide (xf < 0) = false := by simpa using hf0
              obtain ⟨u0, u1, u2, _⟩ := at_facts HB.out o1
              first | rw [if_pos rfl] at hy | rw [if_pos trivial] at hy
              rw [if_pos hlz] at hy
              have HD : Hid (readW (b + 3 + 3 * xf) = y) := hy
              clear hy hf0 o1 o2 o3 HRO HL HNR HNA h5 u2
              go_enter Try.func27, Try.ntmps27
              go_wp2_with fail
              refine (HFI.out _ (below_a1 _ _)).mono ?_
              rintro e w1 ⟨rfl, hb1⟩
              have HM1 : Hid (∀ o, Mid w (w1.alloc o)) := fun o => (HM0.out.on hb1).on (below_a1 _ _)
              clear hb1 HFI a0 HM0
              go_wp2_with fail
              refine (HR.out _ _).mono ?_
              rintro e w4 ⟨cs, hcs, hz, rfl, hb4⟩
              obtain ⟨w5, hs5, hr5⟩ := ((HM1.out _).on hb4).lay hcs
              clear hb4
              go_wp2_with fail
              exact ret_wn rfl rfl hr5.out.1 hz rfl ⟨cs, by rw [Hid, ← HD.out]; exact hcs, hz, rfl, hr5.out.2⟩
          · unfold restV at hy
            rw [if_neg (by decide)] at hy
            simp only at hy
            by_cases hf0 : xf < 0
            · rw [if_pos hf0] at hy
              have HD : Hid (endW 0 1 = y) := hy
              have df : decide (xf < 0) = true := by simpa using hf0
              clear hy hf0 o1 o2 o3 HRO HL HNR HNA h5
              go_enter Try.func27, Try.ntmps27
              go_wp2_with fail
              refine (HFI.out _ (below_a1 _ _)).mono ?_
              rintro e w1 ⟨rfl, hb1⟩
              have HM1 : Hid (∀ o, Mid w (w1.alloc o)) := fun o => (HM0.out.on hb1).on (below_a1 _ _)
              clear hb1 HFI a0 HM0
              go_wp2_with fail
              refine (HE.out _ _ _).mono ?_
              rintro e w4 ⟨cs, hcs, hz, rfl, hb4⟩
              obtain ⟨w5, hs5, hr5⟩ := ((HM1.out _).on hb4).lay hcs
              clear hb4
              go_wp2_with fail
              exact ret_wn rfl rfl hr5.out.1 hz rfl ⟨cs, by rw [Hid, ← HD.out]; exact hcs, hz, rfl, hr5.out.2⟩
            · rw [if_neg hf0] at hy
              have df : decide (xf < 0) = false := by simpa using hf0
              obtain ⟨u0, u1, u2, _⟩ := at_facts HB.out o1
              rw [if_neg (by decide)] at hy
              by_cases hk : k = 0
              · subst hk
                rw [if_pos rfl] at hy
                have HD : Hid (putW (b + 1 + 3 * xf) 2 = y) := hy
                clear hy hf0 o1 o2 o3 HRO HL HNR HNA h5 u1
                go_enter Try.func27, Try.ntmps27
                go_wp2_with fail
                refine (HFI.out _ (below_a1 _ _)).mono ?_
                rintro e w1 ⟨rfl, hb1⟩
                have HM1 : Hid (∀ o, Mid w (w1.alloc o)) := fun o => (HM0.out.on hb1).on (below_a1 _ _)
                clear hb1 HFI a0 HM0
                go_wp2_with fail
                refine (HP.out _ _ _).mono ?_
                rintro e w4 ⟨cs, hcs, hz, rfl, hb4⟩
                obtain ⟨w5, hs5, hr5⟩ := ((HM1.out _).on hb4).lay hcs
                clear hb4
                go_wp2_with fail
                exact ret_wn rfl rfl hr5.out.1 hz rfl ⟨cs, by rw [Hid, ← HD.out]; exact hcs, hz, rfl, hr5.out.2⟩
              · rw [if_neg hk] at hy
                have dk : (k == 0) = false := by simpa using hk
                rw [if_pos hlz] at hy
                have HD : Hid (readW b = y) := hy
                clear hy hf0 o1 o2 o3 HRO HL HNR HNA h5 u0 u1 u2 hk
                go_enter Try.func27, Try.ntmps27
                go_wp2_with fail
                refine (HFI.out _ (below_a1 _ _)).mono ?_
                rintro e w1 ⟨rfl, hb1⟩
                have HM1 : Hid (∀ o, Mid w (w1.alloc o)) := fun o => (HM0.out.on hb1).on (below_a1 _ _)
                clear hb1 HFI a0 HM0
                go_wp2_with fail
                refine (HR.out _ _).mono ?_
                rintro e w4 ⟨cs, hcs, hz, rfl, hb4⟩
                obtain ⟨w5, hs5, hr5⟩ := ((HM1.out _).on hb4).lay hcs
                clear hb4
                go_wp2_with fail
                exact ret_wn rfl rfl hr5.out.1 hz rfl ⟨cs, by rw [Hid, ← HD.out]; exact hcs, hz, rfl, hr5.out.2⟩
          · exact absurd rfl h5
        · have hlz : ¬ (R.drop xn).length = 0 := by rw [List.length_drop]; exact hzz
          have dz : (((R.length - xn : Nat) : Int) == 0) = false := by simp; omega
          have hp0 : 0 < R.length - xn := by omega
          have HLC : Hid (∀ w' : World, Below w.heap.size w w' → w'.cell? (xr0.add xn) = some (.int .i64 (nth (R.drop xn) 0))) := fun w' hb => by
            obtain ⟨_, _, hc⟩ := nl_cells (HXL.out w' hb)
            obtain ⟨x, h1, _, h2⟩ := hc 0 (by rw [List.length_drop]; exact hp0)
            injection h1 with h1
            rw [← h1, add_zero'] at h2
            exact h2
          clear HL HRC
          have HL := HXL
          clear HXL
          generalize hzn : nth (R.drop xn) 0 = z at HLC
          have HZN : Hid (nth (R.drop xn) 0 = z) := hzn
          clear hzn
          rcases hcc with ⟨rfl, hn⟩ | ⟨rfl, hn⟩ | ⟨rfl, hn⟩ | ⟨rfl, hn⟩
          · have HD : Hid (putsV b m A ⟨xf, xr, xn, true, xc⟩ (R.drop xn) k = y) := by unfold restV at hy; rw [if_pos rfl] at hy; exact hy
            rw [hn] at HRO ⊢
            clear h5 d5 hy
            go_enter Try.func27, Try.ntmps27
            go_wp2_with fail
            refine (HFI.out _ (below_a1 _ _)).mono ?_
            rintro e w1 ⟨rfl, hb1⟩
            have HM1 : Hid (∀ o, Mid w (w1.alloc o)) := fun o => (HM0.out.on hb1).on (below_a1 _ _)
            clear hb1 HFI a0 HM0
            go_wp2_with fail
            refine (HRO.out _ _ _ (HL.out _ (below_next (HM1.out _))) (below_next (HM1.out _)) trivial ⟨xf, xr, xn, true, xc⟩ o1 o2).mono ?_
            rintro e w4 ⟨cs, hcs, hz, rfl, hb4⟩
            obtain ⟨w5, hs5, hr5⟩ := ((HM1.out _).on hb4).lay hcs
            clear hb4
            go_wp2_with fail
            exact ret_wn rfl rfl hr5.out.1 hz rfl ⟨cs, by rw [Hid, ← HD.out]; exact hcs, hz, rfl, hr5.out.2⟩
          · unfold restV at hy
            rw [if_neg (by decide)] at hy
            simp only at hy
            by_cases hf0 : xf < 0
            · rw [if_pos hf0] at hy
              have HD : Hid (endW 0 1 = y) := hy
              have df : decide (xf < 0) = true := by simpa using hf0
              clear hy hf0 o1 o2 o3 HRO HL HNR HNA h5
              go_enter Try.func27, Try.ntmps27
              go_wp2_with fail
              refine (HFI.out _ (below_a1 _ _)).mono ?_
              rintro e w1 ⟨rfl, hb1⟩
              have HM1 : Hid (∀ o, Mid w (w1.alloc o)) := fun o => (HM0.out.on hb1).on (below_a1 _ _)
              clear hb1 HFI a0 HM0
              go_wp2_with fail
              refine (HE.out _ _ _).mono ?_
              rintro e w4 ⟨cs, hcs, hz, rfl, hb4⟩
              obtain ⟨w5, hs5, hr5⟩ := ((HM1.out _).on hb4).lay hcs
              clear hb4
              go_wp2_with fail
              exact ret_wn rfl rfl hr5.out.1 hz rfl ⟨cs, by rw [Hid, ← HD.out]; exact hcs, hz, rfl, hr5.out.2⟩
            · rw [if_neg hf0] at hy
              have df : decide (xf < 0) = false := by simpa using hf0
              obtain ⟨u0, u1, u2, _⟩ := at_facts HB.out o1
              first | rw [if_pos rfl] at hy | rw [if_pos trivial] at hy
              rw [if_neg hlz] at hy
              have HD : Hid (endW z 0 = y) := by rw [← HZN.out]; exact hy
              clear hy hf0 o1 o2 o3 HRO HL HNR HNA h5 u0 u1 u2
              go_enter Try.func27, Try.ntmps27
              go_wp2_with fail
              refine (HFI.out _ (below_a1 _ _)).mono ?_
              rintro e w1 ⟨rfl, hb1⟩
              have HM1 : Hid (∀ o, Mid w (w1.alloc o)) := fun o => (HM0.out.on hb1).on (below_a1 _ _)
              have l1 : ∀ o, (w1.alloc o).cell? (xr0.add xn) = some (.int .i64 z) := fun o => HLC.out _ (below_next ((HM0.out.on hb1).on (below_a1 _ _)))
              clear hb1 HFI a0 HM0
              go_wp2_with fail
              refine (HE.out _ _ _).mono ?_
              rintro e w4 ⟨cs, hcs, hz, rfl, hb4⟩
              obtain ⟨w5, hs5, hr5⟩ := ((HM1.out _).on hb4).lay hcs
              clear hb4
              go_wp2_with fail
              exact ret_wn rfl rfl hr5.out.1 hz rfl ⟨cs, by rw [Hid, ← HD.out]; exact hcs, hz, rfl, hr5.out.2⟩
          · unfold restV at hy
            rw [if_neg (by decide)] at hy
            simp only at hy
            by_cases hf0 : xf < 0
            · rw [if_pos hf0] at hy
              have HD : Hid (endW 0 1 = y) := hy
              have df : decide (xf < 0) = true := by simpa using hf0
              clear hy hf0 o1 o2 o3 HRO HL HNR HNA h5
              go_enter Try.func27, Try.ntmps27
              go_wp2_with fail
              refine (HFI.out _ (below_a1 _ _)).mono ?_
              rintro e w1 ⟨rfl, hb1⟩
              have HM1 : Hid (∀ o, Mid w (w1.alloc o)) := fun o => (HM0.out.on hb1).on (below_a1 _ _)
              clear hb1 HFI a0 HM0
              go_wp2_with fail
              refine (HE.out _ _ _).mono ?_
              rintro e w4 ⟨cs, hcs, hz, rfl, hb4⟩
              obtain ⟨w5, hs5, hr5⟩ := ((HM1.out _).on hb4).lay hcs
              clear hb4
              go_wp2_with fail
              exact ret_wn rfl rfl hr5.out.1 hz rfl ⟨cs, by rw [Hid, ← HD.out]; exact hcs, hz, rfl, hr5.out.2⟩
            · rw [if_neg hf0] at hy
              have df : decide (xf < 0) = false := by simpa using hf0
              obtain ⟨u0, u1, u2, _⟩ := at_facts HB.out o1
              rw [if_neg (by decide)] at hy
              by_cases hk : k = 0
              · subst hk
                rw [if_pos rfl] at hy
                have HD : Hid (putW (b + 1 + 3 * xf) 2 = y) := hy
                clear hy hf0 o1 o2 o3 HRO HL HNR HNA h5 u1
                go_enter Try.func27, Try.ntmps27
                go_wp2_with fail
                refine (HFI.out _ (below_a1 _ _)).mono ?_
                rintro e w1 ⟨rfl, hb1⟩
                have HM1 : Hid (∀ o, Mid w (w1.alloc o)) := fun o => (HM0.out.on hb1).on (below_a1 _ _)
                clear hb1 HFI a0 HM0
                go_wp2_with fail
                refine (HP.out _ _ _).mono ?_
                rintro e w4 ⟨cs, hcs, hz, rfl, hb4⟩
                obtain ⟨w5, hs5, hr5⟩ := ((HM1.out _).on hb4).lay hcs
                clear hb4
                go_wp2_with fail
                exact ret_wn rfl rfl hr5.out.1 hz rfl ⟨cs, by rw [Hid, ← HD.out]; exact hcs, hz, rfl, hr5.out.2⟩
              · rw [if_neg hk] at hy
                have dk : (k == 0) = false := by simpa using hk
                rw [if_neg hlz] at hy
                by_cases hk1 : k = 1
                · subst hk1
                  rw [if_pos rfl] at hy
                  have HD : Hid (putW b (wrap64 (z - 1)) = y) := by rw [← HZN.out]; exact hy
                  clear hy hf0 o1 o2 o3 HRO HL HNR HNA h5 u0 u1 u2 hk dk
                  go_enter Try.func27, Try.ntmps27
                  go_wp2_with fail
                  refine (HFI.out _ (below_a1 _ _)).mono ?_
                  rintro e w1 ⟨rfl, hb1⟩
                  have HM1 : Hid (∀ o, Mid w (w1.alloc o)) := fun o => (HM0.out.on hb1).on (below_a1 _ _)
                  have l1 : ∀ o, (w1.alloc o).cell? (xr0.add xn) = some (.int .i64 z) := fun o => HLC.out _ (below_next ((HM0.out.on hb1).on (below_a1 _ _)))
                  clear hb1 HFI a0 HM0
                  go_wp2_with fail
                  refine (HP.out _ _ _).mono ?_
                  rintro e w4 ⟨cs, hcs, hz, rfl, hb4⟩
                  obtain ⟨w5, hs5, hr5⟩ := ((HM1.out _).on hb4).lay hcs
                  clear hb4
                  go_wp2_with fail
                  exact ret_wn rfl rfl hr5.out.1 hz rfl ⟨cs, by rw [Hid, ← HD.out]; exact hcs, hz, rfl, hr5.out.2⟩
                · rw [if_neg hk1] at hy
                  have dk1 : (k == 1) = false := by simpa using hk1
                  have HD : Hid (endW 0 0 = y) := hy
                  clear hy hf0 o1 o2 o3 HRO HL HNR HNA h5 u0 u1 u2 hk hk1
                  go_enter Try.func27, Try.ntmps27
                  go_wp2_with fail
                  refine (HFI.out _ (below_a1 _ _)).mono ?_
                  rintro e w1 ⟨rfl, hb1⟩
                  have HM1 : Hid (∀ o, Mid w (w1.alloc o)) := fun o => (HM0.out.on hb1).on (below_a1 _ _)
                  clear hb1 HFI a0 HM0
                  go_wp2_with fail
                  refine (HE.out _ _ _).mono ?_
                  rintro e w4 ⟨cs, hcs, hz, rfl, hb4⟩
                  obtain ⟨w5, hs5, hr5⟩ := ((HM1.out _).on hb4).lay hcs
                  clear hb4
                  go_wp2_with fail
                  exact ret_wn rfl rfl hr5.out.1 hz rfl ⟨cs, by rw [Hid, ← HD.out]; exact hcs, hz, rfl, hr5.out.2⟩
          · exact absurd rfl h5
end Go.Proofs.Ytbajgbknjmbimaa.Di
