/- The document's queue (layer 16): Size, Arity, Behind, Next. -/
import Derived.Test.YtkikogalaejnlaaQuK
import Derived.Test.YtkikogalaejnlaaCoR
namespace Go.Proofs.Ytkikogalaejnlaa.Qu
open Go.ChangeShapes Go.WideShapes Go.ChangeAt Go.RowKit
attribute [local go_sem ↓] Go.wp_at_zero Go.wp_at_succ

theorem rsize_any (w : World) (m : Int) : Calls Try.prog 17 #[.int .i64 m] w fun e w' => e = .returned (.int .i64 (sizeV m)) ∧ w' = w := by
  have HC : Hid (∀ w : World, Calls Try.prog 27 #[.int .i64 m] w fun e w' => e = .returned (.bool (decide (0 ≤ m) && decide (m ≤ 16))) ∧ w' = w) := fun w => rright_any w m
  by_cases hm : 0 ≤ m ∧ m ≤ 16
  · have e1 : (decide (0 ≤ m) && decide (m ≤ 16)) = true := by simp [hm]
    rw [e1] at HC
    have HV : Hid (sizeV m = m + 2) := by unfold sizeV; rw [if_pos hm]; exact rfl
    have hw : wrap64 (m + 2) = m + 2 := by unfold wrap64; omega
    clear hm e1
    go_enter Try.func17, Try.ntmps17
    go_wp2_with fail
    refine (HC.out _).mono ?_
    rintro e w1 ⟨rfl, rfl⟩
    go_wp2_with fail
    go_ret
    exact ⟨by rw [HV.out]; show Ending.returned (.int .i64 (wrap64 (m + 2))) = _; rw [hw], rfl⟩
  · have e1 : (decide (0 ≤ m) && decide (m ≤ 16)) = false := by
      rw [Bool.eq_false_iff]
      intro h
      simp only [Bool.and_eq_true, decide_eq_true_eq] at h
      exact hm h
    rw [e1] at HC
    have HV : Hid (sizeV m = 0) := by unfold sizeV; rw [if_neg hm]; exact rfl
    clear hm e1
    go_enter Try.func17, Try.ntmps17
    go_wp2_with fail
    refine (HC.out _).mono ?_
    rintro e w1 ⟨rfl, rfl⟩
    go_wp2_with fail
    go_ret
    exact ⟨by rw [HV.out]; rfl, rfl⟩
theorem rarity_any (w : World) (c : Int) : Calls Try.prog 24 #[.int .i64 c] w fun e w' => e = .returned (.int .i64 (arV c)) ∧ w' = w := by
  by_cases h1 : c = 3
  · subst h1
    go_enter Try.func24, Try.ntmps24
    go_wp2
    go_ret
    exact ⟨rfl, rfl⟩
  · by_cases h2 : c = 2
    · subst h2
      go_enter Try.func24, Try.ntmps24
      go_wp2
      go_ret
      exact ⟨rfl, rfl⟩
    · by_cases h3 : c = 5
      · subst h3
        go_enter Try.func24, Try.ntmps24
        go_wp2
        go_ret
        exact ⟨rfl, rfl⟩
      · have HE : Hid (arV c = -1) := by unfold arV; rw [if_neg h1, if_neg h2, if_neg h3]; exact rfl
        have e1 : (c == 3) = false := by simpa using h1
        have e2 : (c == 2) = false := by simpa using h2
        have e3 : (c == 5) = false := by simpa using h3
        clear h1 h2 h3
        go_enter Try.func24, Try.ntmps24
        go_wp2
        go_ret
        exact ⟨by rw [HE.out]; rfl, rfl⟩
theorem uw_uw (k : Int) : IntKind.u64.wrap (uW k) = uW k := by
  rw [uw_wrap]
  unfold uW
  omega
theorem rbeh_math (f k n : Int) (hn : 0 < n ∧ n ≤ 16) : wrap64 ((IntKind.u64.wrap ((IntKind.u64.wrap f).tmod n + (uW k).tmod n)).tmod n) = behV f k n := by
  have := beh_math f k n hn
  rw [uw_wrap k] at this
  exact this
theorem rbeh_any (w : World) (f k n : Int) (hn : 0 < n ∧ n ≤ 16) : Calls Try.prog 30 #[.int .i64 f, .int .u64 (uW k), .int .i64 n] w fun e w' => e = .returned (.int .i64 (behV f k n)) ∧ Below w.heap.size w w' := by
  have HB : Hid (wrap64 ((IntKind.u64.wrap ((IntKind.u64.wrap f).tmod n + (uW k).tmod n)).tmod n) = behV f k n) := rbeh_math f k n hn
  generalize uW k = kk at *
  go_enter Try.func30, Try.ntmps30
  go_wp2_with fail
  go_quiet (fail)
  go_wp2_with fail
  go_ret
  exact ⟨by rw [← HB.out]; rfl, below_drawn (Below.refl _ _) _⟩
/-- The answer is laid into its variable. -/
theorem Mid.lay {w w4 : World} (h : Mid w w4) {x : Wn} {cs : Array Value} (hcs : Hid (wnC x = cs)) : ∃ w5, (storeCells ⟨w.heap.size, 0, none⟩ cs.toList 0).run Try.prog w4 = .ok () w5 ∧ Hid (w5.heap[w.heap.size]? = some (.cells cs 34 (0, 0)) ∧ Below w.heap.size w w5) := by
  have hr := row_next h
  have hb := below_next h
  rw [← hcs.out]
  exact ⟨w4.setRow w.heap.size (wnC x), store_wn hr rfl rfl (wnC_one x), setRow_heap _ _ _ _ _ _ hr, below_row hb _ (Nat.le_refl _) _⟩
set_option maxRecDepth 10000 in
theorem rnext_any (w : World) (b m c k : Int) (va vr : Value) (A R : List Int) (ha : Nl w va A) (hr : Nl w vr R) (h : rightV b m c A.length = true) :
    Calls Try.prog 26 #[.int .i64 b, .int .i64 m, .int .i64 c, va, vr, .int .i64 k] w fun e w' => e = .returned (.agg (wnC (docV b m c A R k))) ∧ Below w.heap.size w w' := by
  obtain ⟨hm1, hm2, hb1, hb2, hcc⟩ := call_of h
  have HE : Hid (∀ (w : World) v c, Calls Try.prog 36 #[.int .i64 v, .int .i64 c] w (Tells w (endW v c))) := fun w v c => (rend_any w v c).mono tells_of
  have HR : Hid (∀ (w : World) c, Calls Try.prog 35 #[.int .i64 c] w (Tells w (readW c))) := fun w c => (rread_any w c).mono tells_of
  have HP : Hid (∀ (w : World) c v, Calls Try.prog 37 #[.int .i64 c, .int .i64 v] w (Tells w (putW c v))) := fun w c v => (rput_any w c v).mono tells_of
  have HB : Hid (0 < m → ∀ (w : World), Calls Try.prog 30 #[.int .i64 (nth R 0), .int .u64 (IntKind.u64.wrap (nth R 1)), .int .i64 m] w fun e w' => e = .returned (.int .i64 (behV (nth R 0) (nth R 1) m)) ∧ Below w.heap.size w w') := fun hm w => by rw [uw_wrap]; exact rbeh_any w _ _ m ⟨hm, hm2⟩
  have HB0 : Hid (0 < m → ∀ (w : World), Calls Try.prog 30 #[.int .i64 (nth R 0), .int .u64 0, .int .i64 m] w fun e w' => e = .returned (.int .i64 (behV (nth R 0) 0 m)) ∧ Below w.heap.size w w') := fun hm w => rbeh_any w _ 0 m ⟨hm, hm2⟩
  have HB1 : Hid (0 < m → ∀ (w : World), Calls Try.prog 30 #[.int .i64 (nth R 0), .int .u64 1, .int .i64 m] w fun e w' => e = .returned (.int .i64 (behV (nth R 0) 1 m)) ∧ Below w.heap.size w w') := fun hm w => rbeh_any w _ 1 m ⟨hm, hm2⟩
  have HBL : Hid (0 < m → ∀ f k, 0 ≤ behV f k m ∧ behV f k m < m) := fun hm f k => beh_lt hm
  obtain ⟨y, hy⟩ : ∃ y, docV b m c A R k = y := ⟨_, rfl⟩
  rw [hy]
  suffices hs : Calls Try.prog 26 #[.int .i64 b, .int .i64 m, .int .i64 c, va, vr, .int .i64 k] w (Tells w y) from hs.mono of_tells
  have HM0 : Hid (Mid w (w.alloc (.cells z4 34))) := Mid.first w
  obtain ⟨a, cap, rfl, hlen, hc1, hc2, hw, hl⟩ := ha
  obtain ⟨ra, rcap, rfl, rlen, rc1, rc2, rw_, rl⟩ := hr
  unfold docV at hy
  by_cases hR : R.length < 2
  · rw [if_pos hR] at hy
    have HD : Hid (readW (b + (R.length : Int)) = y) := hy
    have d1 : decide ((R.length : Int) < 2) = true := by simp; omega
    have hbi : wrap64 (b + (R.length : Int)) = b + (R.length : Int) := by unfold wrap64; omega
    clear hl rl hm1 hm2 hb1 hb2 hcc hw rw_ hlen rlen hc1 hc2 rc1 rc2 h hy hR
    go_enter Try.func26, Try.ntmps26
    go_wp2_with fail
    refine (HR.out _ _).mono ?_
    rintro e w4 ⟨cs, hcs, hz, rfl, hb4⟩
    obtain ⟨w5, hs5, hr5⟩ := (HM0.out.on hb4).lay hcs
    clear hb4
    go_wp2_with fail
    exact ret_wn rfl rfl hr5.out.1 hz rfl ⟨cs, by rw [Hid, ← HD.out]; exact hcs, hz, rfl, hr5.out.2⟩
  · rw [if_neg hR] at hy
    have d1 : decide ((R.length : Int) < 2) = false := by simp; omega
    obtain ⟨xr, rfl, hxr, hcr⟩ := rl.resolve_left (by omega)
    have r0 := hcr 0 (by omega)
    have r1 := hcr 1 (by omega)
    have HCR : Hid (2 < R.length → w.cell? ⟨xr.block, xr.off + 2, none⟩ = some (.int .i64 (nth R 2))) := fun h2 => by have := hcr 2 h2; rwa [add_pos' _ _ (by decide)] at this
    rw [add_zero'] at r0
    rw [add_pos' _ _ (by decide)] at r1
    have hn0 : 0 < R.length := by omega
    have hn1 : 1 < R.length := by omega
    have hml : Hid (0 ≤ m ∧ m ≤ 16) := ⟨hm1, hm2⟩
    have hbl : Hid (0 ≤ b ∧ b ≤ 1024) := ⟨hb1, hb2⟩
    generalize hf : nth R 0 = f at *
    generalize hll : nth R 1 = l at *
    clear hw rw_ hlen rlen hc1 hc2 rc1 rc2 hcr rl hf hll hm1 hm2 hb1 hb2
    rcases hcc with ⟨rfl, hn⟩ | ⟨rfl, hn⟩ | ⟨rfl, hn⟩
    · rw [if_neg (by decide), if_pos rfl] at hy
      obtain ⟨x, rfl, hxb, hcell⟩ := hl.resolve_left (by omega)
      have z0 := hcell 0 (by omega)
      rw [add_zero'] at z0
      have HZ0 : Hid (w.cell? x = some (.int .i64 (nth A 0))) := z0
      generalize nth A 0 = y0 at *
      rw [hn]
      clear hcell hl hn h
      by_cases hfl : uW l < uW m
      · rw [if_neg (fun h => h hfl)] at hy
        have HN : Hid (0 < m) := full_pos hml.out hfl
        have d2 : decide (IntKind.u64.wrap m ≤ IntKind.u64.wrap l) = false := by rw [uw_wrap, uw_wrap]; simpa using hfl
        by_cases hk : k = 0
        · rw [if_pos hk] at hy
          subst hk
          have HD : Hid (putW (b + 2 + behV f l m) y0 = y) := hy
          obtain ⟨hz1, hz2⟩ := HBL.out HN.out f l
          have HC := HB.out HN.out
          have hs1 : wrap64 (b + 2) = b + 2 := by have := hbl.out; unfold wrap64; omega
          have hs2 : wrap64 (b + 2 + behV f l m) = b + 2 + behV f l m := by have := hbl.out; have := hml.out; unfold wrap64; omega
          generalize behV f l m = z at *
          clear hfl hy hz1 hz2 hR
          go_enter Try.func26, Try.ntmps26
          have hs3 : IntKind.i64.wrap (b + 2) = b + 2 := by have h0 := hs1; unfold wrap64 at h0; rw [IntKind.wrap_i64]; exact h0
          have hs4 : IntKind.i64.wrap (b + 2 + z) = b + 2 + z := by have h0 := hs2; unfold wrap64 at h0; rw [IntKind.wrap_i64]; exact h0
          have hMc : Hid (∀ w', Mid w w' → w'.cell? x = some (.int .i64 y0)) := fun w' h' => cell_later (below_next h') hxb z0
          go_wp2_with fail
          obtain ⟨w2, hw2⟩ : ∃ w2, w2 = w.alloc (.cells z4 34) := ⟨_, rfl⟩
          have HM2 : Hid (Mid w w2) := by rw [hw2]; exact HM0
          rw [← hw2]
          have zz := hMc.out _ HM2.out
          clear hw2 z0 r0 r1 HM0
          go_region_held3 (fun w' => w'.cell? x = some (.int .i64 y0)) (first | go_keep | exact hS | exact hS5) (first
            | (go_at_call 30; refine (HC _).mono ?_; rintro e w3 ⟨rfl, hb3⟩; have hM3 : Mid w w3 := HM2.out.on (below_then (bl_drew1 _) hb3); have hS : w3.cell? x = some (.int .i64 y0) := hMc.out _ hM3)
            | (go_at_call 37; refine (HP.out _ _ _).mono ?_; rintro e w4 ⟨cs, hcs, hz, rfl, hb4⟩; have hS : w4.cell? x = some (.int .i64 y0) := hMc.out _ (hM3.on hb4); obtain ⟨w5, hs5, hr5⟩ := (hM3.on hb4).lay hcs; have hS5 : w5.cell? x = some (.int .i64 y0) := cell_later hr5.out.2 hxb HZ0.out))
          go_wp2_with fail
          exact ret_wn rfl rfl hr5.out.1 hz rfl ⟨cs, by rw [Hid, ← HD.out]; exact hcs, hz, rfl, hr5.out.2⟩
        · rw [if_neg hk] at hy
          have dk : (k == 0) = false := by simpa using hk
          by_cases hk1 : k = 1
          · rw [if_pos hk1] at hy
            subst hk1
            have HD : Hid (putW (b + 1) (wrap64 (l + 1)) = y) := hy
            have hs1 : wrap64 (b + 1) = b + 1 := by have := hbl.out; unfold wrap64; omega
            clear hfl hy hk dk hR
            go_enter Try.func26, Try.ntmps26
            go_wp2_with fail
            refine (HP.out _ _ _).mono ?_
            rintro e w4 ⟨cs, hcs, hz, rfl, hb4⟩
            obtain ⟨w5, hs5, hr5⟩ := (HM0.out.on hb4).lay hcs
            clear hb4
            go_wp2_with fail
            exact ret_wn rfl rfl hr5.out.1 hz rfl ⟨cs, by rw [Hid, ← HD.out]; exact hcs, hz, rfl, hr5.out.2⟩
          · rw [if_neg hk1] at hy
            have dk1 : (k == 1) = false := by simpa using hk1
            have HD : Hid (endW 0 0 = y) := hy
            clear hfl hy hk hk1 hR
            go_enter Try.func26, Try.ntmps26
            go_wp2_with fail
            refine (HE.out _ _ _).mono ?_
            rintro e w4 ⟨cs, hcs, hz, rfl, hb4⟩
            obtain ⟨w5, hs5, hr5⟩ := (HM0.out.on hb4).lay hcs
            clear hb4
            go_wp2_with fail
            exact ret_wn rfl rfl hr5.out.1 hz rfl ⟨cs, by rw [Hid, ← HD.out]; exact hcs, hz, rfl, hr5.out.2⟩
      · rw [if_pos hfl] at hy
        have HD : Hid (endW 0 2 = y) := hy
        have d2 : decide (IntKind.u64.wrap m ≤ IntKind.u64.wrap l) = true := by rw [uw_wrap, uw_wrap]; simpa using hfl
        clear hfl hy hR
        go_enter Try.func26, Try.ntmps26
        go_wp2_with fail
        refine (HE.out _ _ _).mono ?_
        rintro e w4 ⟨cs, hcs, hz, rfl, hb4⟩
        obtain ⟨w5, hs5, hr5⟩ := (HM0.out.on hb4).lay hcs
        clear hb4
        go_wp2_with fail
        exact ret_wn rfl rfl hr5.out.1 hz rfl ⟨cs, by rw [Hid, ← HD.out]; exact hcs, hz, rfl, hr5.out.2⟩
    · rw [if_neg (by decide), if_neg (by decide)] at hy
      rw [hn]
      clear hl hn h
      by_cases hl0 : l = 0 ∨ m = 0
      · rw [if_pos hl0] at hy
        have HD : Hid (endW 0 1 = y) := hy
        by_cases hl1 : l = 0
        · subst hl1
          clear hl0 hy hR
          go_enter Try.func26, Try.ntmps26
          go_wp2_with fail
          refine (HE.out _ _ _).mono ?_
          rintro e w4 ⟨cs, hcs, hz, rfl, hb4⟩
          obtain ⟨w5, hs5, hr5⟩ := (HM0.out.on hb4).lay hcs
          clear hb4
          go_wp2_with fail
          exact ret_wn rfl rfl hr5.out.1 hz rfl ⟨cs, by rw [Hid, ← HD.out]; exact hcs, hz, rfl, hr5.out.2⟩
        · have hm0 : m = 0 := hl0.resolve_left hl1
          subst hm0
          have dl : (l == 0) = false := by simpa using hl1
          clear hl0 hy hR hl1
          go_enter Try.func26, Try.ntmps26
          go_wp2_with fail
          refine (HE.out _ _ _).mono ?_
          rintro e w4 ⟨cs, hcs, hz, rfl, hb4⟩
          obtain ⟨w5, hs5, hr5⟩ := (HM0.out.on hb4).lay hcs
          clear hb4
          go_wp2_with fail
          exact ret_wn rfl rfl hr5.out.1 hz rfl ⟨cs, by rw [Hid, ← HD.out]; exact hcs, hz, rfl, hr5.out.2⟩
      · rw [if_neg hl0] at hy
        have hm0 : m ≠ 0 := fun e => hl0 (Or.inr e)
        have HN : Hid (0 < m) := by have := hml.out; exact (by omega : 0 < m)
        have dl : (l == 0) = false := by simpa using (fun e => hl0 (Or.inl e) : ¬ l = 0)
        have dm : (m == 0) = false := by simpa using hm0
        by_cases h2 : R.length = 2
        · rw [if_pos h2] at hy
          rw [h2]
          have HD : Hid (readW (b + 2 + behV f 0 m) = y) := hy
          obtain ⟨hz1, hz2⟩ := HBL.out HN.out f 0
          have HC := HB0.out HN.out
          have hs1 : wrap64 (b + 2) = b + 2 := by have := hbl.out; unfold wrap64; omega
          have hs2 : wrap64 (b + 2 + behV f 0 m) = b + 2 + behV f 0 m := by have := hbl.out; have := hml.out; unfold wrap64; omega
          generalize behV f 0 m = z at *
          clear hl0 hy hz1 hz2 hR hm0 d1 hn0 hn1 HCR h2
          go_enter Try.func26, Try.ntmps26
          go_wp2_with fail
          refine (HC _).mono ?_
          rintro e w3 ⟨rfl, hb3⟩
          have HM3 : Hid (Mid w w3) := HM0.out.on hb3
          clear hb3
          go_wp2_with fail
          refine (HR.out _ _).mono ?_
          rintro e w4 ⟨cs, hcs, hz, rfl, hb4⟩
          obtain ⟨w5, hs5, hr5⟩ := (HM3.out.on hb4).lay hcs
          clear hb4
          go_wp2_with fail
          exact ret_wn rfl rfl hr5.out.1 hz rfl ⟨cs, by rw [Hid, ← HD.out]; exact hcs, hz, rfl, hr5.out.2⟩
        · rw [if_neg h2] at hy
          have dn : ((R.length : Int) == 2) = false := by simp; omega
          have hn2 : 2 < R.length := by omega
          have r2 := HCR.out hn2
          by_cases hk : k = 0
          · rw [if_pos hk] at hy
            subst hk
            have HD : Hid (putW b (behV f 1 m) = y) := hy
            have HC := HB1.out HN.out
            generalize behV f 1 m = z at *
            clear hl0 hy hR hm0 h2
            go_enter Try.func26, Try.ntmps26
            go_wp2_with fail
            refine (HC _).mono ?_
            rintro e w3 ⟨rfl, hb3⟩
            have HM3 : Hid (Mid w w3) := HM0.out.on hb3
            clear hb3
            go_wp2_with fail
            refine (HP.out _ _ _).mono ?_
            rintro e w4 ⟨cs, hcs, hz, rfl, hb4⟩
            obtain ⟨w5, hs5, hr5⟩ := (HM3.out.on hb4).lay hcs
            clear hb4
            go_wp2_with fail
            exact ret_wn rfl rfl hr5.out.1 hz rfl ⟨cs, by rw [Hid, ← HD.out]; exact hcs, hz, rfl, hr5.out.2⟩
          · rw [if_neg hk] at hy
            have dk : (k == 0) = false := by simpa using hk
            by_cases hk1 : k = 1
            · rw [if_pos hk1] at hy
              subst hk1
              have HD : Hid (putW (b + 1) (wrap64 (l - 1)) = y) := hy
              have hs1 : wrap64 (b + 1) = b + 1 := by have := hbl.out; unfold wrap64; omega
              clear hl0 hy hR hm0 h2 hk dk
              go_enter Try.func26, Try.ntmps26
              go_wp2_with fail
              refine (HP.out _ _ _).mono ?_
              rintro e w4 ⟨cs, hcs, hz, rfl, hb4⟩
              obtain ⟨w5, hs5, hr5⟩ := (HM0.out.on hb4).lay hcs
              clear hb4
              go_wp2_with fail
              exact ret_wn rfl rfl hr5.out.1 hz rfl ⟨cs, by rw [Hid, ← HD.out]; exact hcs, hz, rfl, hr5.out.2⟩
            · rw [if_neg hk1] at hy
              have dk1 : (k == 1) = false := by simpa using hk1
              have HD : Hid (endW (nth R 2) 0 = y) := hy
              clear hl0 hy hR hm0 h2 hk hk1
              go_enter Try.func26, Try.ntmps26
              go_wp2_with fail
              refine (HE.out _ _ _).mono ?_
              rintro e w4 ⟨cs, hcs, hz, rfl, hb4⟩
              obtain ⟨w5, hs5, hr5⟩ := (HM0.out.on hb4).lay hcs
              clear hb4
              go_wp2_with fail
              exact ret_wn rfl rfl hr5.out.1 hz rfl ⟨cs, by rw [Hid, ← HD.out]; exact hcs, hz, rfl, hr5.out.2⟩
    · rw [if_pos rfl] at hy
      have HD : Hid (endW l 0 = y) := hy
      rw [hn]
      clear hl hn h hy
      go_enter Try.func26, Try.ntmps26
      go_wp2_with fail
      refine (HE.out _ _ _).mono ?_
      rintro e w4 ⟨cs, hcs, hz, rfl, hb4⟩
      obtain ⟨w5, hs5, hr5⟩ := (HM0.out.on hb4).lay hcs
      clear hb4
      go_wp2_with fail
      exact ret_wn rfl rfl hr5.out.1 hz rfl ⟨cs, by rw [Hid, ← HD.out]; exact hcs, hz, rfl, hr5.out.2⟩
end Go.Proofs.Ytkikogalaejnlaa.Qu
