/- The document's row of counters (layer 15): Size, Arity, Next. -/
import Derived.Test.YtcdkjcpfllpeoaaCtM
import Derived.Test.YtcdkjcpfllpeoaaCoR
namespace Go.Proofs.Ytcdkjcpfllpeoaa.Ct
open Go.ChangeShapes Go.WideShapes Go.ChangeAt Go.RowKit
attribute [local go_sem ↓] Go.wp_at_zero Go.wp_at_succ

theorem rsize_any (w : World) (m : Int) : Calls Try.prog 17 #[.int .i64 m] w fun e w' => e = .returned (.int .i64 (sizeV m)) ∧ w' = w := by
  have HC : Hid (∀ w : World, Calls Try.prog 29 #[.int .i64 m] w fun e w' => e = .returned (.bool (decide (0 ≤ m) && decide (m ≤ 16))) ∧ w' = w) := fun w => rright_any w m
  have hs : sizeV m = if (decide (0 ≤ m) && decide (m ≤ 16)) = true then m else 0 := by simp [sizeV]
  rw [hs]
  generalize (decide (0 ≤ m) && decide (m ≤ 16)) = q at *
  clear hs
  cases q
  · go_enter Try.func17, Try.ntmps17
    go_wp2_with fail
    refine (HC.out _).mono ?_
    rintro e w1 ⟨rfl, rfl⟩
    go_wp2
    go_ret
    exact ⟨rfl, rfl⟩
  · go_enter Try.func17, Try.ntmps17
    go_wp2_with fail
    refine (HC.out _).mono ?_
    rintro e w1 ⟨rfl, rfl⟩
    go_wp2
    go_ret
    exact ⟨rfl, rfl⟩
theorem rarity_any (w : World) (c : Int) : Calls Try.prog 25 #[.int .i64 c] w fun e w' => e = .returned (.int .i64 (arV c)) ∧ w' = w := by
  by_cases h1 : c = 1
  · subst h1
    go_enter Try.func25, Try.ntmps25
    go_wp2
    go_ret
    exact ⟨rfl, rfl⟩
  · by_cases h2 : c = 2
    · subst h2
      go_enter Try.func25, Try.ntmps25
      go_wp2
      go_ret
      exact ⟨rfl, rfl⟩
    · have HE : Hid (arV c = -1) := by unfold arV; rw [if_neg h1, if_neg h2]; exact rfl
      have e1 : (c == 1) = false := by simpa using h1
      have e2 : (c == 2) = false := by simpa using h2
      clear h1 h2
      go_enter Try.func25, Try.ntmps25
      go_wp2
      go_ret
      exact ⟨by rw [HE.out]; rfl, rfl⟩
/-- What a call hands back that hands on what another told. -/
theorem ret_on {w w1 : World} {z cs : Array Value} {fn : Func} {p : Tmp} {R : Ending → World → Prop} {a : Act} (hb : Below (w.alloc (.cells z 34)).heap.size (w.alloc (.cells z 34)) w1) (hz : cs.size = 4) (h : fn.results = #[.cell p 34]) (hp : a.tmps.getD p undef = .pointer (some ⟨w.heap.size, 0, none⟩)) (hd : a.defers = [])
    (hR : ∀ w', Below w.heap.size w w' → R (.returned (.agg cs)) w') : bodyPost Try.prog fn R .ret a (w1.setRow w.heap.size cs) :=
  ret_wn h hp (setRow_heap _ _ _ _ _ _ (row_next hb)) hz hd (hR _ (below_row (below_next hb) _ (Nat.le_refl _) _))
set_option maxRecDepth 10000 in
theorem rnext_any (w : World) (b m c k : Int) (va vr : Value) (A R : List Int) (ha : Nl w va A) (hr : Nl w vr R) (h : rightV b m c A.length = true) :
    Calls Try.prog 28 #[.int .i64 b, .int .i64 m, .int .i64 c, va, vr, .int .i64 k] w fun e w' => e = .returned (.agg (wnC (docV b m c A R k))) ∧ Below w.heap.size w w' := by
  obtain ⟨hm1, hm2, hb1, hb2, hcc⟩ := call_of h
  have hpos : 0 < A.length := by omega
  have HE : Hid (∀ (w : World) v c, Calls Try.prog 30 #[.int .i64 v, .int .i64 c] w fun e w' => e = .returned (.agg (wnC (endW v c))) ∧ Below w.heap.size w w') := fun w v c => rend_any w v c
  have HR : Hid (∀ (w : World) c, Calls Try.prog 31 #[.int .i64 c] w fun e w' => e = .returned (.agg (wnC (readW c))) ∧ Below w.heap.size w w') := fun w c => rread_any w c
  have HP : Hid (∀ (w : World) c v, Calls Try.prog 32 #[.int .i64 c, .int .i64 v] w fun e w' => e = .returned (.agg (wnC (putW c v))) ∧ Below w.heap.size w w') := fun w c v => rput_any w c v
  obtain ⟨y, hy⟩ : ∃ y, docV b m c A R k = y := ⟨_, rfl⟩
  rw [hy]
  obtain ⟨a, cap, rfl, hlen, hc1, hc2, hw, hl⟩ := ha
  obtain ⟨x, rfl, hxb, hcell⟩ := hl.resolve_left (by omega)
  have z0 := hcell 0 (by omega)
  rw [add_zero'] at z0
  obtain ⟨ra, rcap, rfl, rlen, rc1, rc2, rw_, rl⟩ := hr
  unfold docV at hy
  generalize hA0 : nth A 0 = i at *
  by_cases hi : i < 0 ∨ m ≤ i
  · rw [if_pos hi] at hy
    have HD : Hid (y = endW 0 1) := hy.symm
    by_cases hi0 : i < 0
    · have d1 : decide (i < 0) = true := by simpa using hi0
      clear hcell rl hi hi0 hm1 hm2 hb1 hb2 hcc hw rw_ hA0 hlen rlen hc1 hc2 rc1 rc2 h hl hy
      go_enter Try.func28, Try.ntmps28
      go_wp2_with fail
      refine (HE.out _ _ _).mono ?_
      rintro e w1 ⟨rfl, hb⟩
      have hst := store_wn (P := Try.prog) (row_next hb) rfl (wnC_size (endW 0 1)) (wnC_one _)
      have HB : Hid (Below (w.alloc (.cells #[.int .i64 0, .int .i64 0, .int .i64 0, .int .i64 0] 34)).heap.size (w.alloc (.cells #[.int .i64 0, .int .i64 0, .int .i64 0, .int .i64 0] 34)) w1) := hb
      generalize hcs : wnC (endW 0 1) = cs at *
      have hz : cs.size = 4 := by rw [← hcs]; rfl
      have HCS : Hid (wnC y = cs) := by rw [Hid, ← hcs, HD.out]
      clear hb hcs
      go_wp2_with fail
      exact ret_on HB.out hz rfl rfl rfl (fun w' hb => ⟨by rw [HCS.out], hb⟩)
    · have d1 : decide (i < 0) = false := by simpa using hi0
      have d2 : decide (m ≤ i) = true := by simp; omega
      clear hcell rl hi hi0 hm1 hm2 hb1 hb2 hcc hw rw_ hA0 hlen rlen hc1 hc2 rc1 rc2 h hl hy
      go_enter Try.func28, Try.ntmps28
      go_wp2_with fail
      refine (HE.out _ _ _).mono ?_
      rintro e w1 ⟨rfl, hb⟩
      have hst := store_wn (P := Try.prog) (row_next hb) rfl (wnC_size (endW 0 1)) (wnC_one _)
      have HB : Hid (Below (w.alloc (.cells #[.int .i64 0, .int .i64 0, .int .i64 0, .int .i64 0] 34)).heap.size (w.alloc (.cells #[.int .i64 0, .int .i64 0, .int .i64 0, .int .i64 0] 34)) w1) := hb
      generalize hcs : wnC (endW 0 1) = cs at *
      have hz : cs.size = 4 := by rw [← hcs]; rfl
      have HCS : Hid (wnC y = cs) := by rw [Hid, ← hcs, HD.out]
      clear hb hcs
      go_wp2_with fail
      exact ret_on HB.out hz rfl rfl rfl (fun w' hb => ⟨by rw [HCS.out], hb⟩)
  · rw [if_neg hi] at hy
    have d1 : decide (i < 0) = false := by simp; omega
    have d2 : decide (m ≤ i) = false := by simp; omega
    have hbi : wrap64 (b + i) = b + i := by unfold wrap64; omega
    by_cases hR : R.length = 0
    · rw [if_pos hR] at hy
      have HD : Hid (y = readW (b + i)) := hy.symm
      rw [hR]
      clear hcell rl hi hm1 hm2 hb1 hb2 hcc hw rw_ hA0 hlen rlen hc1 hc2 rc1 rc2 h hl hy hR
      go_enter Try.func28, Try.ntmps28
      go_wp2_with fail
      refine (HR.out _ _).mono ?_
      rintro e w1 ⟨rfl, hb⟩
      have hst := store_wn (P := Try.prog) (row_next hb) rfl (wnC_size (readW (b + i))) (wnC_one _)
      have HB : Hid (Below (w.alloc (.cells #[.int .i64 0, .int .i64 0, .int .i64 0, .int .i64 0] 34)).heap.size (w.alloc (.cells #[.int .i64 0, .int .i64 0, .int .i64 0, .int .i64 0] 34)) w1) := hb
      generalize hcs : wnC (readW (b + i)) = cs at *
      have hz : cs.size = 4 := by rw [← hcs]; rfl
      have HCS : Hid (wnC y = cs) := by rw [Hid, ← hcs, HD.out]
      clear hb hcs
      go_wp2_with fail
      exact ret_on HB.out hz rfl rfl rfl (fun w' hb => ⟨by rw [HCS.out], hb⟩)
    · rw [if_neg hR] at hy
      obtain ⟨xr, rfl, hxr, hcr⟩ := rl.resolve_left hR
      have r0 := hcr 0 (by omega)
      rw [add_zero'] at r0
      have dR : ((R.length : Int) == 0) = false := by simpa using hR
      have hposR : 0 < R.length := by omega
      generalize nth R 0 = v at *
      rcases hcc with ⟨rfl, hn⟩ | ⟨rfl, hn⟩
      · rw [if_neg (by decide)] at hy
        have z1 := hcell 1 (by omega)
        rw [add_pos' _ _ (by decide)] at z1
        generalize nth A 1 = d at *
        generalize R.length = nr at *
        rw [hn]
        by_cases hk : k = 0
        · rw [if_pos hk] at hy
          have HD : Hid (y = putW (b + i) (wrap64 (v + d))) := hy.symm
          subst hk
          clear hcell rl hi hm1 hm2 hb1 hb2 hw rw_ hA0 hlen rlen hc1 hc2 rc1 rc2 h hl hy hR hcr hpos hn
          go_enter Try.func28, Try.ntmps28
          go_wp2_with fail
          refine (HP.out _ _ _).mono ?_
          rintro e w1 ⟨rfl, hb⟩
          have hst := store_wn (P := Try.prog) (row_next hb) rfl (wnC_size (putW (b + i) (wrap64 (v + d)))) (wnC_one _)
          have HB : Hid (Below (w.alloc (.cells #[.int .i64 0, .int .i64 0, .int .i64 0, .int .i64 0] 34)).heap.size (w.alloc (.cells #[.int .i64 0, .int .i64 0, .int .i64 0, .int .i64 0] 34)) w1) := hb
          generalize hcs : wnC (putW (b + i) (wrap64 (v + d))) = cs at *
          have hz : cs.size = 4 := by rw [← hcs]; rfl
          have HCS : Hid (wnC y = cs) := by rw [Hid, ← hcs, HD.out]
          clear hb hcs
          go_wp2_with fail
          exact ret_on HB.out hz rfl rfl rfl (fun w' hb => ⟨by rw [HCS.out], hb⟩)
        · rw [if_neg hk] at hy
          have HD : Hid (y = endW (wrap64 (v + d)) 0) := hy.symm
          have dk : (k == 0) = false := by simpa using hk
          clear hcell rl hi hm1 hm2 hb1 hb2 hw rw_ hA0 hlen rlen hc1 hc2 rc1 rc2 h hl hy hR hcr hpos hn hk
          go_enter Try.func28, Try.ntmps28
          go_wp2_with fail
          refine (HE.out _ _ _).mono ?_
          rintro e w1 ⟨rfl, hb⟩
          have hst := store_wn (P := Try.prog) (row_next hb) rfl (wnC_size (endW (wrap64 (v + d)) 0)) (wnC_one _)
          have HB : Hid (Below (w.alloc (.cells #[.int .i64 0, .int .i64 0, .int .i64 0, .int .i64 0] 34)).heap.size (w.alloc (.cells #[.int .i64 0, .int .i64 0, .int .i64 0, .int .i64 0] 34)) w1) := hb
          generalize hcs : wnC (endW (wrap64 (v + d)) 0) = cs at *
          have hz : cs.size = 4 := by rw [← hcs]; rfl
          have HCS : Hid (wnC y = cs) := by rw [Hid, ← hcs, HD.out]
          clear hb hcs
          go_wp2_with fail
          exact ret_on HB.out hz rfl rfl rfl (fun w' hb => ⟨by rw [HCS.out], hb⟩)
      · rw [if_pos rfl] at hy
        have HD : Hid (y = endW v 0) := hy.symm
        generalize R.length = nr at *
        rw [hn]
        clear hcell rl hi hm1 hm2 hb1 hb2 hw rw_ hA0 hlen rlen hc1 hc2 rc1 rc2 h hl hy hR hcr hpos hn
        go_enter Try.func28, Try.ntmps28
        go_wp2_with fail
        refine (HE.out _ _ _).mono ?_
        rintro e w1 ⟨rfl, hb⟩
        have hst := store_wn (P := Try.prog) (row_next hb) rfl (wnC_size (endW v 0)) (wnC_one _)
        have HB : Hid (Below (w.alloc (.cells #[.int .i64 0, .int .i64 0, .int .i64 0, .int .i64 0] 34)).heap.size (w.alloc (.cells #[.int .i64 0, .int .i64 0, .int .i64 0, .int .i64 0] 34)) w1) := hb
        generalize hcs : wnC (endW v 0) = cs at *
        have hz : cs.size = 4 := by rw [← hcs]; rfl
        have HCS : Hid (wnC y = cs) := by rw [Hid, ← hcs, HD.out]
        clear hb hcs
        go_wp2_with fail
        exact ret_on HB.out hz rfl rfl rfl (fun w' hb => ⟨by rw [HCS.out], hb⟩)
end Go.Proofs.Ytcdkjcpfllpeoaa.Ct
