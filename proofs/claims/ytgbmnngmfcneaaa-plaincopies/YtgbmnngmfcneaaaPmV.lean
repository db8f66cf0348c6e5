/- Config: the document's. -/
import Derived.Test.YtgbmnngmfcneaaaPmS
import Derived.Test.YtgbmnngmfcneaaaPcC
namespace Go.Proofs.Ytgbmnngmfcneaaa.Pl
open Go.ChangeShapes Go.WideShapes Go.ChangeAt Go.RowKit
attribute [local go_sem ↓] Go.wp_at_zero Go.wp_at_succ

theorem info_reg : (Try.prog.info? 77).map (fun i => (i.zero, i.size, i.bytes)) = some (some (.agg #[.int .i64 0, .int .i64 0]), 2, 16) := by kernel_rfl
theorem rl_of_own {w : World} {B : Nat} {v : Value} {R : List Pc.Rg} (h : w.ownsRow B 77 2 v R.length (prC R)) (h8 : R.length ≤ 8) : Pc.Rl w v R := by
  rcases h.2 with ⟨rfl, h0⟩ | ⟨g, cap, cur, rfl, hb, hg, h1, h2, h3, h4⟩
  · exact ⟨none, 0, by rw [h0], by omega, by omega, ⟨by omega, fun _ => rfl⟩, Or.inl h0⟩
  · refine ⟨_, _, rfl, by omega, h1, ⟨by unfold maxLen at h2; omega, fun e => by cases e⟩, Or.inr ⟨_, rfl, heap_lt hg, fun i hi => ?_⟩⟩
    rw [add_at, Nat.zero_add]
    have hc := prC_get R i hi
    exact ⟨own_cells h _ _ hc.1, own_cells h _ _ hc.2⟩
theorem pr_take {R : List (Int × Int)} {j : Nat} (h : j < R.length) : prC (R.take (j + 1)) = prC (R.take j) ++ [.int .i64 (Pc.nthR R j).1, .int .i64 (Pc.nthR R j).2] := by
  have e : R.take (j + 1) = R.take j ++ [Pc.nthR R j] := by
    rw [List.take_add_one]
    simp [Pc.nthR, h]
  rw [e, prC_app]
  rfl
theorem ret_conf {fn : Func} {p : Tmp} {R : Ending → World → Prop} {a : Act} {w : World} {g : Nat} {cs : Array Value} (h : fn.results = #[.cell p 24]) (hp : a.tmps.getD p undef = .pointer (some ⟨g, 0, none⟩))
    (hg : w.heap[g]? = some (.cells cs 24 (0, 0))) (hz : cs.size = 7) (hd : a.defers = []) (hR : R (.returned (.agg cs)) w) : bodyPost Try.prog fn R .ret a w := by
  refine bodyPost_ret (v := .agg cs) ?_ hd hR
  have hp' : a.tmps[p]?.getD undef = .pointer (some ⟨g, 0, none⟩) := by simpa using hp
  have hl := run_loadVar_row (P := Try.prog) w g 24 24 cs (0, 0) _ hg Try.underlying24 rfl (by rw [hz]; kernel_rfl)
  simp [results, h, hp', asAddr, hl]
theorem store_cf {P : Program} {w : World} {b : Nat} {t : TypeId} {old cs : Array Value} (h : w.heap[b]? = some (.cells old t (0, 0))) (hz : old.size = 7) (hc : cs.size = 7) (h1 : cs.all (·.oneCell') = true) : (storeCells ⟨b, 0, none⟩ cs.toList 0).run P w = .ok () (w.setRow b cs) := by
  have := run_storeCells_from (P := P) b t cs.toList 0 old w h (by simp [hz, hc]) (fun v hv => (Array.all_eq_true_iff_forall_mem.1 h1) v (by simpa using hv))
  simpa using this
theorem msb {j n : Nat} (h : j < n) : n - ((j : Int) + 1).toNat < n - j := by omega
set_option maxRecDepth 100000 in
theorem config_any {w : World} {v : Value} {c : Pc.Cf} (h : Pc.CfV w v c) (h8 : c.R.length ≤ 8) : Calls Try.prog 41 #[v] w fun e w' => ∃ u, e = .returned (.agg (Pc.cfA c u)) ∧ w'.ownsRow w.heap.size 77 2 u c.R.length (prC c.R) ∧ Below w.heap.size w w' := by
  obtain ⟨vr, rfl, hR⟩ := h
  obtain ⟨ar, cap, rfl, hlen, hcap, hcs, hl⟩ := hR
  have HL : Hid (Pc.Rl w (.slice ar c.R.length cap) c.R) := ⟨ar, cap, rfl, hlen, hcap, hcs, hl⟩
  clear hl hcap hcs hlen
  obtain ⟨rw0, b, d, s, mu, t, R⟩ := c
  unfold Pc.cfA at *
  dsimp only at *
  obtain ⟨i0, hi, hz0, hz1, hz2⟩ := info_parts info_reg
  have HI : Hid (Try.prog.info? 77 = some i0 ∧ i0.zero = some (.agg #[.int .i64 0, .int .i64 0]) ∧ i0.size = 2 ∧ i0.bytes = 16) := ⟨hi, hz0, hz1, hz2⟩
  have H8 : Hid (R.length ≤ 8) := h8
  clear hi hz0 hz1 hz2 h8
  go_enter Try.func41, Try.ntmps41
  go_wp2_with fail
  have g0 := heap_alloc2_old w (.cells #[.int .i64 rw0, .int .i64 b, .int .i64 d, .int .i64 s, .bool mu, .int .i64 t, .slice ar R.length cap] 24) (.cells #[.int .i64 0, .int .i64 0, .int .i64 0, .int .i64 0, .bool false, .int .i64 0, .slice none 0 0] 24)
  have g1 := heap_alloc_2 w (.cells #[.int .i64 rw0, .int .i64 b, .int .i64 d, .int .i64 s, .bool mu, .int .i64 t, .slice ar R.length cap] 24) (.cells #[.int .i64 0, .int .i64 0, .int .i64 0, .int .i64 0, .bool false, .int .i64 0, .slice none 0 0] 24)
  have hB0 : Below w.heap.size w ((w.alloc (.cells #[.int .i64 rw0, .int .i64 b, .int .i64 d, .int .i64 s, .bool mu, .int .i64 t, .slice ar R.length cap] 24)).alloc (.cells #[.int .i64 0, .int .i64 0, .int .i64 0, .int .i64 0, .bool false, .int .i64 0, .slice none 0 0] 24)) := below_alloc (below_a1 _ _) _
  generalize ((w.alloc (.cells #[.int .i64 rw0, .int .i64 b, .int .i64 d, .int .i64 s, .bool mu, .int .i64 t, .slice ar R.length cap] 24)).alloc (.cells #[.int .i64 0, .int .i64 0, .int .i64 0, .int .i64 0, .bool false, .int .i64 0, .slice none 0 0] 24)) = w2 at *
  have hs1 := heap_lt g1
  have HG : Hid (w2.heap[w.heap.size]? = some (.cells #[.int .i64 rw0, .int .i64 b, .int .i64 d, .int .i64 s, .bool mu, .int .i64 t, .slice ar R.length cap] 24 (0, 0)) ∧ w2.heap[w.heap.size + 1]? = some (.cells #[.int .i64 0, .int .i64 0, .int .i64 0, .int .i64 0, .bool false, .int .i64 0, .slice none 0 0] 24 (0, 0))) := ⟨g0, g1⟩
  have HB0 : Hid (Below w.heap.size w w2) := hB0
  clear g0 g1 hB0
  go_loopw [3, 4] (fun lv iv wr => ∃ (j : Nat) (la : Option Addr) (lc : Nat), j ≤ R.length ∧ iv = .int .i64 (j : Int) ∧ lv = .slice la j lc ∧ Hid (wr.ownsRow w2.heap.size 77 2 (.slice la j lc) j (prC (R.take j))) ∧ Below w2.heap.size w2 wr) (fun _ iv _ => R.length - (intOf iv).toNat)
  case atStart => exact ⟨0, none, 0, Nat.zero_le _, rfl, rfl, World.ownsRow_nil _ _ _ _, Below.refl _ _⟩
  case round =>
    obtain ⟨j, la, lc, hj, rfl, rfl, HO, hbel⟩ := hrel
    have HB : Hid (Below w2.heap.size w2 wr) := hbel
    have gr : wr.heap[w.heap.size]? = some (.cells #[.int .i64 rw0, .int .i64 b, .int .i64 d, .int .i64 s, .bool mu, .int .i64 t, .slice ar R.length cap] 24 (0, 0)) := (hbel.block _ (Nat.lt_of_succ_lt hs1)).trans HG.out.1
    have c6 : wr.cell? ⟨w.heap.size, 6, none⟩ = some (.slice ar R.length cap) := (cell_at gr 6).trans rfl
    have HS2 : Hid (w2.heap.size ≤ wr.heap.size) := hbel.size
    by_cases hlt : j < R.length
    · have hjd : decide ((j : Int) < (R.length : Int)) = true := by simpa using hlt
      have HM : Hid (R.length - (j + 1) < R.length - j) := Pc.mz _ _ hlt
      have HW : Hid (wrap64 ((j : Int) + 1) = (j : Int) + 1) := Pc.wz hlt (by have := H8.out; omega)
      obtain ⟨x, rfl, z1, z2⟩ : ∃ x, ar = some x ∧ wr.cell? (x.add (j * 2)) = some (.int .i64 (Pc.nthR R j).1) ∧ wr.cell? ⟨(x.add (j * 2)).block, (x.add (j * 2)).off + 1, none⟩ = some (.int .i64 (Pc.nthR R j).2) := by
        obtain ⟨a', cap', hv, _, _, _, hl⟩ := (HL.out.later HB0.out (Nat.le_refl _)).later hbel (Nat.le_refl _)
        injection hv with h1 h2 h3
        subst h1
        obtain ⟨x, hx, _, hc⟩ := hl.resolve_left (by omega)
        exact ⟨x, hx, hc j hlt⟩
      have HPT := pr_take hlt
      have HPT2 : Hid (prC (R.take (j + 1)) = prC (R.take j) ++ [.int .i64 (Pc.nthR R j).1, .int .i64 (Pc.nthR R j).2]) := HPT
      have HJ8 : Hid (j ≤ 8) := Nat.le_trans hj H8.out
      generalize (Pc.nthR R j).1 = r1 at *
      generalize (Pc.nthR R j).2 = r2 at *
      clear HL hbel HPT gr
      go_wp2_with (at_builtin; refine list_lies_wide _ rfl _ _ 22 rfl w2.heap.size 77 i0 _ 2 16 Try.underlying22 HI.out.1 HI.out.2.1 HI.out.2.2.1 HI.out.2.2.2 rfl (by decide) _ _ _ rfl (HO.out.alloc _) ⟨wr.heap.size, 0, none⟩ 1 1 [.int .i64 r1, .int .i64 r2] rfl rfl ?c1 ?c2 ?c3 ?c4 ?c5 ?c6 _ rfl ?_)
      case c1 => exact World.news_of_block (cs := #[.int .i64 r1, .int .i64 r2]) (t := 77) (fr := (0, 0)) (heap_alloc_new _ _)
      case c2 => intro u hu; simp at hu; rcases hu with rfl | rfl <;> rfl
      case c3 => decide
      case c4 => have := HJ8.out; unfold maxLen; omega
      case c5 => have := HJ8.out; omega
      case c6 => have := HS2.out; simp; omega
      intro g2 cp2 w3 hown3 hgr3 _ _
      have HB3 : Hid (Below w2.heap.size w2 w3) := (below_alloc HB.out _).grown hgr3 (by have := HS2.out; simp; omega) (fun b hb => (own_block HO.out b hb).1)
      have HO3 : Hid (w3.ownsRow w2.heap.size 77 2 (.slice (some ⟨g2, 0, none⟩) (j + 1) cp2) (j + 1) (prC (R.take (j + 1)))) := by rw [HPT2.out]; exact hown3
      clear hown3 hgr3 c6 z1 z2
      have hw := HW.out
      go_wp2_with fail
      go_roundw
      case rel => exact ⟨j + 1, _, _, hlt, by go_num, rfl, HO3.out, HB3.out⟩
      case measure =>
        try rw [HW.out]
        exact msb hlt
    · obtain rfl : j = R.length := Nat.le_antisymm hj (Nat.not_lt.1 hlt)
      have HO2 : Hid (wr.ownsRow w2.heap.size 77 2 (.slice la R.length lc) R.length (prC R)) := by have := HO.out; rwa [List.take_length] at this
      have f6 : wr.frozen? ⟨w.heap.size, 6, none⟩ = false := frozen_at gr 6
      have gr1 : wr.heap[w.heap.size + 1]? = some (.cells #[.int .i64 0, .int .i64 0, .int .i64 0, .int .i64 0, .bool false, .int .i64 0, .slice none 0 0] 24 (0, 0)) := (hbel.block _ hs1).trans HG.out.2
      have c0 : wr.cell? ⟨w.heap.size, 0, none⟩ = some (.int .i64 rw0) := (cell_at gr 0).trans rfl
      have c1 : wr.cell? ⟨w.heap.size, 1, none⟩ = some (.int .i64 b) := (cell_at gr 1).trans rfl
      have c2 : wr.cell? ⟨w.heap.size, 2, none⟩ = some (.int .i64 d) := (cell_at gr 2).trans rfl
      have c3 : wr.cell? ⟨w.heap.size, 3, none⟩ = some (.int .i64 s) := (cell_at gr 3).trans rfl
      have c4 : wr.cell? ⟨w.heap.size, 4, none⟩ = some (.bool mu) := (cell_at gr 4).trans rfl
      have c5 : wr.cell? ⟨w.heap.size, 5, none⟩ = some (.int .i64 t) := (cell_at gr 5).trans rfl
      have hne : w.heap.size ≠ w.heap.size + 1 := by omega
      obtain ⟨cs, hcs⟩ : ∃ cs : Array Value, #[.int .i64 rw0, .int .i64 b, .int .i64 d, .int .i64 s, .bool mu, .int .i64 t, .slice la R.length lc] = cs := ⟨_, rfl⟩
      have hcz : cs.size = 7 := by rw [← hcs]; rfl
      have h1c : cs.all (·.oneCell') = true := by rw [← hcs]; simp [Value.oneCell']
      have gs1 : (wr.setCell ⟨w.heap.size, 6, none⟩ (.slice la R.length lc)).heap[w.heap.size + 1]? = some (.cells #[.int .i64 0, .int .i64 0, .int .i64 0, .int .i64 0, .bool false, .int .i64 0, .slice none 0 0] 24 (0, 0)) := (heap_set_other 6 _ hne).trans gr1
      have hst : (storeCells ⟨w.heap.size + 1, 0, none⟩ cs.toList 0).run Try.prog (wr.setCell ⟨w.heap.size, 6, none⟩ (.slice la R.length lc)) = .ok () ((wr.setCell ⟨w.heap.size, 6, none⟩ (.slice la R.length lc)).setRow (w.heap.size + 1) cs) := store_cf gs1 rfl hcz h1c
      have gs2 : ((wr.setCell ⟨w.heap.size, 6, none⟩ (.slice la R.length lc)).setRow (w.heap.size + 1) cs).heap[w.heap.size + 1]? = some (.cells cs 24 (0, 0)) := setRow_heap _ _ _ _ _ _ gs1
      have HFN : Hid (((wr.setCell ⟨w.heap.size, 6, none⟩ (.slice la R.length lc)).setRow (w.heap.size + 1) cs).ownsRow w.heap.size 77 2 (.slice la R.length lc) R.length (prC R) ∧ Below w.heap.size w ((wr.setCell ⟨w.heap.size, 6, none⟩ (.slice la R.length lc)).setRow (w.heap.size + 1) cs)) := by
        have hbw : Below w.heap.size w wr := below_then HB0.out HB.out
        have hk : Keep [w.heap.size, w.heap.size + 1] wr ((wr.setCell ⟨w.heap.size, 6, none⟩ (.slice la R.length lc)).setRow (w.heap.size + 1) cs) := Keep.setRow (Keep.setCell (Keep.refl _ _) _ _ (Or.inl (by simp))) _ _ (Or.inl (by simp))
        have hle : w.heap.size + 2 ≤ w2.heap.size := hs1
        refine ⟨own_base (own_keep HO2.out hk (fun b hb => ?_)) (by omega), hbw.trans (hk.below hbw.size (fun b hb => by simp at hb; omega))⟩
        have := (own_block HO2.out b hb).1
        simp
        omega
      have HGS : Hid (((wr.setCell ⟨w.heap.size, 6, none⟩ (.slice la R.length lc)).setRow (w.heap.size + 1) cs).heap[w.heap.size + 1]? = some (.cells cs 24 (0, 0))) := gs2
      clear HO HL hbel gr gr1 gs1 gs2
      go_wp2_with fail
      refine ret_conf (g := w.heap.size + 1) rfl rfl HGS.out hcz rfl ?_
      exact ⟨_, by rw [← hcs], HFN.out⟩
end Go.Proofs.Ytgbmnngmfcneaaa.Pl
