/- BackPlays walked, where the machine may not be made. -/
import Derived.Test.YtbmmicfdnfpcaaaBpJ
import Derived.Test.YtbmmicfdnfpcaaaBkT
import Derived.Test.YtbmmicfdnfpcaaaRefD
import Derived.Test.YtbmmicfdnfpcaaaRefE
import Derived.Test.YtbmmicfdnfpcaaaActL
import Derived.Test.YtbmmicfdnfpcaaaMemH
import Derived.Deep.CutBlock
import Derived.Deep.DeepCutAuto
import Derived.Deep.LoopGhost
namespace Go.Proofs.Ytbmmicfdnfpcaaa
open Go.ChangeShapes Go.WideShapes Go.ChangeAt Go.RowKit
attribute [local go_sem ↓] Go.wp_at_zero Go.wp_at_succ

theorem conf_cells11 {w : World} {B : Nat} {c0 c1 c2 c3 c4 c5 c6 : Value} {t : TypeId} (h : w.heap[B]? = some (.cells #[c0, c1, c2, c3, c4, c5, c6] t (0, 0))) : w.cell? ⟨B, 0, none⟩ = some c0 ∧ w.cell? ⟨B, 1, none⟩ = some c1 ∧ w.cell? ⟨B, 2, none⟩ = some c2 ∧ w.cell? ⟨B, 3, none⟩ = some c3 ∧ w.cell? ⟨B, 4, none⟩ = some c4 ∧ w.cell? ⟨B, 5, none⟩ = some c5 ∧ w.cell? ⟨B, 6, none⟩ = some c6 :=
  ⟨by rw [cell_at h]; rfl, by rw [cell_at h]; rfl, by rw [cell_at h]; rfl, by rw [cell_at h]; rfl, by rw [cell_at h]; rfl, by rw [cell_at h]; rfl, by rw [cell_at h]; rfl⟩
theorem bnew_no (w : World) (raw s wr n : Int) (mu : Bool) (tr : Int) (v : Value) (st : Int) {lv : Value} {W : List Wt} (hl : WL w lv W) (htk : tkB s st W = false) :
    Calls Try.prog 7 #[confB raw s wr n mu tr v, .int .i64 st, lv] w fun e w' => e = .returned (.tuple #[.pointer none, .int .i64 1]) ∧ Below w.heap.size w w' := by
  by_cases hc : 1 ≤ s ∧ s ≤ 16 ∧ 1 ≤ st ∧ st ≤ 1099511627776 ∧ W.length ≤ 24
  · obtain ⟨s', rfl⟩ := Int.eq_ofNat_of_zero_le (show 0 ≤ s by omega)
    refine (bnew_any w raw wr n mu tr v (P := ⟨s', st, W, sgOf W⟩) hl (by simp only; omega) (by simp only; omega) hc.2.2.1 hc.2.2.2.1 hc.2.2.2.2).mono ?_
    rintro e w' ⟨hb, hh⟩
    rw [if_neg (by simp only; rw [htk]; simp)] at hh
    exact ⟨hh, hb⟩
  · exact bnew_bad w raw s wr n mu tr v st hl hc
set_option maxRecDepth 100000 in
set_option maxHeartbeats 6400000 in
theorem bplays_no (w : World) (raw s wr0 nn : Int) (mu : Bool) (tr : Int) (va : Option Addr) (vn vcap : Nat) (st : Int) {wv av : Value} {W : List Wt} {S : List At} (hW : WL w wv W) (_hv : ∀ i, i < W.length → W64 (W.getD i noWt).v) (cells ring : Int) (hS : BLst w av S) (htk : tkB s st W = false) :
    Calls Try.prog 3 #[.agg #[.int .i64 raw, .int .i64 s, .int .i64 wr0, .int .i64 nn, .bool mu, .int .i64 tr, .slice va vn vcap, .int .i64 st, wv, .int .i64 cells, .int .i64 ring, av]] w fun e w' => e = .returned (.bool true) ∧ Below w.heap.size w w' := by
  have HF : Hid (∀ (w : World) lv, WL w lv W → Calls Try.prog 7 #[.agg #[.int .i64 raw, .int .i64 s, .int .i64 wr0, .int .i64 nn, .bool mu, .int .i64 tr, .slice va vn vcap], .int .i64 st, lv] w fun e w' => e = .returned (.tuple #[.pointer none, .int .i64 1]) ∧ Below w.heap.size w w') := fun w lv hl => bnew_no w raw s wr0 nn mu tr (.slice va vn vcap) st hl htk
  have HS : Hid (∀ w : World, Calls Try.prog 6 #[] w fun e w' => e = .returned (.bool true) ∧ Below w.heap.size w w') := bshown_any
  have HWL : Hid (∀ w', Below w.heap.size w w' → WL w' wv W) := fun w' hb => hW.later hb
  obtain ⟨a, cap, rfl, hbig, _⟩ := hW
  have HT : Hid (∀ w', Below w.heap.size w w' → Calls Try.prog 8 #[.agg #[.int .i64 raw, .int .i64 s, .int .i64 wr0, .int .i64 nn, .bool mu, .int .i64 tr, .slice va vn vcap], .int .i64 st, .slice a W.length cap] w' fun e w'' => e = .returned (.bool false) ∧ Below w'.heap.size w' w'') := fun w' hb => by
    have := dtakes_any w' raw s wr0 nn mu tr (.slice va vn vcap) st (HWL.out w' hb)
    rw [htk] at this
    exact this
  have HIC : Hid (∀ w', Below w.heap.size w w' → ∃ w2, (Builtin.copy_ #[25, 25] 3 #[.slice (some ⟨w'.heap.size, 0, none⟩) (W.length + 1) (W.length + 1), .slice a W.length cap]).run Try.prog (w'.alloc (.cells (fresh2 (W.length + 1)) 36)) = .ok (goInt (W.length : Int)) w2 ∧ InR w2 w'.heap.size W 0 ∧ Below w'.heap.size w' w2) := fun w' hb => in_copy w' 3 (HWL.out w' hb)
  have HMK : Hid (∀ w', (Instr.makeSlice 25 (.int .i64 ((W.length : Int) + 1)) (.int .i64 ((W.length : Int) + 1))).run Try.prog w' = .ok (.slice (some ⟨w'.heap.size, 0, none⟩) (W.length + 1) (W.length + 1)) (w'.alloc (.cells (fresh2 (W.length + 1)) 36))) := fun w' => by
    have := make_wrs11 w' (W.length + 1) (by omega)
    simpa using this
  have HWI : Hid (∀ w' g, InR w' g W 0 → WL w' (.slice (some ⟨g, 0, none⟩) W.length (W.length + 1)) W) := fun w' g h => h.wl hbig _
  have HLS : Hid (∀ w' g q, InR w' g W q → w'.cell? ⟨g, W.length * 2, none⟩ = some (.int .i64 0) ∧ w'.cell? ⟨g, W.length * 2 + 1, none⟩ = some (.int .i64 0)) := fun w' g q h => h.last
  have HCE : Hid (∀ w' g q i, InR w' g W q → q ≤ i → i < W.length → w'.cell? ⟨g, i * 2, none⟩ = some (.int .i64 (W.getD i noWt).c) ∧ w'.cell? ⟨g, i * 2 + 1, none⟩ = some (.int .i64 (W.getD i noWt).v)) := fun w' g q i h h1 h2 => h.cells i h1 h2
  have HWC : Hid (∀ w', Below w.heap.size w w' → ∀ i, i < W.length → ∃ x, a = some x ∧ x.block < w.heap.size ∧ w'.cell? (x.add (i * 2)) = some (.int .i64 (W.getD i noWt).c) ∧ w'.cell? ((x.add (i * 2)).add 1) = some (.int .i64 (W.getD i noWt).v)) := fun w' hb i hi => by
    obtain ⟨a', cap', he, _, hl⟩ := HWL.out w (Below.refl _ _)
    simp at he
    obtain ⟨rfl, rfl⟩ := he
    rcases hl with h | ⟨x, e1, e2, e3⟩
    · rw [h] at hi; simp at hi
    · exact ⟨x, e1, e2, (hb.cell (p := x.add (i * 2)) (by rw [add_block]; exact e2)).trans (e3 i hi).1, (hb.cell (p := (x.add (i * 2)).add 1) (by rw [add_block, add_block]; exact e2)).trans (e3 i hi).2⟩
  have HST : Hid (∀ w' g q, InR w' g W q → q < W.length → ∀ a b, InR ((w'.setCell ⟨g, q * 2, none⟩ a).setCell ⟨g, q * 2 + 1, none⟩ b) g W (q + 1)) := fun w' g q h hq a b => h.set hq a b
  obtain ⟨la, lcap, rfl, _, _, _⟩ := hS
  clear htk
  generalize W.length = nW at *
  generalize S.length = nS at *
  go_enter Try.func3, Try.ntmps3
  go_wp2_with fail
  refine (HS.out _).mono ?_
  rintro e y1 ⟨rfl, hb1⟩
  have HB1 : Hid (Below w.heap.size w y1) := below_then (below_alloc (below_a1 _ _) _) hb1
  have HC1 : Hid (y1.heap[w.heap.size + 1]? = some (.cells #[.int .i64 raw, .int .i64 s, .int .i64 wr0, .int .i64 nn, .bool mu, .int .i64 tr, .slice va vn vcap] 24 (0, 0))) := row_on (heap_alloc2_new w _ _) hb1
  have HG1 : Hid (w.heap.size + 1 < y1.heap.size) := heap_lt HC1.out
  clear hb1 HS
  obtain ⟨w2, hcp, hin, hbc⟩ := HIC.out _ HB1.out
  have HI2 : Hid (InR w2 y1.heap.size W 0) := hin
  have HB2 : Hid (Below y1.heap.size y1 w2) := hbc
  have hmk := HMK.out y1
  have hwn : wrap64 ((nW : Int) + 1) = (nW : Int) + 1 := by unfold wrap64; omega
  obtain ⟨g0, g1, g2, g3, g4, g5, g6⟩ := conf_cells11 (row_on HC1.out hbc)
  have hs1 : (nW : Int) ≤ (nW : Int) + 1 := by omega
  have hs2 : (0 : Int) ≤ (nW : Int) := by omega
  clear hin hbc HIC HMK
  go_upto_region 10 with fail
  clear hcp hmk
  go_cut [11, 12] (fun s11 s12 wx => s11 = .pointer none ∧ s12 = .int .i64 1 ∧ Below w2.heap.size w2 wx)
  case first =>
    go_region_with ((go_at_call 7; refine (HF.out _ _ (HWI.out _ _ (HI2.out.below (below_drawn (Below.refl _ _) 1)))).mono ?_; rintro e w3 ⟨rfl, hb3⟩))
    all_goals
      go_wp2_with fail
      go_meet
      exact ⟨rfl, rfl, below_then (below_drawn (Below.refl _ _) 1) hb3⟩
  case rest =>
    obtain ⟨rfl, rfl, hbx⟩ := hcut
    obtain ⟨y3, rfl⟩ : ∃ y3, y3 = wc := ⟨_, rfl⟩
    have HX : Hid (Below w2.heap.size w2 y3) := hbx
    clear hbx
    have HB3 : Hid (Below w.heap.size w y3) := below_then (below_then HB1.out HB2.out) HX.out
    have HI3 : Hid (InR y3 y1.heap.size W 0) := HI2.out.below HX.out
    clear g0 g1 g2 g3 g4 g5 g6
    obtain ⟨g0, g1, g2, g3, g4, g5, g6⟩ := conf_cells11 (row_on (row_on HC1.out HB2.out) HX.out)
    go_wp2_with fail
    refine (HT.out _ HB3.out).mono ?_
    rintro e y4 ⟨rfl, hb4⟩
    have HB4 : Hid (Below w.heap.size w y4) := below_then HB3.out hb4
    have HI4 : Hid (InR y4 y1.heap.size W 0) := HI3.out.below hb4
    have HX4 : Hid (Below y3.heap.size y3 y4) := hb4
    obtain ⟨il0, il1⟩ := HLS.out _ _ _ HI4.out
    have hgl : y1.heap.size < y4.heap.size := HI4.out.lt
    have hs3 : (nW : Int) < (nW : Int) + 1 := by omega
    clear hb4 g0 g1 g2 g3 g4 g5 g6 hs1 HI3
    go_upto_block 0 with fail
    clear il0 il1
    go_cut [14] (fun _ wx => Keep [y1.heap.size] y4 wx ∧ Below w.heap.size w wx)
    case first =>
      go_wp2_with fail
      go_loopw [14] (fun iv wr => ∃ q : Nat, q ≤ nW ∧ iv = .int .i64 q ∧ InR wr y1.heap.size W q ∧ Keep [y1.heap.size] y4 wr ∧ Below w.heap.size w wr) (fun iv _ => nW - (intOf iv).toNat)
      case atStart => exact ⟨0, Nat.zero_le _, rfl, HI4.out, Keep.refl _ _, HB4.out⟩
      case round =>
        obtain ⟨q, hq, rfl, hin, hkp, hbl⟩ := hrel
        have HI5 : Hid (InR wr y1.heap.size W q) := hin
        have HK5 : Hid (Keep [y1.heap.size] y4 wr) := hkp
        have HB5 : Hid (Below w.heap.size w wr) := hbl
        clear hin hkp hbl HI4
        by_cases hlt : q < nW
        · have hlt' : (q : Int) < (nW : Int) := by omega
          have hlt2 : (q : Int) < (nW : Int) + 1 := by omega
          have hwq : wrap64 ((q : Int) + 1) = (q : Int) + 1 := by unfold wrap64; omega
          obtain ⟨i0, i1⟩ := HCE.out _ _ _ q HI5.out (Nat.le_refl _) hlt
          obtain ⟨x, rfl, hxb, c0, c1⟩ := HWC.out _ HB5.out q hlt
          rw [add_pos' _ _ (by decide)] at c1
          have hgl5 : y1.heap.size < wr.heap.size := HI5.out.lt
          generalize W.getD q noWt = wt at *
          obtain ⟨tc, tv⟩ := wt
          simp only at i0 i1 c0 c1
          go_wp2_with fail
          go_quiet (fail)
          obtain ⟨x6, hx6⟩ : ∃ x6, x6 = wr.drewN nq := ⟨_, rfl⟩
          rw [← hx6]
          have HI6 : Hid (InR x6 y1.heap.size W q) := by rw [Hid, hx6]; exact HI5.out.below (below_drawn (Below.refl _ _) _)
          have HK6 : Hid (Keep [y1.heap.size] y4 x6) := by rw [Hid, hx6]; exact HK5.out.drewN _
          have HB6 : Hid (Below w.heap.size w x6) := by rw [Hid, hx6]; exact below_drawn HB5.out _
          have i0' : x6.cell? ⟨y1.heap.size, q * 2, none⟩ = some (.int .i64 tc) := by rw [hx6]; exact i0
          have i1' : x6.cell? ⟨y1.heap.size, q * 2 + 1, none⟩ = some (.int .i64 tv) := by rw [hx6]; exact i1
          clear hx6 i0 i1 c0 c1 HI5 HK5 HB5 hgl5
          have f0 := HI6.out.fz (q * 2)
          have f1 := HI6.out.fz (q * 2 + 1)
          have hgl6 : y1.heap.size < x6.heap.size := HI6.out.lt
          have HNI : Hid (InR ((x6.setCell ⟨y1.heap.size, q * 2, none⟩ (.int .i64 1)).setCell ⟨y1.heap.size, q * 2 + 1, none⟩ (.int .i64 (-9))) y1.heap.size W (q + 1)) := HST.out _ _ _ HI6.out hlt _ _
          have HNK : Hid (Keep [y1.heap.size] y4 ((x6.setCell ⟨y1.heap.size, q * 2, none⟩ (.int .i64 1)).setCell ⟨y1.heap.size, q * 2 + 1, none⟩ (.int .i64 (-9)))) := keepZ (keepZ HK6.out _ _) _ _
          have HNB : Hid (Below w.heap.size w ((x6.setCell ⟨y1.heap.size, q * 2, none⟩ (.int .i64 1)).setCell ⟨y1.heap.size, q * 2 + 1, none⟩ (.int .i64 (-9)))) := (HB6.out.setCell HB1.out.size _).setCell HB1.out.size _
          go_wp2
          go_roundw
          case rel => exact ⟨q + 1, by omega, by go_num, HNI.out, HNK.out, HNB.out⟩
          case measure => simp [intOf]; omega
        · have hqe : q = nW := by omega
          subst hqe
          have hnn : ¬ (q : Int) < (q : Int) := by omega
          go_wp2
          go_meet
          exact ⟨HK5.out, HB5.out⟩
    case rest =>
      obtain ⟨hkp, hbl⟩ := hcut
      obtain ⟨y5, rfl⟩ : ∃ y5, y5 = wc := ⟨_, rfl⟩
      have HK5 : Hid (Keep [y1.heap.size] y4 y5) := hkp
      have HB5 : Hid (Below w.heap.size w y5) := hbl
      clear hkp hbl HI4 hgl hs2 hs3 hwn
      go_wp2
      go_ret
      exact ⟨rfl, HB5.out⟩
end Go.Proofs.Ytbmmicfdnfpcaaa
