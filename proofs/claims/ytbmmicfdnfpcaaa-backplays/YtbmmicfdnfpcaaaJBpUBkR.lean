/- BackPlays walked, where the machine may not be made. -/
import Derived.Test.YtbmmicfdnfpcaaaJBpEBpJ
import Derived.Test.YtbmmicfdnfpcaaaBkT
import Derived.Test.YtbmmicfdnfpcaaaRefD
import Derived.Test.YtbmmicfdnfpcaaaRefE
import Derived.Test.YtbmmicfdnfpcaaaActL
import Derived.Test.YtbmmicfdnfpcaaaMemH
import Derived.Deep.CutBlock
import Derived.Deep.DeepCutAuto
import Derived.Deep.LoopGhost
import Derived.Test.YtbmmicfdnfpcaaaBkN
namespace Go.Proofs.Ytbmmicfdnfpcaaa
open Go.ChangeShapes Go.WideShapes Go.ChangeAt Go.RowKit
attribute [local go_sem ↓] Go.wp_at_zero Go.wp_at_succ

theorem conf_cells11 {w : World} {B : Nat} {c0 c1 c2 c3 c4 c5 c6 : Value} {t : TypeId} (h : w.heap[B]? = some (.cells #[c0, c1, c2, c3, c4, c5, c6] t (0, 0))) : w.cell? ⟨B, 0, none⟩ = some c0 ∧ w.cell? ⟨B, 1, none⟩ = some c1 ∧ w.cell? ⟨B, 2, none⟩ = some c2 ∧ w.cell? ⟨B, 3, none⟩ = some c3 ∧ w.cell? ⟨B, 4, none⟩ = some c4 ∧ w.cell? ⟨B, 5, none⟩ = some c5 ∧ w.cell? ⟨B, 6, none⟩ = some c6 :=
  ⟨by rw [cell_at h]; rfl, by rw [cell_at h]; rfl, by rw [cell_at h]; rfl, by rw [cell_at h]; rfl, by rw [cell_at h]; rfl, by rw [cell_at h]; rfl, by rw [cell_at h]; rfl⟩
theorem bnew_no (w : World) (raw s wr n : Int) (mu : Bool) (tr : Int) (v : Value) (st : Int) {lv : Value} {W : List Wt} (hl : WL w lv W) (htk : tkB s st W = false) :
    Calls Try.prog 7 #[confB raw s wr n mu tr v, .int .i64 st, lv] w fun e w' => e = .returned (.tuple #[.pointer none, .int .i64 1]) ∧ Below w.heap.size w w' := by
  by_cases hc : 1 ≤ s ∧ s ≤ 16 ∧ 1 ≤ st ∧ st ≤ 1099511627776 ∧ W.length ≤ 24
  · obtain ⟨s', rfl⟩ := Int.eq_ofNat_of_zero_le (show 0 ≤ s by omega)
    refine (bnew_any w raw wr n mu tr v (P := ⟨s', st, W, sgOf W⟩) hl (by simp only; omega) (by simp only; omega) hc.2.2.1 hc.2.2.2.1 hc.2.2.2.2).mono ?_
    rintro e w' ⟨hb, hh⟩
    rw [if_neg (by simp only; rw [htk]; simp)] at hh
    exact ⟨hh, hb⟩
  · exact bnew_bad w raw s wr n mu tr v st hl hc
set_option maxRecDepth 100000 in
set_option maxHeartbeats 6400000 in
theorem bplays_no (w : World) (raw s wr0 nn : Int) (mu : Bool) (tr : Int) (va : Option Addr) (vn vcap : Nat) (st : Int) {wv av : Value} {W : List Wt} {S : List At} (hW : WL w wv W) (_hv : ∀ i, i < W.length → W64 (W.getD i noWt).v) (cells ring : Int) (hS : BLst w av S) (htk : tkB s st W = false) :
    Calls Try.prog 3 #[.agg #[.int .i64 raw, .int .i64 s, .int .i64 wr0, .int .i64 nn, .bool mu, .int .i64 tr, .slice va vn vcap, .int .i64 st, wv, .int .i64 cells, .int .i64 ring, av]] w fun e w' => e = .returned (.bool true) ∧ Below w.heap.size w w' := by
  have HF : Hid (∀ (w : World) lv, WL w lv W → Calls Try.prog 7 #[.agg #[.int .i64 raw, .int .i64 s, .int .i64 wr0, .int .i64 nn, .bool mu, .int .i64 tr, .slice va vn vcap], .int .i64 st, lv] w fun e w' => e = .returned (.tuple #[.pointer none, .int .i64 1]) ∧ Below w.heap.size w w') := fun w lv hl => bnew_no w raw s wr0 nn mu tr (.slice va vn vcap) st hl htk
  have HS : Hid (∀ w : World, Calls Try.prog 6 #[] w fun e w' => e = .returned (.bool true) ∧ Below w.heap.size w w') := bshown_any
  have HWL : Hid (∀ w', Below w.heap.size w w' → WL w' wv W) := fun w' hb => hW.later hb
  obtain ⟨a, cap, rfl, hbig, _⟩ := hW
  have HT : Hid (∀ w', Below w.heap.size w w' → Calls Try.prog 8 #[.agg #[.int .i64 raw, .int .i64 s, .int .i64 wr0, .int .i64 nn, .bool mu, .int .i64 tr, .slice va vn vcap], .int .i64 st, .slice a W.length cap] w' fun e w'' => e = .returned (.bool false) ∧ Below w'.heap.size w' w'') := fun w' hb => by
    have := dtakes_any w' raw s wr0 nn mu tr (.slice va vn vcap) st (HWL.out w' hb)
    rw [htk] at this
    exact this
  have HIC : Hid (∀ w', Below w.heap.size w w' → ∃ w2, (Builtin.copy_ #[25, 25] 3 #[.slice (some ⟨w'.heap.size, 0, none⟩) (W.length + 1) (W.length + 1), .slice a W.length cap]).run Try.prog (w'.alloc (.cells (fresh2 (W.length + 1)) 36)) = .ok (goInt (W.length : Int)) w2 ∧ InR w2 w'.heap.size W 0 ∧ Below w'.heap.size w' w2) := fun w' hb => in_copy w' 3 (HWL.out w' hb)
  have HMK : Hid (∀ w', (Instr.makeSlice 25 (.int .i64 ((W.length : Int) + 1)) (.int .i64 ((W.length : Int) + 1))).run Try.prog w' = .ok (.slice (some ⟨w'.heap.size, 0, none⟩) (W.length + 1) (W.length + 1)) (w'.alloc (.cells (fresh2 (W.length + 1)) 36))) := fun w' => by
    have := make_wrs11 w' (W.length + 1) (by omega)
    simpa using this
  have HWI : Hid (∀ w' g, InR w' g W 0 → WL w' (.slice (some ⟨g, 0, none⟩) W.length (W.length + 1)) W) := fun w' g h => h.wl hbig _
  have HLS : Hid (∀ w' g q, InR w' g W q → w'.cell? ⟨g, W.length * 2, none⟩ = some (.int .i64 0) ∧ w'.cell? ⟨g, W.length * 2 + 1, none⟩ = some (.int .i64 0)) := fun w' g q h => h.last
  have HCE : Hid (∀ w' g q i, InR w' g W q → q ≤ i → i < W.length → w'.cell? ⟨g, i * 2, none⟩ = some (.int .i64 (W.getD i noWt).c) ∧ w'.cell? ⟨g, i * 2 + 1, none⟩ = some (.int .i64 (W.getD i noWt).v)) := fun w' g q i h h1 h2 => h.cells i h1 h2
  have HWC : Hid (∀ w', Below w.heap.size w w' → ∀ i, i < W.length → ∃ x, a = some x ∧ x.block < w.heap.size ∧ w'.cell? (x.add (i * 2)) = some (.int .i64 (W.getD i noWt).c) ∧ w'.cell? ((x.add (i * 2)).add 1) = some (.int .i64 (W.getD i noWt).v)) := fun w' hb i hi => by
    obtain ⟨a', cap', he, _, hl⟩ := HWL.out w (Below.refl _ _)
    simp at he
    obtain ⟨rfl, rfl⟩ := he
    rcases hl with h | ⟨x, e1, e2, e3⟩
    · rw [h] at hi; simp at hi
    · exact ⟨x, e1, e2, (hb.cell (p := x.add (i * 2)) (by rw [add_block]; exact e2)).trans (e3 i hi).1, (hb.cell (p := (x.add (i * 2)).add 1) (by rw [add_block, add_block]; exact e2)).trans (e3 i hi).2⟩
  have HST : Hid (∀ w' g q, InR w' g W q → q < W.length → ∀ a b, InR ((w'.setCell ⟨g, q * 2, none⟩ a).setCell ⟨g, q * 2 + 1, none⟩ b) g W (q + 1)) := fun w' g q h hq a b => h.set hq a b
  obtain ⟨la, lcap, rfl, _, _, _⟩ := hS
  clear htk
  generalize W.length = nW at *
  generalize S.length = nS at *
  go_enter Try.func3, Try.ntmps3
  go_wp2_with fail
  refine (HS.out _).mono ?_
  rintro e y1 ⟨rfl, hb1⟩
  have HB1 : Hid (Below w.heap.size w y1) := below_then (below_alloc (below_a1 _ _) _) hb1
  have HC1 : Hid (y1.heap[w.heap.size + 1]? = some (.cells #[.int .i64 raw, .int .i64 s, .int .i64 wr0, .int .i64 nn, .bool mu, .int .i64 tr, .slice va vn vcap] 24 (0, 0))) := row_on (heap_alloc2_new w _ _) hb1
  have HG1 : Hid (w.heap.size + 1 < y1.heap.size) := heap_lt HC1.out
  clear hb1 HS
  obtain ⟨w2, hcp, hin, hbc⟩ := HIC.out _ HB1.out
  have HI2 : Hid (InR w2 y1.heap.size W 0) := hin
  have HB2 : Hid (Below y1.heap.size y1 w2) := hbc
  have hmk := HMK.out y1
  have hwn : wrap64 ((nW : Int) + 1) = (nW : Int) + 1 := by unfold wrap64; omega
  obtain ⟨g0, g1, g2, g3, g4, g5, g6⟩ := conf_cells11 (row_on HC1.out hbc)
  have hs1 : (nW : Int) ≤ (nW : Int) + 1 := by omega
  have hs2 : (0 : Int) ≤ (nW : Int) := by omega
  clear hin hbc HIC HMK
  go_upto_region 10 with fail
  clear hcp hmk
  go_cut [11, 12] (fun s11 s12 wx => s11 = .pointer none ∧ s12 = .int .i64 1 ∧ Below w2.heap.size w2 wx)
  case first =>
    go_region_with ((go_at_call 7; refine (HF.out _ _ (HWI.out _ _ (HI2.out.below (below_drawn (Below.refl _ _) 1)))).mono ?_; rintro e w3 ⟨rfl, hb3⟩))
    all_goals
      go_wp2_with fail
      go_meet
      exact ⟨rfl, rfl, below_then (below_drawn (Below.refl _ _) 1) hb3⟩
  case rest =>
    obtain ⟨rfl, rfl, hbx⟩ := hcut
    obtain ⟨y3, rfl⟩ : ∃ y3, y3 = wc := ⟨_, rfl⟩
    have HX : Hid (Below w2.heap.size w2 y3) := hbx
    clear hbx
    have HB3 : Hid (Below w.heap.size w y3) := below_then (below_then HB1.out HB2.out) HX.out
    have HI3 : Hid (InR y3 y1.heap.size W 0) := HI2.out.below HX.out
    clear g0 g1 g2 g3 g4 g5 g6
    obtain ⟨g0, g1, g2, g3, g4, g5, g6⟩ := conf_cells11 (row_on (row_on HC1.out HB2.out) HX.out)
    go_wp2_with fail
    refine (HT.out _ HB3.out).mono ?_
    rintro e y4 ⟨rfl, hb4⟩
    have HB4 : Hid (Below w.heap.size w y4) := below_then HB3.out hb4
    have HI4 : Hid (InR y4 y1.heap.size W 0) := HI3.out.below hb4
    have HX4 : Hid (Below y3.heap.size y3 y4) := hb4
    obtain ⟨il0, il1⟩ := HLS.out _ _ _ HI4.out
    have hgl : y1.heap.size < y4.heap.size := HI4.out.lt
    have hs3 : (nW : Int) < (nW : Int) + 1 := by omega
    clear hb4 g0 g1 g2 g3 g4 g5 g6 hs1 HI3
    go_upto_block 0 with fail
    clear il0 il1
    go_cut [14] (fun _ wx => Keep [y1.heap.size] y4 wx ∧ Below w.heap.size w wx)
    case first =>
      go_wp2_with fail
      go_loopw [14] (fun iv wr => ∃ q : Nat, q ≤ nW ∧ iv = .int .i64 q ∧ InR wr y1.heap.size W q ∧ Keep [y1.heap.size] y4 wr ∧ Below w.heap.size w wr) (fun iv _ => nW - (intOf iv).toNat)
      case atStart => exact ⟨0, Nat.zero_le _, rfl, HI4.out, Keep.refl _ _, HB4.out⟩
      case round =>
        obtain ⟨q, hq, rfl, hin, hkp, hbl⟩ := hrel
        have HI5 : Hid (InR wr y1.heap.size W q) := hin
        have HK5 : Hid (Keep [y1.heap.size] y4 wr) := hkp
        have HB5 : Hid (Below w.heap.size w wr) := hbl
        clear hin hkp hbl HI4
        by_cases hlt : q < nW
        · have hlt' : (q : Int) < (nW : Int) := by omega
          have hlt2 : (q : Int) < (nW : Int) + 1 := by omega
          have hwq : wrap64 ((q : Int) + 1) = (q : Int) + 1 := by unfold wrap64; omega
          obtain ⟨i0, i1⟩ := HCE.out _ _ _ q HI5.out (Nat.le_refl _) hlt
          obtain ⟨x, rfl, hxb, c0, c1⟩ := HWC.out _ HB5.out q hlt
          rw [add_pos' _ _ (by decide)] at c1
          have hgl5 : y1.heap.size < wr.heap.size := HI5.out.lt
          generalize W.getD q noWt = wt at *
          obtain ⟨tc, tv⟩ := wt
          simp only at i0 i1 c0 c1
          go_wp2_with fail
          go_quiet (fail)
          obtain ⟨x6, hx6⟩ : ∃ x6, x6 = wr.drewN nq := ⟨_, rfl⟩
          rw [← hx6]
          have HI6 : Hid (InR x6 y1.heap.size W q) := by rw [Hid, hx6]; exact HI5.out.below (below_drawn (Below.refl _ _) _)
          have HK6 : Hid (Keep [y1.heap.size] y4 x6) := by rw [Hid, hx6]; exact HK5.out.drewN _
          have HB6 : Hid (Below w.heap.size w x6) := by rw [Hid, hx6]; exact below_drawn HB5.out _
          have i0' : x6.cell? ⟨y1.heap.size, q * 2, none⟩ = some (.int .i64 tc) := by rw [hx6]; exact i0
          have i1' : x6.cell? ⟨y1.heap.size, q * 2 + 1, none⟩ = some (.int .i64 tv) := by rw [hx6]; exact i1
          clear hx6 i0 i1 c0 c1 HI5 HK5 HB5 hgl5
          have f0 := HI6.out.fz (q * 2)
          have f1 := HI6.out.fz (q * 2 + 1)
          have hgl6 : y1.heap.size < x6.heap.size := HI6.out.lt
          have HNI : Hid (InR ((x6.setCell ⟨y1.heap.size, q * 2, none⟩ (.int .i64 1)).setCell ⟨y1.heap.size, q * 2 + 1, none⟩ (.int .i64 (-9))) y1.heap.size W (q + 1)) := HST.out _ _ _ HI6.out hlt _ _
          have HNK : Hid (Keep [y1.heap.size] y4 ((x6.setCell ⟨y1.heap.size, q * 2, none⟩ (.int .i64 1)).setCell ⟨y1.heap.size, q * 2 + 1, none⟩ (.int .i64 (-9)))) := keepZ (keepZ HK6.out _ _) _ _
          have HNB : Hid (Below w.heap.size w ((x6.setCell ⟨y1.heap.size, q * 2, none⟩ (.int .i64 1)).setCell ⟨y1.heap.size, q * 2 + 1, none⟩ (.int .i64 (-9)))) := (HB6.out.setCell HB1.out.size _).setCell HB1.out.size _
          go_wp2
          go_roundw
          case rel => exact ⟨q + 1, by omega, by go_num, HNI.out, HNK.out, HNB.out⟩
          case measure => simp [intOf]; omega
        · have hqe : q = nW := by omega
          subst hqe
          have hnn : ¬ (q : Int) < (q : Int) := by omega
          go_wp2
          go_meet
          exact ⟨HK5.out, HB5.out⟩
    case rest =>
      obtain ⟨hkp, hbl⟩ := hcut
      obtain ⟨y5, rfl⟩ : ∃ y5, y5 = wc := ⟨_, rfl⟩
      have HK5 : Hid (Keep [y1.heap.size] y4 y5) := hkp
      have HB5 : Hid (Below w.heap.size w y5) := hbl
      clear hkp hbl HI4 hgl hs2 hs3 hwn
      go_wp2
      go_ret
      exact ⟨rfl, HB5.out⟩
end Go.Proofs.Ytbmmicfdnfpcaaa
/- BackPlays walked, where the machine is made. -/
namespace Go.Proofs.Ytbmmicfdnfpcaaa
open Go.ChangeShapes Go.WideShapes Go.ChangeAt Go.RowKit
attribute [local go_sem ↓] Go.wp_at_zero Go.wp_at_succ

structure BPl (w wr : World) (nb : Nat) (p q : Value) (c r : Nat) (X Y : Nat) (P : Bp) (mu : Bool) (u : Value) (i : Nat) (L : List Ac) (b : Bk) (x : Dc) : Prop where
  way : QBW w wr nb p q c r L L X Y P mu b u x []
  dr : DR P mu b x
  gd : Gd L
  wl : ∀ v ∈ x.l, W64 v
  len : L.length ≤ i
theorem storeL_len1 (c r : Nat) (L : List Ac) (t : Int) (a : Ad) (z : Int) : (storeL c r L t a z).length ≤ L.length + 1 := by
  unfold storeL
  split
  all_goals simp
theorem ans_goes (c r : Nat) (P : Bp) (b : Bk) (L : List Ac) : (goesB c r P b = true ∧ ansBk c r P b L ≠ 0) ∨ (goesB c r P b = false ∧ ansBk c r P b L = 0) := by
  unfold ansBk
  cases h : goesB c r P b
  · right; exact ⟨rfl, by simp⟩
  · left
    refine ⟨rfl, ?_⟩
    rw [if_pos rfl]
    split
    · simp
    · split <;> simp
theorem cells8x {w : World} {B : Nat} {t : TypeId} {c0 c1 c2 c3 c4 c5 c6 c7 : Value} (h : w.heap[B]? = some (.cells #[c0, c1, c2, c3, c4, c5, c6, c7] t (0, 0))) : w.cell? ⟨B, 0, none⟩ = some c0 ∧ w.cell? ⟨B, 1, none⟩ = some c1 ∧ w.cell? ⟨B, 2, none⟩ = some c2 ∧ w.cell? ⟨B, 3, none⟩ = some c3 ∧ w.cell? ⟨B, 4, none⟩ = some c4 ∧ w.cell? ⟨B, 5, none⟩ = some c5 ∧ w.cell? ⟨B, 6, none⟩ = some c6 ∧ w.cell? ⟨B, 7, none⟩ = some c7 :=
  ⟨by rw [cell_at h]; rfl, by rw [cell_at h]; rfl, by rw [cell_at h]; rfl, by rw [cell_at h]; rfl, by rw [cell_at h]; rfl, by rw [cell_at h]; rfl, by rw [cell_at h]; rfl, by rw [cell_at h]; rfl⟩
set_option maxRecDepth 100000 in
set_option maxHeartbeats 6400000 in
theorem bplays_yes (w : World) (raw : Int) (sz : Nat) (wr0 nn : Int) (mu : Bool) (tr : Int) (va : Option Addr) (vn vcap : Nat) (st : Int) {wv av : Value} {W : List Wt} {S : List At} (hW : WL w wv W) (hv : ∀ i, i < W.length → W64 (W.getD i noWt).v) (cells ring : Int) (hS : BLst w av S) (htk : tkB (sz : Int) st W = true) :
    Calls Try.prog 3 #[.agg #[.int .i64 raw, .int .i64 (sz : Int), .int .i64 wr0, .int .i64 nn, .bool mu, .int .i64 tr, .slice va vn vcap, .int .i64 st, wv, .int .i64 cells, .int .i64 ring, av]] w fun e w' => e = .returned (.bool true) ∧ Below w.heap.size w w' := by
  obtain ⟨h1, h2, h3, h4, h5, h6⟩ : 1 ≤ sz ∧ sz ≤ 16 ∧ 1 ≤ st ∧ st ≤ 1099511627776 ∧ W.length ≤ 24 ∧ ∀ x ∈ W, 0 ≤ x.c ∧ x.c < 1024 := by
    have h := htk
    unfold tkB at h
    simp only [Bool.and_eq_true, decide_eq_true_eq, List.all_eq_true] at h
    exact ⟨by omega, by omega, h.1.1.1.2, h.1.1.2, h.1.2, h.2⟩
  have hPk : BpOk ⟨sz, st, W, sgOf W⟩ := ⟨h1, h2, h3, h4, h5, fun x hx => by
    obtain ⟨i, hi, rfl⟩ := List.getElem_of_mem hx
    have hvv := hv i hi
    rw [List.getD_eq_getElem?_getD, List.getElem?_eq_getElem hi] at hvv
    exact ⟨(h6 _ hx).1, (h6 _ hx).2, hvv⟩, rfl⟩
  have HF : Hid (∀ (w : World) lv, WL w lv W → Calls Try.prog 7 #[.agg #[.int .i64 raw, .int .i64 (sz : Int), .int .i64 wr0, .int .i64 nn, .bool mu, .int .i64 tr, .slice va vn vcap], .int .i64 st, lv] w fun e w' => ∃ Z u, e = .returned (.tuple #[.pointer (some ⟨Z, 0, none⟩), .int .i64 0]) ∧ w.heap.size ≤ Z ∧ BRow w' Z ⟨sz, st, W, sgOf W⟩ (bkNew ⟨sz, st, W, sgOf W⟩ mu) u ∧ w'.ownsRow w.heap.size 36 2 u W.length (wtC W) ∧ (∀ k, u.ownBlock = some k → k ≠ Z) ∧ Below w.heap.size w w') := fun w lv hl => by
    refine (bnew_any w raw wr0 nn mu tr (.slice va vn vcap) (P := ⟨sz, st, W, sgOf W⟩) hl h1 h2 h3 h4 h5).mono ?_
    rintro e w' ⟨hb, hh⟩
    rw [if_pos (by simpa using htk)] at hh
    obtain ⟨Z, u, rfl, k1, k2, k3, k4⟩ := hh
    exact ⟨Z, u, rfl, k1, k2, k3, k4, hb⟩
  have HS : Hid (∀ w : World, Calls Try.prog 6 #[] w fun e w' => e = .returned (.bool true) ∧ Below w.heap.size w w') := bshown_any
  have HWL : Hid (∀ w', Below w.heap.size w w' → WL w' wv W) := fun w' hb => hW.later hb
  obtain ⟨a, cap, rfl, hbig, _⟩ := hW
  have HT : Hid (∀ w', Below w.heap.size w w' → Calls Try.prog 8 #[.agg #[.int .i64 raw, .int .i64 (sz : Int), .int .i64 wr0, .int .i64 nn, .bool mu, .int .i64 tr, .slice va vn vcap], .int .i64 st, .slice a W.length cap] w' fun e w'' => e = .returned (.bool true) ∧ Below w'.heap.size w' w'') := fun w' hb => by
    have := dtakes_any w' raw (sz : Int) wr0 nn mu tr (.slice va vn vcap) st (HWL.out w' hb)
    rw [htk] at this
    exact this
  have HIC : Hid (∀ w', Below w.heap.size w w' → ∃ w2, (Builtin.copy_ #[25, 25] 3 #[.slice (some ⟨w'.heap.size, 0, none⟩) (W.length + 1) (W.length + 1), .slice a W.length cap]).run Try.prog (w'.alloc (.cells (fresh2 (W.length + 1)) 36)) = .ok (goInt (W.length : Int)) w2 ∧ InR w2 w'.heap.size W 0 ∧ Below w'.heap.size w' w2) := fun w' hb => in_copy w' 3 (HWL.out w' hb)
  have HMK : Hid (∀ w', (Instr.makeSlice 25 (.int .i64 ((W.length : Int) + 1)) (.int .i64 ((W.length : Int) + 1))).run Try.prog w' = .ok (.slice (some ⟨w'.heap.size, 0, none⟩) (W.length + 1) (W.length + 1)) (w'.alloc (.cells (fresh2 (W.length + 1)) 36))) := fun w' => by
    have := make_wrs11 w' (W.length + 1) (by omega)
    simpa using this
  have HWI : Hid (∀ w' g, InR w' g W 0 → WL w' (.slice (some ⟨g, 0, none⟩) W.length (W.length + 1)) W) := fun w' g h => h.wl hbig _
  have HLS : Hid (∀ w' g q, InR w' g W q → w'.cell? ⟨g, W.length * 2, none⟩ = some (.int .i64 0) ∧ w'.cell? ⟨g, W.length * 2 + 1, none⟩ = some (.int .i64 0)) := fun w' g q h => h.last
  have HCE : Hid (∀ w' g q i, InR w' g W q → q ≤ i → i < W.length → w'.cell? ⟨g, i * 2, none⟩ = some (.int .i64 (W.getD i noWt).c) ∧ w'.cell? ⟨g, i * 2 + 1, none⟩ = some (.int .i64 (W.getD i noWt).v)) := fun w' g q i h h1 h2 => h.cells i h1 h2
  have HWC : Hid (∀ w', Below w.heap.size w w' → ∀ i, i < W.length → ∃ x, a = some x ∧ x.block < w.heap.size ∧ w'.cell? (x.add (i * 2)) = some (.int .i64 (W.getD i noWt).c) ∧ w'.cell? ((x.add (i * 2)).add 1) = some (.int .i64 (W.getD i noWt).v)) := fun w' hb i hi => by
    obtain ⟨a', cap', he, _, hl⟩ := HWL.out w (Below.refl _ _)
    simp at he
    obtain ⟨rfl, rfl⟩ := he
    rcases hl with h | ⟨x, e1, e2, e3⟩
    · rw [h] at hi; simp at hi
    · exact ⟨x, e1, e2, (hb.cell (p := x.add (i * 2)) (by rw [add_block]; exact e2)).trans (e3 i hi).1, (hb.cell (p := (x.add (i * 2)).add 1) (by rw [add_block, add_block]; exact e2)).trans (e3 i hi).2⟩
  have HST : Hid (∀ w' g q, InR w' g W q → q < W.length → ∀ a b, InR ((w'.setCell ⟨g, q * 2, none⟩ a).setCell ⟨g, q * 2 + 1, none⟩ b) g W (q + 1)) := fun w' g q h hq a b => h.set hq a b
  have HDN : Hid (∀ w', Below w.heap.size w w' → Calls Try.prog 12 #[.agg #[.int .i64 raw, .int .i64 (sz : Int), .int .i64 wr0, .int .i64 nn, .bool mu, .int .i64 tr, .slice va vn vcap], .int .i64 st, .slice a W.length cap] w' fun e w'' => Below w'.heap.size w' w'' ∧ ∃ Y G, e = .returned (.pointer (some ⟨Y, 0, none⟩)) ∧ DM w'' w'.heap.size Y ⟨sz, st, W, sgOf W⟩ mu ⟨0, [], false⟩ G) := fun w' hb => dnew_any w' raw wr0 nn mu tr (.slice va vn vcap) (P := ⟨sz, st, W, sgOf W⟩) (HWL.out w' hb) h5 rfl
  have HMT : Hid (∀ w, Calls Try.prog 9 #[.int .i64 cells, .int .i64 ring] w fun e w' => e = .returned (.bool (takes cells ring)) ∧ w' = w) := takes_any cells ring
  obtain ⟨la, lcap, rfl, hlbig, hfit, hll⟩ := hS
  have HC : Hid (∀ w' i, Below w.heap.size w w' → i < S.length → ∃ x, la = some x ∧ x.block < w.heap.size ∧ Row6 w' (x.add (i * 6)) (S.getD i noAt)) := fun w' i k hi => by
    rcases hll with h | ⟨x, e1, e2, e3⟩
    · rw [h] at hi; simp at hi
    · exact ⟨x, e1, e2, (e3 i hi).later k (by rw [add_block]; exact e2)⟩
  have HFT : Hid (∀ i, i < S.length → W64 (S.getD i noAt).v) := hfit
  have HPK : Hid (BpOk ⟨sz, st, W, sgOf W⟩) := hPk
  have HPW : Hid (∀ P : Bp, P = ⟨sz, st, W, sgOf W⟩ → P.W = W) := fun P h => by rw [h]
  clear hv htk h1 h2 h3 h4 h5 h6 hPk hll hfit
  obtain ⟨P, hP⟩ : ∃ P : Bp, P = ⟨sz, st, W, sgOf W⟩ := ⟨_, rfl⟩
  rw [← hP] at HF HDN HPK
  have HW2 : Hid (P.W = W) := HPW.out P hP
  clear hP HPW
  generalize hnW : W.length = nW at *
  have HNW : Hid (W.length = nW) := hnW
  have HFW : Hid (∀ (w' : World) nb u, w'.ownsRow nb 36 2 u nW (wtC W) → w'.ownsRow nb 36 2 u P.W.length (wtC P.W)) := fun w' nb u h => by rw [HW2.out, hnW]; exact h
  clear hnW
  generalize S.length = nS at *
  go_enter Try.func3, Try.ntmps3
  go_wp2_with fail
  refine (HS.out _).mono ?_
  rintro e y1 ⟨rfl, hb1⟩
  have HB1 : Hid (Below w.heap.size w y1) := below_then (below_alloc (below_a1 _ _) _) hb1
  have HC1 : Hid (y1.heap[w.heap.size + 1]? = some (.cells #[.int .i64 raw, .int .i64 (sz : Int), .int .i64 wr0, .int .i64 nn, .bool mu, .int .i64 tr, .slice va vn vcap] 24 (0, 0))) := row_on (heap_alloc2_new w _ _) hb1
  have HG1 : Hid (w.heap.size + 1 < y1.heap.size) := heap_lt HC1.out
  clear hb1 HS
  obtain ⟨w2, hcp, hin, hbc⟩ := HIC.out _ HB1.out
  have HI2 : Hid (InR w2 y1.heap.size W 0) := hin
  have HB2 : Hid (Below y1.heap.size y1 w2) := hbc
  have hmk := HMK.out y1
  have hwn : wrap64 ((nW : Int) + 1) = (nW : Int) + 1 := by unfold wrap64; omega
  obtain ⟨g0, g1, g2, g3, g4, g5, g6⟩ := conf_cells11 (row_on HC1.out hbc)
  have hs1 : (nW : Int) ≤ (nW : Int) + 1 := by omega
  have hs2 : (0 : Int) ≤ (nW : Int) := by omega
  clear hin hbc HIC HMK
  go_upto_region 10 with fail
  clear hcp hmk
  go_cut [11, 12] (fun s11 s12 wx => ∃ Z u, s11 = .pointer (some ⟨Z, 0, none⟩) ∧ s12 = .int .i64 0 ∧ w2.heap.size ≤ Z ∧ BRow wx Z P (bkNew P mu) u ∧ wx.ownsRow w2.heap.size 36 2 u nW (wtC W) ∧ (∀ k, u.ownBlock = some k → k ≠ Z) ∧ Below w2.heap.size w2 wx)
  case first =>
    go_region_with ((go_at_call 7; refine (HF.out _ _ (HWI.out _ _ (HI2.out.below (below_drawn (Below.refl _ _) 1)))).mono ?_; rintro e w3 ⟨Z, u, rfl, k1, k2, k3, k4, hb3⟩))
    all_goals
      go_wp2_with fail
      go_meet
      exact ⟨Z, u, rfl, rfl, k1, k2, k3, k4, below_then (below_drawn (Below.refl _ _) 1) hb3⟩
  case rest =>
    obtain ⟨Z, u, rfl, rfl, k1, k2, k3, k4, hbx⟩ := hcut
    obtain ⟨y3, rfl⟩ : ∃ y3, y3 = wc := ⟨_, rfl⟩
    have HX : Hid (w2.heap.size ≤ Z ∧ BRow y3 Z P (bkNew P mu) u ∧ y3.ownsRow w2.heap.size 36 2 u nW (wtC W) ∧ (∀ k, u.ownBlock = some k → k ≠ Z) ∧ Below w2.heap.size w2 y3) := ⟨k1, k2, k3, k4, hbx⟩
    clear k1 k2 k3 k4 hbx
    have HB3 : Hid (Below w.heap.size w y3) := below_then (below_then HB1.out HB2.out) HX.out.2.2.2.2
    have HI3 : Hid (InR y3 y1.heap.size W 0) := HI2.out.below HX.out.2.2.2.2
    clear g0 g1 g2 g3 g4 g5 g6
    obtain ⟨g0, g1, g2, g3, g4, g5, g6⟩ := conf_cells11 (row_on (row_on HC1.out HB2.out) HX.out.2.2.2.2)
    go_wp2_with fail
    refine (HT.out _ HB3.out).mono ?_
    rintro e y4 ⟨rfl, hb4⟩
    have HB4 : Hid (Below w.heap.size w y4) := below_then HB3.out hb4
    have HI4 : Hid (InR y4 y1.heap.size W 0) := HI3.out.below hb4
    have HX4 : Hid (Below y3.heap.size y3 y4) := hb4
    obtain ⟨il0, il1⟩ := HLS.out _ _ _ HI4.out
    have hgl : y1.heap.size < y4.heap.size := HI4.out.lt
    have hs3 : (nW : Int) < (nW : Int) + 1 := by omega
    clear hb4 g0 g1 g2 g3 g4 g5 g6 hs1 HI3
    go_upto_block 0 with fail
    clear il0 il1
    go_cut [14] (fun _ wx => Keep [y1.heap.size] y4 wx ∧ Below w.heap.size w wx)
    case first =>
      go_wp2_with fail
      go_loopw [14] (fun iv wr => ∃ q : Nat, q ≤ nW ∧ iv = .int .i64 q ∧ InR wr y1.heap.size W q ∧ Keep [y1.heap.size] y4 wr ∧ Below w.heap.size w wr) (fun iv _ => nW - (intOf iv).toNat)
      case atStart => exact ⟨0, Nat.zero_le _, rfl, HI4.out, Keep.refl _ _, HB4.out⟩
      case round =>
        obtain ⟨q, hq, rfl, hin, hkp, hbl⟩ := hrel
        have HI5 : Hid (InR wr y1.heap.size W q) := hin
        have HK5 : Hid (Keep [y1.heap.size] y4 wr) := hkp
        have HB5 : Hid (Below w.heap.size w wr) := hbl
        clear hin hkp hbl HI4
        by_cases hlt : q < nW
        · have hlt' : (q : Int) < (nW : Int) := by omega
          have hlt2 : (q : Int) < (nW : Int) + 1 := by omega
          have hwq : wrap64 ((q : Int) + 1) = (q : Int) + 1 := by unfold wrap64; omega
          obtain ⟨i0, i1⟩ := HCE.out _ _ _ q HI5.out (Nat.le_refl _) hlt
          obtain ⟨x, rfl, hxb, c0, c1⟩ := HWC.out _ HB5.out q hlt
          rw [add_pos' _ _ (by decide)] at c1
          have hgl5 : y1.heap.size < wr.heap.size := HI5.out.lt
          generalize W.getD q noWt = wt at *
          obtain ⟨tc, tv⟩ := wt
          simp only at i0 i1 c0 c1
          go_wp2_with fail
          go_quiet (fail)
          obtain ⟨x6, hx6⟩ : ∃ x6, x6 = wr.drewN nq := ⟨_, rfl⟩
          rw [← hx6]
          have HI6 : Hid (InR x6 y1.heap.size W q) := by rw [Hid, hx6]; exact HI5.out.below (below_drawn (Below.refl _ _) _)
          have HK6 : Hid (Keep [y1.heap.size] y4 x6) := by rw [Hid, hx6]; exact HK5.out.drewN _
          have HB6 : Hid (Below w.heap.size w x6) := by rw [Hid, hx6]; exact below_drawn HB5.out _
          have i0' : x6.cell? ⟨y1.heap.size, q * 2, none⟩ = some (.int .i64 tc) := by rw [hx6]; exact i0
          have i1' : x6.cell? ⟨y1.heap.size, q * 2 + 1, none⟩ = some (.int .i64 tv) := by rw [hx6]; exact i1
          clear hx6 i0 i1 c0 c1 HI5 HK5 HB5 hgl5
          have f0 := HI6.out.fz (q * 2)
          have f1 := HI6.out.fz (q * 2 + 1)
          have hgl6 : y1.heap.size < x6.heap.size := HI6.out.lt
          have HNI : Hid (InR ((x6.setCell ⟨y1.heap.size, q * 2, none⟩ (.int .i64 1)).setCell ⟨y1.heap.size, q * 2 + 1, none⟩ (.int .i64 (-9))) y1.heap.size W (q + 1)) := HST.out _ _ _ HI6.out hlt _ _
          have HNK : Hid (Keep [y1.heap.size] y4 ((x6.setCell ⟨y1.heap.size, q * 2, none⟩ (.int .i64 1)).setCell ⟨y1.heap.size, q * 2 + 1, none⟩ (.int .i64 (-9)))) := keepZ (keepZ HK6.out _ _) _ _
          have HNB : Hid (Below w.heap.size w ((x6.setCell ⟨y1.heap.size, q * 2, none⟩ (.int .i64 1)).setCell ⟨y1.heap.size, q * 2 + 1, none⟩ (.int .i64 (-9)))) := (HB6.out.setCell HB1.out.size _).setCell HB1.out.size _
          go_wp2
          go_roundw
          case rel => exact ⟨q + 1, by omega, by go_num, HNI.out, HNK.out, HNB.out⟩
          case measure => simp [intOf]; omega
        · have hqe : q = nW := by omega
          subst hqe
          have hnn : ¬ (q : Int) < (q : Int) := by omega
          go_wp2
          go_meet
          exact ⟨HK5.out, HB5.out⟩
    case rest =>
      obtain ⟨hkp, hbl⟩ := hcut
      obtain ⟨y5, rfl⟩ : ∃ y5, y5 = wc := ⟨_, rfl⟩
      have HK5 : Hid (Keep [y1.heap.size] y4 y5) := hkp
      have HB5 : Hid (Below w.heap.size w y5) := hbl
      clear hkp hbl HI4 hgl hs2 hs3 hwn
      have hg2 : y1.heap.size < w2.heap.size := HI2.out.lt
      have hZ2 : w2.heap.size ≤ Z := HX.out.1
      have HR5 : Hid (BRow y5 Z P (bkNew P mu) u ∧ y5.ownsRow w2.heap.size 36 2 u P.W.length (wtC P.W)) := ⟨BRow.keep (BRow.below HX.out.2.1 HX4.out (heap_lt HX.out.2.1)) HK5.out (by simp; omega), HFW.out _ _ _ (own_keep (own_keep HX.out.2.2.1 (Keep.of_below HX4.out []) (fun _ _ => by simp)) HK5.out (fun k hk e => by have h := (own_block HX.out.2.2.1 k hk).1; simp at e; omega))⟩
      have HC5 : Hid (y5.heap[w.heap.size + 1]? = some (.cells #[.int .i64 raw, .int .i64 (sz : Int), .int .i64 wr0, .int .i64 nn, .bool mu, .int .i64 tr, .slice va vn vcap] 24 (0, 0))) := by
        have h4 := row_on (row_on (row_on HC1.out HB2.out) HX.out.2.2.2.2) HX4.out
        have h1 := HG1.out
        rw [Hid, HK5.out.block _ (heap_lt h4) (by simp; omega)]
        exact h4
      have HNX : Hid (∀ k, u.ownBlock = some k → k ≠ Z) := HX.out.2.2.2.1
      have HLO : Hid (w.heap.size ≤ w2.heap.size ∧ w2.heap.size ≤ Z) := ⟨Nat.le_trans HB1.out.size HB2.out.size, hZ2⟩
      clear HX HX4 HK5 HC1 HB2 HI2 HB3 HB4 HT HF HWI HLS HCE HWC HST HWL hg2 hZ2 HFW HNW HW2 HG1 HB1
      go_wp2_with fail
      refine (HMT.out _).mono ?_
      rintro e y6 ⟨rfl, h6⟩
      obtain rfl : y5 = y6 := h6.symm
      cases hmay : takes cells ring
      · go_wp2
        go_ret
        exact ⟨rfl, HB5.out⟩
      · have hm' := hmay
        unfold takes at hm'
        simp only [Bool.and_eq_true, decide_eq_true_eq] at hm'
        obtain ⟨c, rfl⟩ := Int.eq_ofNat_of_zero_le (show 0 ≤ cells by omega)
        obtain ⟨r, rfl⟩ := Int.eq_ofNat_of_zero_le (show 0 ≤ ring by omega)
        have HN : Hid (∀ w : World, Calls Try.prog 10 #[.int .i64 (c : Int), .int .i64 (r : Int)] w fun e w' => ∃ p F, e = .returned (.tuple #[p, .int .i64 0]) ∧ p ≠ .pointer none ∧ MemAt w' w.heap.size p c r [] F ∧ Below w.heap.size w w') := fun w => new_yes w c r (by omega) (by omega)
        have HRN : Hid (∀ w : World, Calls Try.prog 11 #[.int .i64 (c : Int), .int .i64 (r : Int)] w fun e w' => ∃ p G, e = .returned p ∧ RefAt w' w.heap.size p c r [] G ∧ Below w.heap.size w w') := rnew_any c r
        clear hm' hmay HMT
        go_wp2_with fail
        refine (HN.out _).mono ?_
        rintro e y7 ⟨p, F7, rfl, _, hm7, hb7⟩
        obtain ⟨M, rfl⟩ := hm7.ptr
        have HM7 : Hid (MemAt y7 y5.heap.size (.pointer (some ⟨M, 0, none⟩)) c r [] F7 ∧ Below y5.heap.size y5 y7) := ⟨hm7, hb7⟩
        clear hm7 hb7 HN
        go_wp2_with fail
        refine (HRN.out _).mono ?_
        rintro e y8 ⟨q0, K8, rfl, hr8, hb8⟩
        obtain ⟨R, rfl⟩ := hr8.ptr
        have HR8 : Hid (RefAt y8 y7.heap.size (.pointer (some ⟨R, 0, none⟩)) c r [] K8 ∧ Below y7.heap.size y7 y8) := ⟨hr8, hb8⟩
        obtain ⟨g0, g1, g2, g3, g4, g5, g6⟩ := conf_cells11 (row_on (row_on HC5.out HM7.out.2) hb8)
        clear hr8 hb8 HRN
        go_wp2_with fail
        refine (HDN.out _ (below_then (below_then HB5.out HM7.out.2) HR8.out.2)).mono ?_
        rintro e y9 ⟨hb9, Y, G9, rfl, hd9⟩
        have HP9 : Hid (BPl w y9 w2.heap.size (.pointer (some ⟨M, 0, none⟩)) (.pointer (some ⟨R, 0, none⟩)) c r Z Y P mu u 0 [] (bkNew P mu) ⟨0, [], false⟩) := ⟨qbw_new HLO.out.1 HLO.out.2 HR5.out.1 HR5.out.2 HNX.out HB5.out (Below.refl _ _) HM7.out.1 HM7.out.2 HR8.out.1 HR8.out.2 hd9 hb9, dr_new HPK.out mu, gd_nil, by simp, Nat.le_refl _⟩
        clear hb9 hd9 g0 g1 g2 g3 g4 g5 g6 HM7 HR8 HR5 HC5 HNX HLO HB5 HDN
        generalize w2.heap.size = nb at *
        generalize bkNew P mu = b0 at *
        go_wp2
        go_loopg [20] nS (fun g iv wr => ∃ (i : Nat) (L : List Ac) (b : Bk) (x : Dc), i ≤ nS ∧ g = nS - i ∧ iv = .int .i64 i ∧ BPl w wr nb (.pointer (some ⟨M, 0, none⟩)) (.pointer (some ⟨R, 0, none⟩)) c r Z Y P mu u i L b x)
        case atStart => exact ⟨0, [], b0, ⟨0, [], false⟩, Nat.zero_le _, by omega, rfl, HP9.out⟩
        case round =>
          obtain ⟨i, L, b, x, hi, rfl, rfl, he⟩ := hrel
          have HE : Hid (BPl w wr nb (.pointer (some ⟨M, 0, none⟩)) (.pointer (some ⟨R, 0, none⟩)) c r Z Y P mu u i L b x) := he
          have hL : L.length < 3298534883328 := by have := he.len; omega
          clear he HP9
          by_cases hlt : i < nS
          · have hlt' : (i : Int) < (nS : Int) := by omega
            have hwi : wrap64 ((i : Int) + 1) = (i : Int) + 1 := by unfold wrap64; omega
            obtain ⟨ax, rfl, hxb, hrow⟩ := HC.out _ i HE.out.way.bel hlt
            have HRW : Hid (∀ w', Below w.heap.size w w' → Row6 w' (ax.add (i * 6)) (S.getD i noAt)) := fun w' hb => by
              obtain ⟨x', e1, _, h6⟩ := HC.out w' i hb hlt
              simp at e1
              subst e1
              exact h6
            have hfit := HFT.out i hlt
            generalize S.getD i noAt = atx at hrow hfit HRW
            obtain ⟨ak, at', ⟨ka, ai, aj⟩, av⟩ := atx
            obtain ⟨c0, c1, c2, c3, c4, c5⟩ := hrow
            rw [add_pos' _ _ (by decide)] at c1 c2 c3 c4 c5
            simp only at c0 c1 c2 c3 c4 c5 hfit
            go_upto_block 4 with fail
            go_cut [22] (fun _ wx => ∃ (L : List Ac) (b : Bk) (x : Dc), BPl w wx nb (.pointer (some ⟨M, 0, none⟩)) (.pointer (some ⟨R, 0, none⟩)) c r Z Y P mu u (i + 1) L b x)
            case first =>
              by_cases hk1 : ak = 1
              · subst hk1
                have HST : Hid (∀ w', Below wr.heap.size wr w' → Calls Try.prog 13 #[(.pointer (some ⟨M, 0, none⟩)), .int .i64 (-1), .agg #[.int .i64 ka, .int .i64 ai, .int .i64 aj], .int .i64 av] w' fun e w'' => e = .returned (.int .i64 (if isAd c r ⟨ka, ai, aj⟩ then 0 else 1)) ∧ QBW w w'' nb (.pointer (some ⟨M, 0, none⟩)) (.pointer (some ⟨R, 0, none⟩)) c r (storeL c r L (-1) ⟨ka, ai, aj⟩ av) L Z Y P mu b u x []) := fun w' hb => qbw_pstore (HE.out.way.later hb) hL (-1) ⟨ka, ai, aj⟩ av
                have HRS : Hid (∀ w', QBW w w' nb (.pointer (some ⟨M, 0, none⟩)) (.pointer (some ⟨R, 0, none⟩)) c r (storeL c r L (-1) ⟨ka, ai, aj⟩ av) L Z Y P mu b u x [] → Calls Try.prog 14 #[(.pointer (some ⟨R, 0, none⟩)), .int .i64 (-1), .agg #[.int .i64 ka, .int .i64 ai, .int .i64 aj], .int .i64 av] w' fun e w'' => e = .returned (.int .i64 (if isAd c r ⟨ka, ai, aj⟩ then 0 else 1)) ∧ QBW w w'' nb (.pointer (some ⟨M, 0, none⟩)) (.pointer (some ⟨R, 0, none⟩)) c r (storeL c r L (-1) ⟨ka, ai, aj⟩ av) (storeL c r L (-1) ⟨ka, ai, aj⟩ av) Z Y P mu b u x []) := fun w' h => qbw_dstore h hL (-1) ⟨ka, ai, aj⟩ av
                have HLEN2 : Hid ((storeL c r L (-1) ⟨ka, ai, aj⟩ av).length ≤ i + 1) := by have h1 := storeL_len1 c r L (-1) ⟨ka, ai, aj⟩ av; have h2 := HE.out.len; rw [Hid]; omega
                have HBD2 : Hid (Gd (storeL c r L (-1) ⟨ka, ai, aj⟩ av)) := gd_store HE.out.gd hfit
                generalize storeL c r L (-1) ⟨ka, ai, aj⟩ av = L' at *
                generalize (if isAd c r ⟨ka, ai, aj⟩ = true then (0 : Int) else 1) = ea at *
                clear hfit
                go_wp2_with fail
                go_region_with ((go_at_call 13; refine (HST.out _ (below_drawn (Below.refl _ _) 1)).mono ?_; rintro e z7 ⟨rfl, h7⟩))
                all_goals
                  have HW7 : Hid (QBW w z7 nb (.pointer (some ⟨M, 0, none⟩)) (.pointer (some ⟨R, 0, none⟩)) c r L' L Z Y P mu b u x []) := h7
                  obtain ⟨e0, e1, e2, e3, e4, e5⟩ := HRW.out z7 h7.bel
                  rw [add_pos' _ _ (by decide)] at e1 e2 e3 e4 e5
                  simp only at e0 e1 e2 e3 e4 e5
                  clear h7 c0 c1 c2 c3 c4 c5
                  go_wp2_with fail
                  go_region_with ((go_at_call 14; refine (HRS.out _ (HW7.out.later (below_drawn (Below.refl _ _) 1))).mono ?_; rintro e z8 ⟨rfl, h8⟩))
                all_goals
                  have HW8 : Hid (BPl w z8 nb (.pointer (some ⟨M, 0, none⟩)) (.pointer (some ⟨R, 0, none⟩)) c r Z Y P mu u (i + 1) L' b x) := ⟨h8, HE.out.dr, HBD2.out, HE.out.wl, HLEN2.out⟩
                  clear h8 e0 e1 e2 e3 e4 e5
                  go_wp2
                  go_meet
                  exact ⟨L', b, x, HW8.out⟩
              · have dk1 : decide (ak = 1) = false := by simpa using hk1
                by_cases hk2 : ak = 2
                · subst hk2
                  clear hk1
                  have HTS : Hid (∀ w', Below wr.heap.size wr w' → Calls Try.prog 15 #[.pointer (some ⟨Z, 0, none⟩), (.pointer (some ⟨M, 0, none⟩)), .int .i64 at'] w' fun e w'' => e = .returned (.agg #[.int .i64 (ansBk c r P b L), .int .i64 0, .int .i64 0, .bool (goesB c r P b)]) ∧ QBW w w'' nb (.pointer (some ⟨M, 0, none⟩)) (.pointer (some ⟨R, 0, none⟩)) c r (nextBL c r P b L at') L Z Y P mu (nextBk c r P b L) u x []) := fun w' hb => qbw_pstep (HE.out.way.later hb) hL HE.out.dr.ok at'
                  have HDS : Hid (∀ w' Rr, QBW w w' nb (.pointer (some ⟨M, 0, none⟩)) (.pointer (some ⟨R, 0, none⟩)) c r (nextBL c r P b L at') L Z Y P mu (nextBk c r P b L) u x Rr → Calls Try.prog 16 #[.pointer (some ⟨Y, 0, none⟩), (.pointer (some ⟨R, 0, none⟩)), .int .i64 at'] w' fun e w'' => e = .returned (.int .i64 (ansBk c r P b L)) ∧ ∃ x', QBW w w'' nb (.pointer (some ⟨M, 0, none⟩)) (.pointer (some ⟨R, 0, none⟩)) c r (nextBL c r P b L at') (nextBL c r P b L at') Z Y P mu (nextBk c r P b L) u x' Rr ∧ DR P mu (nextBk c r P b L) x' ∧ ∀ v ∈ x'.l, W64 v) := fun w' Rr h => qbw_dstep h hL HE.out.dr HE.out.gd HE.out.wl at'
                  have HLEN2 : Hid ((nextBL c r P b L at').length ≤ i + 1) := by have h1 := nextBL_len (c := c) (r := r) (P := P) (b := b) (L := L) (t := at'); have h2 := HE.out.len; rw [Hid]; omega
                  have HBD2 : Hid (Gd (nextBL c r P b L at')) := gd_next HE.out.dr.ok HE.out.gd
                  have hag := ans_goes c r P b L
                  generalize nextBL c r P b L at' = L' at *
                  generalize nextBk c r P b L = b' at *
                  generalize ansBk c r P b L = kk at *
                  generalize goesB c r P b = gg at *
                  have hcs : (gg = true ∧ (kk != 0) = true) ∨ (gg = false ∧ kk = 0) := by
                    rcases hag with ⟨h1, h2⟩ | ⟨h1, h2⟩
                    · exact Or.inl ⟨h1, by simpa using h2⟩
                    · exact Or.inr ⟨h1, h2⟩
                  clear hag hfit
                  have hee : (kk != kk) = false := by simp
                  rcases hcs with ⟨rfl, hkb⟩ | ⟨rfl, rfl⟩
                  · go_wp2_with fail
                    refine (HTS.out _ (Below.refl _ _)).mono ?_
                    rintro e z7 ⟨rfl, h7⟩
                    have HW7 : Hid (QBW w (z7.alloc (.cells #[.int .i64 kk, .int .i64 0, .int .i64 0, .bool true] 52)) nb (.pointer (some ⟨M, 0, none⟩)) (.pointer (some ⟨R, 0, none⟩)) c r L' L Z Y P mu b' u x [(z7.heap.size, .cells #[.int .i64 kk, .int .i64 0, .int .i64 0, .bool true] 52)]) := h7.more _
                    obtain ⟨e0, e1, e2, e3, e4, e5⟩ := HRW.out _ HW7.out.bel
                    rw [add_pos' _ _ (by decide)] at e1 e2 e3 e4 e5
                    simp only at e0 e1 e2 e3 e4 e5
                    clear h7 c0 c1 c2 c3 c4 c5 HTS
                    go_wp2_with fail
                    refine (HDS.out _ _ HW7.out).mono ?_
                    rintro e z8 ⟨rfl, x', h8, h8d, h8w⟩
                    have HW8 : Hid (BPl w z8 nb (.pointer (some ⟨M, 0, none⟩)) (.pointer (some ⟨R, 0, none⟩)) c r Z Y P mu u (i + 1) L' b' x') := ⟨h8.less (fun z hz => by simp at hz), h8d, HBD2.out, h8w, HLEN2.out⟩
                    obtain ⟨⟨a0, a1, a2, a3⟩, _⟩ := ans_cells (k := kk) (y := true) (h8.row (B := z7.heap.size) (o := .cells #[.int .i64 kk, .int .i64 0, .int .i64 0, .bool true] 52) (by simp))
                    clear h8 h8d h8w HW7 e0 e1 e2 e3 e4 e5 HDS
                    go_wp2
                    go_meet
                    exact ⟨L', b', x', HW8.out⟩
                  · go_wp2_with fail
                    refine (HTS.out _ (Below.refl _ _)).mono ?_
                    rintro e z7 ⟨rfl, h7⟩
                    have HW7 : Hid (QBW w (z7.alloc (.cells #[.int .i64 0, .int .i64 0, .int .i64 0, .bool false] 52)) nb (.pointer (some ⟨M, 0, none⟩)) (.pointer (some ⟨R, 0, none⟩)) c r L' L Z Y P mu b' u x [(z7.heap.size, .cells #[.int .i64 0, .int .i64 0, .int .i64 0, .bool false] 52)]) := h7.more _
                    obtain ⟨e0, e1, e2, e3, e4, e5⟩ := HRW.out _ HW7.out.bel
                    rw [add_pos' _ _ (by decide)] at e1 e2 e3 e4 e5
                    simp only at e0 e1 e2 e3 e4 e5
                    clear h7 c0 c1 c2 c3 c4 c5 HTS
                    go_wp2_with fail
                    refine (HDS.out _ _ HW7.out).mono ?_
                    rintro e z8 ⟨rfl, x', h8, h8d, h8w⟩
                    have HW8 : Hid (BPl w z8 nb (.pointer (some ⟨M, 0, none⟩)) (.pointer (some ⟨R, 0, none⟩)) c r Z Y P mu u (i + 1) L' b' x') := ⟨h8.less (fun z hz => by simp at hz), h8d, HBD2.out, h8w, HLEN2.out⟩
                    obtain ⟨⟨a0, a1, a2, a3⟩, _⟩ := ans_cells (k := 0) (y := false) (h8.row (B := z7.heap.size) (o := .cells #[.int .i64 0, .int .i64 0, .int .i64 0, .bool false] 52) (by simp))
                    clear h8 h8d h8w HW7 e0 e1 e2 e3 e4 e5 HDS
                    go_wp2
                    go_meet
                    exact ⟨L', b', x', HW8.out⟩
                · have dk2 : decide (ak = 2) = false := by simpa using hk2
                  have HW8 : Hid (BPl w wr nb (.pointer (some ⟨M, 0, none⟩)) (.pointer (some ⟨R, 0, none⟩)) c r Z Y P mu u (i + 1) L b x) := ⟨HE.out.way, HE.out.dr, HE.out.gd, HE.out.wl, by have := HE.out.len; omega⟩
                  go_wp2
                  go_meet
                  exact ⟨L, b, x, HW8.out⟩
            case rest =>
              obtain ⟨L2, b2, x2, he2⟩ := hcut
              obtain ⟨z6, rfl⟩ : ∃ z6, z6 = wc := ⟨_, rfl⟩
              have HE2 : Hid (BPl w z6 nb (.pointer (some ⟨M, 0, none⟩)) (.pointer (some ⟨R, 0, none⟩)) c r Z Y P mu u (i + 1) L2 b2 x2) := he2
              clear he2 HE c0 c1 c2 c3 c4 c5 hfit HRW
              obtain ⟨m0, hm0⟩ : ∃ z : Nat, bsV P.sg 0 = .int .u64 (z : Int) := ⟨_, rfl⟩
              obtain ⟨m1, hm1⟩ : ∃ z : Nat, bsV P.sg 1 = .int .u64 (z : Int) := ⟨_, rfl⟩
              obtain ⟨m2, hm2⟩ : ∃ z : Nat, bsV P.sg 2 = .int .u64 (z : Int) := ⟨_, rfl⟩
              obtain ⟨m3, hm3⟩ : ∃ z : Nat, bsV P.sg 3 = .int .u64 (z : Int) := ⟨_, rfl⟩
              obtain ⟨m4, hm4⟩ : ∃ z : Nat, bsV P.sg 4 = .int .u64 (z : Int) := ⟨_, rfl⟩
              obtain ⟨m5, hm5⟩ : ∃ z : Nat, bsV P.sg 5 = .int .u64 (z : Int) := ⟨_, rfl⟩
              obtain ⟨m6, hm6⟩ : ∃ z : Nat, bsV P.sg 6 = .int .u64 (z : Int) := ⟨_, rfl⟩
              obtain ⟨m7, hm7⟩ : ∃ z : Nat, bsV P.sg 7 = .int .u64 (z : Int) := ⟨_, rfl⟩
              have hok8 : Sg.Ok P.sg := by rw [HPK.out.sg]; exact sgOf_ok _
              have HSG : Hid (∀ w', QBW w w' nb (.pointer (some ⟨M, 0, none⟩)) (.pointer (some ⟨R, 0, none⟩)) c r L2 L2 Z Y P mu b2 u x2 [] → Calls Try.prog 17 #[.pointer (some ⟨Z, 0, none⟩)] w' fun e w'' => e = .returned (.agg #[.int .u64 (m0 : Int), .int .u64 (m1 : Int), .int .u64 (m2 : Int), .int .u64 (m3 : Int), .int .u64 (m4 : Int), .int .u64 (m5 : Int), .int .u64 (m6 : Int), .int .u64 (m7 : Int)]) ∧ QBW w w'' nb (.pointer (some ⟨M, 0, none⟩)) (.pointer (some ⟨R, 0, none⟩)) c r L2 L2 Z Y P mu b2 u x2 []) := fun w' h => by
                have := qbw_sig h HPK.out
                rw [sv8 hok8, hm0, hm1, hm2, hm3, hm4, hm5, hm6, hm7] at this
                exact this
              have hsq : ∀ w' : World, (binOp .neq 57 (.agg #[.int .u64 (m0 : Int), .int .u64 (m1 : Int), .int .u64 (m2 : Int), .int .u64 (m3 : Int), .int .u64 (m4 : Int), .int .u64 (m5 : Int), .int .u64 (m6 : Int), .int .u64 (m7 : Int)]) (.agg #[.int .u64 (m0 : Int), .int .u64 (m1 : Int), .int .u64 (m2 : Int), .int .u64 (m3 : Int), .int .u64 (m4 : Int), .int .u64 (m5 : Int), .int .u64 (m6 : Int), .int .u64 (m7 : Int)])).run Try.prog w' = .ok (.bool false) w' := fun w' => by
                have := Sg.neq_sig P.sg P.sg hok8.1 hok8.1 w'
                rw [show Value.agg (Sg.sc P.sg) = .agg #[bsV P.sg 0, bsV P.sg 1, bsV P.sg 2, bsV P.sg 3, bsV P.sg 4, bsV P.sg 5, bsV P.sg 6, bsV P.sg 7] from sv8 hok8, hm0, hm1, hm2, hm3, hm4, hm5, hm6, hm7] at this
                simpa using this
              have HLF : Hid (∀ w' Rr, QBW w w' nb (.pointer (some ⟨M, 0, none⟩)) (.pointer (some ⟨R, 0, none⟩)) c r L2 L2 Z Y P mu b2 u x2 Rr → Calls Try.prog 18 #[.pointer (some ⟨Z, 0, none⟩)] w' fun e w'' => e = .returned (.int .i64 ((P.W.length : Int) - (b2.wr : Int))) ∧ QBW w w'' nb (.pointer (some ⟨M, 0, none⟩)) (.pointer (some ⟨R, 0, none⟩)) c r L2 L2 Z Y P mu b2 u x2 Rr) := fun w' Rr h => qbw_left h HE2.out.dr.ok
              have HDL : Hid (∀ w' Rr, QBW w w' nb (.pointer (some ⟨M, 0, none⟩)) (.pointer (some ⟨R, 0, none⟩)) c r L2 L2 Z Y P mu b2 u x2 Rr → Calls Try.prog 19 #[.pointer (some ⟨Y, 0, none⟩)] w' fun e w'' => e = .returned (.int .i64 ((P.W.length : Int) - (b2.wr : Int))) ∧ QBW w w'' nb (.pointer (some ⟨M, 0, none⟩)) (.pointer (some ⟨R, 0, none⟩)) c r L2 L2 Z Y P mu b2 u x2 Rr) := fun w' Rr h => qbw_dleft h HE2.out.dr
              have HDG : Hid (∀ w' Rr, QBW w w' nb (.pointer (some ⟨M, 0, none⟩)) (.pointer (some ⟨R, 0, none⟩)) c r L2 L2 Z Y P mu b2 u x2 Rr → w'.cell? ⟨Y, 4, none⟩ = some (.int .u64 (m0 : Int)) ∧ w'.cell? ⟨Y, 5, none⟩ = some (.int .u64 (m1 : Int)) ∧ w'.cell? ⟨Y, 6, none⟩ = some (.int .u64 (m2 : Int)) ∧ w'.cell? ⟨Y, 7, none⟩ = some (.int .u64 (m3 : Int)) ∧ w'.cell? ⟨Y, 8, none⟩ = some (.int .u64 (m4 : Int)) ∧ w'.cell? ⟨Y, 9, none⟩ = some (.int .u64 (m5 : Int)) ∧ w'.cell? ⟨Y, 10, none⟩ = some (.int .u64 (m6 : Int)) ∧ w'.cell? ⟨Y, 11, none⟩ = some (.int .u64 (m7 : Int)) ∧ Y < w'.heap.size) := fun w' Rr h => by
                have := qbw_dsig h
                rw [hm0, hm1, hm2, hm3, hm4, hm5, hm6, hm7] at this
                exact this
              generalize (P.W.length : Int) - (b2.wr : Int) = nl at *
              clear hm0 hm1 hm2 hm3 hm4 hm5 hm6 hm7 hok8
              go_wp2_with fail
              refine (HSG.out _ HE2.out.way).mono ?_
              rintro e z7 ⟨rfl, h7⟩
              have HW7 : Hid (QBW w (z7.alloc (.cells #[.int .u64 (m0 : Int), .int .u64 (m1 : Int), .int .u64 (m2 : Int), .int .u64 (m3 : Int), .int .u64 (m4 : Int), .int .u64 (m5 : Int), .int .u64 (m6 : Int), .int .u64 (m7 : Int)] 57)) nb (.pointer (some ⟨M, 0, none⟩)) (.pointer (some ⟨R, 0, none⟩)) c r L2 L2 Z Y P mu b2 u x2 [(z7.heap.size, .cells #[.int .u64 (m0 : Int), .int .u64 (m1 : Int), .int .u64 (m2 : Int), .int .u64 (m3 : Int), .int .u64 (m4 : Int), .int .u64 (m5 : Int), .int .u64 (m6 : Int), .int .u64 (m7 : Int)] 57)]) := h7.more _
              clear h7 HSG
              go_wp2_with fail
              refine (HLF.out _ _ HW7.out).mono ?_
              rintro e z8 ⟨rfl, h8⟩
              have HW8 : Hid (QBW w z8 nb (.pointer (some ⟨M, 0, none⟩)) (.pointer (some ⟨R, 0, none⟩)) c r L2 L2 Z Y P mu b2 u x2 [(z7.heap.size, .cells #[.int .u64 (m0 : Int), .int .u64 (m1 : Int), .int .u64 (m2 : Int), .int .u64 (m3 : Int), .int .u64 (m4 : Int), .int .u64 (m5 : Int), .int .u64 (m6 : Int), .int .u64 (m7 : Int)] 57)]) := h8
              clear h8 HW7 HLF
              go_wp2_with fail
              refine (HDL.out _ _ HW8.out).mono ?_
              rintro e z9 ⟨rfl, h9⟩
              have HW9 : Hid (QBW w z9 nb (.pointer (some ⟨M, 0, none⟩)) (.pointer (some ⟨R, 0, none⟩)) c r L2 L2 Z Y P mu b2 u x2 [(z7.heap.size, .cells #[.int .u64 (m0 : Int), .int .u64 (m1 : Int), .int .u64 (m2 : Int), .int .u64 (m3 : Int), .int .u64 (m4 : Int), .int .u64 (m5 : Int), .int .u64 (m6 : Int), .int .u64 (m7 : Int)] 57)]) := h9
              clear h9 HW8 HDL
              have hrs := HW9.out.row (B := z7.heap.size) (o := .cells #[.int .u64 (m0 : Int), .int .u64 (m1 : Int), .int .u64 (m2 : Int), .int .u64 (m3 : Int), .int .u64 (m4 : Int), .int .u64 (m5 : Int), .int .u64 (m6 : Int), .int .u64 (m7 : Int)] 57) (by simp)
              obtain ⟨s0, s1, s2, s3, s4, s5, s6, s7⟩ := cells8x hrs
              obtain ⟨d0, d1, d2, d3, d4, d5, d6, d7, hYl⟩ := HDG.out _ _ HW9.out
              have hsl := heap_lt hrs
              have hnl : (nl != nl) = false := by simp
              clear hrs
              go_wp2_with fail
              go_quiet (fail)
              have HW10 : Hid (BPl w (z9.drewN nq) nb (.pointer (some ⟨M, 0, none⟩)) (.pointer (some ⟨R, 0, none⟩)) c r Z Y P mu u (i + 1) L2 b2 x2) := ⟨(HW9.out.less (fun z hz => by simp at hz)).later (below_drawn (Below.refl _ _) _), HE2.out.dr, HE2.out.gd, HE2.out.wl, HE2.out.len⟩
              clear s0 s1 s2 s3 s4 s5 s6 s7 d0 d1 d2 d3 d4 d5 d6 d7 hsq
              go_wp2
              go_roundg (nS - (i + 1))
              case measure => omega
              case rel => exact ⟨i + 1, L2, b2, x2, by omega, rfl, by go_num, HW10.out⟩
          · have hie : i = nS := by omega
            subst hie
            have hnn : ¬ (i : Int) < (i : Int) := by omega
            obtain ⟨F7, K7, G7, ha7⟩ := HE.out.way.all
            obtain ⟨ra, rc, hrl⟩ := ha7.ds.ref.count
            have hRl : R < wr.heap.size := World.block_lt_of_cell? _ _ hrl
            have HLG : Hid (∀ w', Below wr.heap.size wr w' → Calls Try.prog 21 #[(.pointer (some ⟨M, 0, none⟩)), .int .i64 0] w' fun e w'' => ∃ v, e = .returned v ∧ LLst w'' v L ∧ Below w'.heap.size w' w'') := fun w' hb => by
              refine (log_any (ha7.ps.mem.below hb) (by omega) 0).mono ?_
              rintro e w'' ⟨v, rfl, ho, hb2⟩
              exact ⟨v, rfl, own_llst ho (by have : (L.drop (0 : Int).toNat).length = L.length := rfl; omega), hb2⟩
            have HRL : Hid (∀ w', Below wr.heap.size wr w' → LLst w' (.slice ra L.length rc) L) := fun w' hb => by
              obtain ⟨R', v, hq⟩ := ha7.ds.ref.below hb
              obtain rfl : R = R' := by simpa using hq.p
              have hv : w'.cell? ⟨R, 2, none⟩ = some v := by rw [cell_at hq.m]; rfl
              rw [cell_later hb hRl hrl] at hv
              obtain rfl : Value.slice ra L.length rc = v := by simpa using hv
              exact own_llst hq.own (by omega)
            generalize L.length = nL at HLG HRL hrl
            have HBY : Hid (Below w.heap.size w wr) := HE.out.way.bel
            clear ha7
            go_wp2_with fail
            go_region_with ((first | (go_at_call 21; refine (HLG.out _ (below_drawn (Below.refl _ _) 1)).mono ?_; rintro e y9 ⟨v9, rfl, hl9, hb9⟩; obtain ⟨va9, vc9, rfl, _⟩ := id hl9; have hr9 := cell_later (below_then (below_drawn (Below.refl _ _) 1) hb9) hRl hrl) | (go_at_call 20; refine (accesses_same _ _ _ L hl9 (HRL.out _ (below_then (below_drawn (Below.refl _ _) 1) hb9))).mono ?_; rintro e y10 ⟨rfl, n10, rfl⟩)))
            all_goals
              have HBE : Hid (Below w.heap.size w (y9.drewN n10)) := below_drawn (below_then HBY.out (below_then (below_drawn (Below.refl _ _) 1) hb9)) n10
              clear hl9 hb9
              go_wp2
              go_ret
              exact ⟨rfl, HBE.out⟩
end Go.Proofs.Ytbmmicfdnfpcaaa
/- Lists of writes that are handed in to the statements of layer 11. -/
namespace Go.Proofs.Ytbmmicfdnfpcaaa
open Go.ChangeShapes Go.WideShapes Go.ChangeAt Go.RowKit

theorem cells_wr11 : Try.prog.cellsOf 36 = 2 := by kernel_rfl
theorem bytes_wr11 : Try.prog.bytesOf 36 = 16 := by kernel_rfl
theorem cells_int11 : Try.prog.cellsOf 3 = 1 := by kernel_rfl
theorem cells_i6411 : Try.prog.cellsOf 2 = 1 := by kernel_rfl
theorem len2' {α : Type} {l : List α} (h : l.length = 2) : ∃ a b, l = [a, b] := by
  match l, h with
  | [a, b], _ => exact ⟨a, b, rfl⟩
theorem wr11_of_cells {H : Type} {enc : TypeId × Value → H} {W : World} {fuel : Nat} {cs : List Value} {x : DataW H × List MemPlace}
    (hf : DataW.trod enc Try.prog W 0 (fun _ => true) true fuel 36 cs = some x) : ∃ s : Wt, cs = [.int .i64 s.c, .int .i64 s.v] ∧ W64 s.v ∧ W64 s.c := by
  obtain ⟨xs, m, _, hx, hl, hlen, hfd⟩ := DataW.trod_struct Try.underlying36 hf
  have hl2 : cs.length = 2 := by rw [hl, cells_wr11]
  obtain ⟨c0, c1, rfl⟩ := len2' hl2
  obtain ⟨y0, y1, rfl⟩ := len2' hlen
  have g0 := hfd 0 _ rfl
  have g1 := hfd 1 _ rfl
  simp [cells_int11, cells_i6411] at g0 g1
  obtain ⟨a0, z0, _, hw0⟩ := DataW.trod_int Try.underlying3 g0
  obtain ⟨a1, z1, _, hwf⟩ := DataW.trod_int Try.underlying2 g1
  simp only [List.cons.injEq, and_true] at z0 z1
  subst z0 z1
  exact ⟨⟨a0, a1⟩, rfl, w64_of_wf hwf, w64_of_wf hw0⟩
theorem open_wl {H : Type} {enc : TypeId × Value → H} {W : World} {fuel : Nat} {cs : List Value} {x : DataW H × List MemPlace} (hw : (x.1.weights Try.prog 25).all (· ≤ reachBytes) = true)
    (hf : DataW.trod enc Try.prog W 0 (fun _ => true) true fuel 25 cs = some x) : ∃ v S, cs = [v] ∧ WL W v S ∧ (∀ i, i < S.length → W64 (S.getD i noWt).v) ∧ ∀ i, i < S.length → W64 (S.getD i noWt).c := by
  rcases Go.Deep.open_slice Try.underlying25 hf with ⟨hcs, hx⟩ | ⟨x0, n, c, m, n', D, Pl, hcs, _, hl, hm, hmm, hx, hcell⟩
  · exact ⟨_, [], hcs, ⟨none, _, rfl, by simp, Or.inl rfl⟩, fun i hi => absurd hi (by simp), fun i hi => absurd hi (by simp)⟩
  · have hmc : m = c := by simpa using hmm
    subst hmc
    have hlen : n ≤ 8796093022208 := by
      rw [hx] at hw
      simp only [DataW.weights, Try.underlying25, List.all_cons, Bool.and_eq_true, decide_eq_true_eq, bytes_wr11, List.length_map, List.length_range] at hw
      have := hw.1
      unfold reachBytes at this
      omega
    have hrow : ∀ i, i < n → ∃ s : Wt, (W.cell? (x0.add (i * 2)) = some (.int .i64 s.c) ∧ W.cell? ((x0.add (i * 2)).add 1) = some (.int .i64 s.v)) ∧ (W64 s.v ∧ W64 s.c) ∧ x0.block < W.heap.size := fun i hi => by
      obtain ⟨cs', hc, ht⟩ := hcell i (by omega)
      obtain ⟨s, rfl, hfit⟩ := wr11_of_cells ht
      rw [cells_wr11] at hc
      have hj : ∀ j, j < 2 → W.cell? ((x0.add (i * 2)).add j) = [Value.int .i64 s.c, .int .i64 s.v][j]? := fun j hj => (World.cells?_some hc).2.2 j hj
      refine ⟨s, ⟨?_, ?_⟩, hfit, ?_⟩
      · have := hj 0 (by decide); rw [add_zero'] at this; exact this
      · exact hj 1 (by decide)
      · have := World.block_lt_of_cell? _ _ ((hj 0 (by decide)).trans (show _ = some (Value.int .i64 s.c) from rfl))
        rwa [add_block, add_block] at this
    obtain ⟨S, hSl, hS⟩ := list_choose noWt _ n hrow
    refine ⟨_, S, hcs, ⟨some x0, m, by rw [hSl], by omega, ?_⟩, fun i hi => (hS i (by omega)).2.1.1, fun i hi => (hS i (by omega)).2.1.2⟩
    by_cases h0 : n = 0
    · exact Or.inl (List.length_eq_zero_iff.1 (by omega))
    · exact Or.inr ⟨x0, rfl, (hS 0 (by omega)).2.2, fun i hi => (hS i (by omega)).1⟩
end Go.Proofs.Ytbmmicfdnfpcaaa
