/- The document's machine of layer 8: what comes next, where it looks at stamps. -/
import Derived.Test.YtfbbcjlbelnfaaaCqG
namespace Go.Proofs.Ytfbbcjlbelnfaaa
open Go.ChangeShapes Go.WideShapes Go.ChangeAt Go.RowKit
attribute [local go_sem ↓] Go.wp_at_zero Go.wp_at_succ

theorem wrap_id {x : Int} (h1 : -9223372036854775808 ≤ x) (h2 : x ≤ 9223372036854775807) : wrap64 x = x := by unfold wrap64; omega
theorem q_le {i M : Nat} (h : i ≤ M) : (i : Int) ≤ (M : Int) := Int.ofNat_le.2 h
theorem q_zi {z n : Int} {M i : Nat} (hM : n - z = (M : Int)) (hi : i ≤ M) : z + (i : Int) ≤ n := by omega
theorem q_w1 {z n : Int} {i : Nat} (hz : 0 ≤ z) (hzi : z + (i : Int) ≤ n) (hn : n ≤ 9223372036854775807) : wrap64 (z + (i : Int)) = z + (i : Int) := wrap_id (by omega) (by omega)
theorem q_wi {i M : Nat} (h1 : i ≤ M + 1) (h2 : M ≤ 16) : wrap64 ((i : Int) + 1) = (i : Int) + 1 := wrap_id (by omega) (by omega)
theorem q_more {z n : Int} {M i : Nat} (hM : n - z = (M : Int)) (hi : i ≤ M) : z + (i : Int) - 1 < n := by omega
theorem q_back (z : Int) : z - 1 + 1 = z := by omega
theorem q_s1 {s z : Int} {i : Nat} (hs : z + (i : Int) = s) (hz : 0 ≤ z) (hi : 1 ≤ i) : 1 ≤ s := by omega
theorem q_nlt {a b : Nat} (h : ¬ a = b) (h2 : a ≤ b) : a < b := by omega
theorem q_ne {a b : Nat} (h : a < b) : ((a : Int) == (b : Int)) = false := by rw [beq_eq_false_iff_ne]; omega
theorem q_lt {a b : Nat} (h : a < b) : (a : Int) < (b : Int) := by omega
theorem q_end {i M : Nat} (h : ¬ i ≤ M) (h2 : i ≤ M + 1) : i = M + 1 := by omega
theorem q_M {z n : Int} (h : z < n) : ∃ M : Nat, n - z = (M : Int) := ⟨(n - z).toNat, by omega⟩
theorem q_M16 {z n : Int} {M s : Nat} (hM : n - z = (M : Int)) (h : n - z ≤ (s : Int)) (hs : s ≤ 16) : M ≤ 16 := by omega
theorem q_wM {M : Nat} (h : M ≤ 16) : wrap64 (M : Int) = (M : Int) := wrap_id (by omega) (by omega)
theorem q_lb {a ln s : Nat} (h : a ≤ 2 + 9 * s) (hl : a = ln) (hs : s ≤ 16) : ln ≤ 146 := by omega
theorem q_one (z : Int) : z + ((1 : Nat) : Int) - 1 = z := by omega
theorem q_num (a : Nat) : Value.int .i64 ((a : Int) + 1) = Value.int .i64 ((a + 1 : Nat) : Int) := by congr 1
theorem q_zl {z : Int} {i : Nat} (h : 1 ≤ i) : z ≤ z + (i : Int) := by omega
theorem q_wa {a ln : Nat} (h : a ≤ ln) (hl : ln ≤ 146) : wrap64 ((a : Int) + 1) = (a : Int) + 1 := wrap_id (by omega) (by omega)
theorem q_wj {j lw : Nat} (h : j < lw) (hl : lw ≤ 8) : wrap64 ((j : Int) + 1) = (j : Int) + 1 := wrap_id (by omega) (by omega)
theorem q_w2 {x n : Int} (h : 1 ≤ x) (h2 : x ≤ n) (hn : n ≤ 9223372036854775807) : wrap64 (x - 1) = x - 1 := wrap_id (by omega) (by omega)
theorem q_bne {q : Nat} (h : (q != 0) = true) : ((q : Int) != 0) = true := by simp only [bne_iff_ne, ne_eq] at h ⊢; omega
theorem q_bnf {q : Nat} (h : (q != 0) = false) : ((q : Int) != 0) = false := by rw [Bool.eq_false_iff] at h ⊢; simp only [bne_iff_ne, ne_eq] at h ⊢; omega
theorem q_nat (k : Nat) : ((k : Int) + 1).toNat = k + 1 := by omega
theorem q_eq {j lw : Nat} (h : ¬ j < lw) (h2 : j ≤ lw) : j = lw := by omega
theorem q_nl {j lw : Nat} (h : ¬ j < lw) : ¬ (j : Int) < (lw : Int) := by omega
theorem q_ng {j lw : Nat} (h : ¬ j ≤ lw) : ¬ (j : Int) ≤ (lw : Int) := by omega
theorem q_ii (z : Int) (i : Nat) : z + (i : Int) = z + ((i + 1 : Nat) : Int) - 1 := by omega
theorem q_mj {j lw : Nat} (h : j < lw) : lw - (j + 1) < lw - j := by omega
theorem q_ms {i M : Nat} (h : i ≤ M) : M - i < M + 1 - i := by omega
theorem q_tail {z n : Int} {M i : Nat} (hM : n - z = (M : Int)) (hi : ¬ i ≤ M) : ¬ z + (i : Int) - 1 < n := by omega
theorem on_more {P : Cp} {st0 n s wd st : Int} (h : s < n) : stampOn P ⟨st0, n, s, wd, st, 0⟩ = ⟨1, n, s + 1, wd, st, 0⟩ := by unfold stampOn; rw [if_pos h]
theorem on_last {P : Cp} {st0 n s wd st : Int} (h : ¬ s < n) (hl : P.last = true) : stampOn P ⟨st0, n, s, wd, st, 0⟩ = ⟨3, n, s, wd, st, 0⟩ := by unfold stampOn; rw [if_neg h, if_pos hl]
theorem on_end {P : Cp} {st0 n s wd st : Int} (h : ¬ s < n) (hl : P.last = false) : stampOn P ⟨st0, n, s, wd, st, 0⟩ = ⟨4, n, s, wd, st, 0⟩ := by unfold stampOn; rw [if_neg h, if_neg (by simp [hl])]
theorem word_hit {P : Cp} {st0 n s wd st : Int} {k : Nat} (h : nxW P.rd (wd + 1).toNat = k) (hk : k < 8) : wordOn P ⟨st0, n, s, wd, st, 0⟩ = ⟨2, n, s, (k : Int), st, 0⟩ := by unfold wordOn; simp only; rw [h, if_pos hk]
theorem word_end {P : Cp} {st0 n s wd st : Int} (h : nxW P.rd (wd + 1).toNat = 8) : wordOn P ⟨st0, n, s, wd, st, 0⟩ = stampOn P ⟨st0, n, s, 8, st, 0⟩ := by unfold wordOn; simp only; rw [h, if_neg (by omega)]
def stV (s st v : Int) : Int := if (v % 2 == 1) = true ∧ st = s - 1 then s else st
theorem look_on {P : Cp} {n s wd st v : Int} (hs : 1 ≤ s) (h : laidV v s = true) : stepK P ⟨1, n, s, wd, st, 0⟩ v = wordOn P ⟨1, n, s, -1, stV s st v, 0⟩ := by
  have ho : overV v s = (v % 2 == 1) := by
    unfold overV; rw [h]
    have h1 : decide (s < 1) = false := decide_eq_false (by omega)
    have h2 : decide (v / 2 > s) = false := decide_eq_false (by unfold laidV at h; simp at h; omega)
    rw [h1, h2]; simp
  unfold stepK lookK onV compV stV
  rw [if_neg (by simp), if_pos rfl]
  simp only
  rw [if_pos h, if_pos trivial, ho]
theorem look_over {P : Cp} {n s wd st v : Int} (h : laidV v s = false) (hw : waitK ⟨1, n, s, wd, st, 0⟩ v = false) : stepK P ⟨1, n, s, wd, st, 0⟩ v = ⟨5, n, s, wd, st, 4⟩ := by
  have ho : overV v s = true := by unfold waitK at hw; simp only at hw; rw [h] at hw; simpa using hw
  unfold stepK lookK failV
  rw [if_neg (by simp), if_pos rfl]
  simp only
  rw [if_neg (by simp [h]), if_pos ho]
theorem hold_hit {P : Cp} {n s st v : Int} {k : Nat} (h : hitV P.rd k v = true) : stepK P ⟨2, n, s, (k : Int), st, 0⟩ v = ⟨5, n, s, (k : Int), st, 3⟩ := by
  unfold stepK holdK failV
  rw [if_neg (by simp), if_neg (by simp), if_pos rfl]
  simp only [Int.toNat_natCast]
  rw [if_pos h]
theorem hold_on {P : Cp} {n s st v : Int} {k : Nat} (h : hitV P.rd k v = false) : stepK P ⟨2, n, s, (k : Int), st, 0⟩ v = wordOn P ⟨2, n, s, (k : Int), st, 0⟩ := by
  unfold stepK holdK onV
  rw [if_neg (by simp), if_neg (by simp), if_pos rfl]
  simp only [Int.toNat_natCast]
  rw [if_neg (by simp [h]), if_neg (by simp), if_pos trivial]
theorem again_far {P : Cp} {n s wd st v : Int} (h : farV P v = true) : stepK P ⟨3, n, s, wd, st, 0⟩ v = ⟨5, n, s, wd, st, 4⟩ := by
  unfold stepK againK failV
  rw [if_neg (by simp), if_neg (by simp), if_neg (by simp), if_pos rfl, if_pos h]
theorem again_on {P : Cp} {n s wd st v : Int} (h : farV P v = false) : stepK P ⟨3, n, s, wd, st, 0⟩ v = ⟨4, n, s, wd, st, 0⟩ := by
  unfold stepK againK onV
  rw [if_neg (by simp), if_neg (by simp), if_neg (by simp), if_pos rfl, if_neg (by simp [h]), if_neg (by simp), if_neg (by simp), if_neg (by simp)]
theorem run_end {P : Cp} {l : List Int} (h : LKk P l) {k : Nat} (hk : k < l.length) {b : Ck} (hb : runK P (l.take k) = b) {b' : Ck} (hs : stepK P b (l.getD k 0) = b') (ht : thr b') : runK P l = b' := by
  have h1 := runK_take P l k hk
  rw [hb, hs] at h1
  have := h.last (k := k + 1) (by omega) (by rw [h1]; exact ht)
  rw [← h1, this, List.take_length]
theorem getD_w {P : Cp} {l : List Int} (h : LKk P l) {k : Nat} (hk : k < l.length) : W64 (l.getD k 0) := h.w _ (by simp only [List.getD_eq_getElem?_getD]; rw [List.getElem?_eq_getElem hk]; simp)
/-- The words lie where they were laid. -/
def WAt (w : World) (gw : Nat) (W : List Nat) : Prop := gw < w.heap.size ∧ ∀ j, j < W.length → w.cell? ⟨gw, j, none⟩ = some (.int .i64 ((W.getD j 8 : Nat) : Int))
theorem WAt.later {w w' : World} {gw : Nat} {W : List Nat} (h : WAt w gw W) (hb : Below w.heap.size w w') : WAt w' gw W := ⟨Nat.lt_of_lt_of_le h.1 hb.size, fun j hj => cell_later hb h.1 (h.2 j hj)⟩
theorem wat_own {w : World} {base : Nat} {v : Value} {W : List Nat} (h : w.ownsRow base 3 1 v W.length (Sg.iv W)) (hw : W ≠ []) : ∃ gw cap, v = .slice (some ⟨gw, 0, none⟩) W.length cap ∧ WAt w gw W := by
  obtain ⟨gw, cap, rfl, _, hg⟩ := h.form (by have := List.length_pos_iff.2 hw; omega)
  refine ⟨gw, cap, rfl, hg, fun j hj => own_cells h j _ ?_⟩
  simp [Sg.iv, hj]

set_option maxRecDepth 100000 in
set_option maxHeartbeats 6400000 in
theorem knext_go {w : World} {Y : Nat} {P : Cp} {l : List Int} {a : Option Addr} {cap : Nat} (h : KL w Y P l a cap) (hk : LKk P l) (hp : POk P) (hl : l ≠ []) (hn : ¬ (P.rd = Sg.nought ∨ l.getD 0 0 ≤ P.z)) (hf : farV P (l.getD 0 0) = false) :
    Calls Try.prog 76 #[.pointer (some ⟨Y, 3, none⟩)] w fun e w' => e = .returned (.agg (planK P (runK P l))) ∧ Below w.heap.size w w' := by
  obtain ⟨g, rfl, hg, hc⟩ := h.load hl
  have c0 : w.cell? ⟨g, 0, none⟩ = some (.int .i64 (l.getD 0 0)) := hc 0 (List.length_pos_iff.2 hl)
  obtain ⟨x0, x1, x2, x3⟩ := h.cells
  obtain ⟨r0, r1, r2, r3, r4, r5, r6, r7⟩ := h.reads
  have hx : Y < w.heap.size := heap_lt h.m
  have hnz : ((l.length : Int) == 0) = false := by have := List.length_pos_iff.2 hl; simp; omega
  have hnp : 0 < l.length := List.length_pos_iff.2 hl
  have HWD : Hid (∀ w, Calls Try.prog 93 #[.agg #[rdV P.rd 0, rdV P.rd 1, rdV P.rd 2, rdV P.rd 3, rdV P.rd 4, rdV P.rd 5, rdV P.rd 6, rdV P.rd 7]] w fun e w' => ∃ u, e = .returned u ∧ w'.ownsRow w.heap.size 3 1 u (wdsF P.rd 0).length (Sg.iv (wdsF P.rd 0)) ∧ Below w.heap.size w w') := fun w => words_any w P.rd hp.rd
  have HKL : Hid (KL w Y P l (some ⟨g, 0, none⟩) cap) := h
  have hw0 : W64 (l.getD 0 0) := first_w hk hl
  have HFA : Hid (∀ w', Below w.heap.size w w' → Calls Try.prog 94 #[.pointer (some ⟨Y, 3, none⟩), .int .i64 (l.getD 0 0)] w' fun e w'' => e = .returned (.bool false) ∧ Below w'.heap.size w' w'') := fun w' hb => by
    rw [← hf]; exact far_any (HKL.out.later hb) hp hw0
  have HFB : Hid (∀ k, k < l.length → ∀ w', Below w.heap.size w w' → Calls Try.prog 94 #[.pointer (some ⟨Y, 3, none⟩), .int .i64 (l.getD k 0)] w' fun e w'' => e = .returned (.bool (farV P (l.getD k 0))) ∧ Below w'.heap.size w' w'') := fun k hk' w' hb => far_any (HKL.out.later hb) hp (getD_w hk hk')
  have hwn : wdsF P.rd 0 ≠ [] := fun e => hn (Or.inl ((wds_nil hp.rd).mp e))
  have hq : (((wdsF P.rd 0).length : Int) == 0) = false := by
    have := List.length_pos_iff.2 hwn
    simp only [beq_eq_false_iff_ne, ne_eq]; omega
  have hd : decide (l.getD 0 0 ≤ P.z) = false := decide_eq_false (fun e => hn (Or.inr e))
  have HR0 : Hid (runK P (l.take 1) = stampOn P ⟨0, l.getD 0 0, P.z, 0, P.z, 0⟩) := by rw [Hid, run_one hl, see_on hn hf]
  have hzn : P.z < l.getD 0 0 := by
    by_cases e : l.getD 0 0 ≤ P.z
    · exact absurd (Or.inr e) hn
    · omega
  have hzs : l.getD 0 0 - P.z ≤ (P.s : Int) := by
    unfold farV at hf; simp only [Bool.and_eq_false_iff, decide_eq_false_iff_not] at hf; omega
  have hz0 := hp.z0
  have hs16 := hp.s16
  have hs1 := hp.s1
  have hn2 := hw0.2
  have HLK : Hid (LKk P l) := hk
  have HLD : Hid (∀ k, k < l.length → w.cell? ⟨g, k, none⟩ = some (.int .i64 (l.getD k 0))) := hc
  have HSL : Hid (∀ x w, Calls Try.prog 57 #[.int .i64 x, .int .i64 (P.s : Int)] w fun e w' => e = .returned (.int .i64 (slotV x P.s)) ∧ w' = w) := fun x w => rslot_any x P.s w
  have HLA : Hid (∀ k, k < l.length → ∀ x w, Calls Try.prog 95 #[.int .i64 (l.getD k 0), .int .i64 x] w fun e w' => e = .returned (.bool (laidV (l.getD k 0) x)) ∧ w' = w) := fun k hk' x w => rlaid_any _ _ (getD_w hk hk').1 (getD_w hk hk').2 w
  have HDN : Hid (∀ v w, Calls Try.prog 78 #[.int .i64 v] w fun e w' => e = .returned (.bool (v % 2 == 1)) ∧ w' = w) := fun v w => rdone_any v w
  have HW8 : Hid (∀ j, j < (wdsF P.rd 0).length → (wdsF P.rd 0).getD j 8 < 8 ∧ nxW P.rd ((wdsF P.rd 0).getD j 8 + 1) = (wdsF P.rd 0).getD (j + 1) 8) := fun j hj => ⟨(wds_get P.rd 0 j (by omega) hj).1, (wds_get P.rd 0 j (by omega) hj).2.2⟩
  have HW0 : Hid (nxW P.rd 0 = (wdsF P.rd 0).getD 0 8) := wds_first P.rd
  have HRDOK : Hid (Sg.Ok P.rd) := hp.rd
  generalize hPL : planK P (runK P l) = PL
  have HPL : Hid (planK P (runK P l) = PL) := hPL
  clear hPL
  clear h hk hc hn hp hf hw0
  generalize hln : l.length = ln at *
  generalize hnn : l.getD 0 0 = n at *
  clear hnn
  obtain ⟨M, hM⟩ : ∃ M : Nat, n - P.z = (M : Int) := q_M hzn
  have hM16 : M ≤ 16 := q_M16 hM hzs hs16
  have hw1' : wrap64 (M : Int) = (M : Int) := q_wM hM16
  have hw1 : wrap64 (n - P.z) = (M : Int) := by rw [hM]; exact hw1'
  have hlb : ln ≤ 146 := q_lb (kok_len HLK.out.all) hln hs16
  go_enter Try.func76, Try.ntmps76
  go_wp2_with fail
  refine (HWD.out _).mono ?_
  rintro e w1 ⟨u1, rfl, ho1, hb1⟩
  obtain ⟨ua, ucap, rfl⟩ := own_slice ho1
  have HR1 : Hid (w1.heap[w.heap.size]? = some (.cells noPlanK 148 (0, 0))) := row_on (heap_alloc_new _ _) hb1
  have HB1 : Hid (Below w.heap.size w w1) := below_then (below_a1 _ _) hb1
  clear hb1 c0 r0 r1 r2 r3 r4 r5 r6 r7 x0 x1 x2 x3
  obtain ⟨gw, ucap', hu, hwat⟩ := wat_own ho1 hwn
  simp at hu
  obtain ⟨rfl, rfl⟩ := hu
  have HWA : Hid (WAt w1 gw (wdsF P.rd 0)) := hwat
  clear ho1 hwat
  have hlw8 : (wdsF P.rd 0).length ≤ 8 := by rw [← wdsT_all]; exact wdsT_len _ _
  generalize hW : wdsF P.rd 0 = W at *
  clear hW
  generalize hlw : W.length = lw at *
  obtain ⟨x0, x1, x2, x3⟩ := (HKL.out.later HB1.out).cells
  rw [hln] at x3
  go_wp2_with fail
  refine (HFA.out _ HB1.out).mono ?_
  rintro e w2 ⟨rfl, hb2⟩
  have HR2 : Hid (w2.heap[w.heap.size]? = some (.cells noPlanK 148 (0, 0))) := row_on HR1.out hb2
  have HB2 : Hid (Below w.heap.size w w2) := below_then HB1.out hb2
  have HWB : Hid (WAt w2 gw W) := HWA.out.later hb2
  clear hb2 x0 x1 x2 x3 HWA HR1 HB1
  obtain ⟨x0, x1, x2, x3⟩ := (HKL.out.later HB2.out).cells
  rw [hln] at x3
  go_wp2_with fail
  go_loopw [6, 7, 9] (fun av sv iv wr => ∃ (i at' : Nat) (st st0 wd : Int), av = .int .i64 at' ∧ sv = .int .i64 st ∧ iv = .int .i64 i ∧ 1 ≤ i ∧ i ≤ M + 1 ∧ 1 ≤ at' ∧ at' ≤ ln ∧ P.z ≤ st ∧ st ≤ n ∧ runK P (l.take at') = stampOn P ⟨st0, n, P.z + (i : Int) - 1, wd, st, 0⟩ ∧ Below w2.heap.size w2 wr) (fun _ _ iv _ => M + 1 - (intOf iv).toNat)
  case atStart => exact ⟨1, 1, P.z, 0, 0, rfl, rfl, rfl, Nat.le_refl 1, Nat.le_add_left 1 M, Nat.le_refl 1, hnp, Int.le_refl _, Int.le_of_lt hzn, by rw [HR0.out, q_one], Below.refl _ _⟩
  case round =>
    obtain ⟨i, at', st, st0, wd, rfl, rfl, rfl, hi1, hiM, ha1, haL, hs1', hs2', hrun, hbr⟩ := hrel
    have hwi : wrap64 ((i : Int) + 1) = (i : Int) + 1 := q_wi hiM hM16
    have HRN : Hid (runK P (l.take at') = stampOn P ⟨st0, n, P.z + (i : Int) - 1, wd, st, 0⟩) := hrun
    have HBR : Hid (Below w2.heap.size w2 wr) := hbr
    have HRr : Hid (wr.heap[w.heap.size]? = some (.cells noPlanK 148 (0, 0))) := row_on HR2.out hbr
    have HBr : Hid (Below w.heap.size w wr) := below_then HB2.out hbr
    have HWr : Hid (WAt wr gw W) := HWB.out.later hbr
    have HMM : Hid (n - P.z = (M : Int)) := hM
    have HSB : Hid (P.z ≤ st ∧ st ≤ n) := ⟨hs1', hs2'⟩
    clear x0 x1 x2 x3 hrun hbr hw1 hw1' hM hs1' hs2' hzs hzn
    obtain ⟨x0, x1, x2, x3⟩ := (HKL.out.later HBr.out).cells
    rw [hln] at x3
    have hY : Y < wr.heap.size := heap_lt (HKL.out.later HBr.out).m
    have hgr : g < wr.heap.size := Nat.lt_of_lt_of_le hg HBr.out.size
    by_cases hi : i ≤ M
    · have d1 : decide ((i : Int) ≤ (M : Int)) = true := decide_eq_true (q_le hi)
      have hzi : P.z + (i : Int) ≤ n := q_zi HMM.out hi
      have hws : wrap64 (P.z + (i : Int)) = P.z + (i : Int) := q_w1 hz0 hzi hn2
      have HR1' : Hid (runK P (l.take at') = ⟨1, n, P.z + (i : Int), wd, st, 0⟩) := by
        rw [Hid, HRN.out, on_more (q_more HMM.out hi), q_back]
      have HS1 : Hid (∀ w, Calls Try.prog 57 #[.int .i64 (P.z + (i : Int)), .int .i64 (P.s : Int)] w fun e w' => e = .returned (.int .i64 (slotV (P.z + (i : Int)) P.s)) ∧ w' = w) := HSL.out _
      have HS1S : Hid (1 ≤ P.z + (i : Int)) := q_s1 rfl hz0 hi1
      have HZI : Hid (P.z + (i : Int) ≤ n) := hzi
      clear hzi
      by_cases hat : at' = ln
      · have hae : ((at' : Int) == (ln : Int)) = true := by rw [hat]; exact beq_self_eq_true _
        have HRL : Hid (runK P l = ⟨1, n, P.z + (i : Int), wd, st, 0⟩) := by
          have := HR1'.out
          rw [hat, ← hln, List.take_length] at this; exact this
        obtain ⟨⟨p0, p1, p2, p3, p4, p5, p6, p7⟩, f0, f1, f2, f3, f4, f5, f6, f7⟩ := planK_cells HRr.out
        have hz := heap_lt HRr.out
        have HPK : Hid (planK P ⟨1, n, P.z + (i : Int), wd, st, 0⟩ = #[.bool false, .int .i64 0, .int .i64 0, .int .i64 0, .int .i64 2, .int .i64 (slotV (P.z + (i : Int)) P.s), .int .i64 0, .int .i64 (P.z + (i : Int))]) := rfl
        generalize slotV (P.z + (i : Int)) P.s = sl at *
        go_wp2_with fail
        refine (HS1.out _).mono ?_
        rintro e y1 ⟨rfl, rfl⟩
        go_wp2
        exact ret_planK rfl rfl (planK_set HRr.out _ _ _ _ _ _ _ _) rfl rfl ⟨by rw [← HPL.out, HRL.out, HPK.out], below8 HBr.out (Nat.le_refl _) _ _ _ _ _ _ _ _⟩
      · have hlt : at' < ln := q_nlt hat haL
        have hae : ((at' : Int) == (ln : Int)) = false := q_ne hlt
        have hltI : (at' : Int) < (ln : Int) := q_lt hlt
        have hcv : wr.cell? ⟨g, at', none⟩ = some (.int .i64 (l.getD at' 0)) := cell_later HBr.out hg (HLD.out at' hlt)
        have HLV : Hid (∀ w, Calls Try.prog 95 #[.int .i64 (l.getD at' 0), .int .i64 (P.z + (i : Int))] w fun e w' => e = .returned (.bool (laidV (l.getD at' 0) (P.z + (i : Int)))) ∧ w' = w) := HLA.out at' hlt _
        have HDV : Hid (∀ w, Calls Try.prog 78 #[.int .i64 (l.getD at' 0)] w fun e w' => e = .returned (.bool (l.getD at' 0 % 2 == 1)) ∧ w' = w) := HDN.out _
        have HNX : Hid (runK P (l.take (at' + 1)) = stepK P ⟨1, n, P.z + (i : Int), wd, st, 0⟩ (l.getD at' 0)) := by rw [Hid, runK_take P l at' (hln.symm ▸ hlt), HR1'.out]
        by_cases hla : laidV (l.getD at' 0) (P.z + (i : Int)) = true
        · have hws2 : wrap64 (P.z + (i : Int) - 1) = P.z + (i : Int) - 1 := q_w2 HS1S.out HZI.out hn2
          have hwa : wrap64 ((at' : Int) + 1) = (at' : Int) + 1 := q_wa haL hlb
          rw [hla] at HLV
          have hlwd : W.length = lw := hlw
          obtain ⟨sl, HSLV⟩ : ∃ sl, Hid (slotV (P.z + (i : Int)) P.s = sl) := ⟨_, rfl⟩
          rw [HSLV.out] at HS1
          obtain ⟨v, hv⟩ : ∃ v, l.getD at' 0 = v := ⟨_, rfl⟩
          rw [hv] at hcv HLV HDV HNX hla
          clear hv
          cases hdn : (v % 2 == 1)
          · -- not done
            have HST : Hid (stV (P.z + (i : Int)) st v = st) := by
              rw [Hid]; unfold stV; rw [hdn, if_neg (fun e => by simp at e)]
            have HWO : Hid (runK P (l.take (at' + 1)) = wordOn P ⟨1, n, (P.z + (i : Int)), -1, st, 0⟩) := by rw [Hid, HNX.out, look_on HS1S.out hla, HST.out]
            rw [hdn] at HDV
            have HBS : Hid (P.z ≤ st ∧ st ≤ n) := HSB.out
            clear hdn hla HNX HST
            go_wp2_with fail
            refine (HS1.out _).mono ?_
            rintro e y1 ⟨rfl, rfl⟩
            go_wp2_with fail
            refine (HLV.out _).mono ?_
            rintro e y2 ⟨rfl, rfl⟩
            go_wp2_with fail
            refine (HDV.out _).mono ?_
            rintro e y3 ⟨rfl, rfl⟩
            have HAR : Hid (i ≤ M ∧ at' < ln ∧ ln ≤ 146 ∧ lw ≤ 8) := ⟨hi, hlt, hlb, hlw8⟩
            clear hi hi1 hiM ha1 haL hat hlt hltI hM16 hlb hlw8 hnp hz0 hs16 hs1 hn2 hwn hl
            go_wp2_with fail
            go_loopw [6, 14] (fun av jv wr => ∃ (j a2 : Nat) (st1 wd2 : Int), av = .int .i64 a2 ∧ jv = .int .i64 j ∧ j ≤ lw ∧ 1 ≤ a2 ∧ a2 ≤ ln ∧ runK P (l.take a2) = wordOn P ⟨st1, n, (P.z + (i : Int)), wd2, st, 0⟩ ∧ nxW P.rd (wd2 + 1).toNat = W.getD j 8 ∧ Below w2.heap.size w2 wr) (fun _ jv _ => lw - (intOf jv).toNat)
            case atStart => exact ⟨0, at' + 1, 1, -1, by rw [hwa]; exact q_num _, rfl, Nat.zero_le _, Nat.le_add_left 1 at', HAR.out.2.1, HWO.out, by rw [show ((-1 : Int) + 1).toNat = 0 from rfl]; exact HW0.out, HBR.out⟩
            case round =>
              obtain ⟨j, a2, st1, wd2, rfl, rfl, hjl, ha21, ha2l, hrun2, hnx2, hbr2⟩ := hrel
              have HRN2 : Hid (runK P (l.take a2) = wordOn P ⟨st1, n, (P.z + (i : Int)), wd2, st, 0⟩ ∧ nxW P.rd (wd2 + 1).toNat = W.getD j 8) := ⟨hrun2, hnx2⟩
              have HBI : Hid (Below w2.heap.size w2 wr) := hbr2
              have HRi : Hid (wr.heap[w.heap.size]? = some (.cells noPlanK 148 (0, 0))) := row_on HR2.out hbr2
              have HBi : Hid (Below w.heap.size w wr) := below_then HB2.out hbr2
              have HWi : Hid (WAt wr gw W) := HWB.out.later hbr2
              clear x0 x1 x2 x3 hrun2 hnx2 hbr2 hcv
              obtain ⟨x0, x1, x2, x3⟩ := (HKL.out.later HBi.out).cells
              rw [hln] at x3
              have hYi : Y < wr.heap.size := heap_lt (HKL.out.later HBi.out).m
              have hwa2 : wrap64 ((a2 : Int) + 1) = (a2 : Int) + 1 := q_wa ha2l HAR.out.2.2.1
              have HIN : Hid (j ≤ lw ∧ 1 ≤ a2 ∧ a2 ≤ ln) := ⟨hjl, ha21, ha2l⟩
              clear hjl ha21 ha2l
              by_cases hj : j < lw
              · have d2 : decide ((j : Int) < (lw : Int)) = true := decide_eq_true (q_lt hj)
                have hjI : (j : Int) < (lw : Int) := q_lt hj
                have hwj : wrap64 ((j : Int) + 1) = (j : Int) + 1 := q_wj hj HAR.out.2.2.2
                obtain ⟨hk8, hknx⟩ := HW8.out j hj
                have hcw : wr.cell? ⟨gw, j, none⟩ = some (.int .i64 ((W.getD j 8 : Nat) : Int)) := HWi.out.2 j (hlwd.symm ▸ hj)
                have HRR := (HKL.out.later HBi.out).read (W.getD j 8) hk8
                have HKN : Hid (nxW P.rd (W.getD j 8 + 1) = W.getD (j + 1) 8) := hknx
                clear hknx
                obtain ⟨kw, hkw⟩ : ∃ kw, W.getD j 8 = kw := ⟨_, rfl⟩
                rw [hkw] at hk8 hcw HRR HKN
                have HR2' : Hid (runK P (l.take a2) = ⟨2, n, (P.z + (i : Int)), (kw : Int), st, 0⟩) := by rw [Hid, HRN2.out.1, word_hit (HRN2.out.2.trans hkw) hk8]
                have hk8I : (kw : Int) < 8 := q_lt hk8
                clear hkw
                by_cases ha : a2 = ln
                · have hae2 : ((a2 : Int) == (ln : Int)) = true := by rw [ha]; exact beq_self_eq_true _
                  have HRL : Hid (runK P l = ⟨2, n, (P.z + (i : Int)), (kw : Int), st, 0⟩) := by
                    have := HR2'.out
                    rw [ha, ← hln, List.take_length] at this; exact this
                  obtain ⟨⟨p0, p1, p2, p3, p4, p5, p6, p7⟩, f0, f1, f2, f3, f4, f5, f6, f7⟩ := planK_cells HRi.out
                  have hz := heap_lt HRi.out
                  have HPK : Hid (planK P ⟨2, n, (P.z + (i : Int)), (kw : Int), st, 0⟩ = #[.bool false, .int .i64 0, .int .i64 0, .int .i64 0, .int .i64 3, .int .i64 sl, .int .i64 (kw : Int), .int .i64 0]) := by rw [Hid, ← HSLV.out]; exact rfl
                  clear HRR hj hk8 ha
                  go_wp2
                  first | done | skip
                  exact ret_planK rfl rfl (planK_set HRi.out _ _ _ _ _ _ _ _) rfl rfl ⟨by rw [← HPL.out, HRL.out, HPK.out], below8 HBi.out (Nat.le_refl _) _ _ _ _ _ _ _ _⟩
                · have hlt2 : a2 < ln := q_nlt ha HIN.out.2.2
                  have hae2 : ((a2 : Int) == (ln : Int)) = false := q_ne hlt2
                  have hlt2I : (a2 : Int) < (ln : Int) := q_lt hlt2
                  have hcv2 : wr.cell? ⟨g, a2, none⟩ = some (.int .i64 (l.getD a2 0)) := cell_later HBi.out hg (HLD.out a2 hlt2)
                  have hbt := wrapU_bd (l.getD a2 0)
                  have hrl := HRDOK.out.2 kw
                  have hbits : bits .and .u64 ((P.rd.getD kw 0 : Nat) : Int) (IntKind.u64.wrap (l.getD a2 0)) = ((P.rd.getD kw 0 &&& (IntKind.u64.wrap (l.getD a2 0)).toNat : Nat) : Int) := by
                    rw [← hbt.2]; exact bits_and_u64_nat _ _ hrl hbt.1
                  have hcm : hitV P.rd kw (l.getD a2 0) = ((P.rd.getD kw 0 &&& (IntKind.u64.wrap (l.getD a2 0)).toNat) != 0) := by unfold hitV; rw [Nat.and_comm]
                  have HJJ : Hid (j < lw ∧ a2 < ln) := ⟨hj, hlt2⟩
                  clear hj ha hk8
                  by_cases hh : hitV P.rd kw (l.getD a2 0) = true
                  · have HRL : Hid (runK P l = ⟨5, n, (P.z + (i : Int)), (kw : Int), st, 3⟩) := run_end HLK.out (hln.symm ▸ hlt2) HR2'.out (hold_hit hh) (Or.inr rfl)
                    have hnz2 : (((P.rd.getD kw 0 &&& (IntKind.u64.wrap (l.getD a2 0)).toNat : Nat) : Int) != 0) = true := by rw [hcm] at hh; exact q_bne hh
                    obtain ⟨⟨p0, p1, p2, p3, p4, p5, p6, p7⟩, f0, f1, f2, f3, f4, f5, f6, f7⟩ := planK_cells HRi.out
                    have hz := heap_lt HRi.out
                    have HPK : Hid (planK P ⟨5, n, (P.z + (i : Int)), (kw : Int), st, 3⟩ = #[.bool true, .int .i64 3, .int .i64 0, .int .i64 0, .int .i64 0, .int .i64 0, .int .i64 0, .int .i64 0]) := rfl
                    clear hh hcm hbt hrl hlt2
                    generalize (P.rd.getD kw 0 &&& (IntKind.u64.wrap (l.getD a2 0)).toNat) = qq at *
                    generalize P.rd.getD kw 0 = yy at *
                    generalize l.getD a2 0 = v2 at *
                    go_wp2_with fail
                    go_quiet (fail)
                    go_wp2
                    exact ret_planK rfl rfl (planK_set (w := wr.drewN nq) HRi.out _ _ _ _ _ _ _ _) rfl rfl ⟨by rw [← HPL.out, HRL.out, HPK.out], below8 (below_drawn HBi.out _) (Nat.le_refl _) _ _ _ _ _ _ _ _⟩
                  · have hh' : hitV P.rd kw (l.getD a2 0) = false := by simpa using hh
                    have HRL : Hid (runK P (l.take (a2 + 1)) = wordOn P ⟨2, n, (P.z + (i : Int)), (kw : Int), st, 0⟩) := by rw [Hid, runK_take P l a2 (hln.symm ▸ hlt2), HR2'.out, hold_on hh']
                    have hnz2 : (((P.rd.getD kw 0 &&& (IntKind.u64.wrap (l.getD a2 0)).toNat : Nat) : Int) != 0) = false := by rw [hcm] at hh'; exact q_bnf hh'
                    clear hh hh' hcm hbt hrl hlt2
                    generalize (P.rd.getD kw 0 &&& (IntKind.u64.wrap (l.getD a2 0)).toNat) = qq at *
                    generalize P.rd.getD kw 0 = yy at *
                    generalize l.getD a2 0 = v2 at *
                    go_wp2_with fail
                    go_quiet (fail)
                    go_wp2
                    go_roundw
                    case rel => exact ⟨j + 1, a2 + 1, 2, (kw : Int), by rw [hwa2]; exact q_num _, by rw [hwj]; exact q_num _, HJJ.out.1, Nat.le_add_left 1 a2, HJJ.out.2, HRL.out, by rw [q_nat]; exact HKN.out, below_drawn HBI.out _⟩
                    case measure => rw [hwj]; simp [intOf]; exact q_mj HJJ.out.1
              · have hje : j = lw := q_eq hj HIN.out.1
                have d2 : decide ((j : Int) < (lw : Int)) = false := decide_eq_false (q_nl hj)
                have HRL : Hid (runK P (l.take a2) = stampOn P ⟨st1, n, P.z + ((i + 1 : Nat) : Int) - 1, 8, st, 0⟩) := by
                  have h8 : nxW P.rd (wd2 + 1).toNat = 8 := by rw [HRN2.out.2, hje, ← hlwd]; simp
                  rw [Hid, HRN2.out.1, word_end h8, q_ii]
                clear hje
                go_wp2
                go_roundw
                case rel => exact ⟨i + 1, a2, st, st1, 8, rfl, rfl, by rw [hwi]; exact q_num _, Nat.le_add_left 1 i, Nat.succ_le_succ HAR.out.1, HIN.out.2.1, HIN.out.2.2, HBS.out.1, HBS.out.2, HRL.out, HBI.out⟩
                case measure => rw [hwi]; simp [intOf]; exact q_ms HAR.out.1
          · by_cases heq : st = P.z + (i : Int) - 1
            · skip
              have HST : Hid (stV (P.z + (i : Int)) st v = (P.z + (i : Int))) := by
                rw [Hid]; unfold stV; rw [hdn, if_pos ⟨rfl, heq⟩]
              have HWO : Hid (runK P (l.take (at' + 1)) = wordOn P ⟨1, n, (P.z + (i : Int)), -1, (P.z + (i : Int)), 0⟩) := by rw [Hid, HNX.out, look_on HS1S.out hla, HST.out]
              rw [hdn] at HDV
              have hqq : (st == (P.z + (i : Int)) - 1) = true := by rw [heq]; exact beq_self_eq_true _
              have HBS : Hid (P.z ≤ (P.z + (i : Int)) ∧ (P.z + (i : Int)) ≤ n) := ⟨q_zl hi1, HZI.out⟩
              clear hdn heq hla HNX HST
              go_wp2_with fail
              refine (HS1.out _).mono ?_
              rintro e y1 ⟨rfl, rfl⟩
              go_wp2_with fail
              refine (HLV.out _).mono ?_
              rintro e y2 ⟨rfl, rfl⟩
              go_wp2_with fail
              refine (HDV.out _).mono ?_
              rintro e y3 ⟨rfl, rfl⟩
              have HAR : Hid (i ≤ M ∧ at' < ln ∧ ln ≤ 146 ∧ lw ≤ 8) := ⟨hi, hlt, hlb, hlw8⟩
              clear hi hi1 hiM ha1 haL hat hlt hltI hM16 hlb hlw8 hnp hz0 hs16 hs1 hn2 hwn hl
              go_wp2_with fail
              go_loopw [6, 14] (fun av jv wr => ∃ (j a2 : Nat) (st1 wd2 : Int), av = .int .i64 a2 ∧ jv = .int .i64 j ∧ j ≤ lw ∧ 1 ≤ a2 ∧ a2 ≤ ln ∧ runK P (l.take a2) = wordOn P ⟨st1, n, (P.z + (i : Int)), wd2, (P.z + (i : Int)), 0⟩ ∧ nxW P.rd (wd2 + 1).toNat = W.getD j 8 ∧ Below w2.heap.size w2 wr) (fun _ jv _ => lw - (intOf jv).toNat)
              case atStart => exact ⟨0, at' + 1, 1, -1, by rw [hwa]; exact q_num _, rfl, Nat.zero_le _, Nat.le_add_left 1 at', HAR.out.2.1, HWO.out, by rw [show ((-1 : Int) + 1).toNat = 0 from rfl]; exact HW0.out, HBR.out⟩
              case round =>
                obtain ⟨j, a2, st1, wd2, rfl, rfl, hjl, ha21, ha2l, hrun2, hnx2, hbr2⟩ := hrel
                have HRN2 : Hid (runK P (l.take a2) = wordOn P ⟨st1, n, (P.z + (i : Int)), wd2, (P.z + (i : Int)), 0⟩ ∧ nxW P.rd (wd2 + 1).toNat = W.getD j 8) := ⟨hrun2, hnx2⟩
                have HBI : Hid (Below w2.heap.size w2 wr) := hbr2
                have HRi : Hid (wr.heap[w.heap.size]? = some (.cells noPlanK 148 (0, 0))) := row_on HR2.out hbr2
                have HBi : Hid (Below w.heap.size w wr) := below_then HB2.out hbr2
                have HWi : Hid (WAt wr gw W) := HWB.out.later hbr2
                clear x0 x1 x2 x3 hrun2 hnx2 hbr2 hcv
                obtain ⟨x0, x1, x2, x3⟩ := (HKL.out.later HBi.out).cells
                rw [hln] at x3
                have hYi : Y < wr.heap.size := heap_lt (HKL.out.later HBi.out).m
                have hwa2 : wrap64 ((a2 : Int) + 1) = (a2 : Int) + 1 := q_wa ha2l HAR.out.2.2.1
                have HIN : Hid (j ≤ lw ∧ 1 ≤ a2 ∧ a2 ≤ ln) := ⟨hjl, ha21, ha2l⟩
                clear hjl ha21 ha2l
                by_cases hj : j < lw
                · have d2 : decide ((j : Int) < (lw : Int)) = true := decide_eq_true (q_lt hj)
                  have hjI : (j : Int) < (lw : Int) := q_lt hj
                  have hwj : wrap64 ((j : Int) + 1) = (j : Int) + 1 := q_wj hj HAR.out.2.2.2
                  obtain ⟨hk8, hknx⟩ := HW8.out j hj
                  have hcw : wr.cell? ⟨gw, j, none⟩ = some (.int .i64 ((W.getD j 8 : Nat) : Int)) := HWi.out.2 j (hlwd.symm ▸ hj)
                  have HRR := (HKL.out.later HBi.out).read (W.getD j 8) hk8
                  have HKN : Hid (nxW P.rd (W.getD j 8 + 1) = W.getD (j + 1) 8) := hknx
                  clear hknx
                  obtain ⟨kw, hkw⟩ : ∃ kw, W.getD j 8 = kw := ⟨_, rfl⟩
                  rw [hkw] at hk8 hcw HRR HKN
                  have HR2' : Hid (runK P (l.take a2) = ⟨2, n, (P.z + (i : Int)), (kw : Int), (P.z + (i : Int)), 0⟩) := by rw [Hid, HRN2.out.1, word_hit (HRN2.out.2.trans hkw) hk8]
                  have hk8I : (kw : Int) < 8 := q_lt hk8
                  clear hkw
                  by_cases ha : a2 = ln
                  · have hae2 : ((a2 : Int) == (ln : Int)) = true := by rw [ha]; exact beq_self_eq_true _
                    have HRL : Hid (runK P l = ⟨2, n, (P.z + (i : Int)), (kw : Int), (P.z + (i : Int)), 0⟩) := by
                      have := HR2'.out
                      rw [ha, ← hln, List.take_length] at this; exact this
                    obtain ⟨⟨p0, p1, p2, p3, p4, p5, p6, p7⟩, f0, f1, f2, f3, f4, f5, f6, f7⟩ := planK_cells HRi.out
                    have hz := heap_lt HRi.out
                    have HPK : Hid (planK P ⟨2, n, (P.z + (i : Int)), (kw : Int), (P.z + (i : Int)), 0⟩ = #[.bool false, .int .i64 0, .int .i64 0, .int .i64 0, .int .i64 3, .int .i64 sl, .int .i64 (kw : Int), .int .i64 0]) := by rw [Hid, ← HSLV.out]; exact rfl
                    clear HRR hj hk8 ha
                    go_wp2
                    first | done | skip
                    exact ret_planK rfl rfl (planK_set HRi.out _ _ _ _ _ _ _ _) rfl rfl ⟨by rw [← HPL.out, HRL.out, HPK.out], below8 HBi.out (Nat.le_refl _) _ _ _ _ _ _ _ _⟩
                  · have hlt2 : a2 < ln := q_nlt ha HIN.out.2.2
                    have hae2 : ((a2 : Int) == (ln : Int)) = false := q_ne hlt2
                    have hlt2I : (a2 : Int) < (ln : Int) := q_lt hlt2
                    have hcv2 : wr.cell? ⟨g, a2, none⟩ = some (.int .i64 (l.getD a2 0)) := cell_later HBi.out hg (HLD.out a2 hlt2)
                    have hbt := wrapU_bd (l.getD a2 0)
                    have hrl := HRDOK.out.2 kw
                    have hbits : bits .and .u64 ((P.rd.getD kw 0 : Nat) : Int) (IntKind.u64.wrap (l.getD a2 0)) = ((P.rd.getD kw 0 &&& (IntKind.u64.wrap (l.getD a2 0)).toNat : Nat) : Int) := by
                      rw [← hbt.2]; exact bits_and_u64_nat _ _ hrl hbt.1
                    have hcm : hitV P.rd kw (l.getD a2 0) = ((P.rd.getD kw 0 &&& (IntKind.u64.wrap (l.getD a2 0)).toNat) != 0) := by unfold hitV; rw [Nat.and_comm]
                    have HJJ : Hid (j < lw ∧ a2 < ln) := ⟨hj, hlt2⟩
                    clear hj ha hk8
                    by_cases hh : hitV P.rd kw (l.getD a2 0) = true
                    · have HRL : Hid (runK P l = ⟨5, n, (P.z + (i : Int)), (kw : Int), (P.z + (i : Int)), 3⟩) := run_end HLK.out (hln.symm ▸ hlt2) HR2'.out (hold_hit hh) (Or.inr rfl)
                      have hnz2 : (((P.rd.getD kw 0 &&& (IntKind.u64.wrap (l.getD a2 0)).toNat : Nat) : Int) != 0) = true := by rw [hcm] at hh; exact q_bne hh
                      obtain ⟨⟨p0, p1, p2, p3, p4, p5, p6, p7⟩, f0, f1, f2, f3, f4, f5, f6, f7⟩ := planK_cells HRi.out
                      have hz := heap_lt HRi.out
                      have HPK : Hid (planK P ⟨5, n, (P.z + (i : Int)), (kw : Int), (P.z + (i : Int)), 3⟩ = #[.bool true, .int .i64 3, .int .i64 0, .int .i64 0, .int .i64 0, .int .i64 0, .int .i64 0, .int .i64 0]) := rfl
                      clear hh hcm hbt hrl hlt2
                      generalize (P.rd.getD kw 0 &&& (IntKind.u64.wrap (l.getD a2 0)).toNat) = qq at *
                      generalize P.rd.getD kw 0 = yy at *
                      generalize l.getD a2 0 = v2 at *
                      go_wp2_with fail
                      go_quiet (fail)
                      go_wp2
                      exact ret_planK rfl rfl (planK_set (w := wr.drewN nq) HRi.out _ _ _ _ _ _ _ _) rfl rfl ⟨by rw [← HPL.out, HRL.out, HPK.out], below8 (below_drawn HBi.out _) (Nat.le_refl _) _ _ _ _ _ _ _ _⟩
                    · have hh' : hitV P.rd kw (l.getD a2 0) = false := by simpa using hh
                      have HRL : Hid (runK P (l.take (a2 + 1)) = wordOn P ⟨2, n, (P.z + (i : Int)), (kw : Int), (P.z + (i : Int)), 0⟩) := by rw [Hid, runK_take P l a2 (hln.symm ▸ hlt2), HR2'.out, hold_on hh']
                      have hnz2 : (((P.rd.getD kw 0 &&& (IntKind.u64.wrap (l.getD a2 0)).toNat : Nat) : Int) != 0) = false := by rw [hcm] at hh'; exact q_bnf hh'
                      clear hh hh' hcm hbt hrl hlt2
                      generalize (P.rd.getD kw 0 &&& (IntKind.u64.wrap (l.getD a2 0)).toNat) = qq at *
                      generalize P.rd.getD kw 0 = yy at *
                      generalize l.getD a2 0 = v2 at *
                      go_wp2_with fail
                      go_quiet (fail)
                      go_wp2
                      go_roundw
                      case rel => exact ⟨j + 1, a2 + 1, 2, (kw : Int), by rw [hwa2]; exact q_num _, by rw [hwj]; exact q_num _, HJJ.out.1, Nat.le_add_left 1 a2, HJJ.out.2, HRL.out, by rw [q_nat]; exact HKN.out, below_drawn HBI.out _⟩
                      case measure => rw [hwj]; simp [intOf]; exact q_mj HJJ.out.1
                · have hje : j = lw := q_eq hj HIN.out.1
                  have d2 : decide ((j : Int) < (lw : Int)) = false := decide_eq_false (q_nl hj)
                  have HRL : Hid (runK P (l.take a2) = stampOn P ⟨st1, n, P.z + ((i + 1 : Nat) : Int) - 1, 8, (P.z + (i : Int)), 0⟩) := by
                    have h8 : nxW P.rd (wd2 + 1).toNat = 8 := by rw [HRN2.out.2, hje, ← hlwd]; simp
                    rw [Hid, HRN2.out.1, word_end h8, q_ii]
                  clear hje
                  go_wp2
                  go_roundw
                  case rel => exact ⟨i + 1, a2, (P.z + (i : Int)), st1, 8, rfl, rfl, by rw [hwi]; exact q_num _, Nat.le_add_left 1 i, Nat.succ_le_succ HAR.out.1, HIN.out.2.1, HIN.out.2.2, HBS.out.1, HBS.out.2, HRL.out, HBI.out⟩
                  case measure => rw [hwi]; simp [intOf]; exact q_ms HAR.out.1
            · skip
              have HST : Hid (stV (P.z + (i : Int)) st v = st) := by
                rw [Hid]; unfold stV; rw [hdn, if_neg (fun e => heq e.2)]
              have HWO : Hid (runK P (l.take (at' + 1)) = wordOn P ⟨1, n, (P.z + (i : Int)), -1, st, 0⟩) := by rw [Hid, HNX.out, look_on HS1S.out hla, HST.out]
              rw [hdn] at HDV
              have hqq : (st == (P.z + (i : Int)) - 1) = false := beq_eq_false_iff_ne.2 heq
              have HBS : Hid (P.z ≤ st ∧ st ≤ n) := HSB.out
              clear hdn heq hla HNX HST
              go_wp2_with fail
              refine (HS1.out _).mono ?_
              rintro e y1 ⟨rfl, rfl⟩
              go_wp2_with fail
              refine (HLV.out _).mono ?_
              rintro e y2 ⟨rfl, rfl⟩
              go_wp2_with fail
              refine (HDV.out _).mono ?_
              rintro e y3 ⟨rfl, rfl⟩
              have HAR : Hid (i ≤ M ∧ at' < ln ∧ ln ≤ 146 ∧ lw ≤ 8) := ⟨hi, hlt, hlb, hlw8⟩
              clear hi hi1 hiM ha1 haL hat hlt hltI hM16 hlb hlw8 hnp hz0 hs16 hs1 hn2 hwn hl
              go_wp2_with fail
              go_loopw [6, 14] (fun av jv wr => ∃ (j a2 : Nat) (st1 wd2 : Int), av = .int .i64 a2 ∧ jv = .int .i64 j ∧ j ≤ lw ∧ 1 ≤ a2 ∧ a2 ≤ ln ∧ runK P (l.take a2) = wordOn P ⟨st1, n, (P.z + (i : Int)), wd2, st, 0⟩ ∧ nxW P.rd (wd2 + 1).toNat = W.getD j 8 ∧ Below w2.heap.size w2 wr) (fun _ jv _ => lw - (intOf jv).toNat)
              case atStart => exact ⟨0, at' + 1, 1, -1, by rw [hwa]; exact q_num _, rfl, Nat.zero_le _, Nat.le_add_left 1 at', HAR.out.2.1, HWO.out, by rw [show ((-1 : Int) + 1).toNat = 0 from rfl]; exact HW0.out, HBR.out⟩
              case round =>
                obtain ⟨j, a2, st1, wd2, rfl, rfl, hjl, ha21, ha2l, hrun2, hnx2, hbr2⟩ := hrel
                have HRN2 : Hid (runK P (l.take a2) = wordOn P ⟨st1, n, (P.z + (i : Int)), wd2, st, 0⟩ ∧ nxW P.rd (wd2 + 1).toNat = W.getD j 8) := ⟨hrun2, hnx2⟩
                have HBI : Hid (Below w2.heap.size w2 wr) := hbr2
                have HRi : Hid (wr.heap[w.heap.size]? = some (.cells noPlanK 148 (0, 0))) := row_on HR2.out hbr2
                have HBi : Hid (Below w.heap.size w wr) := below_then HB2.out hbr2
                have HWi : Hid (WAt wr gw W) := HWB.out.later hbr2
                clear x0 x1 x2 x3 hrun2 hnx2 hbr2 hcv
                obtain ⟨x0, x1, x2, x3⟩ := (HKL.out.later HBi.out).cells
                rw [hln] at x3
                have hYi : Y < wr.heap.size := heap_lt (HKL.out.later HBi.out).m
                have hwa2 : wrap64 ((a2 : Int) + 1) = (a2 : Int) + 1 := q_wa ha2l HAR.out.2.2.1
                have HIN : Hid (j ≤ lw ∧ 1 ≤ a2 ∧ a2 ≤ ln) := ⟨hjl, ha21, ha2l⟩
                clear hjl ha21 ha2l
                by_cases hj : j < lw
                · have d2 : decide ((j : Int) < (lw : Int)) = true := decide_eq_true (q_lt hj)
                  have hjI : (j : Int) < (lw : Int) := q_lt hj
                  have hwj : wrap64 ((j : Int) + 1) = (j : Int) + 1 := q_wj hj HAR.out.2.2.2
                  obtain ⟨hk8, hknx⟩ := HW8.out j hj
                  have hcw : wr.cell? ⟨gw, j, none⟩ = some (.int .i64 ((W.getD j 8 : Nat) : Int)) := HWi.out.2 j (hlwd.symm ▸ hj)
                  have HRR := (HKL.out.later HBi.out).read (W.getD j 8) hk8
                  have HKN : Hid (nxW P.rd (W.getD j 8 + 1) = W.getD (j + 1) 8) := hknx
                  clear hknx
                  obtain ⟨kw, hkw⟩ : ∃ kw, W.getD j 8 = kw := ⟨_, rfl⟩
                  rw [hkw] at hk8 hcw HRR HKN
                  have HR2' : Hid (runK P (l.take a2) = ⟨2, n, (P.z + (i : Int)), (kw : Int), st, 0⟩) := by rw [Hid, HRN2.out.1, word_hit (HRN2.out.2.trans hkw) hk8]
                  have hk8I : (kw : Int) < 8 := q_lt hk8
                  clear hkw
                  by_cases ha : a2 = ln
                  · have hae2 : ((a2 : Int) == (ln : Int)) = true := by rw [ha]; exact beq_self_eq_true _
                    have HRL : Hid (runK P l = ⟨2, n, (P.z + (i : Int)), (kw : Int), st, 0⟩) := by
                      have := HR2'.out
                      rw [ha, ← hln, List.take_length] at this; exact this
                    obtain ⟨⟨p0, p1, p2, p3, p4, p5, p6, p7⟩, f0, f1, f2, f3, f4, f5, f6, f7⟩ := planK_cells HRi.out
                    have hz := heap_lt HRi.out
                    have HPK : Hid (planK P ⟨2, n, (P.z + (i : Int)), (kw : Int), st, 0⟩ = #[.bool false, .int .i64 0, .int .i64 0, .int .i64 0, .int .i64 3, .int .i64 sl, .int .i64 (kw : Int), .int .i64 0]) := by rw [Hid, ← HSLV.out]; exact rfl
                    clear HRR hj hk8 ha
                    go_wp2
                    first | done | skip
                    exact ret_planK rfl rfl (planK_set HRi.out _ _ _ _ _ _ _ _) rfl rfl ⟨by rw [← HPL.out, HRL.out, HPK.out], below8 HBi.out (Nat.le_refl _) _ _ _ _ _ _ _ _⟩
                  · have hlt2 : a2 < ln := q_nlt ha HIN.out.2.2
                    have hae2 : ((a2 : Int) == (ln : Int)) = false := q_ne hlt2
                    have hlt2I : (a2 : Int) < (ln : Int) := q_lt hlt2
                    have hcv2 : wr.cell? ⟨g, a2, none⟩ = some (.int .i64 (l.getD a2 0)) := cell_later HBi.out hg (HLD.out a2 hlt2)
                    have hbt := wrapU_bd (l.getD a2 0)
                    have hrl := HRDOK.out.2 kw
                    have hbits : bits .and .u64 ((P.rd.getD kw 0 : Nat) : Int) (IntKind.u64.wrap (l.getD a2 0)) = ((P.rd.getD kw 0 &&& (IntKind.u64.wrap (l.getD a2 0)).toNat : Nat) : Int) := by
                      rw [← hbt.2]; exact bits_and_u64_nat _ _ hrl hbt.1
                    have hcm : hitV P.rd kw (l.getD a2 0) = ((P.rd.getD kw 0 &&& (IntKind.u64.wrap (l.getD a2 0)).toNat) != 0) := by unfold hitV; rw [Nat.and_comm]
                    have HJJ : Hid (j < lw ∧ a2 < ln) := ⟨hj, hlt2⟩
                    clear hj ha hk8
                    by_cases hh : hitV P.rd kw (l.getD a2 0) = true
                    · have HRL : Hid (runK P l = ⟨5, n, (P.z + (i : Int)), (kw : Int), st, 3⟩) := run_end HLK.out (hln.symm ▸ hlt2) HR2'.out (hold_hit hh) (Or.inr rfl)
                      have hnz2 : (((P.rd.getD kw 0 &&& (IntKind.u64.wrap (l.getD a2 0)).toNat : Nat) : Int) != 0) = true := by rw [hcm] at hh; exact q_bne hh
                      obtain ⟨⟨p0, p1, p2, p3, p4, p5, p6, p7⟩, f0, f1, f2, f3, f4, f5, f6, f7⟩ := planK_cells HRi.out
                      have hz := heap_lt HRi.out
                      have HPK : Hid (planK P ⟨5, n, (P.z + (i : Int)), (kw : Int), st, 3⟩ = #[.bool true, .int .i64 3, .int .i64 0, .int .i64 0, .int .i64 0, .int .i64 0, .int .i64 0, .int .i64 0]) := rfl
                      clear hh hcm hbt hrl hlt2
                      generalize (P.rd.getD kw 0 &&& (IntKind.u64.wrap (l.getD a2 0)).toNat) = qq at *
                      generalize P.rd.getD kw 0 = yy at *
                      generalize l.getD a2 0 = v2 at *
                      go_wp2_with fail
                      go_quiet (fail)
                      go_wp2
                      exact ret_planK rfl rfl (planK_set (w := wr.drewN nq) HRi.out _ _ _ _ _ _ _ _) rfl rfl ⟨by rw [← HPL.out, HRL.out, HPK.out], below8 (below_drawn HBi.out _) (Nat.le_refl _) _ _ _ _ _ _ _ _⟩
                    · have hh' : hitV P.rd kw (l.getD a2 0) = false := by simpa using hh
                      have HRL : Hid (runK P (l.take (a2 + 1)) = wordOn P ⟨2, n, (P.z + (i : Int)), (kw : Int), st, 0⟩) := by rw [Hid, runK_take P l a2 (hln.symm ▸ hlt2), HR2'.out, hold_on hh']
                      have hnz2 : (((P.rd.getD kw 0 &&& (IntKind.u64.wrap (l.getD a2 0)).toNat : Nat) : Int) != 0) = false := by rw [hcm] at hh'; exact q_bnf hh'
                      clear hh hh' hcm hbt hrl hlt2
                      generalize (P.rd.getD kw 0 &&& (IntKind.u64.wrap (l.getD a2 0)).toNat) = qq at *
                      generalize P.rd.getD kw 0 = yy at *
                      generalize l.getD a2 0 = v2 at *
                      go_wp2_with fail
                      go_quiet (fail)
                      go_wp2
                      go_roundw
                      case rel => exact ⟨j + 1, a2 + 1, 2, (kw : Int), by rw [hwa2]; exact q_num _, by rw [hwj]; exact q_num _, HJJ.out.1, Nat.le_add_left 1 a2, HJJ.out.2, HRL.out, by rw [q_nat]; exact HKN.out, below_drawn HBI.out _⟩
                      case measure => rw [hwj]; simp [intOf]; exact q_mj HJJ.out.1
                · have hje : j = lw := q_eq hj HIN.out.1
                  have d2 : decide ((j : Int) < (lw : Int)) = false := decide_eq_false (q_nl hj)
                  have HRL : Hid (runK P (l.take a2) = stampOn P ⟨st1, n, P.z + ((i + 1 : Nat) : Int) - 1, 8, st, 0⟩) := by
                    have h8 : nxW P.rd (wd2 + 1).toNat = 8 := by rw [HRN2.out.2, hje, ← hlwd]; simp
                    rw [Hid, HRN2.out.1, word_end h8, q_ii]
                  clear hje
                  go_wp2
                  go_roundw
                  case rel => exact ⟨i + 1, a2, st, st1, 8, rfl, rfl, by rw [hwi]; exact q_num _, Nat.le_add_left 1 i, Nat.succ_le_succ HAR.out.1, HIN.out.2.1, HIN.out.2.2, HBS.out.1, HBS.out.2, HRL.out, HBI.out⟩
                  case measure => rw [hwi]; simp [intOf]; exact q_ms HAR.out.1
        · have hla' : laidV (l.getD at' 0) (P.z + (i : Int)) = false := by simpa using hla
          have HRL : Hid (runK P l = ⟨5, n, P.z + (i : Int), wd, st, 4⟩) := run_end HLK.out (hln.symm ▸ hlt) HR1'.out (look_over hla' (by have := (HLK.out.go at' (hln.symm ▸ hlt)).2; rw [HR1'.out] at this; exact this)) (Or.inr rfl)
          rw [hla'] at HLV
          obtain ⟨⟨p0, p1, p2, p3, p4, p5, p6, p7⟩, f0, f1, f2, f3, f4, f5, f6, f7⟩ := planK_cells HRr.out
          have hz := heap_lt HRr.out
          have HPK : Hid (planK P ⟨5, n, P.z + (i : Int), wd, st, 4⟩ = #[.bool true, .int .i64 4, .int .i64 0, .int .i64 0, .int .i64 0, .int .i64 0, .int .i64 0, .int .i64 0]) := rfl
          clear hla hla'
          generalize slotV (P.z + (i : Int)) P.s = sl at *
          generalize (l.getD at' 0 % 2 == 1) = dn at *
          generalize l.getD at' 0 = v at *
          go_wp2_with fail
          refine (HS1.out _).mono ?_
          rintro e y1 ⟨rfl, rfl⟩
          go_wp2_with fail
          refine (HLV.out _).mono ?_
          rintro e y2 ⟨rfl, rfl⟩
          go_wp2_with fail
          refine (HDV.out _).mono ?_
          rintro e y3 ⟨rfl, rfl⟩
          go_wp2
          exact ret_planK rfl rfl (planK_set HRr.out _ _ _ _ _ _ _ _) rfl rfl ⟨by rw [← HPL.out, HRL.out, HPK.out], below8 HBr.out (Nat.le_refl _) _ _ _ _ _ _ _ _⟩
    · have d1 : decide ((i : Int) ≤ (M : Int)) = false := decide_eq_false (q_ng hi)
      have HNL : Hid (¬ P.z + (i : Int) - 1 < n) := q_tail HMM.out hi
      by_cases hla : P.last = true
      · rw [hla] at x2
        have HR3 : Hid (runK P (l.take at') = ⟨3, n, P.z + (i : Int) - 1, wd, st, 0⟩) := by rw [Hid, HRN.out, on_last HNL.out hla]
        by_cases hat : at' = ln
        · have hae : ((at' : Int) == (ln : Int)) = true := by rw [hat]; exact beq_self_eq_true _
          have HRL : Hid (runK P l = ⟨3, n, P.z + (i : Int) - 1, wd, st, 0⟩) := by
            have := HR3.out
            rw [hat, ← hln, List.take_length] at this; exact this
          have HPK : Hid (planK P ⟨3, n, P.z + (i : Int) - 1, wd, st, 0⟩ = #[.bool false, .int .i64 0, .int .i64 0, .int .i64 0, .int .i64 1, .int .i64 0, .int .i64 0, .int .i64 0]) := rfl
          obtain ⟨⟨p0, p1, p2, p3, p4, p5, p6, p7⟩, f0, f1, f2, f3, f4, f5, f6, f7⟩ := planK_cells HRr.out
          have hz := heap_lt HRr.out
          go_wp2
          exact ret_planK rfl rfl (planK_set HRr.out _ _ _ _ _ _ _ _) rfl rfl ⟨by rw [← HPL.out, HRL.out, HPK.out], below8 HBr.out (Nat.le_refl _) _ _ _ _ _ _ _ _⟩
        · have hlt : at' < ln := q_nlt hat haL
          have hae : ((at' : Int) == (ln : Int)) = false := q_ne hlt
          have hltI : (at' : Int) < (ln : Int) := q_lt hlt
          have hcv : wr.cell? ⟨g, at', none⟩ = some (.int .i64 (l.getD at' 0)) := cell_later HBr.out hg (HLD.out at' hlt)
          by_cases hfr : farV P (l.getD at' 0) = true
          · have HRL : Hid (runK P l = ⟨5, n, P.z + (i : Int) - 1, wd, st, 4⟩) := run_end HLK.out (hln.symm ▸ hlt) HR3.out (again_far hfr) (Or.inr rfl)
            have HFV : Hid (Calls Try.prog 94 #[.pointer (some ⟨Y, 3, none⟩), .int .i64 (l.getD at' 0)] wr fun e w'' => e = .returned (.bool true) ∧ Below wr.heap.size wr w'') := by
              have := HFB.out at' hlt wr HBr.out
              rw [hfr] at this; exact this
            have HPK : Hid (planK P ⟨5, n, P.z + (i : Int) - 1, wd, st, 4⟩ = #[.bool true, .int .i64 4, .int .i64 0, .int .i64 0, .int .i64 0, .int .i64 0, .int .i64 0, .int .i64 0]) := rfl
            clear hfr
            generalize l.getD at' 0 = v at *
            go_wp2_with fail
            refine HFV.out.mono ?_
            rintro e y4 ⟨rfl, hb4⟩
            have HR4 : Hid (y4.heap[w.heap.size]? = some (.cells noPlanK 148 (0, 0))) := row_on HRr.out hb4
            have HB4 : Hid (Below w.heap.size w y4) := below_then HBr.out hb4
            clear hb4 x0 x1 x2 x3 hcv
            obtain ⟨⟨p0, p1, p2, p3, p4, p5, p6, p7⟩, f0, f1, f2, f3, f4, f5, f6, f7⟩ := planK_cells HR4.out
            have hz := heap_lt HR4.out
            go_wp2
            exact ret_planK rfl rfl (planK_set HR4.out _ _ _ _ _ _ _ _) rfl rfl ⟨by rw [← HPL.out, HRL.out, HPK.out], below8 HB4.out (Nat.le_refl _) _ _ _ _ _ _ _ _⟩
          · have hfr' : farV P (l.getD at' 0) = false := by simpa using hfr
            have HRL : Hid (runK P l = ⟨4, n, P.z + (i : Int) - 1, wd, st, 0⟩) := run_end HLK.out (hln.symm ▸ hlt) HR3.out (again_on hfr') (Or.inl rfl)
            have HFV : Hid (Calls Try.prog 94 #[.pointer (some ⟨Y, 3, none⟩), .int .i64 (l.getD at' 0)] wr fun e w'' => e = .returned (.bool false) ∧ Below wr.heap.size wr w'') := by
              have := HFB.out at' hlt wr HBr.out
              rw [hfr'] at this; exact this
            have HPK : Hid (planK P ⟨4, n, P.z + (i : Int) - 1, wd, st, 0⟩ = #[.bool true, .int .i64 0, .int .i64 st, .int .i64 n, .int .i64 0, .int .i64 0, .int .i64 0, .int .i64 0]) := rfl
            clear hfr hfr'
            generalize l.getD at' 0 = v at *
            go_wp2_with fail
            refine HFV.out.mono ?_
            rintro e y4 ⟨rfl, hb4⟩
            have HR4 : Hid (y4.heap[w.heap.size]? = some (.cells noPlanK 148 (0, 0))) := row_on HRr.out hb4
            have HB4 : Hid (Below w.heap.size w y4) := below_then HBr.out hb4
            clear hb4 x0 x1 x2 x3 hcv
            obtain ⟨⟨p0, p1, p2, p3, p4, p5, p6, p7⟩, f0, f1, f2, f3, f4, f5, f6, f7⟩ := planK_cells HR4.out
            have hz := heap_lt HR4.out
            go_wp2
            exact ret_planK rfl rfl (planK_set HR4.out _ _ _ _ _ _ _ _) rfl rfl ⟨by rw [← HPL.out, HRL.out, HPK.out], below8 HB4.out (Nat.le_refl _) _ _ _ _ _ _ _ _⟩
      · have hla' : P.last = false := by simpa using hla
        rw [hla'] at x2
        have HRL : Hid (runK P l = ⟨4, n, P.z + (i : Int) - 1, wd, st, 0⟩) := by
          have h1 : runK P (l.take at') = ⟨4, n, P.z + (i : Int) - 1, wd, st, 0⟩ := by rw [HRN.out, on_end HNL.out hla']
          have h2 := HLK.out.last (k := at') (hln.symm ▸ haL) (by rw [h1]; exact Or.inl rfl)
          rw [h2, List.take_length] at h1; exact h1
        have HPK : Hid (planK P ⟨4, n, P.z + (i : Int) - 1, wd, st, 0⟩ = #[.bool true, .int .i64 0, .int .i64 st, .int .i64 n, .int .i64 0, .int .i64 0, .int .i64 0, .int .i64 0]) := rfl
        clear hla
        obtain ⟨⟨p0, p1, p2, p3, p4, p5, p6, p7⟩, f0, f1, f2, f3, f4, f5, f6, f7⟩ := planK_cells HRr.out
        have hz := heap_lt HRr.out
        go_wp2
        exact ret_planK rfl rfl (planK_set HRr.out _ _ _ _ _ _ _ _) rfl rfl ⟨by rw [← HPL.out, HRL.out, HPK.out], below8 HBr.out (Nat.le_refl _) _ _ _ _ _ _ _ _⟩

end Go.Proofs.Ytfbbcjlbelnfaaa
