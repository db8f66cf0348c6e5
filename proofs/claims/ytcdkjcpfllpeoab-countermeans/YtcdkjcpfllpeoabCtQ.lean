/- CounterMeans, walked: over cells the calls do what a row of numbers does. -/
import Derived.Test.YtcdkjcpfllpeoabCtD
import Derived.Test.YtcdkjcpfllpeoabCtH
import Derived.Test.YtcdkjcpfllpeoabCoA
import Derived.Laws.MakeOwn
namespace Go.Proofs.Ytcdkjcpfllpeoab.Ct
open Go.ChangeShapes Go.WideShapes Go.ChangeAt Go.RowKit
attribute [local go_sem ↓] Go.wp_at_zero Go.wp_at_succ

/-- The cells are 0 ahead of the row, and then the row. -/
structure MInv (a m : Nat) (C W : List Int) : Prop where
  lc : C.length = a + m
  lw : W.length = m
  z : ∀ j, j < a → nth C j = 0
  s : ∀ j, j < m → nth C (a + j) = nth W j
  w64 : ∀ x ∈ W, Sx x
theorem nth_set (l : List Int) (i j : Nat) (z : Int) (hi : i < l.length) : nth (l.set i z) j = if i = j then z else nth l j := by
  unfold nth
  simp only [List.getD_eq_getElem?_getD, List.getElem?_set]
  by_cases e : i = j
  · subst e; simp [hi]
  · simp [e]
theorem sx_wrap (z : Int) : Sx (wrap64 z) := by
  unfold Sx wrap64
  omega
theorem MInv.set {a m : Nat} {C W : List Int} (h : MInv a m C W) (i : Nat) (hi : i < m) (z : Int) (hz : Sx z) : MInv a m (C.set (a + i) z) (W.set i z) := by
  have h1 := h.lc
  have h2 := h.lw
  refine ⟨by rw [List.length_set]; exact h1, by rw [List.length_set]; exact h2, fun j hj => ?_, fun j hj => ?_, fun x hx => ?_⟩
  · rw [nth_set _ _ _ _ (by omega), if_neg (by omega)]; exact h.z j hj
  · rw [nth_set _ _ _ _ (by omega), nth_set _ _ _ _ (by omega), h.s j hj]
    by_cases e : i = j
    · subst e; simp
    · rw [if_neg (by omega), if_neg e]
  · rcases List.mem_or_eq_of_mem_set hx with h3 | rfl
    · exact h.w64 x h3
    · exact hz
theorem run_none {a m : Nat} {c : Int} {A C : List Int} (hi : nth A 0 < 0 ∨ (m : Int) ≤ nth A 0) : runM a 3 (mkM a m c A) C 0 = (C, 0, 1, true) := by
  have ht : tellM (mkM a m c A) 0 = endW 0 1 := by simp [tellM, mkM, wn0, firstW, hi]
  rw [runM, ht]
  rfl
theorem run_some {a m i : Nat} {c : Int} {A C : List Int} (hi : nth A 0 = (i : Int)) (him : i < m) (hC : C.length = a + m) : runM a 3 (mkM a m c A) C 0 = runM a 2 (goM (mkM a m c A) 0) C (nth C (a + i)) ∧ (goM (mkM a m c A) 0).told = readW ((a + i : Nat) : Int) := by
  have ht : tellM (mkM a m c A) 0 = readW ((a + i : Nat) : Int) := by
    have : ¬ (nth A 0 < 0 ∨ (m : Int) ≤ nth A 0) := by omega
    simp [tellM, mkM, wn0, firstW, this]
    rw [hi]
  refine ⟨?_, ht⟩
  rw [runM, ht, if_neg (by simp [readW]), if_neg (by simp only [readW]; omega), if_pos (show (readW ((a + i : Nat) : Int)).kind = 2 from rfl)]
  have : (readW ((a + i : Nat) : Int)).cell.toNat = a + i := by simp only [readW]; omega
  rw [this]
theorem run_get {a m i : Nat} {A C : List Int} (hi : nth A 0 = (i : Int)) (him : i < m) (hC : C.length = a + m) : runM a 3 (mkM a m 2 A) C 0 = (C, nth C (a + i), 0, true) := by
  obtain ⟨h1, h2⟩ := run_some (c := 2) hi him hC
  rw [h1]
  have ht : ∀ v, tellM (goM (mkM a m 2 A) 0) v = endW v 0 := fun v => by
    unfold tellM
    rw [h2]
    simp [readW, behindV, goM, mkM]
  rw [runM, ht]
  rfl
theorem run_add {a m i : Nat} {A C : List Int} (hi : nth A 0 = (i : Int)) (him : i < m) (hC : C.length = a + m) : runM a 3 (mkM a m 1 A) C 0 = (C.set (a + i) (wrap64 (nth C (a + i) + nth A 1)), wrap64 (nth C (a + i) + nth A 1), 0, true) := by
  obtain ⟨h1, h2⟩ := run_some (c := 1) hi him hC
  rw [h1]
  have ht : ∀ v, tellM (goM (mkM a m 1 A) 0) v = putW ((a + i : Nat) : Int) (wrap64 (v + nth A 1)) := fun v => by
    have h3 : (goM (mkM a m 1 A) 0).writes = true := by simp [goM, mkM]
    have h4 : (goM (mkM a m 1 A) 0).by_ = nth A 1 := by simp [goM, mkM]
    unfold tellM behindV
    rw [h2, h3, h4]
    simp [readW]
  have ht2 : ∀ v u, tellM (goM (goM (mkM a m 1 A) 0) v) u = endW (wrap64 (v + nth A 1)) 0 := fun v u => by
    have h3 : (goM (goM (mkM a m 1 A) 0) v).told = putW ((a + i : Nat) : Int) (wrap64 (v + nth A 1)) := ht v
    unfold tellM
    rw [h3]
    simp [putW]
  rw [runM, ht, if_neg (by simp [putW]), if_neg (by simp only [putW]; omega), if_neg (by simp [putW]), runM, ht2]
  rfl
theorem made_nums (n : Nat) : (madeCells (Value.cells (.int .i64 0)) n).toList = numC (List.replicate n 0) := by
  unfold madeCells numC
  simp [Value.cells]
  apply List.ext_getElem
  · simp
  · intro i h1 h2
    simp [Nat.mod_one]
theorem make_nums (w : World) (n : Nat) (hn : n ≤ 1000000) :
    ∃ w', (Instr.makeSlice 31 (.int .i64 (n : Int)) (.int .i64 (n : Int))).run Try.prog w = .ok (.slice (some ⟨w.heap.size, 0, none⟩) n n) w' ∧ w'.ownsRow w.heap.size 2 1 (.slice (some ⟨w.heap.size, 0, none⟩) n n) n (numC (List.replicate n 0)) ∧ Below w.heap.size w w' ∧ w.heap.size < w'.heap.size := by
  obtain ⟨i0, hi, hz0, hz1, hz2⟩ := info_parts info_i64
  have hm := run_make (P := Try.prog) w 31 2 i0 _ Try.underlying31 hi hz0 .i64 .i64 (n : Int) (n : Int) (by omega) (by omega) (by rw [hz2]; omega) (by omega)
  rw [hz1, Int.toNat_natCast, Nat.mul_one] at hm
  refine ⟨_, hm, ?_, below_a1 _ _, by simp⟩
  refine ⟨by rw [numC_len]; simp, Or.inr ⟨w.heap.size, n, _, rfl, Nat.le_refl _, heap_alloc_new _ _, Nat.le_refl _, by unfold maxLen; omega, by simp [size_madeCells], ?_⟩⟩
  rw [Nat.mul_one, ← made_nums, List.take_of_length_le (by simp [size_madeCells])]
theorem add_own (g i : Nat) : (⟨g, 0, none⟩ : Addr).add i = ⟨g, i, none⟩ := by unfold Addr.add; split <;> simp_all
theorem add_off (g a j : Nat) : (⟨g, a, none⟩ : Addr).add j = ⟨g, a + j, none⟩ := by unfold Addr.add; split <;> simp_all
/-- Both rows as they lie. -/
structure QM (w0 wr : World) (a m gc gw : Nat) (C W : List Int) : Prop where
  bel : Below w0.heap.size w0 wr
  rc : wr.ownsRow w0.heap.size 2 1 (.slice (some ⟨gc, 0, none⟩) (a + m) (a + m)) (a + m) (numC C)
  rw : wr.ownsRow w0.heap.size 2 1 (.slice (some ⟨gw, 0, none⟩) m m) m (numC W)
  ne : gc ≠ gw
  inv : MInv a m C W
theorem QM.later {w0 wr w' : World} {a m gc gw : Nat} {C W : List Int} (h : QM w0 wr a m gc gw C W) (hb : Below wr.heap.size wr w') : QM w0 w' a m gc gw C W :=
  ⟨h.bel.trans (hb.mono h.bel.size), own_keep h.rc (Keep.of_below hb []) (by simp), own_keep h.rw (Keep.of_below hb []) (by simp), h.ne, h.inv⟩
/-- The cells become others. -/
theorem QM.cells {w0 wr w' : World} {a m gc gw : Nat} {C W : List Int} (h : QM w0 wr a m gc gw C W) (hk : Keep [gc] wr w') : Below w0.heap.size w0 w' ∧ w'.ownsRow w0.heap.size 2 1 (.slice (some ⟨gw, 0, none⟩) m m) m (numC W) :=
  ⟨h.bel.trans (hk.below h.bel.size (by simpa using (own_block h.rc gc rfl).1)), own_keep h.rw hk (fun b hb => by simp [Value.ownBlock] at hb; subst hb; simpa using Ne.symm h.ne)⟩
theorem right_of {a m : Nat} {c : Int} {n : Nat} (ha : a ≤ 100) (hm : m ≤ 16) (h : arV c = n) : rightV a m c n = true := by
  unfold rightV takesV
  simp only [Bool.and_eq_true, decide_eq_true_eq]
  omega
set_option maxRecDepth 100000 in
set_option maxHeartbeats 2000000 in
theorem means_no (w : World) (m a : Int) (va : Option Addr) (n cap : Nat) (h : ¬ (0 ≤ m ∧ m ≤ 16 ∧ 0 ≤ a ∧ a ≤ 100)) : Calls Try.prog 4 #[.int .i64 m, .int .i64 a, .slice va n cap] w fun e w' => e = .returned (.bool true) ∧ Below w.heap.size w w' := by
  by_cases h1 : m < 0
  · have d1 : decide (m < 0) = true := by simpa using h1
    clear h h1
    go_enter Try.func4, Try.ntmps4
    go_wp2_with fail
    go_ret
    exact ⟨rfl, Below.refl _ _⟩
  · have d1 : decide (m < 0) = false := by simpa using h1
    by_cases h2 : 16 < m
    · have d2 : decide (16 < m) = true := by simpa using h2
      clear h h1 h2
      go_enter Try.func4, Try.ntmps4
      go_wp2_with fail
      go_ret
      exact ⟨rfl, Below.refl _ _⟩
    · have d2 : decide (16 < m) = false := by simpa using h2
      by_cases h3 : a < 0
      · have d3 : decide (a < 0) = true := by simpa using h3
        clear h h1 h2 h3
        go_enter Try.func4, Try.ntmps4
        go_wp2_with fail
        go_ret
        exact ⟨rfl, Below.refl _ _⟩
      · have d3 : decide (a < 0) = false := by simpa using h3
        have d4 : decide (100 < a) = true := by simp; omega
        clear h h1 h2 h3
        go_enter Try.func4, Try.ntmps4
        go_wp2_with fail
        go_ret
        exact ⟨rfl, Below.refl _ _⟩
theorem bl_drew1 (w : World) : Below w.heap.size w w.drew := below_drawn (Below.refl _ _) 1
theorem mq_ok {m : Nat} {W : List Int} (hm : m ≤ 16) (h : W.length = m) : kindS m W = 1 ∧ valS m W = W ∧ errS m W = 0 := by
  have hs : sizeV (m : Int) = m := by unfold sizeV; rw [if_pos (by omega)]
  have hk : okS m W = true := by
    unfold okS
    rw [hs]
    simp only [Bool.and_eq_true, decide_eq_true_eq]
    omega
  unfold kindS valS errS
  rw [hk]
  exact ⟨rfl, rfl, rfl⟩
theorem nl_want {w0 wr : World} {a m gc gw : Nat} {C W : List Int} (hm16 : m ≤ 16) (h : QM w0 wr a m gc gw C W) : Nl wr (.slice (some ⟨gw, 0, none⟩) m m) W := by
  have hl := h.inv.lw
  have hb := (own_block h.rw gw rfl).2
  refine ⟨_, m, by rw [hl], by omega, by omega, ⟨by omega, fun h => by cases h⟩, h.inv.w64, Or.inr ⟨⟨gw, 0, none⟩, rfl, hb, fun j hj => ?_⟩⟩
  rw [add_own]
  exact own_cells h.rw j _ (numC_get W j hj)
theorem mq_zero {w0 wr : World} {a m gc gw : Nat} {C W : List Int} (h : QM w0 wr a m gc gw C W) (i : Nat) (hi : i < a) : wr.cell? ⟨gc, i, none⟩ = some (.int .i64 0) := by
  rw [own_cells h.rc i _ (numC_get C i (by have := h.inv.lc; omega)), h.inv.z i hi]
theorem mq_wrap {n i : Nat} (hn : n ≤ 17592186044416) (hi : i < n) : wrap64 ((i : Int) + 1) = ((i + 1 : Nat) : Int) := by
  unfold wrap64
  omega
theorem mq_less {n i : Nat} (hi : i < n) : n - (i + 1) < n - i := by omega
set_option maxRecDepth 100000 in
set_option maxHeartbeats 2000000 in
theorem means_yes {w : World} (m a : Nat) (hm : m ≤ 16) (ha : a ≤ 100) {v : Value} {S : List (Int × List Int)} (hv : Cl w v S) : Calls Try.prog 4 #[.int .i64 (m : Int), .int .i64 (a : Int), v] w fun e w' => e = .returned (.bool true) ∧ Below w.heap.size w w' := by
  obtain ⟨la, lcap, rfl, hSl, hl⟩ := hv
  have HEL : Hid (∀ i, i < S.length → ∃ x u, la = some x ∧ ∀ w' : World, Below w.heap.size w w' → w'.cell? (x.add (i * 2)) = some (.int .i64 (S.getD i (0, [])).1) ∧ w'.cell? ⟨(x.add (i * 2)).block, (x.add (i * 2)).off + 1, none⟩ = some u ∧ Nl w' u (S.getD i (0, [])).2) := fun i hi => by
    obtain ⟨x, hx, hxb, hc⟩ := hl.resolve_left (by omega)
    obtain ⟨u, h1, h2, h3⟩ := hc i hi
    exact ⟨x, u, hx, fun w' hb => ⟨cell_later hb (by rw [add_block]; exact hxb) h1, cell_later (a := ⟨(x.add (i * 2)).block, (x.add (i * 2)).off + 1, none⟩) hb (show (x.add (i * 2)).block < _ by rw [add_block]; exact hxb) h2, h3.later hb (Nat.le_refl _)⟩⟩
  clear hl
  have d1 : decide ((m : Int) < 0) = false := by simp
  have d2 : decide ((16 : Int) < (m : Int)) = false := by simp; omega
  have d3 : decide ((a : Int) < 0) = false := by simp
  have d4 : decide ((100 : Int) < (a : Int)) = false := by simp; omega
  have hw0 : wrap64 ((a : Int) + (m : Int)) = (a : Int) + (m : Int) := by unfold wrap64; omega
  obtain ⟨w1, hm1, ho1, hb1, hlt1⟩ := make_nums w (a + m) (by omega)
  obtain ⟨w2, hm2, ho2, hb2, hlt2⟩ := make_nums w1 m (by omega)
  rw [Int.natCast_add] at hm1
  have HQ2 : Hid (QM w w2 a m w.heap.size w1.heap.size (List.replicate (a + m) 0) (List.replicate m 0)) := by
    have hz : ∀ k j, nth (List.replicate k (0 : Int)) j = 0 := fun k j => by
      unfold nth
      rw [List.getD_eq_getElem?_getD, List.getElem?_replicate]
      split <;> rfl
    refine ⟨below_then hb1 hb2, own_keep ho1 (Keep.of_below hb2 []) (by simp), own_base ho2 hb1.size, by omega, ⟨by simp, by simp, fun j _ => hz _ _, fun j _ => by rw [hz, hz], fun x hx => ?_⟩⟩
    rw [List.eq_of_mem_replicate hx]
    exact ⟨by decide, by decide⟩
  have HAR : Hid (∀ (w : World) (c : Int), Calls Try.prog 7 #[.int .i64 c] w fun e w' => e = .returned (.int .i64 (arV c)) ∧ w' = w) := fun w c => rarity_any w c
  have HDN : Hid (∀ (wr : World) (C W : List Int) (c : Int) (va : Value) (A : List Int), QM w wr a m w.heap.size w1.heap.size C W → Nl wr va A → arV c = A.length → Calls Try.prog 8 #[.slice (some ⟨w.heap.size, 0, none⟩) (a + m) (a + m), .int .i64 (a : Int), .int .i64 (m : Int), .int .i64 c, va] wr fun e w' => e = .returned (.tuple #[.int .i64 (runM a 3 (mkM a m c A) C 0).2.1, .int .i64 (runM a 3 (mkM a m c A) C 0).2.2.1, .bool (runM a 3 (mkM a m c A) C 0).2.2.2]) ∧ w'.ownsRow w.heap.size 2 1 (.slice (some ⟨w.heap.size, 0, none⟩) (a + m) (a + m)) (a + m) (numC (runM a 3 (mkM a m c A) C 0).1) ∧ Keep [w.heap.size] wr w') := fun wr C W c va A hq hl hc => done_run _ _ _ hl (right_of ha hm hc) hq.rc
  clear ho1 ho2 hb1 hb2
  go_enter Try.func4, Try.ntmps4
  go_wp2_with fail
  generalize hns : S.length = n at *
  generalize hgc : w.heap.size = gc at HQ2 HDN
  generalize hgw : w1.heap.size = gw at HQ2 HDN
  go_loopg [9] n (fun gh iv wr => ∃ (i : Nat) (C W : List Int), gh = n - i ∧ i ≤ n ∧ iv = .int .i64 i ∧ QM w wr a m gc gw C W)
  case atStart => exact ⟨0, _, _, by omega, by omega, rfl, HQ2.out⟩
  case round =>
    obtain ⟨i, C, W, rfl, hi2, rfl, hqm⟩ := hrel
    have HQM : Hid (QM w wr a m gc gw C W) := hqm
    clear hqm HQ2
    by_cases hlt : i < n
    · have hd : decide ((i : Int) < (n : Int)) = true := by simp; omega
      have HIW : Hid (wrap64 ((i : Int) + 1) = ((i + 1 : Nat) : Int)) := mq_wrap hSl hlt
      obtain ⟨x, u, rfl, hel⟩ := HEL.out i hlt
      generalize (S.getD i (0, [])).1 = c at hel
      generalize (S.getD i (0, [])).2 = A at hel
      have HE : Hid (∀ w' : World, Below w.heap.size w w' → w'.cell? (x.add (i * 2)) = some (.int .i64 c) ∧ w'.cell? ⟨(x.add (i * 2)).block, (x.add (i * 2)).off + 1, none⟩ = some u ∧ Nl w' u A) := hel
      obtain ⟨l0, l1, hnl⟩ := hel wr HQM.out.bel
      obtain ⟨ua, uc, rfl⟩ := nl_slice hnl
      clear hel hnl
      by_cases har : arV c = (A.length : Int)
      · have hq1 : (arV c == (A.length : Int)) = true := by simpa using har
        have HC := HAR.out
        have HDC : Hid (∀ w' : World, QM w w' a m gc gw C W → Calls Try.prog 8 #[.slice (some ⟨gc, 0, none⟩) (a + m) (a + m), .int .i64 (a : Int), .int .i64 (m : Int), .int .i64 c, .slice ua A.length uc] w' fun e w'' => e = .returned (.tuple #[.int .i64 (runM a 3 (mkM a m c A) C 0).2.1, .int .i64 (runM a 3 (mkM a m c A) C 0).2.2.1, .bool (runM a 3 (mkM a m c A) C 0).2.2.2]) ∧ w''.ownsRow w.heap.size 2 1 (.slice (some ⟨gc, 0, none⟩) (a + m) (a + m)) (a + m) (numC (runM a 3 (mkM a m c A) C 0).1) ∧ Keep [gc] w' w'') := fun w' hq => by
          have := HDN.out w' C W c _ A hq (HE.out w' hq.bel).2.2 har
          rw [hgc]
          exact this
        go_wp2_with fail
        go_quiet ((go_at_call 7; refine Calls.quiet_of_same (HC _ _)))
        obtain ⟨w3, hw3⟩ : ∃ w3, w3 = wr.drewN nq := ⟨_, rfl⟩
        have HQ3 : Hid (QM w w3 a m gc gw C W) := by rw [Hid, hw3]; exact HQM.out.later (below_drawn (Below.refl _ _) _)
        obtain ⟨m0, m1, _⟩ := HE.out w3 HQ3.out.bel
        rw [← hw3]
        clear hw3 l0 l1 HC
        go_wp2_with fail
        generalize hrs : runM a 3 (mkM a m c A) C 0 = rs at HDC
        go_cut [10, 11, 12] (fun v0 c0 f0 wx => v0 = .int .i64 rs.2.1 ∧ c0 = .int .i64 rs.2.2.1 ∧ f0 = .bool rs.2.2.2 ∧ Below w.heap.size w wx ∧ wx.ownsRow w.heap.size 2 1 (.slice (some ⟨gc, 0, none⟩) (a + m) (a + m)) (a + m) (numC rs.1) ∧ wx.ownsRow w.heap.size 2 1 (.slice (some ⟨gw, 0, none⟩) m m) m (numC W))
        case first =>
          go_region_held3 (fun w' => w'.cell? (x.add (i * 2)) = some (.int .i64 c) ∧ w'.cell? ⟨(x.add (i * 2)).block, (x.add (i * 2)).off + 1, none⟩ = some (.slice ua A.length uc)) (first | go_keep | exact hS) (first
            | (go_at_call 8; refine (HDC.out _ (HQ3.out.later (bl_drew1 _))).mono ?_; rintro e w4 ⟨rfl, hr4, hk4⟩; have hq4 := (HQ3.out.later (bl_drew1 _)).cells hk4; have hS : w4.cell? (x.add (i * 2)) = some (.int .i64 c) ∧ w4.cell? ⟨(x.add (i * 2)).block, (x.add (i * 2)).off + 1, none⟩ = some (.slice ua A.length uc) := ⟨(HE.out w4 hq4.1).1, (HE.out w4 hq4.1).2.1⟩))
          go_wp2_with fail
          go_meet
          exact ⟨rfl, rfl, rfl, hq4.1, hr4, hq4.2⟩
        case rest =>
          obtain ⟨rfl, rfl, rfl, hbl, hrc, hrw⟩ := hcut
          obtain ⟨l0, l1, hnl⟩ := HE.out wc hbl
          obtain ⟨_, _, hnc⟩ := nl_cells hnl
          have hal : (c = 1 ∧ A.length = 2) ∨ (c = 2 ∧ A.length = 1) := (call_of (right_of ha hm har)).2.2.2.2
          obtain ⟨xa, rfl, hxb, z0⟩ := hnc 0 (by omega)
          rw [add_zero'] at z0
          have HI := HQ3.out.inv
          have HRW : Hid (wc.ownsRow w.heap.size 2 1 (.slice (some ⟨gw, 0, none⟩) m m) m (numC W)) := hrw
          have HRC : Hid (wc.ownsRow w.heap.size 2 1 (.slice (some ⟨gc, 0, none⟩) (a + m) (a + m)) (a + m) (numC rs.1)) := hrc
          have HBL : Hid (Below w.heap.size w wc) := hbl
          have HNE : Hid (gc ≠ gw) := HQ3.out.ne
          have hpos : 0 < A.length := by omega
          by_cases hin : nth A 0 < 0 ∨ (m : Int) ≤ nth A 0
          · obtain rfl : (C, 0, 1, true) = rs := by rw [← hrs]; exact (run_none hin).symm
            have HQ4 : Hid (QM w wc a m gc gw C W) := ⟨hbl, hrc, hrw, HNE.out, HI⟩
            clear hnc hnl hrc hrw hbl HI HDC hrs HQ3 m0 m1 HRC HRW
            generalize nth A 0 = kk at *
            by_cases hk0 : kk < 0
            · have q1 : decide (0 ≤ kk) = false := by simp; omega
              clear hin hal
              go_wp2_with fail
              go_roundg (n - (i + 1))
              case rel => exact ⟨i + 1, C, W, rfl, hlt, by first | rw [HIW.out] | go_num, HQ4.out⟩
              case measure => exact mq_less hlt
            · have q1 : decide (0 ≤ kk) = true := by simp; omega
              have q2 : decide (kk < (m : Int)) = false := by simp; omega
              clear hin hal
              go_wp2_with fail
              go_roundg (n - (i + 1))
              case rel => exact ⟨i + 1, C, W, rfl, hlt, by first | rw [HIW.out] | go_num, HQ4.out⟩
              case measure => exact mq_less hlt
          · obtain ⟨j, hj⟩ : ∃ j : Nat, nth A 0 = (j : Int) := ⟨(nth A 0).toNat, by omega⟩
            have hjm : j < m := by omega
            rw [hj] at z0
            have q1 : decide ((0 : Int) ≤ (j : Int)) = true := by simp
            have q2 : decide ((j : Int) < (m : Int)) = true := by simp; omega
            have ea := add_own gw j
            have hwj : wc.cell? ⟨gw, j, none⟩ = some (.int .i64 (nth W j)) := own_cells hrw j _ (numC_get W j (by have := HI.lw; omega))
            have hfj : wc.frozen? ⟨gw, j, none⟩ = false := (own_some hrw j (by omega)).2
            have hcw : nth C (a + j) = nth W j := HI.s j hjm
            rcases hal with ⟨rfl, hA2⟩ | ⟨rfl, hA1⟩
            · obtain ⟨xa', exa, _, z1⟩ := hnc 1 (by omega)
              injection exa with exa
              subst exa
              rw [add_pos' _ _ (by decide)] at z1
              obtain rfl : (C.set (a + j) (wrap64 (nth W j + nth A 1)), wrap64 (nth W j + nth A 1), 0, true) = rs := by rw [← hrs, ← hcw]; exact (run_add hj hjm HI.lc).symm
              have HST : Hid (QM w ((wc.setCell ⟨gw, j, none⟩ (.int .i64 (wrap64 (nth W j + nth A 1)))).drew) a m gc gw (C.set (a + j) (wrap64 (nth W j + nth A 1))) (W.set j (wrap64 (nth W j + nth A 1)))) := by
                have hk0 : Keep [gw] wc (wc.setCell ⟨gw, j, none⟩ (.int .i64 (wrap64 (nth W j + nth A 1)))) := (Keep.refl _ _).setCell _ _ (Or.inl (by simp))
                have hk : Keep [gw] wc (wc.setCell ⟨gw, j, none⟩ (.int .i64 (wrap64 (nth W j + nth A 1)))).drew := hk0.drewN 1
                refine ⟨HBL.out.trans (hk.below HBL.out.size (by simpa using (own_block HRW.out gw rfl).1)), own_keep HRC.out hk (fun b hb => by simp [Value.ownBlock] at hb; subst hb; simpa using HNE.out), ?_, HNE.out, HI.set j hjm _ (sx_wrap _)⟩
                rw [← numC_set]
                exact own_keep (own_set HRW.out j _) (Keep.drewN (Keep.refl [] _) 1) (by simp)
              have hWl : gw < wc.heap.size := (own_block hrw gw rfl).2
              clear hnc hnl hrc hrw hbl HI HDC hrs HQ3 m0 m1 HRC HRW hcw hin hj
              generalize nth W j = zz at *
              generalize nth A 1 = dd at *
              rw [hA2] at l1
              go_wp2_with fail
              go_region
              go_wp2_with fail
              go_roundg (n - (i + 1))
              case rel => exact ⟨i + 1, _, _, rfl, hlt, by first | rw [HIW.out] | go_num, HST.out⟩
              case measure => exact mq_less hlt
            · obtain rfl : (C, nth W j, 0, true) = rs := by rw [← hrs, ← hcw]; exact (run_get hj hjm HI.lc).symm
              have HQ4 : Hid (QM w wc a m gc gw C W) := ⟨hbl, hrc, hrw, HNE.out, HI⟩
              clear hnc hnl hrc hrw hbl HI HDC hrs HQ3 m0 m1 HRC HRW hcw hin hj
              generalize nth W j = zz at *
              go_wp2_with fail
              go_roundg (n - (i + 1))
              case rel => exact ⟨i + 1, C, W, rfl, hlt, by first | rw [HIW.out] | go_num, HQ4.out⟩
              case measure => exact mq_less hlt
      · have hq1 : (arV c == (A.length : Int)) = false := by simpa using har
        have HC := HAR.out
        clear har
        go_wp2_with fail
        go_quiet ((go_at_call 7; refine Calls.quiet_of_same (HC _ _)))
        go_wp2_with fail
        go_roundg (n - (i + 1))
        case rel => exact ⟨i + 1, C, W, rfl, hlt, by first | rw [HIW.out] | go_num, HQM.out.later (below_drawn (Below.refl _ _) _)⟩
        case measure => exact mq_less hlt
    · have hd : decide ((i : Int) < (n : Int)) = false := by simp; omega
      clear HEL HAR HDN
      by_cases hm0 : m = 0
      · subst hm0
        have HNL : Hid (Nl wr (.slice (some ⟨gc, 0, none⟩) 0 0) W) := by
          have hl := HQM.out.inv.lw
          exact ⟨_, 0, by rw [hl], by omega, by omega, ⟨by omega, fun h => by cases h⟩, HQM.out.inv.w64, Or.inl (by omega)⟩
        have HSH : Hid (∀ (w' : World), Nl w' (.slice (some ⟨gc, 0, none⟩) 0 0) W → Calls Try.prog 9 #[.int .i64 0, .slice (some ⟨gc, 0, none⟩) 0 0] w' fun e w'' => ∃ u, e = .returned (.tuple #[.agg (shC 1 u (.slice none 0 0)), .int .i64 0]) ∧ w''.ownsRow w'.heap.size 2 1 u W.length (numC W) ∧ Below w'.heap.size w' w'') := fun w' h => by
          have := shape_any ((0 : Nat) : Int) h
          obtain ⟨e1, e2, e3⟩ := mq_ok hm HQM.out.inv.lw
          rw [e1, e2, e3] at this
          exact this
        go_wp2_with fail
        refine (HSH.out _ HNL.out).mono ?_
        rintro e w4 ⟨u4, rfl, ho4, hb4⟩
        have HB4 : Hid (Below w.heap.size w w4) := below_then HQM.out.bel hb4
        have HQ4 : Hid (QM w w4 a 0 gc gw C W) := HQM.out.later hb4
        have HN4 : Hid (Nl w4 u4 W) := Nl.of_own ho4 (by have := HQM.out.inv.lw; omega) HQM.out.inv.w64
        obtain ⟨w5, hs5, hr5, hb5, hz5⟩ := new_sh (P := Try.prog) (w := w4) (t := 39) (z := #[.int .i64 0, .slice none 0 0, .slice none 0 0]) rfl (shC_size 1 u4 (.slice none 0 0)) (shC_one 1 u4 ho4)
        have HQ5 : Hid (QM w w5 a 0 gc gw C W) := HQ4.out.later hb5
        have HN5 : Hid (Nl w5 u4 W) := HN4.out.later hb5 (Nat.le_refl _)
        have HR5 : Hid (w5.heap[w4.heap.size]? = some (.cells (shC 1 u4 (.slice none 0 0)) 39 (0, 0))) := hr5
        have a1 : w5.cell? ⟨w4.heap.size, 1, none⟩ = some u4 := by rw [cell_at hr5]; rfl
        have hc4 : (shC 1 u4 (.slice none 0 0)).size = 3 := rfl
        generalize hk4 : shC 1 u4 (.slice none 0 0) = k4 at *
        have HK4 : Hid (shC 1 u4 (.slice none 0 0) = k4) := hk4
        have HSQ : Hid (Calls Try.prog 10 #[u4, .slice (some ⟨gw, 0, none⟩) 0 0] w5 fun e w'' => e = .returned (.bool true) ∧ Below w5.heap.size w5 w'') := by have := same_any HN5.out (nl_want hm HQ5.out); rw [decide_eq_true (rfl : W = W)] at this; exact this
        clear hb4 ho4 hb5 hr5 HSH HQ4 HB4 HN4 hk4
        go_wp2_with fail
        refine HSQ.out.mono ?_
        rintro e w6 ⟨rfl, hb6⟩
        have HQ6 : Hid (QM w w6 a 0 gc gw C W) := HQ5.out.later hb6
        have hr6 : w6.heap[w4.heap.size]? = some (.cells k4 39 (0, 0)) := by rw [hb6.block _ (heap_lt HR5.out)]; exact HR5.out
        rw [← HK4.out] at hr6
        have b0 : w6.cell? ⟨w4.heap.size, 0, none⟩ = some (.int .i64 1) := by rw [cell_at hr6]; rfl
        have b2 : w6.cell? ⟨w4.heap.size, 2, none⟩ = some (.slice none 0 0) := by rw [cell_at hr6]; rfl
        clear hb6 hr6 hs5 hz5 a1 HSQ HQ5 HR5 HN5
        go_wp2_with fail
        go_loopw [18, 19] (fun sv iv wr => ∃ i : Nat, i ≤ a ∧ iv = .int .i64 i ∧ sv = .bool true ∧ wr = w6) (fun _ iv _ => a - (intOf iv).toNat)
        case atStart => exact ⟨0, by omega, rfl, rfl, rfl⟩
        case round =>
          obtain ⟨i, hi, rfl, rfl, rfl⟩ := hrel
          by_cases hia : i < a
          · have hd2 : decide ((i : Int) < (a : Int)) = true := by simp; omega
            have hcz := mq_zero HQ6.out i hia
            have hlt2 : i < a := hia
            have ea := add_own gc i
            go_wp2_with fail
            go_roundw
            case rel => exact ⟨i + 1, hia, by go_num, rfl, by first | rfl | trivial⟩
            case measure => simp [intOf]; omega
          · have hd2 : decide ((i : Int) < (a : Int)) = false := by simp; omega
            go_wp2_with fail
            go_ret
            exact ⟨rfl, HQ6.out.bel⟩
      · have HNL : Hid (Nl wr (.slice (some ⟨gc, a, none⟩) m m) W) := by
          have hl := HQM.out.inv.lw
          have hcl := HQM.out.inv.lc
          refine ⟨_, m, by rw [hl], by omega, by omega, ⟨by omega, fun h => by cases h⟩, HQM.out.inv.w64, Or.inr ⟨⟨gc, a, none⟩, rfl, (own_block HQM.out.rc gc rfl).2, fun j hj => ?_⟩⟩
          rw [add_off, ← HQM.out.inv.s j (by omega)]
          exact own_cells HQM.out.rc (a + j) _ (numC_get C (a + j) (by omega))
        have HSH : Hid (∀ (w' : World), Nl w' (.slice (some ⟨gc, a, none⟩) m m) W → Calls Try.prog 9 #[.int .i64 (m : Int), .slice (some ⟨gc, a, none⟩) m m] w' fun e w'' => ∃ u, e = .returned (.tuple #[.agg (shC 1 u (.slice none 0 0)), .int .i64 0]) ∧ w''.ownsRow w'.heap.size 2 1 u W.length (numC W) ∧ Below w'.heap.size w' w'') := fun w' h => by
          have := shape_any (m : Int) h
          obtain ⟨e1, e2, e3⟩ := mq_ok hm HQM.out.inv.lw
          rw [e1, e2, e3] at this
          exact this
        go_wp2_with fail
        refine (HSH.out _ HNL.out).mono ?_
        rintro e w4 ⟨u4, rfl, ho4, hb4⟩
        have HB4 : Hid (Below w.heap.size w w4) := below_then HQM.out.bel hb4
        have HQ4 : Hid (QM w w4 a m gc gw C W) := HQM.out.later hb4
        have HN4 : Hid (Nl w4 u4 W) := Nl.of_own ho4 (by have := HQM.out.inv.lw; omega) HQM.out.inv.w64
        obtain ⟨w5, hs5, hr5, hb5, hz5⟩ := new_sh (P := Try.prog) (w := w4) (t := 39) (z := #[.int .i64 0, .slice none 0 0, .slice none 0 0]) rfl (shC_size 1 u4 (.slice none 0 0)) (shC_one 1 u4 ho4)
        have HQ5 : Hid (QM w w5 a m gc gw C W) := HQ4.out.later hb5
        have HN5 : Hid (Nl w5 u4 W) := HN4.out.later hb5 (Nat.le_refl _)
        have HR5 : Hid (w5.heap[w4.heap.size]? = some (.cells (shC 1 u4 (.slice none 0 0)) 39 (0, 0))) := hr5
        have a1 : w5.cell? ⟨w4.heap.size, 1, none⟩ = some u4 := by rw [cell_at hr5]; rfl
        have hc4 : (shC 1 u4 (.slice none 0 0)).size = 3 := rfl
        generalize hk4 : shC 1 u4 (.slice none 0 0) = k4 at *
        have HK4 : Hid (shC 1 u4 (.slice none 0 0) = k4) := hk4
        have HSQ : Hid (Calls Try.prog 10 #[u4, .slice (some ⟨gw, 0, none⟩) m m] w5 fun e w'' => e = .returned (.bool true) ∧ Below w5.heap.size w5 w'') := by have := same_any HN5.out (nl_want hm HQ5.out); rw [decide_eq_true (rfl : W = W)] at this; exact this
        clear hb4 ho4 hb5 hr5 HSH HQ4 HB4 HN4 hk4
        go_wp2_with fail
        refine HSQ.out.mono ?_
        rintro e w6 ⟨rfl, hb6⟩
        have HQ6 : Hid (QM w w6 a m gc gw C W) := HQ5.out.later hb6
        have hr6 : w6.heap[w4.heap.size]? = some (.cells k4 39 (0, 0)) := by rw [hb6.block _ (heap_lt HR5.out)]; exact HR5.out
        rw [← HK4.out] at hr6
        have b0 : w6.cell? ⟨w4.heap.size, 0, none⟩ = some (.int .i64 1) := by rw [cell_at hr6]; rfl
        have b2 : w6.cell? ⟨w4.heap.size, 2, none⟩ = some (.slice none 0 0) := by rw [cell_at hr6]; rfl
        clear hb6 hr6 hs5 hz5 a1 HSQ HQ5 HR5 HN5
        go_wp2_with fail
        go_loopw [18, 19] (fun sv iv wr => ∃ i : Nat, i ≤ a ∧ iv = .int .i64 i ∧ sv = .bool true ∧ wr = w6) (fun _ iv _ => a - (intOf iv).toNat)
        case atStart => exact ⟨0, by omega, rfl, rfl, rfl⟩
        case round =>
          obtain ⟨i, hi, rfl, rfl, rfl⟩ := hrel
          by_cases hia : i < a
          · have hd2 : decide ((i : Int) < (a : Int)) = true := by simp; omega
            have hcz := mq_zero HQ6.out i hia
            have hlt2 : i < a + m := by omega
            have ea := add_own gc i
            go_wp2_with fail
            go_roundw
            case rel => exact ⟨i + 1, hia, by go_num, rfl, by first | rfl | trivial⟩
            case measure => simp [intOf]; omega
          · have hd2 : decide ((i : Int) < (a : Int)) = false := by simp; omega
            go_wp2_with fail
            go_ret
            exact ⟨rfl, HQ6.out.bel⟩
theorem means_walk {w : World} (m a : Int) {v : Value} {S : List (Int × List Int)} (hv : Cl w v S) : Calls Try.prog 4 #[.int .i64 m, .int .i64 a, v] w fun e w' => e = .returned (.bool true) ∧ Below w.heap.size w w' := by
  by_cases h : 0 ≤ m ∧ m ≤ 16 ∧ 0 ≤ a ∧ a ≤ 100
  · obtain ⟨m', rfl⟩ := Int.eq_ofNat_of_zero_le h.1
    obtain ⟨a', rfl⟩ := Int.eq_ofNat_of_zero_le h.2.2.1
    exact means_yes m' a' (by omega) (by omega) hv
  · obtain ⟨va, cap, rfl, _⟩ := hv
    exact means_no w m a va _ cap h
end Go.Proofs.Ytcdkjcpfllpeoab.Ct
