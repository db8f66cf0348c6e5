/- PlaceOwns, walked. -/
import Derived.Test.YtpijpjbldbnbhaaPcG
import Derived.Test.YtpijpjbldbnbhaaAppW
import Derived.Deep.LoopGhost
import Derived.Laws.StructEq
namespace Go.Proofs.Ytpijpjbldbnbhaa.Pc
open Go.ChangeShapes Go.WideShapes Go.ChangeAt Go.RowKit
attribute [local go_sem ↓] Go.wp_at_zero Go.wp_at_succ

theorem info_rg : (Try.prog.info? 29).map (fun i => (i.zero, i.size, i.bytes)) = some (some (.agg #[.int .i64 0, .int .i64 0]), 2, 16) := by kernel_rfl
def rgC (x : Rg) : List Value := [.int .i64 x.1, .int .i64 x.2]
def rgsC (l : List Rg) : List Value := l.flatMap rgC
theorem rgsC_snoc (l : List Rg) (x : Rg) : rgsC (l ++ [x]) = rgsC l ++ [.int .i64 x.1, .int .i64 x.2] := by simp [rgsC, rgC]
theorem rgsC_get (l : List Rg) (i : Nat) (hi : i < l.length) : (rgsC l)[i * 2]? = some (.int .i64 (nthR l i).1) ∧ (rgsC l)[i * 2 + 1]? = some (.int .i64 (nthR l i).2) := by
  induction l generalizing i with
  | nil => simp at hi
  | cons x l ih =>
    have e : rgsC (x :: l) = .int .i64 x.1 :: .int .i64 x.2 :: rgsC l := rfl
    cases i with
    | zero => rw [e]; exact ⟨rfl, rfl⟩
    | succ i =>
      obtain ⟨h1, h2⟩ := ih i (by simpa using hi)
      rw [e, show (i + 1) * 2 = (i * 2 + 1) + 1 by omega]
      simp only [List.getElem?_cons_succ]
      exact ⟨h1, h2⟩
theorem rgs_take (l : List Rg) (j : Nat) (h : j < l.length) : rgsC (l.take (j + 1)) = rgsC (l.take j) ++ [.int .i64 (nthR l j).1, .int .i64 (nthR l j).2] := by
  have e : l.take (j + 1) = l.take j ++ [nthR l j] := by
    rw [List.take_add_one]
    simp [nthR, h]
  rw [e, rgsC_snoc]
theorem eq_rg (k m : Int) (w : World) (d : Nat) : (Op.equalIn (d + 2) 29 (.agg #[.int .i64 k, .int .i64 m]) (.agg #[.int .i64 k, .int .i64 m])).run Try.prog w = .ok true w := by
  rw [run_equalIn_struct w (d + 1) 29 _ _ (by kernel_rfl) (by kernel_rfl)]
  have hf : (Try.prog.fieldsOf 29).toList.map (fun f => (f.name, f.type, f.offset)) = [("Kind", 3, 0), ("Cap", 3, 1)] := by kernel_rfl
  generalize (Try.prog.fieldsOf 29).toList = fs at *
  have hl : fs.length = 2 := by have := congrArg List.length hf; simpa using this
  obtain ⟨f0, f1, rfl⟩ := plen2 hl
  simp only [List.map_cons, List.map_nil, List.cons.injEq, Prod.mk.injEq, and_true] at hf
  obtain ⟨⟨n0, t0, o0⟩, n1, t1, o1⟩ := hf
  have p0 : (part 3 #[.int .i64 k, .int .i64 m] 0).run Try.prog w = .ok (.int .i64 k) w := run_part_plain w (by kernel_rfl) rfl
  have p1 : (part 3 #[.int .i64 k, .int .i64 m] 1).run Try.prog w = .ok (.int .i64 m) w := run_part_plain w (by kernel_rfl) rfl
  have q1 := fun v : Int => run_equalIn_int (P := Try.prog) w d 3 .i64 .i64 v v Try.underlying3
  simp [Op.eqFields, n0, n1, t0, t1, o0, o1, p0, p1, q1]
theorem neq_rg (k m : Int) (w : World) : (binOp .neq 29 (.agg #[.int .i64 k, .int .i64 m]) (.agg #[.int .i64 k, .int .i64 m])).run Try.prog w = .ok (.bool false) w := by
  rw [run_neq_struct, eq_rg k m w 9998]
  rfl
theorem add_own (g i : Nat) : (⟨g, 0, none⟩ : Addr).add i = ⟨g, i, none⟩ := by unfold Addr.add; split <;> simp_all
theorem owns_walk {w : World} {v : Value} {c : Cf} (i : Int) (h : CfV w v c) : Calls Try.prog 8 #[v, .int .i64 i] w (Yes w) := by
  have HC : Hid (∀ w' : World, Below w.heap.size w w' → Calls Try.prog 9 #[v] w' fun e w'' => e = .returned (.int .i64 (chkV c)) ∧ Below w'.heap.size w' w'') := fun w' hb => check_any (h.later hb (Nat.le_refl _))
  have HE : Hid (∀ w' : World, Below w.heap.size w w' → Calls Try.prog 15 #[v] w' fun e w'' => e = .returned (.tuple #[.int .i64 (cellsV c).1, .int .i64 (chkV c)]) ∧ Below w'.heap.size w' w'') := fun w' hb => by
    have := cells_any (h.later hb (Nat.le_refl _))
    have e2 : (cellsV c).2 = chkV c := by unfold cellsV chkV; split <;> rfl
    unfold Two at this
    rw [e2] at this
    exact this
  have HA : Hid (∀ w' : World, Below w.heap.size w w' → Calls Try.prog 13 #[v, .int .i64 i] w' fun e w'' => e = .returned (.tuple #[.int .i64 (baseV c i).1, .int .i64 (baseV c i).2]) ∧ Below w'.heap.size w' w'') := fun w' hb => base_any (h.later hb (Nat.le_refl _)) i
  have HD : Hid (∀ w' : World, Below w.heap.size w w' → Calls Try.prog 14 #[v, .int .i64 i] w' fun e w'' => e = .returned (.tuple #[.int .i64 (baseV c i).1, .int .i64 (baseV c i).2]) ∧ Below w'.heap.size w' w'') := fun w' hb => rbase_any (h.later hb (Nat.le_refl _)) i
  obtain ⟨vr, rfl, hR⟩ := h
  generalize (baseV c i).1 = y1 at *
  generalize (baseV c i).2 = y2 at *
  generalize (cellsV c).1 = y3 at *
  generalize chkV c = y4 at *
  obtain ⟨ar, cap, rfl, hlen, hcap, hcs, hl⟩ := hR
  have HL : Hid (RL w ar c.R) := hl
  clear hl hcap hcs
  obtain ⟨a, b, d, s, mu, t, R⟩ := c
  obtain ⟨i0, hi, hz0, hz1, hz2⟩ := info_parts info_rg
  unfold cfA Yes at *
  dsimp only at *
  go_enter Try.func8, Try.ntmps8
  go_upto_block 0 with fail
  obtain ⟨w1, hw1⟩ : ∃ w1, w1 = w.alloc (.cells #[.int .i64 a, .int .i64 b, .int .i64 d, .int .i64 s, .bool mu, .int .i64 t, .slice ar R.length cap] 24) := ⟨_, rfl⟩
  have HB1 : Hid (Below w.heap.size w w1) := by rw [Hid, hw1]; exact below_a1 _ _
  have HR1 : Hid (∀ w' : World, Below w1.heap.size w1 w' → w'.heap[w.heap.size]? = some (.cells #[.int .i64 a, .int .i64 b, .int .i64 d, .int .i64 s, .bool mu, .int .i64 t, .slice ar R.length cap] 24 (0, 0))) := fun w' hb => by
    have h0 : w1.heap[w.heap.size]? = some (.cells #[.int .i64 a, .int .i64 b, .int .i64 d, .int .i64 s, .bool mu, .int .i64 t, .slice ar R.length cap] 24 (0, 0)) := by rw [hw1]; exact heap_alloc_new _ _
    rw [hb.block _ (heap_lt h0)]
    exact h0
  rw [← hw1]
  clear hw1
  go_cut [5] (fun hv wx => wx.ownsRow w1.heap.size 29 2 hv R.length (rgsC R) ∧ Below w1.heap.size w1 wx)
  case first =>
    go_wp2_with fail
    go_loopw [5, 6] (fun hv iv wr => ∃ j : Nat, j ≤ R.length ∧ iv = .int .i64 (j : Int) ∧ wr.ownsRow w1.heap.size 29 2 hv j (rgsC (R.take j)) ∧ Below w1.heap.size w1 wr) (fun _ iv _ => R.length - (intOf iv).toNat)
    case atStart => exact ⟨0, by omega, rfl, World.ownsRow_nil _ _ _ _, Below.refl _ _⟩
    case round =>
      obtain ⟨j, hj, rfl, hown, hbel⟩ := hrel
      have HO : Hid (wr.ownsRow w1.heap.size 29 2 u5 j (rgsC (R.take j))) := hown
      have HB : Hid (Below w1.heap.size w1 wr) := hbel
      have hsz : w1.heap.size ≤ wr.heap.size := hbel.size
      have k6 : wr.cell? ⟨w.heap.size, 6, none⟩ = some (.slice ar R.length cap) := (cell_at (HR1.out wr hbel) 6).trans rfl
      clear hown hbel
      by_cases hlt : j < R.length
      · have hjd : decide ((j : Int) < (R.length : Int)) = true := by simp; omega
        obtain ⟨x, rfl, z1, z2⟩ := HL.out.at (bt HB1.out HB.out) hlt
        have HSN : Hid (rgsC (R.take (j + 1)) = rgsC (R.take j) ++ [.int .i64 (nthR R j).1, .int .i64 (nthR R j).2]) := rgs_take R j hlt
        have hw : wrap64 ((j : Int) + 1) = (j : Int) + 1 := wz hlt (by omega)
        have HM : Hid (R.length - (j + 1) < R.length - j) := mz _ _ hlt
        generalize nthR R j = r at *
        obtain ⟨k, m⟩ := r
        dsimp only at *
        obtain ⟨va, vc, rfl⟩ := own_slice HO.out
        clear HL HC HE HA HD
        go_wp2_with (at_builtin; refine list_lies_wide _ rfl _ _ 22 rfl w1.heap.size 29 i0 _ 2 16 Try.underlying22 hi hz0 hz1 hz2 rfl (by decide) _ _ _ rfl (HO.out.alloc _) ⟨wr.heap.size, 0, none⟩ 1 1 [.int .i64 k, .int .i64 m] rfl rfl ?c1 ?c2 ?c3 ?c4 ?c5 ?c6 _ rfl ?_)
        case c1 => exact World.news_of_block (cs := #[.int .i64 k, .int .i64 m]) (t := 29) (fr := (0, 0)) (heap_alloc_new _ _)
        case c2 => intro u hu; simp at hu; rcases hu with rfl | rfl <;> rfl
        case c3 => decide
        case c4 => unfold maxLen; omega
        case c5 => omega
        case c6 => simp; omega
        intro g cp w2 hown' hgrow _ _
        have HO2 : Hid (w2.ownsRow w1.heap.size 29 2 (.slice (some ⟨g, 0, none⟩) (j + 1) cp) (j + 1) (rgsC (R.take (j + 1)))) := by rw [Hid, HSN.out]; exact hown'
        have HB2 : Hid (Below w1.heap.size w1 w2) := (below_alloc HB.out _).grown hgrow (by simp; omega) (fun b hb => by have := own_block HO.out b hb; omega)
        clear hown' hgrow k6 z1 z2
        go_wp2_with fail
        go_roundw
        case rel => exact ⟨j + 1, hlt, by go_num, HO2.out, HB2.out⟩
        case measure => simpa [intOf] using HM.out
      · obtain rfl : j = R.length := by omega
        have HO2 : Hid (wr.ownsRow w1.heap.size 29 2 u5 R.length (rgsC R)) := by
          have := HO.out
          rw [List.take_length] at this
          exact this
        clear HO HL HC HE HA HD
        go_wp2_with fail
        go_meet
        exact ⟨HO2.out, HB.out⟩
  case rest =>
    obtain ⟨hoH, hbH⟩ := hcut
    have HOH : Hid (wc.ownsRow w1.heap.size 29 2 u5 R.length (rgsC R)) := hoH
    have HB0 : Hid (Below w1.heap.size w1 wc) := hbH
    obtain ⟨ha, hc, rfl⟩ := own_slice hoH
    have HHC : Hid (∀ (w' : World), Below wc.heap.size wc w' → ∀ j, j < R.length → ∃ x, ha = some x ∧ w'.cell? (x.add (j * 2)) = some (.int .i64 (nthR R j).1) ∧ w'.cell? ⟨(x.add (j * 2)).block, (x.add (j * 2)).off + 1, none⟩ = some (.int .i64 (nthR R j).2)) := fun w' hb j hj => by
      have ho := own_keep HOH.out (Keep.of_below hb []) (by simp)
      rcases ho.2 with ⟨_, h0⟩ | ⟨g, cp, cur, hsl, _⟩
      · omega
      · obtain ⟨e, _⟩ : ha = some ⟨g, 0, none⟩ ∧ hc = cp := by simpa using hsl
        subst e
        obtain ⟨h1, h2⟩ := rgsC_get R j hj
        have ea : (⟨g, 0, none⟩ : Addr).add (j * 2) = ⟨g, j * 2, none⟩ := add_own g (j * 2)
        refine ⟨⟨g, 0, none⟩, rfl, ?_, ?_⟩
        · rw [ea]; exact own_cells ho _ _ h1
        · rw [ea]; exact own_cells ho _ _ h2
    obtain ⟨k0, k1, k2, k3, k4, k5, k6⟩ := cf_cells (HR1.out wc hbH)
    clear hoH hbH hi hz0 hz1 hz2
    go_wp2_with fail
    refine (HA.out _ (bt HB1.out HB0.out)).mono ?_
    rintro e w2 ⟨rfl, hb2⟩
    have HB2 : Hid (Below wc.heap.size wc w2) := hb2
    clear hb2 k0 k1 k2 k3 k4 k5 k6
    obtain ⟨k0, k1, k2, k3, k4, k5, k6⟩ := cf_cells (HR1.out w2 (bt HB0.out HB2.out))
    go_wp2_with fail
    refine (HE.out _ (bt HB1.out (bt HB0.out HB2.out))).mono ?_
    rintro e w3 ⟨rfl, hb3⟩
    have HB3 : Hid (Below wc.heap.size wc w3) := bt HB2.out hb3
    clear hb3 HB2 k0 k1 k2 k3 k4 k5 k6
    obtain ⟨k0, k1, k2, k3, k4, k5, k6⟩ := cf_cells (HR1.out w3 (bt HB0.out HB3.out))
    go_wp2_with fail
    refine (HC.out _ (bt HB1.out (bt HB0.out HB3.out))).mono ?_
    rintro e w4 ⟨rfl, hb4⟩
    have HB4 : Hid (Below wc.heap.size wc w4) := bt HB3.out hb4
    clear hb4 HB3 k0 k1 k2 k3 k4 k5 k6 HC
    go_wp2_with fail
    go_loopw [12] (fun iv wr => ∃ j : Nat, j ≤ R.length ∧ iv = .int .i64 (j : Int) ∧ Below wc.heap.size wc wr) (fun iv _ => R.length - (intOf iv).toNat)
    case atStart => exact ⟨0, by omega, rfl, HB4.out⟩
    case round =>
      obtain ⟨j, hj, rfl, hbel⟩ := hrel
      have HB : Hid (Below wc.heap.size wc wr) := hbel
      obtain ⟨k0, k1, k2, k3, k4, k5, k6⟩ := cf_cells (HR1.out wr (bt HB0.out hbel))
      clear hbel HB4
      by_cases hlt : j < R.length
      · have hjd : decide ((j : Int) < (R.length : Int)) = true := by simp; omega
        obtain ⟨x, rfl, z1, z2⟩ := HL.out.at (bt HB1.out (bt HB0.out HB.out)) hlt
        obtain ⟨y, rfl, z3, z4⟩ := HHC.out wr HB.out j hlt
        have hw : wrap64 ((j : Int) + 1) = (j : Int) + 1 := wz hlt (by omega)
        have HM : Hid (R.length - (j + 1) < R.length - j) := mz _ _ hlt
        generalize nthR R j = r at *
        obtain ⟨k, m⟩ := r
        dsimp only at *
        have hnq : ∀ w : World, (binOp .neq 29 (.agg #[.int .i64 k, .int .i64 m]) (.agg #[.int .i64 k, .int .i64 m])).run Try.prog w = .ok (.bool false) w := fun w => neq_rg _ _ w
        clear HL HE HA HD HHC k0 k1 k2 k3 k4 k5
        go_wp2_with fail
        go_quiet (fail)
        go_wp2_with fail
        go_roundw
        case rel => exact ⟨j + 1, hlt, by go_num, below_drawn HB.out _⟩
        case measure => simpa [intOf] using HM.out
      · have hjd : decide ((j : Int) < (R.length : Int)) = false := by simp; omega
        obtain rfl : j = R.length := by omega
        clear HL HHC
        go_wp2_with fail
        refine (HA.out _ (bt HB1.out (bt HB0.out HB.out))).mono ?_
        rintro e w2 ⟨rfl, hb2⟩
        have HB2 : Hid (Below wc.heap.size wc w2) := bt HB.out hb2
        clear hb2 k0 k1 k2 k3 k4 k5 k6 HB
        obtain ⟨k0, k1, k2, k3, k4, k5, k6⟩ := cf_cells (HR1.out w2 (bt HB0.out HB2.out))
        go_wp2_with fail
        refine (HE.out _ (bt HB1.out (bt HB0.out HB2.out))).mono ?_
        rintro e w3 ⟨rfl, hb3⟩
        have HB3 : Hid (Below wc.heap.size wc w3) := bt HB2.out hb3
        clear hb3 HB2 k0 k1 k2 k3 k4 k5 k6
        obtain ⟨k0, k1, k2, k3, k4, k5, k6⟩ := cf_cells (HR1.out w3 (bt HB0.out HB3.out))
        go_wp2_with fail
        refine (HD.out _ (bt HB1.out (bt HB0.out HB3.out))).mono ?_
        rintro e w4 ⟨rfl, hb4⟩
        have HB4 : Hid (Below wc.heap.size wc w4) := bt HB3.out hb4
        clear hb4 HB3
        go_wp2_with fail
        go_ret
        exact ⟨rfl, bt HB1.out (bt HB0.out HB4.out)⟩
end Go.Proofs.Ytpijpjbldbnbhaa.Pc
