/- Raw, Shapes, Copy: the document's. -/
import Derived.Test.YtgbmnngmfcneaaaPlSp
import Derived.Test.YtgbmnngmfcneaaaPlNm
namespace Go.Proofs.Ytgbmnngmfcneaaa.Pl
open Go.ChangeShapes Go.WideShapes Go.ChangeAt Go.RowKit
attribute [local go_sem ↓] Go.wp_at_zero Go.wp_at_succ

theorem rraw_any {w : World} {B Y : Nat} {G Z : List Nat} {raw : List Int} {cs : List Co} (h : DtAt w B Y G Z raw cs) : Calls Try.prog 27 #[.pointer (some ⟨Y, 0, none⟩)] w fun e w' => ∃ u, e = .returned u ∧ w'.ownsRow w.heap.size 2 1 u raw.length (numC raw) ∧ Below w.heap.size w w' := by
  obtain ⟨C, vr, rv, cv, V, P, hs, _⟩ := h
  obtain ⟨_, h7, _⟩ := hs.cells
  have h64 := hs.r64
  have HC : Hid (Calls Try.prog 13 #[rv] w fun e w' => ∃ u, e = .returned u ∧ w'.ownsRow w.heap.size 2 1 u raw.length (numC raw) ∧ Below w.heap.size w w') := rnums_any (Nl.of_own hs.rr (by omega) hs.rs)
  obtain ⟨a, cap, rfl⟩ := own_slice hs.rr
  clear hs h64
  go_enter Try.func27, Try.ntmps27
  go_wp2_with fail
  refine HC.out.mono ?_
  rintro e w1 ⟨u, rfl, ho, hb⟩
  have HO : Hid (w1.ownsRow w.heap.size 2 1 u raw.length (numC raw) ∧ Below w.heap.size w w1) := ⟨ho, hb⟩
  obtain ⟨ua, uc, rfl⟩ := own_slice ho
  clear ho hb
  go_wp2_with fail
  go_ret
  exact ⟨_, rfl, HO.out⟩
theorem shp_more (cs : List Co) (V P : Nat → Value) (j : Nat) (v p : Value) : rowC (shpF cs (upd V j v) (upd P j p)) (j + 1) = rowC (shpF cs V P) j ++ [.int .i64 (nthC cs j).kd, v, p] := by
  rw [rowC_snoc]
  congr 1
  · apply rowC_congr
    intro i hi
    unfold shpF
    rw [upd_ne _ _ (by omega), upd_ne _ _ (by omega)]
  · unfold shpF
    rw [upd_at, upd_at]
theorem one_3 {k : Int} {v p : Value} (h : v.oneCell' = true) (h' : p.oneCell' = true) : ∀ u ∈ [.int .i64 k, v, p], u.oneCell' = true := by
  intro u hu
  simp only [List.mem_cons, List.not_mem_nil, or_false] at hu
  rcases hu with rfl | rfl | rfl
  · rfl
  · exact h
  · exact h'
set_option maxRecDepth 100000 in
theorem rshapes_any {w : World} {B Y : Nat} {G Z : List Nat} {raw : List Int} {cs : List Co} (h : DtAt w B Y G Z raw cs) : Calls Try.prog 28 #[.pointer (some ⟨Y, 0, none⟩)] w fun e w' => ∃ v V P F, e = .returned v ∧ ShO w' w.heap.size F v cs V P ∧ (∀ b ∈ F, w.heap.size ≤ b ∧ b < w'.heap.size) ∧ Below w.heap.size w w' := by
  obtain ⟨C, vr, rv, cv, V, P, hs, _⟩ := h
  obtain ⟨_, _, h8⟩ := hs.cells
  have hYl := heap_lt hs.hX
  have H8 : Hid (cs.length ≤ 8) := hs.c8
  have HS : Hid (∀ w', Below w.heap.size w w' → DtR w' B Y G Z raw cs C vr rv cv V P) := fun w' hb => hs.keep (G := []) (Keep.of_below hb []) (by simp) (by simp)
  obtain ⟨ca, cc, rfl⟩ := own_slice hs.cr
  clear hs
  obtain ⟨i1, hi1, hy0, hy1, hy2⟩ := info_parts info_shp
  have HI1 : Hid (Try.prog.info? 50 = some i1 ∧ i1.zero = some (.agg #[.int .i64 0, .slice none 0 0, .slice none 0 0]) ∧ i1.size = 3 ∧ i1.bytes = 56) := ⟨hi1, hy0, hy1, hy2⟩
  obtain ⟨i2, hi2, hx0, hx1, hx2⟩ := info_parts info_pair
  have HI2 : Hid (Try.prog.info? 52 = some i2 ∧ i2.zero = some (.agg #[.int .i64 0, .int .i64 0]) ∧ i2.size = 2 ∧ i2.bytes = 16) := ⟨hi2, hx0, hx1, hx2⟩
  clear hi1 hy0 hy1 hy2 hi2 hx0 hx1 hx2
  go_enter Try.func28, Try.ntmps28
  go_wp2_with fail
  have hR0 : Rows w w.heap.size [] (cs.take 0) nils nils := ⟨fun i hi => by simp at hi, fun i hi => by simp at hi, fun i hi => by simp at hi, fun i hi => by simp at hi, fun i j hi => by simp at hi, fun i j hi => by simp at hi, fun i hi => by simp at hi⟩
  go_loopw [3, 4] (fun ov iv wr => ∃ (j : Nat) (F : List Nat) (V' P' : Nat → Value) (oa : Option Addr) (oc : Nat), j ≤ cs.length ∧ iv = .int .i64 (j : Int) ∧ ov = .slice oa j oc ∧ Hid (wr.ownsRow w.heap.size 50 3 (.slice oa j oc) j (rowC (shpF cs V' P') j)) ∧ Hid (Rows wr w.heap.size F (cs.take j) V' P') ∧ Hid (∀ b ∈ F, w.heap.size ≤ b ∧ b < wr.heap.size) ∧ Below w.heap.size w wr) (fun _ iv _ => cs.length - (intOf iv).toNat)
  case atStart => exact ⟨0, [], nils, nils, none, 0, Nat.zero_le _, rfl, rfl, World.ownsRow_nil _ _ _ _, hR0, (by simp [Hid]), Below.refl _ _⟩
  case round =>
    obtain ⟨j, F, V', P', oa, oc, hj, rfl, rfl, HO, HR, HF, hbel⟩ := hrel
    have HB : Hid (Below w.heap.size w wr) := hbel
    have k8 : wr.cell? ⟨Y, 8, none⟩ = some (.slice ca cs.length cc) := cell_later hbel (a := ⟨Y, 8, none⟩) hYl h8
    clear hbel hR0
    by_cases hlt : j < cs.length
    · have d1 : decide ((j : Int) < (cs.length : Int)) = true := by simpa using hlt
      have HIW : Hid (wrap64 ((j : Int) + 1) = ((j + 1 : Nat) : Int)) := sh_wrap hlt (Nat.le_trans H8.out (by decide))
      obtain ⟨g, cap2, L, hcv, hcol, -⟩ := (HS.out wr HB.out).col hlt
      injection hcv with e1 e2 e3
      subst e1
      obtain ⟨q0, q1, q2⟩ := hcol.cells
      have HOK : Hid (CoOk (nthC cs j)) := hcol.ok
      have h16 : (nthC cs j).vs.length ≤ 16 ∧ (nthC cs j).ps.length ≤ 16 := by
        have h1 := hcol.ok.vm
        have h2 := hcol.ok.pm
        have h3 := hcol.ok.c16
        exact ⟨by omega, by omega⟩
      have H16 : Hid ((nthC cs j).vs.length ≤ 16 ∧ (nthC cs j).ps.length ≤ 16) := h16
      have HNV : Hid (∀ w', Below wr.heap.size wr w' → Calls Try.prog 13 #[V j] w' fun e w'' => ∃ v', e = .returned v' ∧ w''.ownsRow w'.heap.size 2 1 v' (nthC cs j).vs.length (numC (nthC cs j).vs) ∧ Below w'.heap.size w' w'') := fun w' hb => rnums_any ((Nl.of_own hcol.hv (by omega) hcol.ok.sv).later hb (Nat.le_refl _))
      have HPN : Hid (∀ w', Below wr.heap.size wr w' → Pn w' (P j) (nthC cs j).ps) := fun w' hb => (Pn.of_own hcol.hp).later hb
      obtain ⟨va, vc, hV⟩ := own_slice hcol.hv
      obtain ⟨pa, pc, hP⟩ := own_slice hcol.hp
      rw [hV] at q1 HNV
      rw [hP] at q2 HPN
      have HSZ : Hid (w.heap.size ≤ wr.heap.size) := HB.out.size
      clear hcol hV hP e2 e3 h16
      go_wp2_with fail
      refine (HNV.out _ (below_a1 _ _)).mono ?_
      rintro e w2 ⟨u, rfl, ou, hb2⟩
      have gY := row_next hb2
      obtain ⟨ua, uc, rfl⟩ := own_slice ou
      have hb2' : Below wr.heap.size wr w2 := below_next hb2
      have y1 : w2.cell? ⟨wr.heap.size, 1, none⟩ = some (.slice va (nthC cs j).vs.length vc) := (cell_at gY 1).trans rfl
      have f1 : w2.frozen? ⟨wr.heap.size, 1, none⟩ = false := frozen_at gY 1
      have hYl2 := heap_lt gY
      have HG3 : Hid ((w2.setCell ⟨wr.heap.size, 1, none⟩ (.slice ua (nthC cs j).vs.length uc)).heap[wr.heap.size]? = some (.cells #[.int .i64 (nthC cs j).kd, .slice ua (nthC cs j).vs.length uc, .slice pa (nthC cs j).ps.length pc] 50 (0, 0))) := (heap_set gY 1 _).trans rfl
      have HB3 : Hid (Below wr.heap.size wr (w2.setCell ⟨wr.heap.size, 1, none⟩ (.slice ua (nthC cs j).vs.length uc))) := hb2'.trans ((Keep.setCell (Keep.refl [wr.heap.size] w2) _ _ (Or.inl (by simp))).below hb2'.size (fun b hb => by simp at hb; omega))
      have HOU : Hid ((w2.setCell ⟨wr.heap.size, 1, none⟩ (.slice ua (nthC cs j).vs.length uc)).ownsRow (wr.heap.size + 1) 2 1 (.slice ua (nthC cs j).vs.length uc) (nthC cs j).vs.length (numC (nthC cs j).vs)) := by
        have ou' : w2.ownsRow (wr.heap.size + 1) 2 1 (.slice ua (nthC cs j).vs.length uc) (nthC cs j).vs.length (numC (nthC cs j).vs) := by simpa using ou
        exact own_keep ou' (Keep.setCell (Keep.refl [wr.heap.size] w2) ⟨wr.heap.size, 1, none⟩ (.slice ua (nthC cs j).vs.length uc) (Or.inl (by simp))) (fun b hb hm => by
          simp at hm
          have := (own_block ou' b hb).1
          omega)
      clear gY ou hb2 hb2' HNV q0 q1 q2
      go_wp2_with fail
      generalize (w2.setCell ⟨wr.heap.size, 1, none⟩ (.slice ua (nthC cs j).vs.length uc)) = w3 at *
      obtain ⟨Yx, hYx⟩ : ∃ Yx, Yx = wr.heap.size := ⟨_, rfl⟩
      obtain ⟨wo, rfl⟩ : ∃ wo, wo = wr := ⟨_, rfl⟩
      have z2 : w3.cell? ⟨wo.heap.size, 2, none⟩ = some (.slice pa (nthC cs j).ps.length pc) := (cell_at HG3.out 2).trans rfl
      have HYL : Hid (wo.heap.size < w3.heap.size) := heap_lt HG3.out
      clear y1 f1 hYl2 hYx
      go_loopw [6, 7] (fun lv kv wk => ∃ (k : Nat) (la : Option Addr) (lc : Nat), k ≤ (nthC cs j).ps.length ∧ kv = .int .i64 (k : Int) ∧ lv = .slice la k lc ∧ Hid (wk.ownsRow w3.heap.size 52 2 (.slice la k lc) k (prC ((nthC cs j).ps.take k))) ∧ Below w3.heap.size w3 wk) (fun _ kv _ => (nthC cs j).ps.length - (intOf kv).toNat)
      case atStart => exact ⟨0, none, 0, Nat.zero_le _, rfl, rfl, World.ownsRow_nil _ _ _ _, Below.refl _ _⟩
      case round =>
        obtain ⟨k, la, lc, hk, rfl, rfl, HOL, hbk⟩ := hrel
        have HBK : Hid (Below w3.heap.size w3 wr) := hbk
        have zk : wr.cell? ⟨wo.heap.size, 2, none⟩ = some (.slice pa (nthC cs j).ps.length pc) := cell_later hbk (a := ⟨wo.heap.size, 2, none⟩) HYL.out z2
        have HS3 : Hid (w3.heap.size ≤ wr.heap.size) := hbk.size
        clear hbk
        by_cases hkl : k < (nthC cs j).ps.length
        · have d2 : decide ((k : Int) < ((nthC cs j).ps.length : Int)) = true := by simpa using hkl
          have HKW : Hid (wrap64 ((k : Int) + 1) = ((k + 1 : Nat) : Int)) := sh_wrap hkl (Nat.le_trans H16.out.2 (by decide))
          obtain ⟨x, rfl, p0, p1⟩ := pn_at (HPN.out wr (below_then HB3.out HBK.out)) hkl
          have HPT : Hid (prC ((nthC cs j).ps.take (k + 1)) = prC ((nthC cs j).ps.take k) ++ [.int .i64 (nthP (nthC cs j).ps k).1, .int .i64 (nthP (nthC cs j).ps k).2]) := pr_take (R := (nthC cs j).ps) hkl
          have HK16 : Hid (k + 1 ≤ 16) := Nat.le_trans hkl H16.out.2
          generalize (nthP (nthC cs j).ps k).1 = r1 at *
          generalize (nthP (nthC cs j).ps k).2 = r2 at *
          clear HPN
          go_wp2_with (at_builtin; refine list_lies_wide _ rfl _ _ 48 rfl w3.heap.size 52 i2 _ 2 16 Try.underlying48 HI2.out.1 HI2.out.2.1 HI2.out.2.2.1 HI2.out.2.2.2 rfl (by decide) _ _ _ rfl (HOL.out.alloc _) ⟨wr.heap.size, 0, none⟩ 1 1 [.int .i64 r1, .int .i64 r2] rfl rfl ?c1 ?c2 ?c3 ?c4 ?c5 ?c6 _ rfl ?_)
          case c1 => exact World.news_of_block (cs := #[.int .i64 r1, .int .i64 r2]) (t := 52) (fr := (0, 0)) (heap_alloc_new _ _)
          case c2 => intro u hu; simp at hu; rcases hu with rfl | rfl <;> rfl
          case c3 => decide
          case c4 => have := HK16.out; unfold maxLen; omega
          case c5 => have := HK16.out; omega
          case c6 => have := HS3.out; simp; omega
          intro g2 cp2 w5 hown5 hgr5 _ _
          have HB5 : Hid (Below w3.heap.size w3 w5) := (below_alloc HBK.out _).grown hgr5 (by have := HS3.out; simp; omega) (fun b hb => (own_block HOL.out b hb).1)
          have HO5 : Hid (w5.ownsRow w3.heap.size 52 2 (.slice (some ⟨g2, 0, none⟩) (k + 1) cp2) (k + 1) (prC ((nthC cs j).ps.take (k + 1)))) := by rw [HPT.out]; exact hown5
          clear hown5 hgr5 zk p0 p1
          go_wp2_with fail
          go_roundw
          case rel => exact ⟨k + 1, _, _, hkl, by first | rw [HKW.out] | go_num, rfl, HO5.out, HB5.out⟩
          case measure =>
            try rw [HKW.out]
            exact sh_less hkl
        · obtain rfl : k = (nthC cs j).ps.length := Nat.le_antisymm hk (Nat.not_lt.1 hkl)
          have d2 : decide (((nthC cs j).ps.length : Int) < ((nthC cs j).ps.length : Int)) = false := by simp
          have gYr : wr.heap[wo.heap.size]? = some (.cells #[.int .i64 (nthC cs j).kd, .slice ua (nthC cs j).vs.length uc, .slice pa (nthC cs j).ps.length pc] 50 (0, 0)) := (HBK.out.block _ HYL.out).trans HG3.out
          have e0 : wr.cell? ⟨wo.heap.size, 0, none⟩ = some (.int .i64 (nthC cs j).kd) := (cell_at gYr 0).trans rfl
          have e1 : wr.cell? ⟨wo.heap.size, 1, none⟩ = some (.slice ua (nthC cs j).vs.length uc) := (cell_at gYr 1).trans rfl
          have e2 : wr.frozen? ⟨wo.heap.size, 2, none⟩ = false := frozen_at gYr 2
          have hYr := heap_lt gYr
          have HBW : Hid (Below wo.heap.size wo wr) := below_then HB3.out HBK.out
          have hkY : Keep [wo.heap.size] wr (wr.setCell ⟨wo.heap.size, 2, none⟩ (.slice la (nthC cs j).ps.length lc)) := Keep.setCell (Keep.refl _ _) _ _ (Or.inl (by simp))
          have HB4 : Hid (Below wo.heap.size wo (wr.setCell ⟨wo.heap.size, 2, none⟩ (.slice la (nthC cs j).ps.length lc))) := HBW.out.trans (hkY.below HBW.out.size (fun b hb => by simp at hb; omega))
          have HO4 : Hid ((wr.setCell ⟨wo.heap.size, 2, none⟩ (.slice la (nthC cs j).ps.length lc)).ownsRow w.heap.size 50 3 (.slice oa j oc) j (rowC (shpF cs V' P') j)) := own_keep HO.out (Keep.of_below HB4.out []) (by simp)
          have HV4 : Hid ((wr.setCell ⟨wo.heap.size, 2, none⟩ (.slice la (nthC cs j).ps.length lc)).ownsRow (wo.heap.size + 1) 2 1 (.slice ua (nthC cs j).vs.length uc) (nthC cs j).vs.length (numC (nthC cs j).vs)) := own_keep (own_keep HOU.out (Keep.of_below HBK.out []) (by simp)) hkY (fun b hb hm => by
            simp at hm
            have := (own_block HOU.out b hb).1
            omega)
          have HP4 : Hid ((wr.setCell ⟨wo.heap.size, 2, none⟩ (.slice la (nthC cs j).ps.length lc)).ownsRow (wo.heap.size + 1) 52 2 (.slice la (nthC cs j).ps.length lc) (nthC cs j).ps.length (prC (nthC cs j).ps)) := by
            have h1 := HOL.out
            rw [List.take_length] at h1
            exact own_base (own_keep h1 hkY (fun b hb hm => by
              simp at hm
              have := (own_block h1 b hb).1
              have := HYL.out
              omega)) (by have := HYL.out; omega)
          have HJ8 : Hid (j + 1 ≤ 8) := Nat.le_trans hlt H8.out
          clear gYr hkY HOL HOU HPN HG3
          go_wp2_with (at_builtin; refine list_lies_wide _ rfl _ _ 46 rfl w.heap.size 50 i1 _ 3 56 Try.underlying46 HI1.out.1 HI1.out.2.1 HI1.out.2.2.1 HI1.out.2.2.2 rfl (by decide) _ _ _ rfl (HO4.out.alloc _) ⟨wr.heap.size, 0, none⟩ 1 1 [.int .i64 (nthC cs j).kd, .slice ua (nthC cs j).vs.length uc, .slice la (nthC cs j).ps.length lc] rfl rfl ?b1 ?b2 ?b3 ?b4 ?b5 ?b6 _ rfl ?_)
          case b1 => exact World.news_of_block (cs := #[.int .i64 (nthC cs j).kd, .slice ua (nthC cs j).vs.length uc, .slice la (nthC cs j).ps.length lc]) (t := 50) (fr := (0, 0)) ((by simpa using heap_alloc_new (wr.setCell ⟨wo.heap.size, 2, none⟩ (.slice la (nthC cs j).ps.length lc)) (.cells #[.int .i64 (nthC cs j).kd, .slice ua (nthC cs j).vs.length uc, .slice la (nthC cs j).ps.length lc] 50)))
          case b2 => exact one_3 rfl rfl
          case b3 => decide
          case b4 => exact nw_max HJ8.out
          case b5 => exact nw_byt HJ8.out
          case b6 => exact Nat.le_trans (Nat.le_trans HSZ.out HB4.out.size) (by simp)
          intro g6 cp6 w6 hown6 hgr6 hat6 _
          have HK6 : Hid (Keep (Value.ownBlock (.slice oa j oc)).toList wo w6) := by
            have h1 : Keep (Value.ownBlock (.slice oa j oc)).toList wo ((wr.setCell ⟨wo.heap.size, 2, none⟩ (.slice la (nthC cs j).ps.length lc)).alloc (.cells #[.int .i64 (nthC cs j).kd, .slice ua (nthC cs j).vs.length uc, .slice la (nthC cs j).ps.length lc] 50)) := (Keep.of_below HB4.out _).alloc _
            exact h1.grown hgr6 (fun b hb => Or.inl (by simpa using hb))
          have HK46 : Hid (Keep (Value.ownBlock (.slice oa j oc)).toList (wr.setCell ⟨wo.heap.size, 2, none⟩ (.slice la (nthC cs j).ps.length lc)) w6) := ((Keep.refl _ _).alloc _).grown hgr6 (fun b hb => Or.inl (by simpa using hb))
          have hol : ∀ b, (Value.slice oa j oc).ownBlock = some b → w.heap.size ≤ b ∧ b < wo.heap.size := fun b hb => own_block HO.out b hb
          have HV6 : Hid (w6.ownsRow (wo.heap.size + 1) 2 1 (.slice ua (nthC cs j).vs.length uc) (nthC cs j).vs.length (numC (nthC cs j).vs)) := own_keep HV4.out HK46.out (fun b hb hm => by
            have := (own_block HV4.out b hb).1
            have := (hol b (by simpa using hm)).2
            omega)
          have HP6 : Hid (w6.ownsRow (wo.heap.size + 1) 52 2 (.slice la (nthC cs j).ps.length lc) (nthC cs j).ps.length (prC (nthC cs j).ps)) := own_keep HP4.out HK46.out (fun b hb hm => by
            have := (own_block HP4.out b hb).1
            have := (hol b (by simpa using hm)).2
            omega)
          have HFIN : Hid (∃ F', w6.ownsRow w.heap.size 50 3 (.slice (some ⟨g6, 0, none⟩) (j + 1) cp6) (j + 1) (rowC (shpF cs (upd V' j (.slice ua (nthC cs j).vs.length uc)) (upd P' j (.slice la (nthC cs j).ps.length lc))) (j + 1)) ∧ Rows w6 w.heap.size F' (cs.take (j + 1)) (upd V' j (.slice ua (nthC cs j).vs.length uc)) (upd P' j (.slice la (nthC cs j).ps.length lc)) ∧ (∀ b ∈ F', w.heap.size ≤ b ∧ b < w6.heap.size) ∧ Below w.heap.size w w6) := by
            have hs := HSZ.out
            have hlj : (cs.take j).length = j := by simp; omega
            have hrs := HR.out.snoc (c := nthC cs j) (v := .slice ua (nthC cs j).vs.length uc) (p := .slice la (nthC cs j).ps.length lc) HK6.out (fun b hb => ?_) (own_base HV6.out (by omega)) (own_base HP6.out (by omega)) (fun b hb => by have := (own_block HV6.out b hb).1; omega) (fun b hb => by have := (own_block HP6.out b hb).1; omega) HOK.out
            · rw [hlj, ← takeC_snoc hlt] at hrs
              refine ⟨_, by rw [shp_more]; exact hown6, hrs, fun b hb => ?_, HB.out.trans (HK6.out.below hs (fun b hb => (hol b (by simpa using hb)).1))⟩
              simp only [List.mem_append, Option.mem_toList] at hb
              rcases hb with h1 | h1 | h1
              · have := HF.out b h1
                exact ⟨this.1, Nat.lt_of_lt_of_le this.2 HK6.out.size⟩
              · have := own_block HV6.out b h1
                exact ⟨by omega, this.2⟩
              · have := own_block HP6.out b h1
                exact ⟨by omega, this.2⟩
            · by_cases hm : b ∈ (Value.ownBlock (.slice oa j oc)).toList
              · right
                intro i hi
                have hm' : (Value.slice oa j oc).ownBlock = some b := by simpa using hm
                exact ⟨rows_apart HO.out (HR.out.vs i hi) (Ne.symm (Ne.symm i64_shp)) b hm', rows_apart HO.out (HR.out.ps i hi) pair_shp b hm'⟩
              · exact Or.inl hm
          clear hown6 hgr6 hat6 hol e0 e1 e2 HK6 HK46 HV6 HP6 HV4 HP4 HO4 HR HO
          go_wp2_with fail
          go_roundw
          case rel =>
            obtain ⟨F', r1, r2, r3, r4⟩ := HFIN.out
            exact ⟨j + 1, F', _, _, _, _, hlt, by first | rw [HIW.out] | go_num, rfl, r1, r2, r3, r4⟩
          case measure =>
            try rw [HIW.out]
            exact sh_less hlt
    · obtain rfl : j = cs.length := Nat.le_antisymm hj (Nat.not_lt.1 hlt)
      have d1 : decide ((cs.length : Int) < (cs.length : Int)) = false := by simp
      have HFN : Hid (ShO wr w.heap.size F (.slice oa cs.length oc) cs V' P') := by
        have h2 := HR.out
        rw [List.take_length] at h2
        exact ⟨HO.out, h2, H8.out⟩
      clear HO HR
      go_wp2_with fail
      go_ret
      exact ⟨_, V', P', F, rfl, HFN.out, HF.out, HB.out⟩
/-- A state that was copied, as it lies. -/
theorem DtR.made {w w' : World} {B Y X' N : Nat} {G Z F : List Nat} {raw : List Int} {cs : List Co} {C : Pc.Cf} {vr rv cv u v : Value} {V P V' P' : Nat → Value} (h : DtR w B Y G Z raw cs C vr rv cv V P) (hb : Below w.heap.size w w') (hX : w'.heap[X']? = some (.cells (dtC C vr u v) 73 (0, 0))) (hXl : w.heap.size ≤ X')
    (hr : w'.ownsRow w.heap.size 2 1 u raw.length (numC raw)) (hN : ∀ b, u.ownBlock = some b → b < N) (hrow : w'.ownsRow w.heap.size 50 3 v cs.length (rowC (shpF cs V' P') cs.length)) (hrows : Rows w' w.heap.size F cs V' P') (hF : ∀ b ∈ F, N ≤ b ∧ w.heap.size ≤ b ∧ b < w'.heap.size) :
    DtR w' B X' (X' :: (u.ownBlock.toList ++ (v.ownBlock.toList ++ F))) Z raw cs C vr u v V' P' := by
  have hB : B ≤ w.heap.size := Nat.le_of_lt (Nat.lt_of_le_of_lt (h.lo Y h.XF).1 (h.lo Y h.XF).2)
  have hF' : ∀ b ∈ (X' :: (u.ownBlock.toList ++ (v.ownBlock.toList ++ F))), w.heap.size ≤ b ∧ b < w'.heap.size := fun b hb => by
    simp only [List.mem_cons, List.mem_append, Option.mem_toList] at hb
    rcases hb with h1 | h1 | h1 | h1
    · rw [h1]; exact ⟨hXl, heap_lt hX⟩
    · exact own_block hr b h1
    · exact own_block hrow b h1
    · exact (hF b h1).2
  refine ⟨hX, by simp, own_base hr hB, fun b hb => by simp [hb], fun i hi b hb hb2 => ?_, own_base hrow hB, fun b hb => by simp [hb], ⟨fun i hi => own_base (hrows.vs i hi) hB, fun i hi => own_base (hrows.ps i hi) hB, fun i hi b hb => by simp [hrows.iv i hi b hb], fun i hi b hb => by simp [hrows.ip i hi b hb], hrows.vv, hrows.pp, hrows.ok⟩, h.r1, h.r64, h.rs, h.c8, fun b hb => ⟨Nat.le_trans hB (hF' b hb).1, (hF' b hb).2⟩, h.rg.later hb (Nat.le_refl _), h.rz, fun b hz hm => ?_, fun b hz => ⟨(h.zl b hz).1, Nat.lt_of_lt_of_le (h.zl b hz).2 hb.size⟩, h.kc, h.kl⟩
  · have := hN b hb
    have := (hF b (hrows.iv i hi b hb2)).1
    omega
  · have := (h.zl b hz).2
    have := (hF' b hm).1
    omega
set_option maxRecDepth 100000 in
theorem rcopy_any {w : World} {B Y : Nat} {G Z : List Nat} {raw : List Int} {cs : List Co} (h : DtAt w B Y G Z raw cs) : Calls Try.prog 11 #[.pointer (some ⟨Y, 0, none⟩)] w fun e w' => ∃ Y' G', e = .returned (.pointer (some ⟨Y', 0, none⟩)) ∧ DtAt w' B Y' G' Z raw cs ∧ (∀ b ∈ G', w.heap.size ≤ b) ∧ Below w.heap.size w w' := by
  have H1 : Hid (∀ w', Below w.heap.size w w' → Calls Try.prog 27 #[.pointer (some ⟨Y, 0, none⟩)] w' fun e w'' => ∃ u, e = .returned u ∧ w''.ownsRow w'.heap.size 2 1 u raw.length (numC raw) ∧ Below w'.heap.size w' w'') := fun w' hb => rraw_any (h.later hb)
  have H2 : Hid (∀ w', Below w.heap.size w w' → Calls Try.prog 28 #[.pointer (some ⟨Y, 0, none⟩)] w' fun e w'' => ∃ v V P F, e = .returned v ∧ ShO w'' w'.heap.size F v cs V P ∧ (∀ b ∈ F, w'.heap.size ≤ b ∧ b < w''.heap.size) ∧ Below w'.heap.size w' w'') := fun w' hb => rshapes_any (h.later hb)
  obtain ⟨C, vr, rv, cv, V, P, hs, hl⟩ := h
  have HS : Hid (DtR w B Y G Z raw cs C vr rv cv V P ∧ C.R.length = cs.length) := ⟨hs, hl⟩
  obtain ⟨va, vc, hvr, _⟩ := hs.rg
  have hg := hs.hX
  obtain ⟨c0, c1, c2, c3, c4, c5, R⟩ := C
  unfold dtC at hg
  dsimp only at *
  subst hvr
  have k0 : w.cell? ⟨Y, 0, none⟩ = some (.int .i64 c0) := (cell_at hg 0).trans rfl
  have k1 : w.cell? ⟨Y, 1, none⟩ = some (.int .i64 c1) := (cell_at hg 1).trans rfl
  have k2 : w.cell? ⟨Y, 2, none⟩ = some (.int .i64 c2) := (cell_at hg 2).trans rfl
  have k3 : w.cell? ⟨Y, 3, none⟩ = some (.int .i64 c3) := (cell_at hg 3).trans rfl
  have k4 : w.cell? ⟨Y, 4, none⟩ = some (.bool c4) := (cell_at hg 4).trans rfl
  have k5 : w.cell? ⟨Y, 5, none⟩ = some (.int .i64 c5) := (cell_at hg 5).trans rfl
  have k6 : w.cell? ⟨Y, 6, none⟩ = some (.slice va R.length vc) := (cell_at hg 6).trans rfl
  have hYl := heap_lt hg
  have HK : Hid (∀ w', Below w.heap.size w w' → w'.cell? ⟨Y, 0, none⟩ = some (.int .i64 c0) ∧ w'.cell? ⟨Y, 1, none⟩ = some (.int .i64 c1) ∧ w'.cell? ⟨Y, 2, none⟩ = some (.int .i64 c2) ∧ w'.cell? ⟨Y, 3, none⟩ = some (.int .i64 c3) ∧ w'.cell? ⟨Y, 4, none⟩ = some (.bool c4) ∧ w'.cell? ⟨Y, 5, none⟩ = some (.int .i64 c5) ∧ w'.cell? ⟨Y, 6, none⟩ = some (.slice va R.length vc)) := fun w' hb => ⟨cell_later hb (a := ⟨Y, 0, none⟩) hYl k0, cell_later hb (a := ⟨Y, 1, none⟩) hYl k1, cell_later hb (a := ⟨Y, 2, none⟩) hYl k2, cell_later hb (a := ⟨Y, 3, none⟩) hYl k3, cell_later hb (a := ⟨Y, 4, none⟩) hYl k4, cell_later hb (a := ⟨Y, 5, none⟩) hYl k5, cell_later hb (a := ⟨Y, 6, none⟩) hYl k6⟩
  clear hs hl hg
  go_enter Try.func11, Try.ntmps11
  go_wp2_with fail
  go_region_with (first
    | (go_at_call 27; refine (H1.out _ (by first | exact below_drawn (Below.refl _ _) 1 | exact Below.refl _ _)).mono ?_; rintro e w1 ⟨u, rfl, ou, hb1⟩; have hbw : Below w.heap.size w w1 := (by first | exact below_then (below_drawn (Below.refl _ _) 1) hb1 | exact hb1); obtain ⟨l0, l1, l2, l3, l4, l5, l6⟩ := HK.out w1 hbw; have ou1 : w1.ownsRow w.heap.size 2 1 u raw.length (numC raw) := ou; obtain ⟨ua, uc, rfl⟩ := own_slice ou)
    | (go_at_call 28; refine (H2.out _ hbw).mono ?_; rintro e w2 ⟨v, V2, P2, F2, rfl, hso, hF2, hb2⟩; have hbw2 : Below w.heap.size w w2 := below_then hbw hb2; obtain ⟨m0, m1, m2, m3, m4, m5, m6⟩ := HK.out w2 hbw2; have hrow2 := hso.row; obtain ⟨xa, xc, rfl⟩ := own_slice hso.row))
  all_goals
    have HFN : Hid (∃ G', DtAt (w2.alloc (.cells (dtC ⟨c0, c1, c2, c3, c4, c5, R⟩ (.slice va R.length vc) (.slice ua raw.length uc) (.slice xa cs.length xc)) 73)) B w2.heap.size G' Z raw cs ∧ (∀ b ∈ G', w.heap.size ≤ b) ∧ Below w.heap.size w (w2.alloc (.cells (dtC ⟨c0, c1, c2, c3, c4, c5, R⟩ (.slice va R.length vc) (.slice ua raw.length uc) (.slice xa cs.length xc)) 73))) := by
      have hbz : Below w.heap.size w (w2.alloc (.cells (dtC ⟨c0, c1, c2, c3, c4, c5, R⟩ (.slice va R.length vc) (.slice ua raw.length uc) (.slice xa cs.length xc)) 73)) := below_alloc hbw2 _
      have hr2 := own_keep ou1 (Keep.of_below hb2 []) (by simp)
      have hd := DtR.made (N := w1.heap.size) (F := F2) (V' := V2) (P' := P2) HS.out.1 hbz (heap_alloc_new w2 _) hbw2.size (hr2.alloc _) (fun b hb => (own_block ou1 b hb).2) ((own_base hrow2 hbw.size).alloc _) ⟨fun i hi => (own_base (hso.rows.vs i hi) hbw.size).alloc _, fun i hi => (own_base (hso.rows.ps i hi) hbw.size).alloc _, hso.rows.iv, hso.rows.ip, hso.rows.vv, hso.rows.pp, hso.rows.ok⟩ (fun b hb => ⟨(hF2 b hb).1, Nat.le_trans hbw.size (hF2 b hb).1, by have := (hF2 b hb).2; simp; omega⟩)
      refine ⟨_, ⟨_, _, _, _, _, _, hd, HS.out.2⟩, fun b hb => ?_, hbz⟩
      simp only [List.mem_cons, List.mem_append, Option.mem_toList] at hb
      rcases hb with h1 | h1 | h1 | h1
      · rw [h1]; exact hbw2.size
      · exact (own_block ou1 b h1).1
      · exact Nat.le_trans hbw.size (own_block hrow2 b h1).1
      · exact Nat.le_trans hbw.size (hF2 b h1).1
    unfold dtC at HFN
    clear hso hrow2 hF2 hb2 hbw2 ou ou1 hb1 hbw HK H1 H2 HS
    go_wp2_with fail
    go_ret
    obtain ⟨G', hd, hg, hb⟩ := HFN.out
    first | exact ⟨_, rfl, G', hd, hg, hb⟩ | exact ⟨_, G', rfl, hd, hg, hb⟩
end Go.Proofs.Ytgbmnngmfcneaaa.Pl
