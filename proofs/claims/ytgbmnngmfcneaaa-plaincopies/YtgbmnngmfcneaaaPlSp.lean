/- Shapes: the program's. -/
import Derived.Test.YtgbmnngmfcneaaaPlSh
import Derived.Test.YtgbmnngmfcneaaaPlT
import Derived.Test.YtgbmnngmfcneaaaPmW
namespace Go.Proofs.Ytgbmnngmfcneaaa.Pl
open Go.ChangeShapes Go.WideShapes Go.ChangeAt Go.RowKit
attribute [local go_sem ↓] Go.wp_at_zero Go.wp_at_succ

/-- A row of shapes that a call owns. -/
structure ShO (w : World) (B : Nat) (F : List Nat) (v : Value) (cs : List Co) (V P : Nat → Value) : Prop where
  row : w.ownsRow B 50 3 v cs.length (rowC (shpF cs V P) cs.length)
  rows : Rows w B F cs V P
  c8 : cs.length ≤ 8
theorem made_shps (n : Nat) : (madeCells (Value.cells (.agg #[.int .i64 0, .slice none 0 0, .slice none 0 0])) (n * 3)).toList = rowC (fun _ => [.int .i64 0, .slice none 0 0, .slice none 0 0]) n := by
  have hl : (rowC (fun _ => [.int .i64 0, .slice none 0 0, .slice none 0 0]) n).length = n * 3 := rowC_len (fun _ => rfl) n
  apply List.ext_getElem?
  intro i
  by_cases h : i < n * 3
  · have e : i = (i / 3) * 3 + i % 3 := by omega
    have h1 : (rowC (fun _ => [.int .i64 0, .slice none 0 0, .slice none 0 0]) n)[i]? = ([.int .i64 0, .slice none 0 0, .slice none 0 0] : List Value)[i % 3]? := by
      conv => lhs; rw [e]
      exact rowC_get (k := 3) (f := fun _ => [.int .i64 0, .slice none 0 0, .slice none 0 0]) (fun _ => rfl) (by omega) (by omega)
    rw [h1]
    simp [madeCells, Value.cells, h]
    rcases (show i % 3 = 0 ∨ i % 3 = 1 ∨ i % 3 = 2 by omega) with h | h | h <;> rw [h] <;> rfl
  · rw [List.getElem?_eq_none (by simp [size_madeCells]; omega), List.getElem?_eq_none (by rw [hl]; omega)]
/-- Shapes while they are laid. -/
def mixF (cs : List Co) (V P : Nat → Value) (j i : Nat) : List Value := if i < j then shpF cs V P i else [.int .i64 0, .slice none 0 0, .slice none 0 0]
theorem mixF_len (cs : List Co) (V P : Nat → Value) (j i : Nat) : (mixF cs V P j i).length = 3 := by unfold mixF; split <;> rfl
theorem mix_set {cs : List Co} {V P : Nat → Value} {j n : Nat} (hj : j < n) (v p : Value) : (((rowC (mixF cs V P j) n).set (j * 3) (.int .i64 (nthC cs j).kd)).set (j * 3 + 1) v).set (j * 3 + 2) p = rowC (mixF cs (upd V j v) (upd P j p) (j + 1)) n := by
  have e0 := rowC_set (f := mixF cs V P j) (k := 3) (mixF_len cs V P j) hj (j := 0) (by omega) (.int .i64 (nthC cs j).kd)
  rw [Nat.add_zero] at e0
  rw [e0, rowC_set (k := 3) (fun x => by split <;> simp [mixF_len]) hj (by omega), rowC_set (k := 3) (fun x => by split <;> (try split) <;> simp [mixF_len]) hj (by omega)]
  apply rowC_congr
  intro x hx
  by_cases e : x = j
  · subst e
    simp only [if_pos]
    unfold mixF shpF
    rw [if_neg (Nat.lt_irrefl _), if_pos (Nat.lt_succ_self _), upd_at, upd_at]
    rfl
  · rw [if_neg e, if_neg e, if_neg e]
    unfold mixF shpF
    rw [upd_ne _ _ e, upd_ne _ _ e]
    by_cases h : x < j
    · rw [if_pos h, if_pos (by omega)]
    · rw [if_neg h, if_neg (by omega)]
theorem mix_full {cs : List Co} (V P : Nat → Value) : rowC (mixF cs V P cs.length) cs.length = rowC (shpF cs V P) cs.length := rowC_congr (fun i hi => by unfold mixF; rw [if_pos hi])
theorem nthC_take {cs : List Co} {i j : Nat} (h : i < j) : nthC (cs.take j) i = nthC cs i := by unfold nthC; simp [List.getD_eq_getElem?_getD, h]
theorem takeC_snoc {cs : List Co} {j : Nat} (h : j < cs.length) : cs.take (j + 1) = cs.take j ++ [nthC cs j] := by
  rw [List.take_add_one, at_nthC h]
  rfl
set_option maxRecDepth 100000 in
set_option maxHeartbeats 4000000 in
theorem shapes_any {w : World} {B X : Nat} {F : List Nat} {raw : List Int} {cs : List Co} (h : StAt w B X F raw cs) : Calls Try.prog 18 #[.pointer (some ⟨X, 0, none⟩)] w fun e w' => ∃ v V P G, e = .returned v ∧ ShO w' w.heap.size G v cs V P ∧ Below w.heap.size w w' := by
  have HST : Hid (StAt w B X F raw cs) := h
  obtain ⟨rv, cv, V, P, hs⟩ := h
  obtain ⟨h0, h1⟩ := hs.cells
  have HS : Hid (∀ w', Below w.heap.size w w' → StR w' B X F raw cs rv cv V P) := fun w' hb => hs.keep (G := []) (Keep.of_below hb []) (by simp)
  obtain ⟨a, cap, rfl⟩ := own_slice hs.cr
  have hc8 := hs.c8
  obtain ⟨i1, hi1, hy0, hy1, hy2⟩ := info_parts info_shp
  have hmk := fun ww : World => make_row ww cs.length 3 56 Try.underlying46 hi1 hy0 hy1 hy2 (by omega) (by omega)
  have HMS : Hid ((madeCells (Value.cells (.agg #[.int .i64 0, .slice none 0 0, .slice none 0 0])) (cs.length * 3)).toList = rowC (fun _ => [.int .i64 0, .slice none 0 0, .slice none 0 0]) cs.length) := made_shps _
  have HMZ : Hid ((madeCells (Value.cells (.agg #[.int .i64 0, .slice none 0 0, .slice none 0 0])) (cs.length * 3)).size = cs.length * 3) := by simp [Hid, size_madeCells]
  generalize madeCells (Value.cells (.agg #[.int .i64 0, .slice none 0 0, .slice none 0 0])) (cs.length * 3) = cur at *
  have H8 : Hid (cs.length ≤ 8) := hc8
  clear hi1 hy0 hy1 hy2 h0 hc8
  have hXl := heap_lt hs.hX
  clear hs
  go_enter Try.func18, Try.ntmps18
  go_wp2_with fail
  have hO0 : (w.alloc (.cells cur 50)).ownsRow w.heap.size 50 3 (.slice (some ⟨w.heap.size, 0, none⟩) cs.length cs.length) cs.length (rowC (mixF cs nils nils 0) cs.length) := by
    have e : rowC (mixF cs nils nils 0) cs.length = rowC (fun _ => [.int .i64 0, .slice none 0 0, .slice none 0 0]) cs.length := rowC_congr (fun i _ => by unfold mixF; rw [if_neg (by omega)])
    have h8 := H8.out
    refine ⟨rowC_len (mixF_len _ _ _ _) _, Or.inr ⟨w.heap.size, cs.length, cur, rfl, Nat.le_refl _, heap_alloc_new _ _, Nat.le_refl _, by unfold maxLen; omega, HMZ.out, ?_⟩⟩
    rw [e, ← HMS.out]
    exact List.take_of_length_le (by simp [HMZ.out])
  have hR0 : Rows (w.alloc (.cells cur 50)) w.heap.size [] (cs.take 0) nils nils := ⟨fun i hi => by simp at hi, fun i hi => by simp at hi, fun i hi => by simp at hi, fun i hi => by simp at hi, fun i j hi => by simp at hi, fun i j hi => by simp at hi, fun i hi => by simp at hi⟩
  clear hmk
  go_loopw [19] (fun iv wr => ∃ (j : Nat) (G : List Nat) (V' P' : Nat → Value), j ≤ cs.length ∧ iv = .int .i64 (j : Int) ∧ Hid (wr.ownsRow w.heap.size 50 3 (.slice (some ⟨w.heap.size, 0, none⟩) cs.length cs.length) cs.length (rowC (mixF cs V' P' j) cs.length)) ∧ Hid (Rows wr w.heap.size G (cs.take j) V' P') ∧ Hid (∀ b ∈ G, w.heap.size < b) ∧ Below w.heap.size w wr) (fun iv _ => cs.length - (intOf iv).toNat)
  case atStart => exact ⟨0, [], nils, nils, Nat.zero_le _, rfl, hO0, hR0, (by simp [Hid]), below_a1 _ _⟩
  case round =>
    obtain ⟨j, G, V', P', hj, rfl, HO, HR, HG, hbel⟩ := hrel
    have HB : Hid (Below w.heap.size w wr) := hbel
    clear hbel hO0 hR0
    by_cases hlt : j < cs.length
    · have d1 : decide ((j : Int) < (cs.length : Int)) = true := by simpa using hlt
      have HIW : Hid (wrap64 ((j : Int) + 1) = ((j + 1 : Nat) : Int)) := sh_wrap hlt (Nat.le_trans H8.out (by decide))
      obtain ⟨g, cap2, L, hcv, hcol, -⟩ := (HS.out wr HB.out).col hlt
      injection hcv with e1 e2 e3
      subst e1
      obtain ⟨q0, q1, q2, q3⟩ := hcol.cells
      have hgl := heap_lt hcol.hg
      have HOK : Hid (CoOk (nthC cs j)) := hcol.ok
      have HSV : Hid (∀ w', Below wr.heap.size wr w' → Src w' 1 (V j) (nthC cs j).vs.length (numC (nthC cs j).vs)) := fun w' hb => Src.of_own (own_keep hcol.hv (Keep.of_below hb []) (by simp)) numC_one
      have HSP : Hid (∀ w', Below wr.heap.size wr w' → Src w' 2 (P j) (nthC cs j).ps.length (prC (nthC cs j).ps)) := fun w' hb => Src.of_own (own_keep hcol.hp (Keep.of_below hb []) (by simp)) prC_one
      have HCI : Hid (∀ w', Below wr.heap.size wr w' → Calls Try.prog 24 #[V j] w' fun e w'' => ∃ u, e = .returned u ∧ w''.ownsRow w'.heap.size 2 1 u (nthC cs j).vs.length (numC (nthC cs j).vs) ∧ Below w'.heap.size w' w'') := fun w' hb => copi_any (HSV.out w' hb) (by have := HOK.out.vm; have := HOK.out.c16; omega)
      have HCP : Hid (∀ w', Below wr.heap.size wr w' → Calls Try.prog 26 #[P j] w' fun e w'' => ∃ u, e = .returned u ∧ w''.ownsRow w'.heap.size 52 2 u (nthC cs j).ps.length (prC (nthC cs j).ps) ∧ Below w'.heap.size w' w'') := fun w' hb => copp_any (HSP.out w' hb) (by have := HOK.out.pm; have := HOK.out.c16; omega)
      have HCJ : Hid (nthC cs j = nthC cs j) := rfl
      obtain ⟨va, vc, hV⟩ := own_slice hcol.hv
      obtain ⟨pa, pc, hP⟩ := own_slice hcol.hp
      have hsl : w.heap.size < wr.heap.size := (own_block HO.out _ rfl).2
      have HSL : Hid (w.heap.size < wr.heap.size) := hsl
      rw [hV] at q2 HCI
      rw [hP] at q3 HCP
      clear hcol hV hP HSV HSP e2 e3 HCJ
      go_wp2_with fail
      have gY := heap_alloc_new wr (.cells #[.int .i64 (nthC cs j).kd, .int .i64 (nthC cs j).cap, .slice va (nthC cs j).vs.length vc, .slice pa (nthC cs j).ps.length pc] 70)
      have hbz : Below wr.heap.size wr (wr.alloc (.cells #[.int .i64 (nthC cs j).kd, .int .i64 (nthC cs j).cap, .slice va (nthC cs j).vs.length vc, .slice pa (nthC cs j).ps.length pc] 70)) := below_a1 _ _
      generalize (wr.alloc (.cells #[.int .i64 (nthC cs j).kd, .int .i64 (nthC cs j).cap, .slice va (nthC cs j).vs.length vc, .slice pa (nthC cs j).ps.length pc] 70)) = wz at *
      have HGY : Hid (wz.heap[wr.heap.size]? = some (.cells #[.int .i64 (nthC cs j).kd, .int .i64 (nthC cs j).cap, .slice va (nthC cs j).vs.length vc, .slice pa (nthC cs j).ps.length pc] 70 (0, 0))) := gY
      have HBZ : Hid (Below wr.heap.size wr wz) := hbz
      have y0 : wz.cell? ⟨wr.heap.size, 0, none⟩ = some (.int .i64 (nthC cs j).kd) := (cell_at gY 0).trans rfl
      have y2 : wz.cell? ⟨wr.heap.size, 2, none⟩ = some (.slice va (nthC cs j).vs.length vc) := (cell_at gY 2).trans rfl
      have y3 : wz.cell? ⟨wr.heap.size, 3, none⟩ = some (.slice pa (nthC cs j).ps.length pc) := (cell_at gY 3).trans rfl
      have hYl := heap_lt gY
      have hjI : (j : Int) < (cs.length : Int) := by omega
      have HDN : Hid (∀ (w4 : World) (u p : Value), Below wz.heap.size wz w4 → (∃ B1, wr.heap.size ≤ B1 ∧ w4.ownsRow B1 2 1 u (nthC cs j).vs.length (numC (nthC cs j).vs)) → (∃ B1, wr.heap.size ≤ B1 ∧ w4.ownsRow B1 52 2 p (nthC cs j).ps.length (prC (nthC cs j).ps)) →
          (∃ z0, w4.cell? ⟨w.heap.size, j * 3, none⟩ = some z0) ∧ (∃ z0, w4.cell? ⟨w.heap.size, j * 3 + 1, none⟩ = some z0) ∧ (∃ z0, w4.cell? ⟨w.heap.size, j * 3 + 2, none⟩ = some z0) ∧ w4.frozen? ⟨w.heap.size, j * 3, none⟩ = false ∧ w4.frozen? ⟨w.heap.size, j * 3 + 1, none⟩ = false ∧ w4.frozen? ⟨w.heap.size, j * 3 + 2, none⟩ = false ∧
          ∃ G', (((w4.setCell ⟨w.heap.size, j * 3, none⟩ (.int .i64 (nthC cs j).kd)).setCell ⟨w.heap.size, j * 3 + 1, none⟩ u).setCell ⟨w.heap.size, j * 3 + 2, none⟩ p).ownsRow w.heap.size 50 3 (.slice (some ⟨w.heap.size, 0, none⟩) cs.length cs.length) cs.length (rowC (mixF cs (upd V' j u) (upd P' j p) (j + 1)) cs.length) ∧ Rows (((w4.setCell ⟨w.heap.size, j * 3, none⟩ (.int .i64 (nthC cs j).kd)).setCell ⟨w.heap.size, j * 3 + 1, none⟩ u).setCell ⟨w.heap.size, j * 3 + 2, none⟩ p) w.heap.size G' (cs.take (j + 1)) (upd V' j u) (upd P' j p) ∧ (∀ b ∈ G', w.heap.size < b) ∧ Below w.heap.size w (((w4.setCell ⟨w.heap.size, j * 3, none⟩ (.int .i64 (nthC cs j).kd)).setCell ⟨w.heap.size, j * 3 + 1, none⟩ u).setCell ⟨w.heap.size, j * 3 + 2, none⟩ p)) := fun w4 u p hb hu hp => by
        obtain ⟨B1, hB1, ou⟩ := hu
        obtain ⟨B2, hB2, op⟩ := hp
        have hb4 : Below wr.heap.size wr w4 := below_then HBZ.out hb
        have o4 := own_keep HO.out (Keep.of_below hb4 []) (by simp)
        have s0 := own_some o4 (j * 3) (by omega)
        have s1 := own_some o4 (j * 3 + 1) (by omega)
        have s2 := own_some o4 (j * 3 + 2) (by omega)
        refine ⟨s0.1, s1.1, s2.1, s0.2, s1.2, s2.2, G ++ (u.ownBlock.toList ++ p.ownBlock.toList), ?_, ?_, ?_, ?_⟩
        · rw [← mix_set hlt u p]
          exact own_set2 (own_set2 (own_set2 o4 _ _) _ _) _ _
        · have hk : Keep [w.heap.size] wr (((w4.setCell ⟨w.heap.size, j * 3, none⟩ (.int .i64 (nthC cs j).kd)).setCell ⟨w.heap.size, j * 3 + 1, none⟩ u).setCell ⟨w.heap.size, j * 3 + 2, none⟩ p) := Keep.setCell (Keep.setCell (Keep.setCell (Keep.of_below hb4 _) _ _ (Or.inl (by simp))) _ _ (Or.inl (by simp))) _ _ (Or.inl (by simp))
          have hk4 : Keep [w.heap.size] w4 (((w4.setCell ⟨w.heap.size, j * 3, none⟩ (.int .i64 (nthC cs j).kd)).setCell ⟨w.heap.size, j * 3 + 1, none⟩ u).setCell ⟨w.heap.size, j * 3 + 2, none⟩ p) := Keep.setCell (Keep.setCell (Keep.setCell (Keep.refl _ _) _ _ (Or.inl (by simp))) _ _ (Or.inl (by simp))) _ _ (Or.inl (by simp))
          have hs := HSL.out
          have fu : ∀ b, u.ownBlock = some b → wr.heap.size ≤ b := fun b hb => Nat.le_trans hB1 (own_block ou b hb).1
          have fp : ∀ b, p.ownBlock = some b → wr.heap.size ≤ b := fun b hb => Nat.le_trans hB2 (own_block op b hb).1
          have := HR.out.snoc (c := nthC cs j) (v := u) (p := p) hk (fun b hb => Or.inl (by have := HG.out b hb; simp; omega)) (own_base (own_keep ou hk4 (fun b hb => by have := fu b hb; simp; omega)) (by omega)) (own_base (own_keep op hk4 (fun b hb => by have := fp b hb; simp; omega)) (by omega)) fu fp HOK.out
          rw [takeC_snoc hlt]
          have hlj : (cs.take j).length = j := by simp; omega
          rw [hlj] at this
          exact this
        · intro b hb
          simp only [List.mem_append, Option.mem_toList] at hb
          have hs := HSL.out
          rcases hb with h1 | h1 | h1
          · exact HG.out b h1
          · have := (own_block ou b h1).1; omega
          · have := (own_block op b h1).1; omega
        · have hk : Keep [w.heap.size] wr (((w4.setCell ⟨w.heap.size, j * 3, none⟩ (.int .i64 (nthC cs j).kd)).setCell ⟨w.heap.size, j * 3 + 1, none⟩ u).setCell ⟨w.heap.size, j * 3 + 2, none⟩ p) := Keep.setCell (Keep.setCell (Keep.setCell (Keep.of_below hb4 _) _ _ (Or.inl (by simp))) _ _ (Or.inl (by simp))) _ _ (Or.inl (by simp))
          exact HB.out.trans (hk.below HB.out.size (fun b hb => by simp at hb; omega))
      generalize (nthC cs j).kd = kd at *
      generalize (nthC cs j).cap = cap' at *
      clear gY hbz q0 q1 q2 q3 hgl HS HST h1
      go_region_with (first
        | (go_at_call 24; refine (HCI.out _ (by first | exact below_drawn HBZ.out 1 | exact HBZ.out)).mono ?_; rintro e w3 ⟨u, rfl, ou3, hb3⟩; have hb3' : Below wz.heap.size wz w3 := (by first | exact below_then (below_drawn (Below.refl _ _) 1) hb3 | exact hb3); have yy0 : w3.cell? ⟨wr.heap.size, 0, none⟩ = some (.int .i64 kd) := cell_later hb3' (a := ⟨wr.heap.size, 0, none⟩) hYl y0; have yy3 : w3.cell? ⟨wr.heap.size, 3, none⟩ = some (.slice pa (nthC cs j).ps.length pc) := cell_later hb3' (a := ⟨wr.heap.size, 3, none⟩) hYl y3; obtain ⟨ua, uc, rfl⟩ := own_slice ou3)
        | (go_at_call 26; refine (HCP.out _ (below_then HBZ.out hb3')).mono ?_; rintro e w4 ⟨p4, rfl, op4, hb4⟩; have hb4' : Below wz.heap.size wz w4 := below_then hb3' hb4; have yz0 : w4.cell? ⟨wr.heap.size, 0, none⟩ = some (.int .i64 kd) := cell_later hb4' (a := ⟨wr.heap.size, 0, none⟩) hYl y0; obtain ⟨pa4, pc4, rfl⟩ := own_slice op4; have hdn := HDN.out w4 _ _ hb4' ⟨wr.heap.size, Nat.le_refl _, own_base (own_keep ou3 (Keep.of_below hb4 []) (by simp)) (by first | exact HBZ.out.size | simpa using HBZ.out.size)⟩ ⟨_, (Nat.le_trans HBZ.out.size hb3'.size), op4⟩; obtain ⟨⟨z0, c0⟩, ⟨z1, c1⟩, ⟨z2, c2⟩, f0, f1, f2, hfin⟩ := hdn; have HFIN := (show Hid _ from hfin)))
      all_goals
        clear hfin c0 c1 c2 f0 f1 f2 yz0 yy0 yy3 hb4 hb4' hb3 hb3' ou3 op4 HDN HCI HCP
        go_wp2_with fail
        go_roundw
        case rel =>
          obtain ⟨G', r1, r2, r3, r4⟩ := HFIN.out
          exact ⟨j + 1, G', _, _, hlt, by first | rw [HIW.out] | go_num, r1, r2, r3, r4⟩
        case measure =>
          try rw [HIW.out]
          exact sh_less hlt
    · obtain rfl : j = cs.length := Nat.le_antisymm hj (Nat.not_lt.1 hlt)
      have d1 : decide ((cs.length : Int) < (cs.length : Int)) = false := by simp
      have HF : Hid (ShO wr w.heap.size G (.slice (some ⟨w.heap.size, 0, none⟩) cs.length cs.length) cs V' P') := by
        have h1 := HO.out
        have h2 := HR.out
        rw [mix_full] at h1
        rw [List.take_length] at h2
        exact ⟨h1, h2, H8.out⟩
      clear HO HR
      go_wp2_with fail
      go_ret
      exact ⟨_, V', P', G, rfl, HF.out, HB.out⟩
end Go.Proofs.Ytgbmnngmfcneaaa.Pl
