/- Copy: the program's. -/
import Derived.Test.YtgbmnngmfcneaaaPlSp
namespace Go.Proofs.Ytgbmnngmfcneaaa.Pl
open Go.ChangeShapes Go.WideShapes Go.ChangeAt Go.RowKit
attribute [local go_sem ↓] Go.wp_at_zero Go.wp_at_succ

/-- Collections while their rows are copied. -/
def mixC (cs : List Co) (V P V' P' : Nat → Value) (j i : Nat) : List Value := if i < j then colF cs V' P' i else colF cs V P i
theorem mixC_len (cs : List Co) (V P V' P' : Nat → Value) (j i : Nat) : (mixC cs V P V' P' j i).length = 4 := by unfold mixC; split <;> rfl
theorem mixC_set {cs : List Co} {V P V' P' : Nat → Value} {j n : Nat} (hj : j < n) (v p : Value) : ((rowC (mixC cs V P V' P' j) n).set (j * 4 + 2) v).set (j * 4 + 3) p = rowC (mixC cs V P (upd V' j v) (upd P' j p) (j + 1)) n := by
  rw [rowC_set (k := 4) (mixC_len cs V P V' P' j) hj (by omega), rowC_set (k := 4) (fun x => by split <;> simp [mixC_len]) hj (by omega)]
  apply rowC_congr
  intro x hx
  by_cases e : x = j
  · subst e
    simp only [if_pos]
    unfold mixC colF
    rw [if_neg (Nat.lt_irrefl _), if_pos (Nat.lt_succ_self _), upd_at, upd_at]
    rfl
  · rw [if_neg e, if_neg e]
    unfold mixC colF
    rw [upd_ne _ _ e, upd_ne _ _ e]
    by_cases h : x < j
    · rw [if_pos h, if_pos (by omega)]
    · rw [if_neg h, if_neg (by omega)]
theorem mixC_full {cs : List Co} (V P V' P' : Nat → Value) : rowC (mixC cs V P V' P' cs.length) cs.length = rowC (colF cs V' P') cs.length := rowC_congr (fun i hi => by unfold mixC; rw [if_pos hi])
theorem mixC_zero {cs : List Co} (V P V' P' : Nat → Value) : rowC (mixC cs V P V' P' 0) cs.length = rowC (colF cs V P) cs.length := rowC_congr (fun i _ => by unfold mixC; rw [if_neg (by omega)])
theorem colC_one {w : World} {B : Nat} {F : List Nat} {cs : List Co} {V P : Nat → Value} (hr : Rows w B F cs V P) : ∀ u ∈ rowC (colF cs V P) cs.length, u.oneCell' = true := by
  intro u hu
  unfold rowC at hu
  rw [List.mem_flatMap] at hu
  obtain ⟨i, hi, hm⟩ := hu
  rw [List.mem_range] at hi
  unfold colF at hm
  simp only [List.mem_cons, List.not_mem_nil, or_false] at hm
  obtain ⟨a1, b1, e1⟩ := own_slice (hr.vs i hi)
  obtain ⟨a2, b2, e2⟩ := own_slice (hr.ps i hi)
  rcases hm with rfl | rfl | rfl | rfl
  · rfl
  · rfl
  · rw [e1]; rfl
  · rw [e2]; rfl
set_option maxRecDepth 100000 in
set_option maxHeartbeats 4000000 in
theorem copy_any {w : World} {B X : Nat} {F : List Nat} {raw : List Int} {cs : List Co} (h : StAt w B X F raw cs) : Calls Try.prog 10 #[.pointer (some ⟨X, 0, none⟩)] w fun e w' => ∃ X' F', e = .returned (.pointer (some ⟨X', 0, none⟩)) ∧ StAt w' w.heap.size X' F' raw cs ∧ Below w.heap.size w w' := by
  obtain ⟨rv, cv, V, P, hs⟩ := h
  obtain ⟨h0, h1⟩ := hs.cells
  have HS : Hid (∀ w', Below w.heap.size w w' → StR w' B X F raw cs rv cv V P) := fun w' hb => hs.keep (G := []) (Keep.of_below hb []) (by simp)
  have hXl := heap_lt hs.hX
  have HNU : Hid (raw.length ≤ 64 ∧ cs.length ≤ 8 ∧ 1 ≤ raw.length ∧ ∀ x ∈ raw, Sx x) := ⟨hs.r64, hs.c8, hs.r1, hs.rs⟩
  have HC1 : Hid (∀ w', Below w.heap.size w w' → Calls Try.prog 24 #[rv] w' fun e w'' => ∃ u, e = .returned u ∧ w''.ownsRow w'.heap.size 2 1 u raw.length (numC raw) ∧ Below w'.heap.size w' w'') := fun w' hb => copi_any (Src.of_own (HS.out w' hb).rr numC_one) (by have := HNU.out.1; omega)
  have HC2 : Hid (∀ w', Below w.heap.size w w' → Calls Try.prog 25 #[cv] w' fun e w'' => ∃ u, e = .returned u ∧ w''.ownsRow w'.heap.size 70 4 u cs.length (rowC (colF cs V P) cs.length) ∧ Below w'.heap.size w' w'') := fun w' hb => copc_any (Src.of_own (HS.out w' hb).cr (colC_one (HS.out w' hb).rows)) (by have := HNU.out.2.1; omega)
  have HK : Hid (∀ w', Below w.heap.size w w' → w'.cell? ⟨X, 0, none⟩ = some rv ∧ w'.cell? ⟨X, 1, none⟩ = some cv) := fun w' hb => (HS.out w' hb).cells
  obtain ⟨a, cap, rfl⟩ := own_slice hs.rr
  obtain ⟨a2, cap2, rfl⟩ := own_slice hs.cr
  clear hs
  go_enter Try.func10, Try.ntmps10
  go_wp2_with fail
  go_cut [3] (fun ov wx => ∃ (w2 : World) (N : Nat) (ua : Option Addr) (uc : Nat) (xa : Option Addr) (xc : Nat), ov = .pointer (some ⟨w2.heap.size, 0, none⟩) ∧ wx = w2.alloc (.cells #[.slice ua raw.length uc, .slice xa cs.length xc] 67) ∧ w.heap.size ≤ N ∧ w2.ownsRow w.heap.size 2 1 (.slice ua raw.length uc) raw.length (numC raw) ∧ (∀ b, (Value.slice ua raw.length uc).ownBlock = some b → b < N) ∧ w2.ownsRow N 70 4 (.slice xa cs.length xc) cs.length (rowC (colF cs V P) cs.length) ∧ Below w.heap.size w w2)
  case first =>
    go_region_with (first
      | (go_at_call 24; refine (HC1.out _ (by first | exact below_drawn (Below.refl _ _) 1 | exact Below.refl _ _)).mono ?_; rintro e w1 ⟨u, rfl, ou, hb1⟩; have hbw : Below w.heap.size w w1 := (by first | exact below_then (below_drawn (Below.refl _ _) 1) hb1 | exact hb1); obtain ⟨l0, l1⟩ := HK.out w1 hbw; have ou1 : w1.ownsRow w.heap.size 2 1 u raw.length (numC raw) := ou; obtain ⟨ua, uc, rfl⟩ := own_slice ou)
      | (go_at_call 25; refine (HC2.out _ hbw).mono ?_; rintro e w2 ⟨x, rfl, ox, hb2⟩; have hbw2 : Below w.heap.size w w2 := below_then hbw hb2; have ox1 : w2.ownsRow w1.heap.size 70 4 x cs.length (rowC (colF cs V P) cs.length) := ox; obtain ⟨xa, xc, rfl⟩ := own_slice ox))
    all_goals
      have HG : Hid (w.heap.size ≤ w1.heap.size ∧ w2.ownsRow w.heap.size 2 1 (.slice ua raw.length uc) raw.length (numC raw) ∧ (∀ b, (Value.slice ua raw.length uc).ownBlock = some b → b < w1.heap.size) ∧ w2.ownsRow w1.heap.size 70 4 (.slice xa cs.length xc) cs.length (rowC (colF cs V P) cs.length) ∧ Below w.heap.size w w2) := ⟨hbw.size, own_keep ou1 (Keep.of_below hb2 []) (by simp), fun b hb => (own_block ou1 b hb).2, ox1, hbw2⟩
      clear ou ou1 ox ox1 hb1 hb2 hbw hbw2 l0 l1
      go_wp2_with fail
      go_meet
      exact ⟨w2, w1.heap.size, ua, uc, xa, xc, rfl, rfl, HG.out⟩
  case rest =>
    obtain ⟨w2, N, ua, uc, xa, xc, rfl, hwc, hN, ou, hub, ox, hb2⟩ := hcut
    have gX' := heap_alloc_new w2 (.cells #[.slice ua raw.length uc, .slice xa cs.length xc] 67)
    rw [← hwc] at gX'
    have ouc : wc.ownsRow w.heap.size 2 1 (.slice ua raw.length uc) raw.length (numC raw) := by rw [hwc]; exact ou.alloc _
    have oxc : wc.ownsRow N 70 4 (.slice xa cs.length xc) cs.length (rowC (colF cs V P) cs.length) := by rw [hwc]; exact ox.alloc _
    have hbc : Below w.heap.size w wc := by rw [hwc]; exact below_alloc hb2 _
    have hX2 : w.heap.size ≤ w2.heap.size := hb2.size
    have hXb : ∀ b, (Value.slice xa cs.length xc).ownBlock = some b → b < w2.heap.size := fun b hb => (own_block ox b hb).2
    have hUb : ∀ b, (Value.slice ua raw.length uc).ownBlock = some b → b < w2.heap.size := fun b hb => (own_block ou b hb).2
    have HBK : Hid ((∀ b, (Value.slice xa cs.length xc).ownBlock = some b → N ≤ b ∧ b < w2.heap.size) ∧ (∀ b, (Value.slice ua raw.length uc).ownBlock = some b → w.heap.size ≤ b ∧ b < N) ∧ w.heap.size ≤ N ∧ w.heap.size ≤ w2.heap.size) := ⟨fun b hb => own_block ox b hb, fun b hb => ⟨(own_block ou b hb).1, hub b hb⟩, hN, hX2⟩
    have HGX : Hid (wc.heap[w2.heap.size]? = some (.cells #[.slice ua raw.length uc, .slice xa cs.length xc] 67 (0, 0))) := gX'
    have HU0 : Hid (wc.ownsRow w.heap.size 2 1 (.slice ua raw.length uc) raw.length (numC raw)) := ouc
    have HO0 : Hid (wc.ownsRow N 70 4 (.slice xa cs.length xc) cs.length (rowC (mixC cs V P nils nils 0) cs.length)) := by rw [mixC_zero]; exact oxc
    have HB0 : Hid (Below w.heap.size w wc) := hbc
    have hR0 : Rows wc w.heap.size [] (cs.take 0) nils nils := ⟨fun i hi => by simp at hi, fun i hi => by simp at hi, fun i hi => by simp at hi, fun i hi => by simp at hi, fun i j hi => by simp at hi, fun i j hi => by simp at hi, fun i hi => by simp at hi⟩
    obtain ⟨m0, m1⟩ := HK.out wc hbc
    obtain ⟨X', hX'⟩ : ∃ X', X' = w2.heap.size := ⟨_, rfl⟩
    rw [← hX'] at HBK HGX ⊢
    have HS0 : Hid (X' < wc.heap.size) := heap_lt HGX.out
    clear gX' ouc oxc hbc hX2 hXb hUb ou ox hb2 hub hwc hX' hN
    go_wp2_with fail
    go_loopw [25] (fun iv wr => ∃ (j : Nat) (G : List Nat) (V' P' : Nat → Value), j ≤ cs.length ∧ iv = .int .i64 (j : Int) ∧ Hid (wr.heap[X']? = some (.cells #[.slice ua raw.length uc, .slice xa cs.length xc] 67 (0, 0)) ∧ wr.ownsRow w.heap.size 2 1 (.slice ua raw.length uc) raw.length (numC raw)) ∧ Hid (wr.ownsRow N 70 4 (.slice xa cs.length xc) cs.length (rowC (mixC cs V P V' P' j) cs.length)) ∧ Hid (Rows wr w.heap.size G (cs.take j) V' P') ∧ Hid (∀ b ∈ G, X' < b ∧ b < wr.heap.size) ∧ Below w.heap.size w wr) (fun iv _ => cs.length - (intOf iv).toNat)
    case atStart => exact ⟨0, [], nils, nils, Nat.zero_le _, rfl, ⟨HGX.out, HU0.out⟩, HO0.out, hR0, (by simp [Hid]), HB0.out⟩
    case round =>
      obtain ⟨j, G, V', P', hj, rfl, HXU, HO, HR, HG, hbel⟩ := hrel
      have HB : Hid (Below w.heap.size w wr) := hbel
      clear hbel hR0
      by_cases hlt : j < cs.length
      · have d1 : decide ((j : Int) < (cs.length : Int)) = true := by simpa using hlt
        have HIW : Hid (wrap64 ((j : Int) + 1) = ((j + 1 : Nat) : Int)) := sh_wrap hlt (Nat.le_trans HNU.out.2.1 (by decide))
        obtain ⟨g, cap3, L, hcv, hcol, -⟩ := (HS.out wr HB.out).col hlt
        injection hcv with e1 e2 e3
        subst e1
        obtain ⟨q0, q1, q2, q3⟩ := hcol.cells
        have HOK : Hid (CoOk (nthC cs j)) := hcol.ok
        have HSV : Hid (∀ w', Below wr.heap.size wr w' → Src w' 1 (V j) (nthC cs j).vs.length (numC (nthC cs j).vs)) := fun w' hb => Src.of_own (own_keep hcol.hv (Keep.of_below hb []) (by simp)) numC_one
        have HSP : Hid (∀ w', Below wr.heap.size wr w' → Src w' 2 (P j) (nthC cs j).ps.length (prC (nthC cs j).ps)) := fun w' hb => Src.of_own (own_keep hcol.hp (Keep.of_below hb []) (by simp)) prC_one
        have HCI : Hid (∀ w', Below wr.heap.size wr w' → Calls Try.prog 24 #[V j] w' fun e w'' => ∃ u, e = .returned u ∧ w''.ownsRow w'.heap.size 2 1 u (nthC cs j).vs.length (numC (nthC cs j).vs) ∧ Below w'.heap.size w' w'') := fun w' hb => copi_any (HSV.out w' hb) (by have := HOK.out.vm; have := HOK.out.c16; omega)
        have HCP : Hid (∀ w', Below wr.heap.size wr w' → Calls Try.prog 26 #[P j] w' fun e w'' => ∃ u, e = .returned u ∧ w''.ownsRow w'.heap.size 52 2 u (nthC cs j).ps.length (prC (nthC cs j).ps) ∧ Below w'.heap.size w' w'') := fun w' hb => copp_any (HSP.out w' hb) (by have := HOK.out.pm; have := HOK.out.c16; omega)
        obtain ⟨va, vc, hV⟩ := own_slice hcol.hv
        obtain ⟨pa, pc, hP⟩ := own_slice hcol.hp
        rw [hV] at q2 HCI
        rw [hP] at q3 HCP
        cases xa with
        | none =>
          exfalso
          rcases HO.out.2 with ⟨_, h9⟩ | ⟨_, _, _, e, _⟩
          · omega
          · cases e
        | some yx =>
        obtain ⟨gC, rfl⟩ := own_at0 HO.out
        have hXr := heap_lt HXU.out.1
        have HXR : Hid (X' < wr.heap.size) := hXr
        have x1r : wr.cell? ⟨X', 1, none⟩ = some (.slice (some ⟨gC, 0, none⟩) cs.length xc) := (cell_at HXU.out.1 1).trans rfl
        have hgl := heap_lt hcol.hg
        clear hcol hV hP HSV HSP e2 e3 HGX HU0 HO0 HB0
        go_wp2_with fail
        have gY := heap_alloc_new wr (.cells #[.int .i64 (nthC cs j).kd, .int .i64 (nthC cs j).cap, .slice va (nthC cs j).vs.length vc, .slice pa (nthC cs j).ps.length pc] 70)
        have hbz : Below wr.heap.size wr (wr.alloc (.cells #[.int .i64 (nthC cs j).kd, .int .i64 (nthC cs j).cap, .slice va (nthC cs j).vs.length vc, .slice pa (nthC cs j).ps.length pc] 70)) := below_a1 _ _
        generalize (wr.alloc (.cells #[.int .i64 (nthC cs j).kd, .int .i64 (nthC cs j).cap, .slice va (nthC cs j).vs.length vc, .slice pa (nthC cs j).ps.length pc] 70)) = wz at *
        have HBZ : Hid (Below wr.heap.size wr wz) := hbz
        have y2 : wz.cell? ⟨wr.heap.size, 2, none⟩ = some (.slice va (nthC cs j).vs.length vc) := (cell_at gY 2).trans rfl
        have y3 : wz.cell? ⟨wr.heap.size, 3, none⟩ = some (.slice pa (nthC cs j).ps.length pc) := (cell_at gY 3).trans rfl
        have x1 : wz.cell? ⟨X', 1, none⟩ = some (.slice (some ⟨gC, 0, none⟩) cs.length xc) := cell_later hbz (a := ⟨X', 1, none⟩) hXr x1r
        have hYl := heap_lt gY
        have hXz : X' < wz.heap.size := World.block_lt_of_cell? _ _ x1
        have hjI : (j : Int) < (cs.length : Int) := by omega
        have HDN : Hid (∀ (w4 : World) (u p : Value), Below wz.heap.size wz w4 → (∃ B1, wr.heap.size ≤ B1 ∧ w4.ownsRow B1 2 1 u (nthC cs j).vs.length (numC (nthC cs j).vs)) → (∃ B1, wr.heap.size ≤ B1 ∧ w4.ownsRow B1 52 2 p (nthC cs j).ps.length (prC (nthC cs j).ps)) →
            (∃ z0, w4.cell? ⟨gC, j * 4 + 2, none⟩ = some z0) ∧ (∃ z0, w4.cell? ⟨gC, j * 4 + 3, none⟩ = some z0) ∧ w4.frozen? ⟨gC, j * 4 + 2, none⟩ = false ∧ w4.frozen? ⟨gC, j * 4 + 3, none⟩ = false ∧
            ∃ G', ((((w4.setCell ⟨gC, j * 4 + 2, none⟩ u).setCell ⟨gC, j * 4 + 3, none⟩ p)).heap[X']? = some (.cells #[.slice ua raw.length uc, .slice (some ⟨gC, 0, none⟩) cs.length xc] 67 (0, 0)) ∧ (((w4.setCell ⟨gC, j * 4 + 2, none⟩ u).setCell ⟨gC, j * 4 + 3, none⟩ p)).ownsRow w.heap.size 2 1 (.slice ua raw.length uc) raw.length (numC raw)) ∧ (((w4.setCell ⟨gC, j * 4 + 2, none⟩ u).setCell ⟨gC, j * 4 + 3, none⟩ p)).ownsRow N 70 4 (.slice (some ⟨gC, 0, none⟩) cs.length xc) cs.length (rowC (mixC cs V P (upd V' j u) (upd P' j p) (j + 1)) cs.length) ∧ Rows (((w4.setCell ⟨gC, j * 4 + 2, none⟩ u).setCell ⟨gC, j * 4 + 3, none⟩ p)) w.heap.size G' (cs.take (j + 1)) (upd V' j u) (upd P' j p) ∧ (∀ b ∈ G', X' < b ∧ b < (((w4.setCell ⟨gC, j * 4 + 2, none⟩ u).setCell ⟨gC, j * 4 + 3, none⟩ p)).heap.size) ∧ Below w.heap.size w (((w4.setCell ⟨gC, j * 4 + 2, none⟩ u).setCell ⟨gC, j * 4 + 3, none⟩ p))) := fun w4 u p hb hu hp => by
          obtain ⟨B1, hB1, ou⟩ := hu
          obtain ⟨B2, hB2, op⟩ := hp
          obtain ⟨b1, b2, b3, b4⟩ := HBK.out
          have hgC := b1 gC rfl
          have hb4 : Below wr.heap.size wr w4 := below_then HBZ.out hb
          have o4 := own_keep HO.out (Keep.of_below hb4 []) (by simp)
          have s2 := own_some o4 (j * 4 + 2) (by omega)
          have s3 := own_some o4 (j * 4 + 3) (by omega)
          have hk : Keep [gC] wr (((w4.setCell ⟨gC, j * 4 + 2, none⟩ u).setCell ⟨gC, j * 4 + 3, none⟩ p)) := Keep.setCell (Keep.setCell (Keep.of_below hb4 _) _ _ (Or.inl (by simp))) _ _ (Or.inl (by simp))
          have hk4 : Keep [gC] w4 (((w4.setCell ⟨gC, j * 4 + 2, none⟩ u).setCell ⟨gC, j * 4 + 3, none⟩ p)) := Keep.setCell (Keep.setCell (Keep.refl _ _) _ _ (Or.inl (by simp))) _ _ (Or.inl (by simp))
          have hs := HXR.out
          have fu : ∀ b, u.ownBlock = some b → wr.heap.size ≤ b := fun b hb => Nat.le_trans hB1 (own_block ou b hb).1
          have fp : ∀ b, p.ownBlock = some b → wr.heap.size ≤ b := fun b hb => Nat.le_trans hB2 (own_block op b hb).1
          refine ⟨s2.1, s3.1, s2.2, s3.2, G ++ (u.ownBlock.toList ++ p.ownBlock.toList), ⟨?_, own_keep HXU.out.2 hk (fun b hb hm => ?_)⟩, ?_, ?_, fun b hb => ?_, ?_⟩
          · exact (hk.block X' hs (fun hm => by simp at hm; omega)).trans HXU.out.1
          · simp at hm
            have := (b2 b hb).2
            omega
          · rw [← mixC_set hlt u p]
            exact own_set2 (own_set2 o4 _ _) _ _
          · have := HR.out.snoc (c := nthC cs j) (v := u) (p := p) hk (fun b hb => Or.inl (by have := (HG.out b hb).1; simp; omega)) (own_base (own_keep ou hk4 (fun b hb => by have := fu b hb; simp; omega)) (by omega)) (own_base (own_keep op hk4 (fun b hb => by have := fp b hb; simp; omega)) (by omega)) fu fp HOK.out
            rw [takeC_snoc hlt]
            have hlj : (cs.take j).length = j := by simp; omega
            rw [hlj] at this
            exact this
          · simp only [List.mem_append, Option.mem_toList] at hb
            rcases hb with h1 | h1 | h1
            · exact ⟨(HG.out b h1).1, Nat.lt_of_lt_of_le (HG.out b h1).2 hk.size⟩
            · exact ⟨by have := fu b h1; omega, Nat.lt_of_lt_of_le (own_block ou b h1).2 hk4.size⟩
            · exact ⟨by have := fp b h1; omega, Nat.lt_of_lt_of_le (own_block op b h1).2 hk4.size⟩
          · exact HB.out.trans (hk.below HB.out.size (fun b hb => by simp at hb; omega))
        generalize (nthC cs j).kd = kd at *
        generalize (nthC cs j).cap = cap' at *
        clear gY hbz q0 q1 q2 q3 hgl x1r hXr HS h1 h0 m0 m1
        have n1 : gC ≠ X' := by have := (HBK.out.1 gC rfl).2; omega
        have n2 : X' ≠ gC := Ne.symm n1
        have n3 : gC ≠ wr.heap.size := by have := (HBK.out.1 gC rfl).2; have := HXR.out; omega
        have n4 : wr.heap.size ≠ gC := Ne.symm n3
        go_region_held3 (fun w' => w'.cell? ⟨wr.heap.size, 2, none⟩ = some (.slice va (nthC cs j).vs.length vc) ∧ w'.cell? ⟨wr.heap.size, 3, none⟩ = some (.slice pa (nthC cs j).ps.length pc) ∧ w'.cell? ⟨X', 1, none⟩ = some (.slice (some ⟨gC, 0, none⟩) cs.length xc)) (first | go_keep | exact hS | exact hS5) (first
          | (go_at_call 24; refine (HCI.out _ (by first | exact below_drawn HBZ.out 1 | exact HBZ.out)).mono ?_; rintro e w3 ⟨u, rfl, ou3, hb3⟩; have hb3' : Below wz.heap.size wz w3 := (by first | exact below_then (below_drawn (Below.refl _ _) 1) hb3 | exact hb3); have hS : w3.cell? ⟨wr.heap.size, 2, none⟩ = some (.slice va (nthC cs j).vs.length vc) ∧ w3.cell? ⟨wr.heap.size, 3, none⟩ = some (.slice pa (nthC cs j).ps.length pc) ∧ w3.cell? ⟨X', 1, none⟩ = some (.slice (some ⟨gC, 0, none⟩) cs.length xc) := ⟨cell_later hb3' (a := ⟨wr.heap.size, 2, none⟩) hYl y2, cell_later hb3' (a := ⟨wr.heap.size, 3, none⟩) hYl y3, cell_later hb3' (a := ⟨X', 1, none⟩) hXz x1⟩; obtain ⟨ua3, uc3, rfl⟩ := own_slice ou3)
          | (go_at_call 26; refine (HCP.out _ (below_then HBZ.out hb3')).mono ?_; rintro e w4 ⟨p4, rfl, op4, hb4⟩; have hb4' : Below wz.heap.size wz w4 := below_then hb3' hb4; have hS5 : w4.cell? ⟨wr.heap.size, 2, none⟩ = some (.slice va (nthC cs j).vs.length vc) ∧ w4.cell? ⟨wr.heap.size, 3, none⟩ = some (.slice pa (nthC cs j).ps.length pc) ∧ w4.cell? ⟨X', 1, none⟩ = some (.slice (some ⟨gC, 0, none⟩) cs.length xc) := ⟨cell_later hb4' (a := ⟨wr.heap.size, 2, none⟩) hYl y2, cell_later hb4' (a := ⟨wr.heap.size, 3, none⟩) hYl y3, cell_later hb4' (a := ⟨X', 1, none⟩) hXz x1⟩; obtain ⟨pa4, pc4, rfl⟩ := own_slice op4; have hdn := HDN.out w4 _ _ hb4' ⟨wr.heap.size, Nat.le_refl _, own_base (own_keep ou3 (Keep.of_below hb4 []) (by simp)) (by first | exact HBZ.out.size | simpa using HBZ.out.size)⟩ ⟨_, (Nat.le_trans HBZ.out.size hb3'.size), op4⟩; obtain ⟨⟨z2, c2⟩, ⟨z3, c3⟩, f2, f3, hfin⟩ := hdn; have HFIN := (show Hid _ from hfin)))
        all_goals
          clear hfin c2 c3 f2 f3 hb4 hb4' hb3 hb3' ou3 op4 HDN HCI HCP
          go_wp2_with fail
          go_roundw
          case rel =>
            obtain ⟨G', r1, r2, r3, r4, r5⟩ := HFIN.out
            exact ⟨j + 1, G', _, _, hlt, by first | rw [HIW.out] | go_num, r1, r2, r3, r4, r5⟩
          case measure =>
            try rw [HIW.out]
            exact sh_less hlt
      · obtain rfl : j = cs.length := Nat.le_antisymm hj (Nat.not_lt.1 hlt)
        have d1 : decide ((cs.length : Int) < (cs.length : Int)) = false := by simp
        have HFN : Hid (StAt wr w.heap.size X' (X' :: ((Value.slice ua raw.length uc).ownBlock.toList ++ ((Value.slice xa cs.length xc).ownBlock.toList ++ G))) raw cs) := by
          obtain ⟨b1, b2, b3, b4⟩ := HBK.out
          have h1 := HO.out
          have h2 := HR.out
          rw [mixC_full] at h1
          rw [List.take_length] at h2
          refine ⟨_, _, V', P', HXU.out.1, by simp, HXU.out.2, fun b hb => by simp [hb], fun i hi b hb hb2 => ?_, own_base h1 b3, fun b hb => by simp [hb], ⟨h2.vs, h2.ps, fun i hi b hb => by simp [h2.iv i hi b hb], fun i hi b hb => by simp [h2.ip i hi b hb], h2.vv, h2.pp, h2.ok⟩, HNU.out.2.2.1, HNU.out.1, HNU.out.2.2.2, HNU.out.2.1, fun b hb => ?_⟩
          · have h3 := (b2 b hb).2
            have h4 := (HG.out b (h2.iv i hi b hb2)).1
            have h5 : X' < b := h4
            have h6 := own_block h1
            have h7 : b < N := h3
            by_cases hc : cs.length = 0
            · omega
            · cases xa with
              | none =>
                rcases h1.2 with ⟨_, h9⟩ | ⟨_, _, _, e, _⟩
                · exact hc h9
                · cases e
              | some yx => have := b1 yx.block rfl; omega
          · simp only [List.mem_cons, List.mem_append, Option.mem_toList] at hb
            rcases hb with h3 | h3 | h3 | h3
            · rw [h3]; exact ⟨b4, heap_lt HXU.out.1⟩
            · exact own_block HXU.out.2 b h3
            · have := own_block h1 b h3; exact ⟨by omega, this.2⟩
            · have := HG.out b h3; exact ⟨by omega, this.2⟩
        clear HXU HO HR
        go_wp2_with fail
        go_ret
        exact ⟨X', _, rfl, HFN.out, HB.out⟩
end Go.Proofs.Ytgbmnngmfcneaaa.Pl
