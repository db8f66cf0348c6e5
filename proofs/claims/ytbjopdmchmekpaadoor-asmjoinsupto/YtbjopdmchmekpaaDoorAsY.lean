/- resolve of the program. -/
import Derived.Test.YtbjopdmchmekpaaDoorAsX
namespace Go.Proofs.YtbjopdmchmekpaaDoor
open Go.ChangeShapes Go.WideShapes Go.ChangeAt Go.RowKit Go.WideMaps Go.Maps
/-- A name is looked up. -/
theorem look_lab {w : World} {mb n : Nat} {D : DataW Unit} {L : List (List UInt8 × Nat)} (h : w.ownsMap Tryd.prog 9 (plainElem Tryd.prog 3) mb n D) (hl : LabOk L D) (x : List UInt8) (hx : x.length ≤ 20000000) :
    ∃ c : Int, (Instr.lookup 35 (.map (some mb)) (.string (S x)) true).run Tryd.prog w = .ok (.tuple #[.int .i64 c, .bool (lab L x).isSome]) w ∧ ∀ k, lab L x = some k → c = (k : Int) := by
  have hkey : keyOf Tryd.prog 9 (.string (S x)) = some (.string x) := by
    have := keyOf_string_mk (P := Tryd.prog) Tryd.underlying9 (s := S x) (by rw [S_size]; unfold maxLen; omega)
    simpa [S] using this
  obtain ⟨v, ps, hrun, hv⟩ := h.look_ok strkeyed Tryd.underlying35 (zero_intK _) (plainElem_int Tryd.underlying3 (by decide)) hkey
  obtain ⟨c, rfl, hc, _⟩ := plainElem_int_inv Tryd.underlying3 hv
  obtain ⟨h1, h2⟩ := hl.2 x
  refine ⟨c, by rw [hrun, h1], fun k hk => ?_⟩
  have := (congrArg Prod.fst hc)
  rw [h2 k hk] at this
  simp at this
  exact this.symm
theorem usesC_get (l : List (Nat × List UInt8 × Nat × Nat)) (i : Nat) (hi : i < l.length) : (usesC l)[i * 4]? = some (.int .i64 (l[i].1 : Int)) ∧ (usesC l)[i * 4 + 1]? = some (.string (S l[i].2.1)) ∧ (usesC l)[i * 4 + 2]? = some (.int .i64 (l[i].2.2.1 : Int)) ∧ (usesC l)[i * 4 + 3]? = some (.int .i64 (l[i].2.2.2 : Int)) := by
  induction l generalizing i with
  | nil => simp at hi
  | cons x l ih =>
    have e : usesC (x :: l) = useC x ++ usesC l := rfl
    have h2 : (useC x).length = 4 := rfl
    rw [e]
    cases i with
    | zero => exact ⟨rfl, rfl, rfl, rfl⟩
    | succ i =>
      obtain ⟨h1, h3, h4, h5⟩ := ih i (by simpa using hi)
      rw [List.getElem?_append_right (by omega), List.getElem?_append_right (by omega), List.getElem?_append_right (by omega), List.getElem?_append_right (by omega), h2, show (i + 1) * 4 - 4 = i * 4 by omega, show (i + 1) * 4 + 1 - 4 = i * 4 + 1 by omega, show (i + 1) * 4 + 2 - 4 = i * 4 + 2 by omega, show (i + 1) * 4 + 3 - 4 = i * 4 + 3 by omega]
      exact ⟨h1, h3, h4, h5⟩
theorem opsC_set (l : List (Int × Int)) (i : Nat) (hi : i < l.length) (v : Int) : opsC (l.set i ((l.getD i (0, 0)).1, v)) = (opsC l).set (i * 2 + 1) (.int .i64 v) := by
  induction l generalizing i with
  | nil => simp at hi
  | cons x l ih =>
    have e : opsC (x :: l) = opC x ++ opsC l := rfl
    have h2 : (opC x).length = 2 := rfl
    cases i with
    | zero => rfl
    | succ i =>
      have := ih i (by simpa using hi)
      rw [e, List.set_append_right _ _ (by omega), h2, show (i + 1) * 2 + 1 - 2 = i * 2 + 1 by omega, ← this]
      rfl
theorem RP.opset {w0 : World} {Rb g oc sz mb i : Nat} {vu : Value} {us : List (Nat × List UInt8 × Nat × Nat)} {labs : List (List UInt8 × Nat)} {l : List (Int × Int)} {wx : World} (h : RP w0 Rb (.slice (some ⟨g, 0, none⟩) l.length oc) l sz mb vu us labs wx) (hi : i < l.length) (v : Int) :
    RP w0 Rb (.slice (some ⟨g, 0, none⟩) l.length oc) (l.set i ((l.getD i (0, 0)).1, v)) sz mb vu us labs (wx.setCell ⟨g, i * 2 + 1, none⟩ (.int .i64 v)) := by
  have hk : Keep [g] wx (wx.setCell ⟨g, i * 2 + 1, none⟩ (.int .i64 v)) := (Keep.refl _ _).setCell _ _ (Or.inl (by simp))
  have hgb := own_block h.oo g rfl
  have hgr : g ≠ Rb := fun e => own_ne h.oo h.blk (by decide) (by rw [← e]; rfl)
  obtain ⟨n, D, ⟨es, clock, g1, g2⟩, g3⟩ := h.om
  have hgm : g ≠ mb := fun e => own_map h.oo g1 (by rw [← e]; rfl)
  refine ⟨by rw [heap_set_other _ _ hgr]; exact h.blk, ?_, own_keep h.ou hk (fun b hb hm => ?_), ⟨n, D, ⟨es, clock, by rw [heap_set_other _ _ hgm]; exact g1, g2⟩, g3⟩, h.mb0, h.rb, h.bel.setCell (p := ⟨g, i * 2 + 1, none⟩) hgb.1 _⟩
  · rw [List.length_set, opsC_set l i hi]
    exact own_stored h.oo _ _
  · have hbm : b = g := by simpa using hm
    exact own_apart h.ou h.oo (by decide) b hb (by rw [hbm]; rfl)
def putO (st : PS) : Except (Int × Nat) (List (Int × Int)) → Except (Int × Nat) PS
  | .error e => .error e
  | .ok l => .ok { st with ops := l }
set_option maxRecDepth 100000 in
set_option maxHeartbeats 4000000 in
theorem resolve_any {w0 : World} {Rb : Nat} {st : PS} (hu : ∀ u ∈ st.us, u.1 < st.ops.length ∧ u.2.1.length ≤ 20000000 ∧ u.2.2.2 ≤ 1000) (hlk : ∀ n k, lab st.labs n = some k → k ≤ 1000) (hon : st.ops.length ≤ 512) (hun : st.us.length ≤ 512) {w : World} (h : RdAt w0 Rb st w) :
    Calls Tryd.prog 13 #[.pointer (some ⟨Rb, 0, none⟩)] w fun r w' => EndR w0 Rb (putO st (resU st.labs st.us st.ops)) r w' := by
  have HGU : Hid (∀ e p w, Calls Tryd.prog 28 #[.int .i64 e, .int .i64 p] w fun r w' => r = .panicked (flt e p) ∧ Below w.heap.size w w') := giveUp_any
  obtain ⟨vo, vu, mb, hrp⟩ := h.parts
  obtain ⟨oa, oc, rfl⟩ := own_slice hrp.oo
  obtain ⟨ua, uc, rfl⟩ := own_slice hrp.ou
  have q3 : w.cell? ⟨Rb, 3, none⟩ = some (.slice ua st.us.length uc) := by rw [cell_at hrp.blk]; rfl
  obtain ⟨R, hR⟩ : ∃ R, resU st.labs st.us st.ops = R := ⟨_, rfl⟩
  rw [hR]
  obtain ⟨G, hG⟩ : ∃ G, putO st R = G := ⟨_, rfl⟩
  rw [hG]
  have HGG : Hid (putO st R = G) := hG
  clear hG
  have HST : Hid (∃ (j : Nat) (l : List (Int × Int)), (Value.int .i64 0) = .int .i64 (j : Int) ∧ j ≤ st.us.length ∧ l.length = st.ops.length ∧ RP w0 Rb (.slice oa st.ops.length oc) l st.size mb (.slice ua st.us.length uc) st.us st.labs w ∧ resU st.labs (st.us.drop j) l = R) :=
    ⟨0, st.ops, rfl, Nat.zero_le _, rfl, hrp, by rw [List.drop_zero]; exact hR⟩
  clear h hrp hR
  go_enter Tryd.func13, Tryd.ntmps13
  go_wp2_with fail
  go_loopw [11] (fun u wr => ∃ (j : Nat) (l : List (Int × Int)), u = .int .i64 (j : Int) ∧ j ≤ st.us.length ∧ l.length = st.ops.length ∧ RP w0 Rb (.slice oa st.ops.length oc) l st.size mb (.slice ua st.us.length uc) st.us st.labs wr ∧ resU st.labs (st.us.drop j) l = R) (fun u _ => st.us.length - (intOf u).toNat)
  case atStart => exact HST.out
  case round =>
    obtain ⟨j, l, rfl, hj, hll, hrp, hres⟩ := hrel
    have HRP : Hid (RP w0 Rb (.slice oa st.ops.length oc) l st.size mb (.slice ua st.us.length uc) st.us st.labs wr) := hrp
    by_cases hlt : j < st.us.length
    · have hd : decide ((j : Int) < (st.us.length : Int)) = true := by simp; omega
      have hdi : (j : Int) < (st.us.length : Int) := by omega
      have hj0 : (0 : Int) ≤ (j : Int) := Int.natCast_nonneg _
      obtain ⟨hu1, hu2, hu3⟩ := hu st.us[j] (List.getElem_mem hlt)
      have hres2 := hres
      rw [List.drop_eq_getElem_cons hlt] at hres2
      obtain ⟨g5, g6, g7, g8⟩ := usesC_get st.us j hlt
      obtain ⟨gu, cu, hgu⟩ := own_at hrp.ou (by omega)
      obtain ⟨go, co, hgo⟩ := own_at hrp.oo (by omega)
      simp at hgu hgo
      obtain ⟨rfl, rfl⟩ := hgu
      obtain ⟨rfl, -, rfl⟩ := hgo
      have f5 := own_cells hrp.ou _ _ g5
      have f6 := own_cells hrp.ou _ _ g6
      have f7 := own_cells hrp.ou _ _ g7
      have f8 := own_cells hrp.ou _ _ g8
      rcases hxx : st.us[j] with ⟨i, nm, q, b⟩
      rw [hxx] at hu1 hu2 hu3 hres2 f5 f6 f7 f8
      dsimp only at hu1 hu2 hu3 f5 f6 f7 f8
      clear g5 g6 g7 g8 hres HST hxx hj hrp
      obtain ⟨T, hT⟩ : ∃ T, S nm = T := ⟨_, rfl⟩
      have HTT : Hid (S nm = T) := hT
      rw [hT] at f6
      clear hT
      go_wp2_with fail
      obtain ⟨w1, hw1⟩ : ∃ w1, wr.alloc (.cells #[.int .i64 (i : Int), .string T, .int .i64 (q : Int), .int .i64 (b : Int)] 77) = w1 := ⟨_, rfl⟩
      obtain ⟨Ub, hUb⟩ : ∃ Ub, wr.heap.size = Ub := ⟨_, rfl⟩
      have HB1 : Hid (Below wr.heap.size wr w1) := by rw [Hid, ← hw1]; exact below_a1 _ _
      have HR1 : Hid (RP w0 Rb (.slice (some ⟨go, 0, none⟩) st.ops.length oc) l st.size mb (.slice (some ⟨gu, 0, none⟩) st.us.length uc) st.us st.labs w1) := HRP.out.later HB1.out
      have hub : w1.heap[Ub]? = some (.cells #[.int .i64 (i : Int), .string T, .int .i64 (q : Int), .int .i64 (b : Int)] 77 (0, 0)) := by rw [← hw1, ← hUb]; exact heap_alloc_new _ _
      have HUB : Hid (w1.heap[Ub]? = some (.cells #[.int .i64 (i : Int), .string T, .int .i64 (q : Int), .int .i64 (b : Int)] 77 (0, 0))) := hub
      have u0 : w1.cell? ⟨Ub, 0, none⟩ = some (.int .i64 (i : Int)) := by rw [cell_at hub]; rfl
      have u1 : w1.cell? ⟨Ub, 1, none⟩ = some (.string T) := by rw [cell_at hub]; rfl
      have u2 : w1.cell? ⟨Ub, 2, none⟩ = some (.int .i64 (q : Int)) := by rw [cell_at hub]; rfl
      have u3 : w1.cell? ⟨Ub, 3, none⟩ = some (.int .i64 (b : Int)) := by rw [cell_at hub]; rfl
      have r0 : w1.cell? ⟨Rb, 0, none⟩ = some (.slice (some ⟨go, 0, none⟩) st.ops.length oc) := by rw [cell_at HR1.out.blk]; rfl
      have r2 : w1.cell? ⟨Rb, 2, none⟩ = some (.map (some mb)) := by rw [cell_at HR1.out.blk]; rfl
      have hil : i < l.length := by omega
      obtain ⟨g9, g10⟩ := opsC_get l i hil
      have hoo : w1.ownsRow w0.heap.size 53 2 (.slice (some ⟨go, 0, none⟩) st.ops.length oc) st.ops.length (opsC l) := by
        have := HR1.out.oo
        rw [hll] at this
        exact this
      have c0 := own_cells hoo _ _ g9
      have c1 := own_cells hoo _ _ g10
      have hgb : ∃ cur, w1.heap[go]? = some (.cells cur 53 (0, 0)) := by
        rcases HR1.out.oo.2 with ⟨e, _⟩ | ⟨g', cap', cur, e, _, hg, _⟩
        · cases e
        · simp at e
          obtain ⟨rfl, -, rfl⟩ := e
          exact ⟨_, hg⟩
      obtain ⟨cur, hcur⟩ := hgb
      have cf1 : w1.frozen? ⟨go, i * 2 + 1, none⟩ = false := frozen_at hcur _
      have hi0 : (0 : Int) ≤ (i : Int) := Int.natCast_nonneg _
      have hi1 : (i : Int) < (st.ops.length : Int) := by omega
      obtain ⟨mn, D, hom, hlo, _⟩ := HR1.out.om
      obtain ⟨c, hrun, hc⟩ := look_lab (map_drew hom) hlo nm hu2
      rw [HTT.out] at hrun
      obtain ⟨cd, hcd⟩ : ∃ cd, (l.getD i (0, 0)).1 = cd := ⟨_, rfl⟩
      rw [hcd] at c0
      have HCD : Hid ((l.getD i (0, 0)).1 = cd) := hcd
      have HRES : Hid (resU st.labs ((i, nm, q, b) :: List.drop (j + 1) st.us) l = R) := hres2
      rw [hw1, hUb]
      clear hw1 hUb hub hoo g9 g10 hcur hom hlo hcd hres2 f5 f6 f7 f8 q3
      cases hlb : lab st.labs nm with
      | none =>
        rw [hlb] at hrun
        simp only [Option.isSome_none] at hrun
        have HRR : Hid (R = .error (11, q)) := by
          rw [Hid, ← HRES.out, resU, hlb]
        clear hc
        go_region
        all_goals
          go_wp2_with fail
          refine (HGU.out _ _ _).mono ?_
          rintro r5 w5 ⟨rfl, hb5⟩
          refine ⟨rfl, ?_⟩
          rw [← HGG.out, HRR.out]
          exact ⟨rfl, below_then HR1.out.bel (below_then (below_drawn (Below.refl _ _) 1) hb5)⟩
      | some k =>
        rw [hlb] at hrun
        simp only [Option.isSome_some] at hrun
        obtain rfl := hc k hlb
        have hk1 := hlk nm k hlb
        have HR1' : Hid (RP w0 Rb (.slice (some ⟨go, 0, none⟩) l.length oc) l st.size mb (.slice (some ⟨gu, 0, none⟩) st.us.length uc) st.us st.labs w1) := by
          rw [Hid, hll]
          exact HR1.out
        have HJ : Hid (∀ v : Int, (if cd = 26 then (k : Int) else (k : Int) - (b : Int)) = v → ∀ n, ∃ (j' : Nat) (l' : List (Int × Int)), (Value.int .i64 ((j : Int) + 1)) = .int .i64 (j' : Int) ∧ j' ≤ st.us.length ∧ l'.length = st.ops.length ∧ RP w0 Rb (.slice (some ⟨go, 0, none⟩) st.ops.length oc) l' st.size mb (.slice (some ⟨gu, 0, none⟩) st.us.length uc) st.us st.labs ((w1.drewN n).setCell ⟨go, i * 2 + 1, none⟩ (.int .i64 v)) ∧ resU st.labs (st.us.drop j') l' = R) := fun v hv n => by
          refine ⟨j + 1, l.set i ((l.getD i (0, 0)).1, v), by simp, hlt, by rw [List.length_set]; exact hll, ?_, ?_⟩
          · have := (HR1'.out.later (below_drawn (Below.refl _ _) n)).opset hil v
            rw [← hll]
            exact this
          · rw [← HRES.out, resU, hlb]
            simp only
            rw [HCD.out, hv]
        have hwj : wrap64 ((j : Int) + 1) = (j : Int) + 1 := by unfold wrap64; omega
        have hgr : go ≠ Rb := fun e => own_ne HR1.out.oo HR1.out.blk (by decide) (by rw [← e]; rfl)
        have hgU : go ≠ Ub := fun e => own_ne HR1.out.oo HUB.out (by decide) (by rw [← e]; rfl)
        clear hc hlb HRES HR1 HR1' HRP HB1 hlk hu
        go_region
        by_cases h26 : cd = 26
        · have hd26 : decide (cd = 26) = true := by simp [h26]
          have HJ2 : Hid (∀ n, ∃ (j' : Nat) (l' : List (Int × Int)), (Value.int .i64 ((j : Int) + 1)) = .int .i64 (j' : Int) ∧ j' ≤ st.us.length ∧ l'.length = st.ops.length ∧ RP w0 Rb (.slice (some ⟨go, 0, none⟩) st.ops.length oc) l' st.size mb (.slice (some ⟨gu, 0, none⟩) st.us.length uc) st.us st.labs ((w1.drewN n).setCell ⟨go, i * 2 + 1, none⟩ (.int .i64 (k : Int))) ∧ resU st.labs (st.us.drop j') l' = R) := fun n => HJ.out _ (if_pos h26) n
          clear HJ
          subst h26
          go_wp2_with fail
          go_region
          go_wp2_with fail
          obtain ⟨w9, hw9⟩ : ∃ w9, w1.drew.drew = w9 := ⟨_, rfl⟩
          have r9 : w9.cell? ⟨Rb, 0, none⟩ = some (.slice (some ⟨go, 0, none⟩) st.ops.length oc) := by rw [← hw9]; exact r0
          have u9 : w9.cell? ⟨Ub, 0, none⟩ = some (.int .i64 (i : Int)) := by rw [← hw9]; exact u0
          have c9 : w9.cell? ⟨go, i * 2 + 1, none⟩ = some (.int .i64 (l.getD i (0, 0)).2) := by rw [← hw9]; exact c1
          have f9 : w9.frozen? ⟨go, i * 2 + 1, none⟩ = false := by rw [← hw9]; exact cf1
          have HJ3 : Hid (∃ (j' : Nat) (l' : List (Int × Int)), (Value.int .i64 ((j : Int) + 1)) = .int .i64 (j' : Int) ∧ j' ≤ st.us.length ∧ l'.length = st.ops.length ∧ RP w0 Rb (.slice (some ⟨go, 0, none⟩) st.ops.length oc) l' st.size mb (.slice (some ⟨gu, 0, none⟩) st.us.length uc) st.us st.labs ((w9.setCell ⟨go, i * 2 + 1, none⟩ (.int .i64 ((k : Int)))).drew) ∧ resU st.labs (st.us.drop j') l' = R) := by
            rw [Hid, ← hw9]
            exact HJ2.out 3
          rw [hw9]
          generalize (l.getD i (0, 0)).2 = x9 at c9
          clear r0 u0 c1 cf1 u1 u2 u3 r2 c0 hrun HCD hd26 hk1 hil hll hd hdi hj0 HUB HTT hu2 hu3 hon hun HJ2 hw9
          go_region
          go_wp2
          go_roundw
          case rel => rw [hwj]; exact HJ3.out
          case measure => rw [hwj]; exact meas_i hlt
        · have hd26 : decide (cd = 26) = false := by simp [h26]
          have hwk : wrap64 ((k : Int) - (b : Int)) = (k : Int) - (b : Int) := by unfold wrap64; omega
          have HJ2 : Hid (∀ n, ∃ (j' : Nat) (l' : List (Int × Int)), (Value.int .i64 ((j : Int) + 1)) = .int .i64 (j' : Int) ∧ j' ≤ st.us.length ∧ l'.length = st.ops.length ∧ RP w0 Rb (.slice (some ⟨go, 0, none⟩) st.ops.length oc) l' st.size mb (.slice (some ⟨gu, 0, none⟩) st.us.length uc) st.us st.labs ((w1.drewN n).setCell ⟨go, i * 2 + 1, none⟩ (.int .i64 ((k : Int) - (b : Int)))) ∧ resU st.labs (st.us.drop j') l' = R) := fun n => HJ.out _ (if_neg h26) n
          clear HJ
          go_wp2_with fail
          go_region
          go_wp2_with fail
          obtain ⟨w9, hw9⟩ : ∃ w9, w1.drew.drew = w9 := ⟨_, rfl⟩
          have r9 : w9.cell? ⟨Rb, 0, none⟩ = some (.slice (some ⟨go, 0, none⟩) st.ops.length oc) := by rw [← hw9]; exact r0
          have u9 : w9.cell? ⟨Ub, 0, none⟩ = some (.int .i64 (i : Int)) := by rw [← hw9]; exact u0
          have c9 : w9.cell? ⟨go, i * 2 + 1, none⟩ = some (.int .i64 (l.getD i (0, 0)).2) := by rw [← hw9]; exact c1
          have f9 : w9.frozen? ⟨go, i * 2 + 1, none⟩ = false := by rw [← hw9]; exact cf1
          have HJ3 : Hid (∃ (j' : Nat) (l' : List (Int × Int)), (Value.int .i64 ((j : Int) + 1)) = .int .i64 (j' : Int) ∧ j' ≤ st.us.length ∧ l'.length = st.ops.length ∧ RP w0 Rb (.slice (some ⟨go, 0, none⟩) st.ops.length oc) l' st.size mb (.slice (some ⟨gu, 0, none⟩) st.us.length uc) st.us st.labs ((w9.setCell ⟨go, i * 2 + 1, none⟩ (.int .i64 ((k : Int) - (b : Int)))).drew) ∧ resU st.labs (st.us.drop j') l' = R) := by
            rw [Hid, ← hw9]
            exact HJ2.out 3
          rw [hw9]
          generalize (l.getD i (0, 0)).2 = x9 at c9
          clear r0 u0 c1 cf1 u1 u2 u3 r2 c0 hrun HCD hd26 hk1 hil hll hd hdi hj0 HUB HTT hu2 hu3 hon hun HJ2 hw9 hwk h26
          go_region
          go_wp2
          go_roundw
          case rel => rw [hwj]; exact HJ3.out
          case measure => rw [hwj]; exact meas_i hlt
    · have hd : decide ((j : Int) < (st.us.length : Int)) = false := by simp; omega
      have hdi : ¬ (j : Int) < (st.us.length : Int) := by omega
      have HRR : Hid (R = .ok l) := by
        rw [Hid, ← hres, List.drop_eq_nil_of_le (by omega)]
        rfl
      clear hrp hres HST
      go_wp2
      go_end0
      rw [← HGG.out, HRR.out]
      exact ⟨rfl, RP.whole (st := { st with ops := l }) (by show RP w0 Rb _ l st.size mb _ st.us st.labs wr; exact HRP.out)⟩
end Go.Proofs.YtbjopdmchmekpaaDoor
