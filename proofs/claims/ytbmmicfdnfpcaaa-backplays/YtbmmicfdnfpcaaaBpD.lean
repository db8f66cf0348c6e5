/- The document's machine of layer 11: New. -/
import Derived.Test.YtbmmicfdnfpcaaaBpC
import Derived.Test.YtbmmicfdnfpcaaaSigR
import Derived.Deep.CutBlock
import Derived.Deep.DeepCutAuto
import Derived.Deep.LoopGhost
namespace Go.Proofs.Ytbmmicfdnfpcaaa
open Go.ChangeShapes Go.WideShapes Go.ChangeAt Go.RowKit
attribute [local go_sem ↓] Go.wp_at_zero Go.wp_at_succ

theorem wtC_take (W : List Wt) (q : Nat) (hq : q < W.length) : wtC (W.take (q + 1)) = wtC (W.take q) ++ [.int .i64 (W.getD q noWt).c, .int .i64 (W.getD q noWt).v] := by
  have e : W.take (q + 1) = W.take q ++ [W.getD q noWt] := by rw [List.take_add_one]; congr 1; simp [hq]
  rw [e, wtC_app]
  rfl
theorem dw_end {w X w1 : World} {base Y gg cap' n : Nat} {s : Int} {mu : Bool} {st : Int} {v : Value} {sg : List Nat} {nn : Int} {kv : Value} {sn : Bool} {K E : List Value} (h : DRaw w Y s mu st v sg nn kv sn) (ho : w.ownsRow base 36 2 v n K) (kX : Keep [] w X)
    (hown1 : w1.ownsRow base 36 2 (.slice (some ⟨gg, 0, none⟩) (n + 1) cap') (n + 1) (K ++ E)) (hgrow : X.grownBy w1 v.ownBlock) :
    DRaw (w1.setCell ⟨Y, 3, none⟩ (.slice (some ⟨gg, 0, none⟩) (n + 1) cap')) Y s mu st (.slice (some ⟨gg, 0, none⟩) (n + 1) cap') sg nn kv sn ∧ (w1.setCell ⟨Y, 3, none⟩ (.slice (some ⟨gg, 0, none⟩) (n + 1) cap')).ownsRow base 36 2 (.slice (some ⟨gg, 0, none⟩) (n + 1) cap') (n + 1) (K ++ E) := by
  have k0 : Keep v.ownBlock.toList w w1 := (kX.mono (fun b hb => by simp at hb)).grown hgrow (fun b hb => Or.inl (by rw [hb]; simp))
  have hm1 : DRaw w1 Y s mu st v sg nn kv sn := h.keep k0 (fun hm => own_ne ho h (by decide) (by simpa using hm))
  have hg1 : (Value.slice (some ⟨gg, 0, none⟩) (n + 1) cap').ownBlock ≠ some Y := own_ne hown1 hm1 (by decide)
  have kset : Keep [Y] w1 (w1.setCell ⟨Y, 3, none⟩ (.slice (some ⟨gg, 0, none⟩) (n + 1) cap')) := (Keep.refl _ _).setCell _ _ (Or.inl (by simp))
  exact ⟨hm1.set3 _, own_keep hown1 kset (fun b hb hm => by simp at hm; subst hm; exact hg1 hb)⟩
set_option maxRecDepth 100000 in
set_option maxHeartbeats 6400000 in
theorem dnew_any (w : World) (raw wr n : Int) (mu : Bool) (tr : Int) (v : Value) {P : Bp} {lv : Value} (hl : WL w lv P.W) (h5 : P.W.length ≤ 24) (hsg : P.sg = sgOf P.W) :
    Calls Try.prog 12 #[confB raw (P.s : Int) wr n mu tr v, .int .i64 P.st, lv] w fun e w' => Below w.heap.size w w' ∧ ∃ Y G, e = .returned (.pointer (some ⟨Y, 0, none⟩)) ∧ DM w' w.heap.size Y P mu ⟨0, [], false⟩ G := by
  obtain ⟨i0, hi, hz0, hz1, hz2⟩ := info_parts info_wr
  have HWI : Hid (∀ (s : List Nat), Sg.Ok s → ∀ c w, Calls Try.prog 28 #[Sg.sv s, .int .i64 c] w fun e w' => e = .returned (Sg.sv (Sg.put s (Sg.sigN c))) ∧ Below w.heap.size w w') := fun s hs c w => Sg.rwith_any s hs c w
  obtain ⟨a, cap, rfl, _, hcc⟩ := hl
  have HD : Hid (∀ w' i, Below w.heap.size w w' → i < P.W.length → ∃ x, a = some x ∧ x.block < w.heap.size ∧ w'.cell? (x.add (i * 2)) = some (.int .i64 (P.W.getD i noWt).c) ∧ w'.cell? ((x.add (i * 2)).add 1) = some (.int .i64 (P.W.getD i noWt).v)) := fun w' i k hi => by
    rcases hcc with h | ⟨x, e1, e2, e3⟩
    · rw [h] at hi; simp at hi
    · exact ⟨x, e1, e2, (k.cell (p := x.add (i * 2)) (by rw [add_block]; exact e2)).trans (e3 i hi).1, (k.cell (p := (x.add (i * 2)).add 1) (by rw [add_block, add_block]; exact e2)).trans (e3 i hi).2⟩
  have HTK : Hid (∀ q, q < P.W.length → sgOf (P.W.take (q + 1)) = Sg.put (sgOf (P.W.take q)) (Sg.sigN (P.W.getD q noWt).c)) := fun q hq => sgOf_take P.W q hq
  have HTW : Hid (∀ q, q < P.W.length → wtC (P.W.take (q + 1)) = wtC (P.W.take q) ++ [.int .i64 (P.W.getD q noWt).c, .int .i64 (P.W.getD q noWt).v]) := fun q hq => wtC_take P.W q hq
  have HTL : Hid (P.W.take P.W.length = P.W) := List.take_length
  have HLN : Hid (∀ q, q ≤ P.W.length → (wtC (P.W.take q)).length = q * 2) := fun q hq => by rw [wtC_len, List.length_take, Nat.min_eq_left hq]
  have HSG : Hid (P.sg = sgOf P.W) := hsg
  unfold confB
  clear hcc hsg
  obtain ⟨R, HR0⟩ : ∃ R : Ending → World → Prop, Hid (R = fun e w' => Below w.heap.size w w' ∧ ∃ Y G, e = .returned (.pointer (some ⟨Y, 0, none⟩)) ∧ DM w' w.heap.size Y P mu ⟨0, [], false⟩ G) := ⟨_, rfl⟩
  rw [← HR0.out]
  generalize hm : P.W.length = m at *
  have HMM : Hid (P.W.length = m) := hm
  clear hm
  go_enter Try.func12, Try.ntmps12
  go_wp2_with fail
  go_loopg [8] m (fun g iv wr => ∃ (q : Nat) (lq : Value), q ≤ m ∧ g = m - q ∧ iv = .int .i64 q ∧ DRaw wr (w.heap.size + 1) (P.s : Int) mu P.st lq (sgOf (P.W.take q)) 0 (.slice none 0 0) false ∧ wr.ownsRow w.heap.size 36 2 lq q (wtC (P.W.take q)) ∧ Below w.heap.size w wr)
  case atStart => exact ⟨0, .slice none 0 0, by omega, by omega, rfl, heap_alloc2_new w _ _, World.ownsRow_nil _ _ _ _, below_alloc (below_a1 _ _) _⟩
  case round =>
    obtain ⟨q, lq, hq, rfl, rfl, hr, ho, hb⟩ := hrel
    have HR : Hid (DRaw wr (w.heap.size + 1) (P.s : Int) mu P.st lq (sgOf (P.W.take q)) 0 (.slice none 0 0) false) := hr
    have HO : Hid (wr.ownsRow w.heap.size 36 2 lq q (wtC (P.W.take q))) := ho
    have HB : Hid (Below w.heap.size w wr) := hb
    clear hr ho hb
    by_cases hlt : q < m
    · have hlt' : (q : Int) < (m : Int) := by omega
      obtain ⟨x, rfl, hxb, c0, c1⟩ := HD.out _ q HB.out hlt
      rw [add_pos' _ _ (by decide)] at c1
      have HTQ := HTK.out q hlt
      have HWQ := HTW.out q hlt
      have hlen := HLN.out q (by omega)
      have HWS : Hid (∀ w, Calls Try.prog 28 #[Sg.sv (sgOf (P.W.take q)), .int .i64 (P.W.getD q noWt).c] w fun e w' => e = .returned (Sg.sv (sgOf (P.W.take (q + 1)))) ∧ Below w.heap.size w w') := by rw [HTQ]; exact HWI.out _ (sgOf_ok _) _
      obtain ⟨yc, yv, HYQ⟩ : ∃ yc yv, Hid (P.W.getD q noWt = ⟨yc, yv⟩) := ⟨_, _, rfl⟩
      rw [HYQ.out] at c0 c1 HWQ HWS
      simp only at c0 c1 HWQ HWS
      clear HTQ
      rw [sv8 (sgOf_ok _), sv8 (sgOf_ok _)] at HWS
      obtain ⟨la, lcap, rfl⟩ := own_slice HO.out
      have hzr : w.heap.size + 1 < wr.heap.size := heap_lt HR.out
      have l3 : wr.cell? ⟨w.heap.size + 1, 3, none⟩ = some (.slice la q lcap) := HR.out.cells.2.2.2.1
      have lf : wr.frozen? ⟨w.heap.size + 1, 3, none⟩ = false := frozen_at HR.out 3
      have hYv : (Value.slice la q lcap).ownBlock ≠ some (w.heap.size + 1) := own_ne HO.out HR.out (by decide)
      have hsz := HB.out.size
      generalize hK : wtC (P.W.take q) = K at *
      go_upto_region 5 with fail
      go_cut [8] (fun s8 wx => s8 = .int .i64 q ∧ ∃ lq', DRaw wx (w.heap.size + 1) (P.s : Int) mu P.st lq' (sgOf (P.W.take q)) 0 (.slice none 0 0) false ∧ wx.ownsRow w.heap.size 36 2 lq' (q + 1) (K ++ [.int .i64 yc, .int .i64 yv]) ∧ Below w.heap.size w wx)
      case first =>
        go_region_law ((refine step_lies_wide _ (by rfl) _ _ _ (by rfl) w.heap.size 36 i0 _ 2 16 Try.underlying25 hi hz0 hz1 hz2 rfl (by omega) (.slice la q lcap) q K (by rfl) ((HO.out.alloc _).drew) ⟨wr.heap.size, 0, none⟩ 1 1 [.int .i64 yc, .int .i64 yv] (by rfl) (by rfl) (World.news_of_block (cs := #[.int .i64 yc, .int .i64 yv]) (t := 36) (fr := (0, 0)) (heap_alloc_new wr _)) (by simp [Value.oneCell']) (by omega) (by unfold maxLen; omega) (by omega) (by simp; omega) (wr.heap.size + 1) (by simp) ?_; intro gg cap' w3 hown1 hgrow hat hlt2; have hs1 : w3.cell? ⟨w.heap.size + 1, 3, none⟩ = some (.slice la q lcap) := (by rw [hgrow.cell_far _ (by simp; omega) (Ne.symm hYv)]; simp [hzr, World.cell?_alloc_past, l3]); have hs2 : w3.frozen? ⟨w.heap.size + 1, 3, none⟩ = false := (by rw [hgrow.frozen_far _ (by simp; omega) (Ne.symm hYv)]; rw [fr_drew, World.frozen?_alloc_past _ _ _ hzr]; exact lf)))
        all_goals
          have HE : Hid (DRaw (w3.setCell ⟨w.heap.size + 1, 3, none⟩ (.slice (some ⟨gg, 0, none⟩) (q + 1) cap')) (w.heap.size + 1) (P.s : Int) mu P.st (.slice (some ⟨gg, 0, none⟩) (q + 1) cap') (sgOf (P.W.take q)) 0 (.slice none 0 0) false ∧ (w3.setCell ⟨w.heap.size + 1, 3, none⟩ (.slice (some ⟨gg, 0, none⟩) (q + 1) cap')).ownsRow w.heap.size 36 2 (.slice (some ⟨gg, 0, none⟩) (q + 1) cap') (q + 1) (K ++ [.int .i64 yc, .int .i64 yv])) := dw_end HR.out HO.out (((Keep.refl _ _).alloc _).drewN 1) hown1 hgrow
          have HB3 : Hid (Below w.heap.size w (w3.setCell ⟨w.heap.size + 1, 3, none⟩ (.slice (some ⟨gg, 0, none⟩) (q + 1) cap'))) := ((below_drawn (below_alloc HB.out _) 1).grown hgrow (by simp; omega) (fun b hb => (own_block HO.out b hb).1)).setCell (Nat.le_add_right _ 1) _
          clear hown1 hgrow hat hlt2 hs1 hs2
          go_wp2_with fail
          go_meet
          exact ⟨rfl, _, HE.out.1, HE.out.2, HB3.out⟩
      case rest =>
        obtain ⟨rfl, lq', hr', ho', hb'⟩ := hcut
        obtain ⟨z5, rfl⟩ : ∃ z5, z5 = wc := ⟨_, rfl⟩
        have HR' : Hid (DRaw z5 (w.heap.size + 1) (P.s : Int) mu P.st lq' (sgOf (P.W.take q)) 0 (.slice none 0 0) false) := hr'
        have HO' : Hid (z5.ownsRow w.heap.size 36 2 lq' (q + 1) (wtC (P.W.take (q + 1)))) := by rw [Hid, HWQ]; exact ho'
        have HB' : Hid (Below w.heap.size w z5) := hb'
        clear hr' ho' hb' c0 c1 l3 lf HR HO HB HWQ hK hlen hYv hzr hsz
        obtain ⟨x', hx', _, c0, c1⟩ := HD.out _ q HB'.out hlt
        simp at hx'
        subst hx'
        rw [HYQ.out] at c0
        simp only at c0
        clear c1 hi hz0 hz1 hz2 hq h5 HTK HTW HLN HWI
        obtain ⟨m0, hm0⟩ : ∃ z : Nat, bsV (sgOf (P.W.take (q + 1))) 0 = .int .u64 (z : Int) := ⟨_, rfl⟩
        obtain ⟨m1, hm1⟩ : ∃ z : Nat, bsV (sgOf (P.W.take (q + 1))) 1 = .int .u64 (z : Int) := ⟨_, rfl⟩
        obtain ⟨m2, hm2⟩ : ∃ z : Nat, bsV (sgOf (P.W.take (q + 1))) 2 = .int .u64 (z : Int) := ⟨_, rfl⟩
        obtain ⟨m3, hm3⟩ : ∃ z : Nat, bsV (sgOf (P.W.take (q + 1))) 3 = .int .u64 (z : Int) := ⟨_, rfl⟩
        obtain ⟨m4, hm4⟩ : ∃ z : Nat, bsV (sgOf (P.W.take (q + 1))) 4 = .int .u64 (z : Int) := ⟨_, rfl⟩
        obtain ⟨m5, hm5⟩ : ∃ z : Nat, bsV (sgOf (P.W.take (q + 1))) 5 = .int .u64 (z : Int) := ⟨_, rfl⟩
        obtain ⟨m6, hm6⟩ : ∃ z : Nat, bsV (sgOf (P.W.take (q + 1))) 6 = .int .u64 (z : Int) := ⟨_, rfl⟩
        obtain ⟨m7, hm7⟩ : ∃ z : Nat, bsV (sgOf (P.W.take (q + 1))) 7 = .int .u64 (z : Int) := ⟨_, rfl⟩
        have HW2 : Hid (∀ w, Calls Try.prog 28 #[.agg #[bsV (sgOf (P.W.take q)) 0, bsV (sgOf (P.W.take q)) 1, bsV (sgOf (P.W.take q)) 2, bsV (sgOf (P.W.take q)) 3, bsV (sgOf (P.W.take q)) 4, bsV (sgOf (P.W.take q)) 5, bsV (sgOf (P.W.take q)) 6, bsV (sgOf (P.W.take q)) 7], .int .i64 yc] w fun e w' => e = .returned (.agg #[.int .u64 (m0 : Int), .int .u64 (m1 : Int), .int .u64 (m2 : Int), .int .u64 (m3 : Int), .int .u64 (m4 : Int), .int .u64 (m5 : Int), .int .u64 (m6 : Int), .int .u64 (m7 : Int)]) ∧ Below w.heap.size w w') := by rw [Hid, ← hm0, ← hm1, ← hm2, ← hm3, ← hm4, ← hm5, ← hm6, ← hm7]; exact HWS.out
        have HSS : Hid (∀ wQ, DRaw wQ (w.heap.size + 1) (P.s : Int) mu P.st lq' (sgOf (P.W.take q)) 0 (.slice none 0 0) false → DRaw ((((((((wQ.setCell ⟨w.heap.size + 1, 4, none⟩ (.int .u64 (m0 : Int))).setCell ⟨w.heap.size + 1, 5, none⟩ (.int .u64 (m1 : Int))).setCell ⟨w.heap.size + 1, 6, none⟩ (.int .u64 (m2 : Int))).setCell ⟨w.heap.size + 1, 7, none⟩ (.int .u64 (m3 : Int))).setCell ⟨w.heap.size + 1, 8, none⟩ (.int .u64 (m4 : Int))).setCell ⟨w.heap.size + 1, 9, none⟩ (.int .u64 (m5 : Int))).setCell ⟨w.heap.size + 1, 10, none⟩ (.int .u64 (m6 : Int))).setCell ⟨w.heap.size + 1, 11, none⟩ (.int .u64 (m7 : Int))) (w.heap.size + 1) (P.s : Int) mu P.st lq' (sgOf (P.W.take (q + 1))) 0 (.slice none 0 0) false) := fun wQ h => by
          have := DRaw.setSig h (sgOf (P.W.take (q + 1)))
          rw [hm0, hm1, hm2, hm3, hm4, hm5, hm6, hm7] at this
          exact this
        clear hm0 hm1 hm2 hm3 hm4 hm5 hm6 hm7 HWS
        obtain ⟨s4, s5, s6, s7, s8, s9, s10, s11⟩ := HR'.out.sig
        have hz5 : w.heap.size + 1 < z5.heap.size := heap_lt HR'.out
        go_wp2_with fail
        go_region_with ((go_at_call 28; refine (HW2.out _).mono ?_; rintro e wQ ⟨rfl, hbQ⟩; have HQ : Hid (Below z5.heap.size z5 wQ) := (by first | exact below_then (below_drawn (Below.refl _ _) 1) hbQ | exact hbQ | exact below_then (below_drawn (Below.refl _ _) _) hbQ); clear hbQ; have HRQ : Hid (DRaw wQ (w.heap.size + 1) (P.s : Int) mu P.st lq' (sgOf (P.W.take q)) 0 (.slice none 0 0) false) := DRaw.below HR'.out HQ.out hz5; obtain ⟨t4, t5, t6, t7, t8, t9, t10, t11⟩ := DRaw.sig HRQ.out; have f4 := frozen_at HRQ.out 4; have f5 := frozen_at HRQ.out 5; have f6 := frozen_at HRQ.out 6; have f7 := frozen_at HRQ.out 7; have f8 := frozen_at HRQ.out 8; have f9 := frozen_at HRQ.out 9; have f10 := frozen_at HRQ.out 10; have f11 := frozen_at HRQ.out 11))
        all_goals
          have HN2 : Hid (DRaw ((((((((wQ.setCell ⟨w.heap.size + 1, 4, none⟩ (.int .u64 (m0 : Int))).setCell ⟨w.heap.size + 1, 5, none⟩ (.int .u64 (m1 : Int))).setCell ⟨w.heap.size + 1, 6, none⟩ (.int .u64 (m2 : Int))).setCell ⟨w.heap.size + 1, 7, none⟩ (.int .u64 (m3 : Int))).setCell ⟨w.heap.size + 1, 8, none⟩ (.int .u64 (m4 : Int))).setCell ⟨w.heap.size + 1, 9, none⟩ (.int .u64 (m5 : Int))).setCell ⟨w.heap.size + 1, 10, none⟩ (.int .u64 (m6 : Int))).setCell ⟨w.heap.size + 1, 11, none⟩ (.int .u64 (m7 : Int))) (w.heap.size + 1) (P.s : Int) mu P.st lq' (sgOf (P.W.take (q + 1))) 0 (.slice none 0 0) false) := HSS.out _ HRQ.out
          have hws : w.heap.size ≤ z5.heap.size := HB'.out.size
          have HBN : Hid (Below w.heap.size w ((((((((wQ.setCell ⟨w.heap.size + 1, 4, none⟩ (.int .u64 (m0 : Int))).setCell ⟨w.heap.size + 1, 5, none⟩ (.int .u64 (m1 : Int))).setCell ⟨w.heap.size + 1, 6, none⟩ (.int .u64 (m2 : Int))).setCell ⟨w.heap.size + 1, 7, none⟩ (.int .u64 (m3 : Int))).setCell ⟨w.heap.size + 1, 8, none⟩ (.int .u64 (m4 : Int))).setCell ⟨w.heap.size + 1, 9, none⟩ (.int .u64 (m5 : Int))).setCell ⟨w.heap.size + 1, 10, none⟩ (.int .u64 (m6 : Int))).setCell ⟨w.heap.size + 1, 11, none⟩ (.int .u64 (m7 : Int)))) := ((((((((HB'.out.trans (HQ.out.mono hws)).setCell (Nat.le_add_right _ 1) _).setCell (Nat.le_add_right _ 1) _).setCell (Nat.le_add_right _ 1) _).setCell (Nat.le_add_right _ 1) _).setCell (Nat.le_add_right _ 1) _).setCell (Nat.le_add_right _ 1) _).setCell (Nat.le_add_right _ 1) _).setCell (Nat.le_add_right _ 1) _
          have HON : Hid ((((((((((wQ.setCell ⟨w.heap.size + 1, 4, none⟩ (.int .u64 (m0 : Int))).setCell ⟨w.heap.size + 1, 5, none⟩ (.int .u64 (m1 : Int))).setCell ⟨w.heap.size + 1, 6, none⟩ (.int .u64 (m2 : Int))).setCell ⟨w.heap.size + 1, 7, none⟩ (.int .u64 (m3 : Int))).setCell ⟨w.heap.size + 1, 8, none⟩ (.int .u64 (m4 : Int))).setCell ⟨w.heap.size + 1, 9, none⟩ (.int .u64 (m5 : Int))).setCell ⟨w.heap.size + 1, 10, none⟩ (.int .u64 (m6 : Int))).setCell ⟨w.heap.size + 1, 11, none⟩ (.int .u64 (m7 : Int)))).ownsRow w.heap.size 36 2 lq' (q + 1) (wtC (P.W.take (q + 1)))) := own_keep (own_keep HO'.out (Keep.of_below HQ.out []) (fun _ _ => by simp)) (keepZ (keepZ (keepZ (keepZ (keepZ (keepZ (keepZ (keepZ (Keep.refl _ _) _ _) _ _) _ _) _ _) _ _) _ _) _ _) _ _) (fun b hb e => own_ne HO'.out HR'.out (by decide) (by simp at e; rw [← e]; exact hb))
          clear s4 s5 s6 s7 s8 s9 s10 s11 t4 t5 t6 t7 t8 t9 t10 t11 f4 f5 f6 f7 f8 f9 f10 f11 hws
          go_wp2
          go_roundg (m - (q + 1))
          case measure => omega
          case rel => exact ⟨q + 1, lq', by omega, rfl, by go_num, HN2.out, HON.out, HBN.out⟩
    · have hqe : q = m := by omega
      subst hqe
      have hnn : ¬ (q : Int) < (q : Int) := by omega
      have HF : Hid (R (.returned (.pointer (some ⟨w.heap.size + 1, 0, none⟩))) wr) := by
        rw [Hid, HR0.out]
        have ho := HO.out
        have hr := HR.out
        rw [show P.W.take q = P.W from by rw [← HMM.out]; exact List.take_length] at ho hr
        refine ⟨HB.out, w.heap.size + 1, _, rfl, lq, .slice none 0 0, ?_, ?_, World.ownsRow_nil _ _ _ _, rfl, Nat.le_add_right _ 1⟩
        · rw [HSG.out]; exact hr
        · rw [HMM.out]; exact ho
      go_wp2
      first | exact HF.out | (go_ret; exact HF.out)
end Go.Proofs.Ytbmmicfdnfpcaaa
