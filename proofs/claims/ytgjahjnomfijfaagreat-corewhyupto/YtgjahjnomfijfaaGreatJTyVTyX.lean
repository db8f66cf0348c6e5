/- (Game).shares: has an entry above a stamp a bit that a signature has? -/
import Derived.Test.YtgjahjnomfijfaaGreatJTyMTyL
import Derived.Test.YtgjahjnomfijfaaGreatJSigVSigL
import Derived.RegionTactic
namespace Go.Proofs.YtgjahjnomfijfaaGreat
open Go.ChangeShapes Go.WideShapes Go.ChangeAt Go.RowKit
attribute [local go_sem ↓] Go.wp_at_zero Go.wp_at_succ
set_option linter.unusedVariables false
def sg8 (s : List Nat) : List Value := [swV s 0, swV s 1, swV s 2, swV s 3, swV s 4, swV s 5, swV s 6, swV s 7]
def sgsC (S : List (List Nat)) : List Value := S.flatMap sg8
theorem sgsC_snoc (S : List (List Nat)) (s : List Nat) : sgsC (S ++ [s]) = sgsC S ++ sg8 s := by unfold sgsC; simp
theorem sgsC_get (S : List (List Nat)) {i : Nat} (hi : i < S.length) {j : Nat} (hj : j < 8) : (sgsC S)[i * 8 + j]? = some (swV (S.getD i []) j) := by
 induction S generalizing i with
 | nil => simp at hi
 | cons s r ih =>
  unfold sgsC
  rw [List.flatMap_cons]
  cases i with
  | zero =>
   rw [List.getElem?_append_left (by simp [sg8]; omega)]
   rcases (show j = 0 ∨ j = 1 ∨ j = 2 ∨ j = 3 ∨ j = 4 ∨ j = 5 ∨ j = 6 ∨ j = 7 by omega) with rfl | rfl | rfl | rfl | rfl | rfl | rfl | rfl <;> rfl
  | succ i =>
   rw [List.getElem?_append_right (by simp [sg8]; omega)]
   have := ih (i := i) (by simpa using hi)
   unfold sgsC at this
   rw [show (i + 1) * 8 + j - (sg8 s).length = i * 8 + j by simp [sg8]; omega, this]
   simp
theorem sig_cells8 {w : World} {B : Nat} {a0 a1 a2 a3 a4 a5 a6 a7 : Value} (h : w.heap[B]? = some (.cells #[a0, a1, a2, a3, a4, a5, a6, a7] 51 (0, 0))) :
  w.cell? ⟨B, 0, none⟩ = some a0 ∧ w.cell? ⟨B, 1, none⟩ = some a1 ∧ w.cell? ⟨B, 2, none⟩ = some a2 ∧ w.cell? ⟨B, 3, none⟩ = some a3 ∧ w.cell? ⟨B, 4, none⟩ = some a4 ∧ w.cell? ⟨B, 5, none⟩ = some a5 ∧ w.cell? ⟨B, 6, none⟩ = some a6 ∧ w.cell? ⟨B, 7, none⟩ = some a7 :=
 ⟨by rw [cell_at h]; rfl, by rw [cell_at h]; rfl, by rw [cell_at h]; rfl, by rw [cell_at h]; rfl, by rw [cell_at h]; rfl, by rw [cell_at h]; rfl, by rw [cell_at h]; rfl, by rw [cell_at h]; rfl⟩
theorem own_form2 {w : World} {base n sz cap : Nat} {e : TypeId} {a : Option Addr} {xs : List Value} (h : w.ownsRow base e sz (.slice a n cap) n xs) (hn : 0 < n) : ∃ g, a = some ⟨g, 0, none⟩ := by
 rcases h.2 with ⟨e, h0⟩ | ⟨g, cp, cur, e, _⟩
 ·omega
 ·injection e with e1 _ _
  exact ⟨g, e1⟩
def shB (S : List (List Nat)) (st : Int) (rd : List Nat) (i : Nat) : Bool := decide (st ≤ (i : Int)) && !(Sg.meet (S.getD i []) rd == Sg.nought)
def shAny (S : List (List Nat)) (st : Int) (rd : List Nat) : Bool := (List.range S.length).any (shB S st rd)
theorem shAny_yes {S : List (List Nat)} {st : Int} {rd : List Nat} {i : Nat} (hi : i < S.length) (h : shB S st rd i = true) : shAny S st rd = true := List.any_eq_true.2 ⟨i, by simpa using hi, h⟩
theorem shAny_no {S : List (List Nat)} {st : Int} {rd : List Nat} (h : ∀ i, i < S.length → shB S st rd i = false) : shAny S st rd = false := by
 unfold shAny
 rw [List.any_eq_false]
 intro i hi
 rw [h i (by simpa using hi)]
 simp
theorem gm_c2 {w : World} {B : Nat} {p tv sv wv rv : Value} (h : w.heap[B]? = some (gmO p tv sv wv rv)) : w.cell? ⟨B, 2, none⟩ = some sv := by unfold gmO at h; rw [cell_at h]; rfl
theorem gm_c3 {w : World} {B : Nat} {p tv sv wv rv : Value} (h : w.heap[B]? = some (gmO p tv sv wv rv)) : w.cell? ⟨B, 3, none⟩ = some wv := by unfold gmO at h; rw [cell_at h]; rfl
set_option maxRecDepth 100000 in
set_option maxHeartbeats 3200000 in
theorem shares_g {w : World} {base B : Nat} {p tv sv wv rv : Value} {S : List (List Nat)} (hgm : w.heap[B]? = some (gmO p tv sv wv rv)) (hown : w.ownsRow base 51 8 sv S.length (sgsC S)) (hS : ∀ s ∈ S, Sg.Ok s) (hlen : S.length ≤ 100000000) {rd : List Nat} (hr : Sg.Ok rd) (st : Int) :
  Calls Tryz.prog 18 #[.pointer (some ⟨B, 0, none⟩), .int .i64 st, .agg #[swV rd 0, swV rd 1, swV rd 2, swV rd 3, swV rd 4, swV rd 5, swV rd 6, swV rd 7]] w fun e w' => e = .returned (.bool (shAny S st rd)) ∧ Below w.heap.size w w' := by
 obtain ⟨va, vcap, rfl⟩ := own_slice hown
 have HGM : Hid (∀ w', Below w.heap.size w w' → w'.heap[B]? = some (gmO p tv (.slice va S.length vcap) wv rv)) := fun w' k => row_on hgm k
 have HOW : Hid (∀ w', Below w.heap.size w w' → w'.ownsRow base 51 8 (.slice va S.length vcap) S.length (sgsC S)) := fun w' k => own_keep hown (Keep.of_below k []) (by simp)
 have HMT : Hid (∀ i, i < S.length → ∀ w, Calls Tryz.prog 28 #[.agg #[swV (S.getD i []) 0, swV (S.getD i []) 1, swV (S.getD i []) 2, swV (S.getD i []) 3, swV (S.getD i []) 4, swV (S.getD i []) 5, swV (S.getD i []) 6, swV (S.getD i []) 7], .agg #[swV rd 0, swV rd 1, swV rd 2, swV rd 3, swV rd 4, swV rd 5, swV rd 6, swV rd 7]] w fun e w' => e = .returned (.bool (!(Sg.meet (S.getD i []) rd == Sg.nought))) ∧ Below w.heap.size w w') := fun i hi w => by
  have ho : Sg.Ok (S.getD i []) := hS _ (by rw [List.getD_eq_getElem?_getD, List.getElem?_eq_getElem hi]; exact List.getElem_mem hi)
  rw [← sv_eight ho, ← sv_eight hr]
  exact Sg.rmeets_any _ _ ho hr w
 have HSB : Hid (∀ i, shB S st rd i = (decide (st ≤ (i : Int)) && !(Sg.meet (S.getD i []) rd == Sg.nought))) := fun _ => rfl
 have HCL : Hid (∀ i, i < S.length → ∀ j, j < 8 → (sgsC S)[i * 8 + j]? = some (swV (S.getD i []) j)) := fun i hi j hj => sgsC_get S hi hj
 have HY : Hid (∀ i, i < S.length → shB S st rd i = true → shAny S st rd = true) := fun i hi h => shAny_yes hi h
 have HNO : Hid ((∀ i, i < S.length → shB S st rd i = false) → shAny S st rd = false) := shAny_no
 generalize shAny S st rd = bb at *
 have hBl := heap_lt hgm
 obtain ⟨n, hn⟩ : ∃ n, S.length = n := ⟨_, rfl⟩
 rw [hn] at HGM HOW HMT HCL HY HNO hlen
 clear hgm hown hS hr hn
 unfold swV at HMT HCL ⊢
 generalize rd.getD 0 0 = n0 at *
 generalize rd.getD 1 0 = n1 at *
 generalize rd.getD 2 0 = n2 at *
 generalize rd.getD 3 0 = n3 at *
 generalize rd.getD 4 0 = n4 at *
 generalize rd.getD 5 0 = n5 at *
 generalize rd.getD 6 0 = n6 at *
 generalize rd.getD 7 0 = n7 at *
 go_enter Tryz.func18, Tryz.ntmps18
 go_wp2_with fail
 go_loopw [7] (fun iv wr => ∃ q : Nat, q ≤ n ∧ iv = .int .i64 q ∧ (∀ i, i < q → shB S st rd i = false) ∧ wr.heap[w.heap.size]? = some (.cells #[.int .u64 ((n0 : Nat) : Int), .int .u64 ((n1 : Nat) : Int), .int .u64 ((n2 : Nat) : Int), .int .u64 ((n3 : Nat) : Int), .int .u64 ((n4 : Nat) : Int), .int .u64 ((n5 : Nat) : Int), .int .u64 ((n6 : Nat) : Int), .int .u64 ((n7 : Nat) : Int)] 51 (0, 0)) ∧ Below w.heap.size w wr) (fun iv _ => n - (intOf iv).toNat)
 case atStart => exact ⟨0, Nat.zero_le _, rfl, fun i hi => by omega, heap_alloc_new _ _, below_a1 _ _⟩
 case round =>
  obtain ⟨q, hq, rfl, hno, hrow, hb⟩ := hrel
  have HN0 : Hid (∀ i, i < q → shB S st rd i = false) := hno
  have HR : Hid (wr.heap[w.heap.size]? = some (.cells #[.int .u64 ((n0 : Nat) : Int), .int .u64 ((n1 : Nat) : Int), .int .u64 ((n2 : Nat) : Int), .int .u64 ((n3 : Nat) : Int), .int .u64 ((n4 : Nat) : Int), .int .u64 ((n5 : Nat) : Int), .int .u64 ((n6 : Nat) : Int), .int .u64 ((n7 : Nat) : Int)] 51 (0, 0))) := hrow
  have HB : Hid (Below w.heap.size w wr) := hb
  have hg := HGM.out wr hb
  have c2 := gm_c2 hg
  have hBr : B < wr.heap.size := heap_lt hg
  obtain ⟨r0, r1, r2, r3, r4, r5, r6, r7⟩ := sig_cells8 hrow
  have hwr : w.heap.size < wr.heap.size := heap_lt hrow
  by_cases hlt : q < n
  ·have hx1 : (q : Int) < (n : Int) := by omega
   have hx0 : (0 : Int) ≤ (q : Int) := by omega
   have hq' := HOW.out wr hb
   obtain ⟨gb, rfl⟩ := own_form2 hq' (by omega)
   have hq0 := hq'
   have e0 := own_cells hq0 (q * 8 + 0) _ (HCL.out q hlt 0 (by decide))
   have e1 := own_cells hq0 (q * 8 + 1) _ (HCL.out q hlt 1 (by decide))
   have e2 := own_cells hq0 (q * 8 + 2) _ (HCL.out q hlt 2 (by decide))
   have e3 := own_cells hq0 (q * 8 + 3) _ (HCL.out q hlt 3 (by decide))
   have e4 := own_cells hq0 (q * 8 + 4) _ (HCL.out q hlt 4 (by decide))
   have e5 := own_cells hq0 (q * 8 + 5) _ (HCL.out q hlt 5 (by decide))
   have e6 := own_cells hq0 (q * 8 + 6) _ (HCL.out q hlt 6 (by decide))
   have e7 := own_cells hq0 (q * 8 + 7) _ (HCL.out q hlt 7 (by decide))
   rw [Nat.add_zero] at e0
   have hgl : gb < wr.heap.size := (hq'.lt gb rfl).2
   have HMQ := HMT.out q hlt
   have HSQ := HSB.out q
   clear hno hrow hb hg hq' hq0 HMT HCL
   generalize (!(Sg.meet (S.getD q []) rd == Sg.nought)) = mt at *
   generalize (S.getD q []).getD 0 0 = m0 at *
   generalize (S.getD q []).getD 1 0 = m1 at *
   generalize (S.getD q []).getD 2 0 = m2 at *
   generalize (S.getD q []).getD 3 0 = m3 at *
   generalize (S.getD q []).getD 4 0 = m4 at *
   generalize (S.getD q []).getD 5 0 = m5 at *
   generalize (S.getD q []).getD 6 0 = m6 at *
   generalize (S.getD q []).getD 7 0 = m7 at *
   have HMR : Hid (∀ w, Calls Tryz.prog 28 #[.agg #[.int .u64 ((m0 : Nat) : Int), .int .u64 ((m1 : Nat) : Int), .int .u64 ((m2 : Nat) : Int), .int .u64 ((m3 : Nat) : Int), .int .u64 ((m4 : Nat) : Int), .int .u64 ((m5 : Nat) : Int), .int .u64 ((m6 : Nat) : Int), .int .u64 ((m7 : Nat) : Int)], .agg #[.int .u64 ((n0 : Nat) : Int), .int .u64 ((n1 : Nat) : Int), .int .u64 ((n2 : Nat) : Int), .int .u64 ((n3 : Nat) : Int), .int .u64 ((n4 : Nat) : Int), .int .u64 ((n5 : Nat) : Int), .int .u64 ((n6 : Nat) : Int), .int .u64 ((n7 : Nat) : Int)]] w fun e w' => e = .returned (.bool mt) ∧ Below w.heap.size w w') := HMQ
   have HSR : Hid (shB S st rd q = (decide (st ≤ (q : Int)) && mt)) := HSQ
   clear HMQ HSQ
   go_wp2_with fail
   go_region_with ((go_at_call 28; refine (HMR.out _).mono ?_; rintro e w1 ⟨rfl, hb1⟩))
   all_goals
    have HR1 : Hid (w1.heap[w.heap.size]? = some (.cells #[.int .u64 ((n0 : Nat) : Int), .int .u64 ((n1 : Nat) : Int), .int .u64 ((n2 : Nat) : Int), .int .u64 ((n3 : Nat) : Int), .int .u64 ((n4 : Nat) : Int), .int .u64 ((n5 : Nat) : Int), .int .u64 ((n6 : Nat) : Int), .int .u64 ((n7 : Nat) : Int)] 51 (0, 0))) := row_on (w := World.drew wr) HR.out hb1
    have HB1 : Hid (Below w.heap.size w w1) := below_then (below_drawn HB.out 1) hb1
    clear hb1 r0 r1 r2 r3 r4 r5 r6 r7 e0 e1 e2 e3 e4 e5 e6 e7 c2
    by_cases hge : st ≤ (q : Int)
    ·cases mt
     ·go_wp2
      go_roundw
      case rel => exact ⟨q + 1, hlt, by go_num, fun i hi => by
              by_cases ei : i < q
              · exact HN0.out i ei
              · obtain rfl : i = q := by omega
                rw [HSR.out]; simp, HR1.out, HB1.out⟩
      case measure => simp [intOf]; omega
     ·go_wp2
      go_ret
      exact ⟨by rw [HY.out q hlt (by rw [HSR.out]; simp [hge])]; rfl, HB1.out⟩
    ·go_wp2
     go_roundw
     case rel => exact ⟨q + 1, hlt, by go_num, fun i hi => by
            by_cases ei : i < q
            · exact HN0.out i ei
            · obtain rfl : i = q := by omega
              rw [HSR.out]; simp [hge], HR1.out, HB1.out⟩
     case measure => simp [intOf]; omega
  ·have hx1 : ¬ (q : Int) < (n : Int) := by omega
   have HV : Hid (bb = false) := HNO.out (fun i hi => HN0.out i (by omega))
   clear hno hrow hb hg
   go_wp2
   go_ret
   exact ⟨by rw [HV.out]; rfl, HB.out⟩
end Go.Proofs.YtgjahjnomfijfaaGreat
/- Steps of transactions in a game, as they lie. -/
namespace Go.Proofs.YtgjahjnomfijfaaGreat
open Go.ChangeShapes Go.WideShapes Go.ChangeAt Go.RowKit
set_option linter.unusedVariables false
theorem MI.steps {w wr w' : World} {base s m : Nat} {N : Int} {p : Value} {Tp : Nat → Nat} {B X cap : Nat} {cur : Array Value} {sv wv rv : Value} {q : Nat} {L : List Ac} {g : Rg} {T : Nat → Tx} {R : Nat → List (Int × Int)} {A A' : List Nat} (h : MI w wr base s m N p Tp B X cap cur sv wv rv q L g T R A) {k : Nat} (hk : k < 4) {o : Out} {g' : Rg} {R' : Nat → List (Int × Int)} (wi : WI 8 N m o.L g' (setT T k o.x) R') (gs : g'.s = g.s) (len : o.L.length ≤ L.length + 1) (ev : o.x.ev.length ≤ (T k).ev.length + 2)
  (hg : GB w' base s p o.L Tp (setT T k o.x) A' B X cap cur sv wv rv) (hn : Next A A' wr w') : MI w w' base s m N p Tp B X cap cur sv wv rv (q + 1) o.L g' (setT T k o.x) R' A' := by
 refine ⟨wi, gs.trans h.gs, hg, by have := h.len; omega, fun j hj => ?_, below_keep h.bel hn.1 (fun b hb => Nat.le_trans h.lo (h.gb.gg.lt b hb).1), h.lo, Nat.le_trans h.hi hn.1.size⟩
 have := h.evs j hj
 by_cases e : j = k
 ·subst e; rw [setT_self]; omega
 ·rw [setT_else _ _ e]; omega
def AnsAt (w0 wx : World) (v : Value) (A' : List Nat) (k e z : Int) (y : Bool) : Prop := ∃ P, v = .pointer (some ⟨P, 0, none⟩) ∧ w0.heap.size ≤ P ∧ P ∉ A' ∧ wx.heap[P]? = some (.cells #[.int .i64 k, .int .i64 e, .int .i64 z, .bool y] 55 (0, 0))
end Go.Proofs.YtgjahjnomfijfaaGreat
/- What CoreWhy asks, as numbers, and the law's own lists as they lie. -/
namespace Go.Proofs.YtgjahjnomfijfaaGreat
open Go.ChangeShapes Go.WideShapes Go.ChangeAt Go.RowKit
set_option linter.unusedVariables false
def sgL (g : Rg) : List (List Nat) := (List.range g.n).map fun i => g.sg (i + 1)
theorem sgL_len (g : Rg) : (sgL g).length = g.n := by simp [sgL]
theorem sgL_ok (g : Rg) : ∀ s ∈ sgL g, Sg.Ok s := fun s hs => by
 obtain ⟨i, _, rfl⟩ := List.mem_map.1 hs
 exact sg_ok g _
theorem sgL_get (g : Rg) {i : Nat} (h : i < g.n) : (sgL g).getD i [] = g.sg (i + 1) := by
 unfold sgL
 rw [List.getD_eq_getElem?_getD, List.getElem?_map, List.getElem?_range h]
 rfl
theorem sgL_same {g g' : Rg} (h : g'.W = g.W) : sgL g' = sgL g ∧ g'.n = g.n := by
 have hn : g'.n = g.n := by unfold Rg.n; rw [h]
 refine ⟨?_, hn⟩
 unfold sgL
 rw [hn]
 refine List.map_congr_left (fun i _ => ?_)
 unfold Rg.sg Rg.w
 rw [h]
theorem sgL_pub (g : Rg) (W : List Wt) : sgL (g.pub W) = sgL g ++ [Ba.sgOf W] := by
 unfold sgL
 rw [pub_n, List.range_succ, List.map_append]
 congr 1
 ·refine List.map_congr_left (fun i hi => ?_)
  have := List.mem_range.1 hi
  exact pub_sg g W (by omega) (by omega)
 ·simp only [List.map_cons, List.map_nil]
  unfold Rg.sg
  rw [pub_new]
theorem meet_get {a b : List Nat} (ha : Sg.Ok a) (hb : Sg.Ok b) {j : Nat} (hj : j < 8) : (Sg.meet a b).getD j 0 = (a.getD j 0 &&& b.getD j 0) := by
 unfold Sg.meet
 have h1 : j < a.length := by rw [ha.1]; exact hj
 have h2 : j < b.length := by rw [hb.1]; exact hj
 rw [List.getD_eq_getElem?_getD, List.getD_eq_getElem?_getD, List.getD_eq_getElem?_getD, List.getElem?_zipWith, List.getElem?_eq_getElem h1, List.getElem?_eq_getElem h2]
 rfl
theorem clash_sh {g : Rg} {rd : List Nat} (hr : Sg.Ok rd) {z : Int} (h0 : 0 ≤ z) {t : Nat} (h1 : z < (t : Int)) (h2 : t ≤ g.n) (hc : Fe.Clash g.vw rd t) : shAny (sgL g) z rd = true := by
 refine shAny_yes (i := t - 1) (by rw [sgL_len]; omega) ?_
 unfold shB
 rw [sgL_get g (by omega), show t - 1 + 1 = t by omega]
 have hd : decide (z ≤ ((t - 1 : Nat) : Int)) = true := by simp; omega
 rw [hd, Bool.true_and, Bool.not_eq_true', beq_eq_false_iff_ne]
 intro e
 obtain ⟨j, hj, hn⟩ := hc
 have h3 := meet_get (sg_ok g t) hr hj
 rw [e, Co.nought_getD j hj] at h3
 exact hn h3.symm
theorem why_each {W : Ev → Prop} {c : Nat} {N : Int} {m : Nat} {L : List Ac} {g : Rg} {T : Nat → Tx} {R : Nat → List (Int × Int)} {k : Nat} {pre : List Ev} {o : Out} {E : List Ev} {g' : Rg} {r' : List (Int × Int)} (h : Hap W c N m L g T R k pre o E g' r') (hp : pre = [] ∨ pre = [{ kind := 7 }]) :
  (pre ++ E = [] → g'.W = g.W ∧ g'.d = g.d) ∧ ∀ j, (hj : j < (pre ++ E).length) →
   (((pre ++ E)[j].kind ≠ 4 ∧ (pre ++ E)[j].kind ≠ 5 ∧ (pre ++ E)[j].kind ≠ 6 ∧ (j + 1 = (pre ++ E).length → g'.W = g.W ∧ g'.d = g.d)) ∨
       (j + 1 = (pre ++ E).length ∧ (((pre ++ E)[j].kind = 4 ∧ g' = g.pub (toW (T k).tb.R) ∧ (pre ++ E)[j].sig = Ba.sgOf (toW (T k).tb.R)) ∨ ((pre ++ E)[j].kind = 5 ∧ g' = g.don ∧ (pre ++ E)[j].stamp = (g.d : Int) + 1) ∨ ((pre ++ E)[j].kind = 6 ∧ g' = g ∧ W (pre ++ E)[j])))) := by
 have key : ∀ e, Tel W g (T k) (R k) o.x e g' r' → (e.kind ≠ 4 ∧ e.kind ≠ 5 ∧ e.kind ≠ 6 ∧ g'.W = g.W ∧ g'.d = g.d) ∨ ((e.kind = 4 ∧ g' = g.pub (toW (T k).tb.R) ∧ e.sig = Ba.sgOf (toW (T k).tb.R)) ∨ (e.kind = 5 ∧ g' = g.don ∧ e.stamp = (g.d : Int) + 1) ∨ (e.kind = 6 ∧ g' = g ∧ W e)) := fun e t => by
  unfold Tel at t
  rcases t with ⟨b1, b2, _⟩ | ⟨b1, b2, _⟩ | ⟨b1, b2, _⟩ | ⟨b1, b2, _, _, _, b6, _⟩ | ⟨b1, b2, _, b4, _⟩ | ⟨b1, b2, _, b4, _⟩
  ·exact Or.inl ⟨by omega, by omega, by omega, by rw [b2], by rw [b2]⟩
  ·exact Or.inl ⟨by omega, by omega, by omega, by rw [b2], by rw [b2]⟩
  ·exact Or.inl ⟨by omega, by omega, by omega, by rw [b2], by rw [b2]⟩
  ·exact Or.inr (Or.inl ⟨b1, b2, b6⟩)
  ·exact Or.inr (Or.inr (Or.inl ⟨b1, b2, b4⟩))
  ·exact Or.inr (Or.inr (Or.inr ⟨b1, b2, b4⟩))
 refine ⟨fun e => ?_, fun j hj => ?_⟩
 ·rcases h.tel with ⟨_, a2, a3, _⟩ | ⟨e', a1, _⟩
  ·exact ⟨a2, a3⟩
  ·rw [a1] at e; simp at e
 ·rcases h.tel with ⟨rfl, a2, a3, _⟩ | ⟨e, rfl, t⟩
  ·rcases hp with rfl | rfl
   ·simp at hj
   ·have : j = 0 := by simp at hj; omega
    subst this
    exact Or.inl ⟨by simp, by simp, by simp, fun _ => ⟨a2, a3⟩⟩
  ·have kt := key e t
   rcases hp with rfl | rfl
   ·have : j = 0 := by simp at hj; omega
    subst this
    rcases kt with ⟨t1, t2, t3, t4⟩ | t1
    ·exact Or.inl ⟨t1, t2, t3, fun _ => t4⟩
    ·exact Or.inr ⟨rfl, t1⟩
   ·have : j = 0 ∨ j = 1 := by simp at hj; omega
    rcases this with rfl | rfl
    ·exact Or.inl ⟨by simp, by simp, by simp, fun e => by simp at e⟩
    ·rcases kt with ⟨t1, t2, t3, t4⟩ | t1
     ·exact Or.inl ⟨t1, t2, t3, fun _ => t4⟩
     ·exact Or.inr ⟨rfl, t1⟩
structure SW (wr : World) (base : Nat) (sv wv : Value) (A : List Nat) (S : List (List Nat)) (ws : List Value) (n : Nat) : Prop where
 sg : wr.ownsRow base 51 8 sv n (sgsC S)
 sl : S.length = n
 ww : wr.ownsRow base 47 1 wv n ws
 sA : ∀ z, sv.ownBlock = some z → z ∉ A
 wA : ∀ z, wv.ownBlock = some z → z ∉ A
theorem SW.below {wr w' : World} {base : Nat} {sv wv : Value} {A : List Nat} {S : List (List Nat)} {ws : List Value} {n : Nat} (h : SW wr base sv wv A S ws n) (k : Below wr.heap.size wr w') : SW w' base sv wv A S ws n :=
 ⟨own_keep h.sg (Keep.of_below k []) (by simp), h.sl, own_keep h.ww (Keep.of_below k []) (by simp), h.sA, h.wA⟩
theorem SW.next {wr w' : World} {base : Nat} {sv wv : Value} {A A' : List Nat} {S : List (List Nat)} {ws : List Value} {n : Nat} (h : SW wr base sv wv A S ws n) (k : Next A A' wr w') : SW w' base sv wv A' S ws n :=
 ⟨own_keep h.sg k.1 h.sA, h.sl, own_keep h.ww k.1 h.wA, fun z hz e => by
    rcases k.2 z e with e | e
    · exact h.sA z hz e
    · have := (h.sg.lt z hz).2; omega, fun z hz e => by
    rcases k.2 z e with e | e
    · exact h.wA z hz e
    · have := (h.ww.lt z hz).2; omega⟩
theorem MI.refield {w wr w' : World} {base s m : Nat} {N : Int} {p : Value} {Tp : Nat → Nat} {B X cap : Nat} {cur : Array Value} {sv wv rv sv' wv' rv' : Value} {q : Nat} {L : List Ac} {g : Rg} {T : Nat → Tx} {R : Nat → List (Int × Int)} {A H : List Nat} (h : MI w wr base s m N p Tp B X cap cur sv wv rv q L g T R A) (k : Keep H wr w') (h1 : ∀ z ∈ H, w.heap.size ≤ z ∧ z ∉ A) (h3 : X ∉ H) (gm : w'.heap[B]? = some (gmO p (.slice (some ⟨X, 0, none⟩) 4 cap) sv' wv' rv')) : MI w w' base s m N p Tp B X cap cur sv' wv' rv' q L g T R A :=
 ⟨h.wi, h.gs, ⟨h.gb.gg.keep k (fun z hz e => (h1 z e).2 hz), gm, keep_row k h.gb.tx h3, h.gb.pt, h.gb.bA, h.gb.xA⟩, h.len, h.evs, below_keep h.bel k (fun z hz => (h1 z hz).1), h.lo, Nat.le_trans h.hi k.size⟩
def Y1 (w wr : World) (base s m : Nat) (N : Int) (p : Value) (Tp : Nat → Nat) (B X cap : Nat) (cur : Array Value) (rv : Value) (D : Nat) (dO : Obj) (q : Nat) (dn : Int) : Prop :=
 ∃ L g T R A sv wv ws, MI w wr base s m N p Tp B X cap cur sv wv rv q L g T R A ∧ SW wr base sv wv A (sgL g) ws g.n ∧ wr.heap[D]? = some dO ∧ D ∉ A ∧ dn = (g.d : Int)
theorem want_ok2 {a : At} (h : W64 a.w.value) : ∀ w, wantA a = some w → W64 w.value := fun w e => by
 unfold wantA at e
 split at e
 ·cases e; exact h
 ·cases e
theorem hap_few2 {W : Ev → Prop} {c : Nat} {N : Int} {m : Nat} {L : List Ac} {g : Rg} {T : Nat → Tx} {R : Nat → List (Int × Int)} {k : Nat} {pre : List Ev} {o : Out} {E : List Ev} {g' : Rg} {r' : List (Int × Int)} (h : Hap W c N m L g T R k pre o E g' r') (hp : pre = [] ∨ pre = [{ kind := 7 }]) : (pre ++ E).length ≤ 2 := by
 have hE : E.length ≤ 1 := by
  rcases h.tel with ⟨e1, _⟩ | ⟨e, e1, _⟩ <;> rw [e1] <;> simp
 have hpl : pre.length ≤ 1 := by rcases hp with e | e <;> rw [e] <;> simp
 simp only [List.length_append]
 omega
theorem wrap_small2 {x : Int} (h0 : -9223372036854775808 ≤ x) (h1 : x ≤ 9223372036854775807) : wrap64 x = x := by unfold wrap64; omega
theorem answ_cells2 {w : World} {B : Nat} {k e v : Int} {y : Bool} (h : w.heap[B]? = some (.cells #[.int .i64 k, .int .i64 e, .int .i64 v, .bool y] 55 (0, 0))) : (w.cell? ⟨B, 0, none⟩ = some (.int .i64 k) ∧ w.cell? ⟨B, 1, none⟩ = some (.int .i64 e) ∧ w.cell? ⟨B, 2, none⟩ = some (.int .i64 v) ∧ w.cell? ⟨B, 3, none⟩ = some (.bool y)) ∧ True := ⟨⟨by rw [cell_at h]; rfl, by rw [cell_at h]; rfl, by rw [cell_at h]; rfl, by rw [cell_at h]; rfl⟩, trivial⟩
end Go.Proofs.YtgjahjnomfijfaaGreat
