/- BackPlays of the landed program: a machine made of anything over a memory of every size, whatever others store into its words between two steps: every answer and every access is the document's, and what was handed in does not count behind the call; for every input the law answers true, and the input reads as it did. -/
import Derived.Test.YtbmmicfdnfpcaaaRows
import Derived.Test.YtbmmicfdnfpcaaaJBpUBkR
import Derived.Test.YtbmmicfdnfpcaaaJBpUBkR
import Derived.WalkKit
import Derived.ProofKit
import Derived.OpenShut
import Derived.ChangeOld
import Derived.Below
import Derived.Deep.DeepHandedRow
import Derived.HandedShaped
namespace Go.Proofs.Ytbmmicfdnfpcaaa.backPlays
open Go.ChangeShapes Go.WideShapes Go.ChangeAt Go.RowKit

theorem own : ownKnob Try.prog.godebug = none := by kernel_rfl
theorem laidOut : laidOutB Try.prog = true := by kernel_rfl
theorem cells_in : Try.prog.cellsOf 28 = 12 := by kernel_rfl
theorem cells_int : Try.prog.cellsOf 3 = 1 := by kernel_rfl
theorem cells_i64 : Try.prog.cellsOf 2 = 1 := by kernel_rfl
theorem cells_conf : Try.prog.cellsOf 24 = 7 := by kernel_rfl
theorem cells_regs : Try.prog.cellsOf 22 = 1 := by kernel_rfl
theorem cells_bool : Try.prog.cellsOf 4 = 1 := by kernel_rfl
theorem cells_wrs : Try.prog.cellsOf 25 = 1 := by kernel_rfl
theorem cells_acts : Try.prog.cellsOf 26 = 1 := by kernel_rfl
theorem len12 {α : Type} {l : List α} (h : l.length = 12) : ∃ a b c d e f g h i j k m, l = [a, b, c, d, e, f, g, h, i, j, k, m] := by
  match l, h with
  | [a, b, c, d, e, f, g, h, i, j, k, m], _ => exact ⟨a, b, c, d, e, f, g, h, i, j, k, m, rfl⟩
theorem len6 {α : Type} {l : List α} (h : l.length = 6) : ∃ a b c d e f, l = [a, b, c, d, e, f] := by
  match l, h with
  | [a, b, c, d, e, f], _ => exact ⟨a, b, c, d, e, f, rfl⟩
theorem len7 {α : Type} {l : List α} (h : l.length = 7) : ∃ a b c d e f g, l = [a, b, c, d, e, f, g] := by
  match l, h with
  | [a, b, c, d, e, f, g], _ => exact ⟨a, b, c, d, e, f, g, rfl⟩
theorem walk (w : World) (raw s wr0 nn : Int) (mu : Bool) (tr : Int) (va : Option Addr) (vn vcap : Nat) (st : Int) {wv av : Value} {W : List Wt} {S : List At} (hW : WL w wv W) (hv : ∀ i, i < W.length → W64 (W.getD i noWt).v) (cells ring : Int) (hS : BLst w av S) :
    Calls Try.prog 3 #[.agg #[.int .i64 raw, .int .i64 s, .int .i64 wr0, .int .i64 nn, .bool mu, .int .i64 tr, .slice va vn vcap, .int .i64 st, wv, .int .i64 cells, .int .i64 ring, av]] w fun e w' => e = .returned (.bool true) ∧ Below w.heap.size w w' := by
  cases h : tkB s st W with
  | false => exact bplays_no w raw s wr0 nn mu tr va vn vcap st hW hv cells ring hS h
  | true =>
    have h' := h
    unfold tkB at h'
    simp only [Bool.and_eq_true, decide_eq_true_eq] at h'
    obtain ⟨s', rfl⟩ := Int.eq_ofNat_of_zero_le (show 0 ≤ s by have := h'.1.1.1.1.1; omega)
    exact bplays_yes w raw s' wr0 nn mu tr va vn vcap st hW hv cells ring hS h

set_option maxRecDepth 100000 in
theorem lifted (os : Os) (started : os.Started) (H : Type) (enc : TypeId × Value → H) :
    ReturnsInHanded {} Try.checked os 3 .any (Rows.backPlaysSpec.pre6 enc Try.prog Try.f3 Rows.backPlaysRow.domain false) (Rows.backPlaysSpec.post enc Try.prog Try.f3 false true false false) := by
  refine returnsInHanded_of_change_shaped (C := Try.checked) own started (by kernel_rfl) Try.func3
    (ChangeSpec.witness6 (enc := enc) (C := Try.checked) false ⟨#[], #[.agg #[.int .i64 0, .int .i64 0, .int .i64 0, .int .i64 0, .bool false, .int .i64 0, .slice none 0 0, .int .i64 0, .slice none 0 0, .int .i64 0, .int .i64 0, .slice none 0 0]], []⟩ 8 (by kernel_rfl) (by kernel_rfl) (by kernel_rfl) (by kernel_rfl)) ?_
  intro W base args ds gs before hval0 hW hcnd hR _ _
  have hval : ∀ (j : Nat) t v, Try.f3.params[j]? = some t → args[j]? = some v → Value.okWide Try.prog W .any base t v := hval0
  have hW' := hW
  obtain ⟨p, q, hA0, hV, rfl, hfz, hnd⟩ := hW
  have hA : DataW.TrodAll enc Try.prog W 0 (fun _ => true) true Try.f3.params.toList args.toList ds p := hA0
  rw [Try.params3] at hA hval
  obtain ⟨v0, vs0, d0, ds0, p0, q0, hargs, rfl, rfl, h0, r0⟩ := trodAll_cons hA
  obtain ⟨rfl, rfl, rfl⟩ := trodAll_nil r0
  obtain rfl : args = #[v0] := by cases args; simp_all
  obtain ⟨rfl, rfl⟩ := trodVars_none hV
  have k0 := h0
  have lt0 : ∀ x ∈ p0, x.block < W.heap.size := by obtain ⟨m, hm⟩ := k0; exact DataW.trod_lt m _ _ _ hm
  have hR0 : (d0.weights Try.prog 28).all (· ≤ reachBytes) = true := by
    have hR1 : (DataW.weightsEach Try.prog (Try.f3.params.toList ++ []) ([d0] ++ [])).all (· ≤ reachBytes) = true := hR
    rw [Try.params3] at hR1
    simpa [DataW.weightsEach] using hR1
  obtain ⟨cs, rfl, hsz⟩ := okWide_struct Try.underlying28 (hval 0 28 v0 rfl rfl)
  obtain ⟨fuel, hf⟩ := h0
  obtain ⟨xs, m, _, hx, hl, hlen, hfd⟩ := DataW.trod_struct Try.underlying28 hf
  obtain ⟨l⟩ := cs
  have hl12 : l.length = 12 := hsz.trans cells_in
  obtain ⟨c0, c1, c2, c3, c4, c5, c6, c7, c8, c9, c10, c11, rfl⟩ := len12 hl12
  obtain ⟨y0, y1, y2, y3, y4, y5, rfl⟩ := len6 hlen
  have g0 := hfd 0 _ rfl
  have g1 := hfd 1 _ rfl
  have g2 := hfd 2 _ rfl
  have g3 := hfd 3 _ rfl
  have g4 := hfd 4 _ rfl
  have g5 := hfd 5 _ rfl
  simp [Value.cells, cells_int, cells_i64, cells_acts, cells_conf, cells_wrs] at g0 g1 g2 g3 g4 g5
  obtain ⟨ys, m1, _, hx1, hl1, hlen1, hfd1⟩ := DataW.trod_struct Try.underlying24 g0
  obtain ⟨u0, u1, u2, u3, u4, u5, u6, rfl⟩ := len7 hlen1
  have k_0 := hfd1 0 _ rfl
  have k_1 := hfd1 1 _ rfl
  have k_2 := hfd1 2 _ rfl
  have k_3 := hfd1 3 _ rfl
  have k_4 := hfd1 4 _ rfl
  have k_5 := hfd1 5 _ rfl
  have k_6 := hfd1 6 _ rfl
  simp [cells_int, cells_i64, cells_bool, cells_regs] at k_0 k_1 k_2 k_3 k_4 k_5 k_6
  obtain ⟨a0, z0, _, _⟩ := DataW.trod_int Try.underlying3 k_0
  obtain ⟨a1, z1, _, _⟩ := DataW.trod_int Try.underlying3 k_1
  obtain ⟨a2, z2, _, _⟩ := DataW.trod_int Try.underlying3 k_2
  obtain ⟨a3, z3, _, _⟩ := DataW.trod_int Try.underlying2 k_3
  obtain ⟨a4, z4, _⟩ := DataW.trod_bool Try.underlying4 k_4
  obtain ⟨a5, z5, _, _⟩ := DataW.trod_int Try.underlying3 k_5
  obtain ⟨va, vn, vcap, z6⟩ : ∃ va vn vcap, [c6] = [Value.slice va vn vcap] := by
    rcases DataW.trod_slice Try.underlying22 k_6 with ⟨e, _⟩ | ⟨a, ln, cp, _, _, _, _, e, _⟩
    · exact ⟨_, _, _, e⟩
    · exact ⟨_, _, _, e⟩
  obtain ⟨a7, z7, _, _⟩ := DataW.trod_int Try.underlying2 g1
  obtain ⟨a9, z9, _, _⟩ := DataW.trod_int Try.underlying3 g3
  obtain ⟨a10, z10, _, _⟩ := DataW.trod_int Try.underlying3 g4
  have hd : d0 = .agg ([y0, y1, y2, y3, y4, y5].map (·.1)) := (Prod.mk.inj hx).1
  have hR2 : (y2.1.weights Try.prog 25).all (· ≤ reachBytes) = true ∧ (y5.1.weights Try.prog 26).all (· ≤ reachBytes) = true := by
    rw [hd] at hR0
    simp [DataW.weights, DataW.weightsEach, Try.underlying28] at hR0
    simp only [List.all_eq_true, decide_eq_true_eq]
    exact ⟨hR0.2.2.1, hR0.2.2.2.2.2⟩
  obtain ⟨vw, W0, z8, hW0, hv64, _⟩ := open_wl hR2.1 g2
  obtain ⟨v, S, z11, hS⟩ := open_acts7 hR2.2 g5
  simp only [List.cons.injEq, and_true] at z0 z1 z2 z3 z4 z5 z6 z7 z8 z9 z10 z11
  subst z0 z1 z2 z3 z4 z5 z6 z7 z8 z9 z10 z11
  clear hA0 hval0
  refine (walk W a0 a1 a2 a3 a4 a5 va vn vcap a7 hW0 hv64 a9 a10 hS).mono fun e W' ⟨he, bel⟩ => ?_
  subst he
  exact ⟨_, rfl, _, _, _, [], _, [], hW', trodAll_mk1 (shut_bool Try.underlying4 _), (trodAll_cons_mk (Below.trod laidOut (by kernel_rfl) (of_decide_eq_true (by kernel_rfl)) k0 bel lt0) trodAll_mk0), rfl, bel.frame _, fun h => by cases h⟩

theorem over : Rows.backPlaysRow.holds Try.pinned (OpenSpec.ofChange Rows.backPlaysSpec) :=
  OpenClaim.holds_of_wide 3 Try.f3 rfl rfl rfl rfl rfl rfl rfl ⟨rfl, rfl, rfl, rfl, rfl⟩ rfl rfl rfl rfl rfl (by kernel_rfl) Try.func3 (by kernel_rfl)
    (of_decide_eq_true (by kernel_rfl)) (by unfold Func.isWrapper; first | (rw [if_pos (by decide +kernel)]; kernel_rfl) | (rw [if_neg (by decide +kernel)]; exact ⟨rfl, rfl⟩))
    (fun os started H enc _ => lifted os started H enc)

theorem proved : Rows.BackPlaysSaid :=
  over
#print axioms proved
end Go.Proofs.Ytbmmicfdnfpcaaa.backPlays
