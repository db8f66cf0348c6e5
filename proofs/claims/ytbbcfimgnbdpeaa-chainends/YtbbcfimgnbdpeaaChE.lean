/- ChainEnds, walked. -/
import Derived.Test.YtbbcfimgnbdpeaaChP
namespace Go.Proofs.Ytbbcfimgnbdpeaa.Ch
open Go.ChangeShapes Go.WideShapes Go.ChangeAt Go.RowKit
attribute [local go_sem ↓] Go.wp_at_zero Go.wp_at_succ

/-- A call under way beside the call as it was asked for. -/
structure EM (w0 wr : World) (X P : Nat) (pc : Array Value) (F : List Nat) (mc : Mc) : Prop where
  bel : Below w0.heap.size w0 wr
  mac : McAt wr X F mc
  low : ∀ q ∈ F, w0.heap.size ≤ q
  par : wr.heap[P]? = some (.cells pc 24 (0, 0))
  nP : P ∉ F
theorem EM.later {w0 wr w' : World} {X P : Nat} {pc : Array Value} {F : List Nat} {mc : Mc} (h : EM w0 wr X P pc F mc) (hb : Below wr.heap.size wr w') : EM w0 w' X P pc F mc :=
  ⟨h.bel.trans (hb.mono h.bel.size), h.mac.later hb, h.low, by rw [hb.block _ (heap_lt h.par)]; exact h.par, h.nP⟩
theorem EM.next {w0 wr w' : World} {X P : Nat} {pc : Array Value} {F F' : List Nat} {mc mc' : Mc} (h : EM w0 wr X P pc F mc) (hm : McAt w' X F' mc') (hn : Next F F' wr w') : EM w0 w' X P pc F' mc' := by
  have hnew : ∀ q, q < wr.heap.size → q ∉ F → q ∉ F' := fun q h1 h2 h3 => by
    rcases hn.2 q h3 with h4 | h4
    · exact h2 h4
    · omega
  refine ⟨h.bel.trans (hn.below h.bel.size h.low), hm, fun q hq => ?_, by rw [hn.1.block _ (heap_lt h.par) h.nP]; exact h.par, hnew _ (heap_lt h.par) h.nP⟩
  rcases hn.2 q hq with h4 | h4
  · exact h.low q h4
  · have := h.bel.size; omega
theorem EM.parts {w0 wr : World} {X P : Nat} {b m c : Int} {va vw : Value} {F : List Nat} {mc : Mc} (h : EM w0 wr X P #[.int .i64 b, .int .i64 m, .int .i64 c, va, vw] F mc) :
    wr.cell? ⟨P, 0, none⟩ = some (.int .i64 b) ∧ wr.cell? ⟨P, 1, none⟩ = some (.int .i64 m) ∧ wr.cell? ⟨P, 2, none⟩ = some (.int .i64 c) ∧ wr.cell? ⟨P, 3, none⟩ = some va ∧ wr.cell? ⟨P, 4, none⟩ = some vw :=
  ⟨by rw [cell_at h.par]; rfl, by rw [cell_at h.par]; rfl, by rw [cell_at h.par]; rfl, by rw [cell_at h.par]; rfl, by rw [cell_at h.par]; rfl⟩
theorem en_less {i k : Nat} (h : i ≤ k) : k + 1 - (i + 1) < k + 1 - i := by omega
theorem en_step {i k a b : Nat} (hk : k ≤ 100) (hi : i + a ≤ k) (hb : b < a) : i + 1 + b ≤ k ∧ wrap64 ((i : Int) + 1) = ((i + 1 : Nat) : Int) ∧ i ≤ k := by
  refine ⟨by omega, ?_, by omega⟩
  unfold wrap64
  omega
theorem en_in {m : Int} {i a : Nat} (h : 0 ≤ m ∧ m ≤ 16) (hi : i + a ≤ mostW m) : decide ((i : Int) ≤ 2 * m + 7) = true := by
  unfold mostW at hi
  simp
  omega
theorem en_wr {m : Int} (h : 0 ≤ m ∧ m ≤ 16) : wrap64 (2 * m) = 2 * m ∧ wrap64 (2 * m + 7) = 2 * m + 7 := by
  unfold wrap64
  omega
set_option maxRecDepth 100000 in
set_option maxHeartbeats 2000000 in
theorem ends_walk {w : World} {v : Value} {q : Ask} (ha : AskV w v q) : Calls Try.prog 4 #[v] w fun e w' => e = .returned (.bool true) ∧ Below w.heap.size w w' := by
  obtain ⟨va, vw, rfl, hA, hW, _⟩ := ha
  have HR : Hid (∀ w' : World, Below w.heap.size w w' → Calls Try.prog 10 #[.int .i64 q.b, .int .i64 q.m, .int .i64 q.c, va] w' fun e w'' => e = .returned (.bool (rightV q.b q.m q.c q.A.length)) ∧ Below w'.heap.size w' w'') := fun w' hb => right_any w' _ _ _ va q.A (hA.later hb (Nat.le_refl _))
  cases hr : rightV q.b q.m q.c q.A.length with
  | false =>
    rw [hr] at HR
    have HN : Hid (∀ w' : World, Below w.heap.size w w' → Calls Try.prog 9 #[.int .i64 q.b, .int .i64 q.m, .int .i64 q.c, va] w' fun e w'' => e = .returned (.tuple #[.pointer none, .int .i64 1]) ∧ Below w'.heap.size w' w'') := fun w' hb => new_no w' _ _ _ va q.A (hA.later hb (Nat.le_refl _)) hr
    clear hA hW hr
    go_enter Try.func4, Try.ntmps4
    go_wp2_with fail
    refine (HN.out _ (below_a1 _ _)).mono ?_
    rintro e w1 ⟨rfl, hb1⟩
    have HB1 : Hid (Below w.heap.size w w1) := below_next hb1
    have hr1 := row_next hb1
    have c0 : w1.cell? ⟨w.heap.size, 0, none⟩ = some (.int .i64 q.b) := by rw [cell_at hr1]; rfl
    have c1 : w1.cell? ⟨w.heap.size, 1, none⟩ = some (.int .i64 q.m) := by rw [cell_at hr1]; rfl
    have c2 : w1.cell? ⟨w.heap.size, 2, none⟩ = some (.int .i64 q.c) := by rw [cell_at hr1]; rfl
    have c3 : w1.cell? ⟨w.heap.size, 3, none⟩ = some va := by rw [cell_at hr1]; rfl
    clear hb1 hr1
    go_wp2_with fail
    refine (HR.out _ HB1.out).mono ?_
    rintro e w2 ⟨rfl, hb2⟩
    have HB2 : Hid (Below w.heap.size w w2) := below_then HB1.out hb2
    clear hb2 c0 c1 c2 c3
    go_wp2_with fail
    go_ret
    exact ⟨rfl, HB2.out⟩
  | true =>
    rw [hr] at HR
    have HN : Hid (∀ w' : World, Below w.heap.size w w' → Calls Try.prog 9 #[.int .i64 q.b, .int .i64 q.m, .int .i64 q.c, va] w' fun e w'' => ∃ X F, e = .returned (.tuple #[.pointer (some ⟨X, 0, none⟩), .int .i64 0]) ∧ McAt w'' X F (mkM q.b q.m q.c q.A) ∧ (∀ q ∈ F, w'.heap.size ≤ q) ∧ Below w'.heap.size w' w'') := fun w' hb => new_yes w' _ _ _ va q.A (hA.later hb (Nat.le_refl _)) hr
    have HX : Hid (∀ (w : World) (X : Nat) (F : List Nat) (m : Mc) (v : Int), McAt w X F m → Calls Try.prog 13 #[.pointer (some ⟨X, 0, none⟩), .int .i64 v] w fun e w' => e = .returned (.agg (wnC (tellM m v))) ∧ ∃ F', McAt w' X F' (goM m v) ∧ Next F F' w w') := fun w X F m v h => next_any h v
    have HZ : Hid (∀ w : World, Calls Try.prog 12 #[.int .i64 q.m] w fun e w' => e = .returned (.int .i64 (sizeV q.m)) ∧ w' = w) := fun w => size_any w q.m
    have HRF : Hid (Rel q.b q.m q.c q.A (mkM q.b q.m q.c q.A) [] 0 wn0) := rel_first hr
    obtain ⟨wa, wcap, rfl⟩ := nl_slice hW
    obtain ⟨_, hWl, hWc⟩ := nl_cells hW
    have HWC : Hid (∀ i, i < q.W.length → ∃ x, wa = some x ∧ x.block < w.heap.size ∧ w.cell? (x.add i) = some (.int .i64 (nth q.W i))) := hWc
    have HSX : Hid (∀ i, Sx (nth q.W i)) := nl_w64 hW.w64
    have HML : Hid (mostW q.m ≤ 100) := most_le hr
    have HBS : Hid (wrap64 (q.b + sizeV q.m) = q.b + sizeV q.m) := size_wrap hr
    have HMM : Hid (0 ≤ q.m ∧ q.m ≤ 16) := ⟨(call_of hr).1, (call_of hr).2.1⟩
    generalize hn : q.W.length = n at *
    clear hA hW hWc hr
    go_enter Try.func4, Try.ntmps4
    go_wp2_with fail
    refine (HN.out _ (below_a1 _ _)).mono ?_
    rintro e w1 ⟨X, F, rfl, hm, hF, hb1⟩
    have HE1 : Hid (EM w w1 X w.heap.size #[.int .i64 q.b, .int .i64 q.m, .int .i64 q.c, va, .slice wa n wcap] F (mkM q.b q.m q.c q.A)) := ⟨below_next hb1, hm, fun b hb => by have := hF b hb; simp at this; omega, row_next hb1, fun h => by have := hF _ h; simp at this; omega⟩
    obtain ⟨c0, c1, c2, c3, c4⟩ := HE1.out.parts
    clear hb1 hm hF
    go_wp2_with fail
    refine (HR.out _ HE1.out.bel).mono ?_
    rintro e w2 ⟨rfl, hb2⟩
    have HE2 : Hid (EM w w2 X w.heap.size #[.int .i64 q.b, .int .i64 q.m, .int .i64 q.c, va, .slice wa n wcap] F (mkM q.b q.m q.c q.A)) := HE1.out.later hb2
    obtain ⟨d0, d1, d2, d3, d4⟩ := HE2.out.parts
    clear hb2 c0 c1 c2 c3 c4 HE1
    go_wp2_with fail
    refine (HZ.out _).mono ?_
    rintro e w3 ⟨rfl, rfl⟩
    clear d0 d1 d2 d3 d4 HZ HN HR
    go_wp2_with fail
    go_loopg [7] (mostW q.m + 1) (fun g iv wr => ∃ (i : Nat) (R : List Int) (k : Int) (F : List Nat) (mc : Mc) (last : Wn), g = mostW q.m + 1 - i ∧ i + leftM mc ≤ mostW q.m ∧ iv = .int .i64 i ∧ EM w wr X w.heap.size #[.int .i64 q.b, .int .i64 q.m, .int .i64 q.c, va, .slice wa n wcap] F mc ∧ Rel q.b q.m q.c q.A mc R k last)
    case atStart => exact ⟨0, [], 0, F, _, wn0, by omega, by have := left_first q.b q.m q.c q.A; omega, rfl, HE2.out, HRF.out⟩
    case round =>
      obtain ⟨i, R, k, F, mc, last, rfl, hi2, rfl, hem, hrl⟩ := hrel
      have HEM : Hid (EM w wr X w.heap.size #[.int .i64 q.b, .int .i64 q.m, .int .i64 q.c, va, .slice wa n wcap] F mc) := hem
      have HRL : Hid (Rel q.b q.m q.c q.A mc R k last) := hrl
      obtain ⟨c0, c1, c2, c3, c4⟩ := hem.parts
      have hbd : decide ((i : Int) ≤ 2 * q.m + 7) = true := en_in HMM.out hi2
      have hm2 : wrap64 (2 * q.m) = 2 * q.m := (en_wr HMM.out).1
      have hm5 : wrap64 (2 * q.m + 7) = 2 * q.m + 7 := (en_wr HMM.out).2
      clear hem hrl
      go_upto_if 58 with fail
      go_cut [8] (fun vv wx => ∃ z, vv = .int .i64 z ∧ Sx z ∧ wx = wr)
      case first =>
        by_cases hin : i < n
        · obtain ⟨x, rfl, hxb, hx⟩ := HWC.out i (by omega)
          have hx' : wr.cell? (x.add i) = some (.int .i64 (nth q.W i)) := cell_later HEM.out.bel (by rw [add_block]; exact hxb) hx
          have hd : decide ((i : Int) < (n : Int)) = true := by simp; omega
          have hsx := HSX.out i
          generalize nth q.W i = z at *
          go_wp2_with fail
          go_meet
          exact ⟨z, rfl, hsx, rfl⟩
        · have hd : decide ((i : Int) < (n : Int)) = false := by simp; omega
          go_wp2_with fail
          go_meet
          exact ⟨0, rfl, ⟨by decide, by decide⟩, rfl⟩
      case rest =>
        obtain ⟨z, rfl, hsz, rfl⟩ := hcut
        obtain ⟨ht, hrn⟩ := rel_step HRL.out z hsz
        have hts := tell_some HRL.out z hsz
        obtain ⟨_, hlf⟩ := left_step HRL.out z hsz
        have HNX : Hid (Calls Try.prog 13 #[.pointer (some ⟨X, 0, none⟩), .int .i64 z] wc fun e w' => e = .returned (.agg (wnC (tellM mc z))) ∧ ∃ F', McAt w' X F' (goM mc z) ∧ Next F F' wc w') := HX.out wc X F mc z HEM.out.mac
        rw [← ht] at hrn
        generalize hy : tellM mc z = y at *
        clear hsz ht hy
        have HRN : Hid (Rel q.b q.m q.c q.A (goM mc z) (readV R last z) (cntV k last) y) := hrn
        have HTS : Hid (y ≠ wn0) := hts
        have HLF : Hid (y.kind ≠ 6 → leftM (goM mc z) < leftM mc) := hlf
        clear hrn hts hlf c0 c1 c2 c3 c4
        go_wp2_with fail
        refine HNX.out.mono ?_
        rintro e w4 ⟨rfl, F', hm4, hn4⟩
        have HE4 : Hid (EM w w4 X w.heap.size #[.int .i64 q.b, .int .i64 q.m, .int .i64 q.c, va, .slice wa n wcap] F' (goM mc z)) := HEM.out.next hm4 hn4
        obtain ⟨w5, hs5, hr5, hb5, _⟩ := new_wn (P := Try.prog) (w := w4) (t := 34) (z := #[.int .i64 0, .int .i64 0, .int .i64 0, .int .i64 0]) rfl (wnC_size y) (wnC_one y)
        have HE5 : Hid (EM w w5 X w.heap.size #[.int .i64 q.b, .int .i64 q.m, .int .i64 q.c, va, .slice wa n wcap] F' (goM mc z)) := HE4.out.later hb5
        obtain ⟨c0, c1, c2, c3, c4⟩ := HE5.out.parts
        obtain ⟨a0, a1, a2, a3⟩ := wn_cells hr5
        have hcz : (wnC y).size = 4 := rfl
        generalize hcy : wnC y = cy at *
        clear hm4 hn4 hcy hr5 hb5 HNX HE4 HEM
        by_cases h6 : y.kind = 6
        · obtain ⟨e1, e2⟩ := rel_end HRN.out h6
          rw [h6] at a0
          rw [e1] at a1
          rcases e2 with e2 | e2
          · rw [e2] at a3
            go_wp2_with fail
            go_ret
            exact ⟨rfl, HE5.out.bel⟩
          · rw [e2] at a2
            by_cases e3 : y.code = 0
            · rw [e3] at a3
              go_wp2_with fail
              go_ret
              exact ⟨rfl, HE5.out.bel⟩
            · have e3' : (y.code == 0) = false := by simpa using e3
              clear e3
              go_wp2_with fail
              go_ret
              exact ⟨rfl, HE5.out.bel⟩
        · obtain ⟨hk, hc1, hc2⟩ := rel_own HRN.out h6 HTS.out
          have d6 : (y.kind == 6) = false := by simpa using h6
          have hlt := HLF.out h6
          have HI : Hid (i + 1 + leftM (goM mc z) ≤ mostW q.m ∧ wrap64 ((i : Int) + 1) = ((i + 1 : Nat) : Int) ∧ i ≤ mostW q.m) := en_step HML.out hi2 hlt
          have q1 : decide (y.cell < q.b) = false := by simp; omega
          have q2 : decide (q.b + sizeV q.m ≤ y.cell) = false := by simp; omega
          have q3 := HBS.out
          clear hlt hc1 hc2 h6 hi2 hbd hm2 hm5
          rcases hk with hk | hk
          · rw [hk] at a0
            go_wp2_with fail
            go_roundg (mostW q.m + 1 - (i + 1))
            case rel => exact ⟨i + 1, _, _, F', _, y, rfl, HI.out.1, by rw [HI.out.2.1], HE5.out, HRN.out⟩
            case measure => exact en_less HI.out.2.2
          · rw [hk] at a0
            go_wp2_with fail
            go_roundg (mostW q.m + 1 - (i + 1))
            case rel => exact ⟨i + 1, _, _, F', _, y, rfl, HI.out.1, by rw [HI.out.2.1], HE5.out, HRN.out⟩
            case measure => exact en_less HI.out.2.2
end Go.Proofs.Ytbbcfimgnbdpeaa.Ch
