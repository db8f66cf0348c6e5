/- New: the program's. -/
import Derived.Test.YtgbmnngmfcneaaaPlU
namespace Go.Proofs.Ytgbmnngmfcneaaa.Pl
open Go.ChangeShapes Go.WideShapes Go.ChangeAt Go.RowKit
attribute [local go_sem ↓] Go.wp_at_zero Go.wp_at_succ

/-- What a new state of a configuration has. -/
def newRaw (c : Pc.Cf) : List Int := List.replicate c.raw.toNat 0
def newCs (c : Pc.Cf) : List Co := c.R.map empC
def nils : Nat → Value := fun _ => .slice none 0 0
theorem StR.first {w : World} {B n : Nat} {cur : Array Value} {raw : List Int} (hB : B ≤ w.heap.size) (hz : cur.size = n) (hc : cur.toList = numC raw) (hn : raw.length = n) (h1 : 1 ≤ n) (h64 : n ≤ 64) (hs : ∀ x ∈ raw, Sx x) :
    StR ((w.alloc (.cells cur 2)).alloc (.cells #[.slice (some ⟨w.heap.size, 0, none⟩) n n, .slice none 0 0] 67)) B (w.heap.size + 1) [w.heap.size + 1, w.heap.size] raw [] (.slice (some ⟨w.heap.size, 0, none⟩) n n) (.slice none 0 0) nils nils := by
  subst hn
  refine ⟨heap_alloc_2 _ _ _, by simp, ⟨by rw [numC_len, Nat.mul_one], Or.inr ⟨w.heap.size, raw.length, cur, rfl, hB, heap_alloc2_old _ _ _, Nat.le_refl _, by unfold maxLen; omega, by rw [Nat.mul_one]; exact hz, by rw [hc, Nat.mul_one]; exact List.take_of_length_le (by rw [numC_len]; exact Nat.le_refl _)⟩⟩, fun b hb => ?_, fun i hi => by simp at hi, World.ownsRow_nil _ _ _ _, fun b hb => by simp [Value.ownBlock] at hb, ⟨fun i hi => by simp at hi, fun i hi => by simp at hi, fun i hi => by simp at hi, fun i hi => by simp at hi, fun i j hi => by simp at hi, fun i j hi => by simp at hi, fun i hi => by simp at hi⟩, h1, h64, hs, by simp, fun b hb => ?_⟩
  · simp [Value.ownBlock] at hb
    simp [hb]
  · simp at hb
    simp
    omega
theorem one_four {k m : Int} {v : Value} (h : v.oneCell' = true) : ∀ u ∈ [.int .i64 k, .int .i64 m, v, .slice none 0 0], u.oneCell' = true := by
  intro u hu
  simp only [List.mem_cons, List.not_mem_nil, or_false] at hu
  rcases hu with rfl | rfl | rfl | rfl
  · rfl
  · rfl
  · exact h
  · rfl
theorem new_no {w : World} {v : Value} {c : Pc.Cf} (h : Pc.CfV w v c) (hn : Pc.okC c = false) : Calls Try.prog 21 #[v] w fun e w' => e = .returned (.tuple #[.pointer none, .int .i64 13]) ∧ Below w.heap.size w w' := by
  have HC : Hid (∀ w' : World, Below w.heap.size w w' → Calls Try.prog 38 #[v] w' fun e w'' => e = .returned (.int .i64 13) ∧ Below w'.heap.size w' w'') := fun w' hb => by
    have := Pc.check_any (h.later hb (Nat.le_refl _))
    unfold Pc.chkV at this
    rw [hn] at this
    exact this
  obtain ⟨vr, rfl, hR⟩ := h
  clear hR hn
  obtain ⟨a, b, d, s, mu, t, R⟩ := c
  unfold Pc.cfA at *
  dsimp only at *
  go_enter Try.func21, Try.ntmps21
  go_wp2_with fail
  refine (HC.out _ (below_a1 _ _)).mono ?_
  rintro e w1 ⟨rfl, hb⟩
  go_wp2_with fail
  go_ret2
  exact ⟨rfl, below_then (below_a1 _ _) hb⟩
set_option maxHeartbeats 4000000 in
theorem new_yes {w : World} {v : Value} {c : Pc.Cf} (h : Pc.CfV w v c) (hy : Pc.okC c = true) : Calls Try.prog 21 #[v] w fun e w' => ∃ X F, e = .returned (.tuple #[.pointer (some ⟨X, 0, none⟩), .int .i64 0]) ∧ StAt w' w.heap.size X F (newRaw c) (newCs c) ∧ Below w.heap.size w w' := by
  have HC : Hid (∀ w' : World, Below w.heap.size w w' → Calls Try.prog 38 #[v] w' fun e w'' => e = .returned (.int .i64 0) ∧ Below w'.heap.size w' w'') := fun w' hb => by
    have := Pc.check_any (h.later hb (Nat.le_refl _))
    unfold Pc.chkV at this
    rw [hy] at this
    exact this
  obtain ⟨vr, rfl, hR⟩ := h
  obtain ⟨hr1, hr64, hR8⟩ := Pc.okC_raw hy
  have HOK : Hid (∀ j, j < c.R.length → Pc.okR (Pc.nthR c.R j) = true) := fun j hj => by
    simp only [Pc.okC, Pc.okL, Bool.and_eq_true, List.all_eq_true] at hy
    exact hy.2.2 _ (Pc.nthR_mem hj)
  obtain ⟨ar, cap, rfl, hlen, hcap, hcs, hl⟩ := hR
  have HL : Hid (Pc.Rl w (.slice ar c.R.length cap) c.R) := ⟨ar, cap, rfl, hlen, hcap, hcs, hl⟩
  clear hl hcap hcs hy
  obtain ⟨rw0, b, d, s, mu, t, R⟩ := c
  unfold Pc.cfA newRaw newCs at *
  dsimp only at *
  obtain ⟨n, rfl⟩ : ∃ n : Nat, rw0 = (n : Int) := ⟨rw0.toNat, by omega⟩
  rw [show ((n : Int)).toNat = n from rfl]
  obtain ⟨i0, hi, hz0, hz1, hz2⟩ := info_parts info_i64
  have hmk := fun ww : World => make_row ww n 1 8 Try.underlying36 hi hz0 hz1 hz2 (by omega) (by omega)
  have hms : (madeCells (Value.cells (.int .i64 0)) (n * 1)).toList = numC (List.replicate n 0) := by rw [Nat.mul_one]; exact made_nums n
  have hmz : (madeCells (Value.cells (.int .i64 0)) (n * 1)).size = n := by simp [size_madeCells]
  generalize madeCells (Value.cells (.int .i64 0)) (n * 1) = cur at *
  clear hi hz0 hz1 hz2 i0
  go_enter Try.func21, Try.ntmps21
  go_wp2_with fail
  refine (HC.out _ (below_a1 _ _)).mono ?_
  rintro e w1 ⟨rfl, hb⟩
  have hr := Pc.row_nx hb
  have k0 : w1.cell? ⟨w.heap.size, 0, none⟩ = some (.int .i64 (n : Int)) := (cell_at hr 0).trans rfl
  have k6 : w1.cell? ⟨w.heap.size, 6, none⟩ = some (.slice ar R.length cap) := (cell_at hr 6).trans rfl
  have HB : Hid (Below w.heap.size w w1) := below_then (below_a1 _ _) hb
  have hl1 : w.heap.size < w1.heap.size := heap_lt hr
  clear hb hr HC
  go_wp2_with fail
  have hS0 : StR ((w1.alloc (.cells cur 2)).alloc (.cells #[.slice (some ⟨w1.heap.size, 0, none⟩) n n, .slice none 0 0] 67)) w.heap.size (w1.heap.size + 1) [w1.heap.size + 1, w1.heap.size] (List.replicate n 0) [] (.slice (some ⟨w1.heap.size, 0, none⟩) n n) (.slice none 0 0) nils nils := StR.first HB.out.size hmz hms (by simp) (by omega) (by omega) (fun x hx => by rw [(List.mem_replicate.1 hx).2]; exact ⟨by decide, by decide⟩)
  have hB0 : Below w.heap.size w ((w1.alloc (.cells cur 2)).alloc (.cells #[.slice (some ⟨w1.heap.size, 0, none⟩) n n, .slice none 0 0] 67)) := below_alloc (below_alloc HB.out _) _
  generalize (w1.alloc (.cells cur 2)).alloc (.cells #[.slice (some ⟨w1.heap.size, 0, none⟩) n n, .slice none 0 0] 67) = w2 at *
  generalize w1.heap.size + 1 = X at *
  obtain ⟨i0, hi, hz0, hz1, hz2⟩ := info_parts info_coll
  have HE : Hid (∀ (w' : World) (x : Pc.Rg), Pc.okR x = true → Calls Try.prog 39 #[Pc.regV x] w' fun e w'' => ∃ v, e = .returned (.agg (colA (empC x) v (.slice none 0 0))) ∧ w''.ownsRow w'.heap.size 2 1 v (empC x).vs.length (numC (empC x).vs) ∧ Below w'.heap.size w' w'') := fun w' x hx => empty_any w' x hx
  clear hmk hms hmz k0 k6 HB hl1
  go_loopw [21] (fun iv wr => ∃ (j : Nat) (F : List Nat) (rv cv : Value) (V : Nat → Value), j ≤ R.length ∧ iv = .int .i64 (j : Int) ∧ Hid (StR wr w.heap.size X F (List.replicate n 0) ((R.take j).map empC) rv cv V nils) ∧ Below w.heap.size w wr) (fun iv _ => R.length - (intOf iv).toNat)
  case atStart => exact ⟨0, _, _, _, _, Nat.zero_le _, rfl, by simpa [Hid] using hS0, hB0⟩
  case round =>
    obtain ⟨j, F, rv, cv, V, hj, rfl, HS, hbel⟩ := hrel
    have HB : Hid (Below w.heap.size w wr) := hbel
    by_cases hlt : j < R.length
    · have hjd : decide ((j : Int) < (R.length : Int)) = true := by simp; omega
      have hw : wrap64 ((j : Int) + 1) = (j : Int) + 1 := Pc.wz hlt (by omega)
      have HM : Hid (R.length - (j + 1) < R.length - j) := Pc.mz _ _ hlt
      obtain ⟨x, rfl, z1, z2⟩ : ∃ x, ar = some x ∧ wr.cell? (x.add (j * 2)) = some (.int .i64 (Pc.nthR R j).1) ∧ wr.cell? ⟨(x.add (j * 2)).block, (x.add (j * 2)).off + 1, none⟩ = some (.int .i64 (Pc.nthR R j).2) := by
        obtain ⟨a', cap', hv, _, _, _, hl⟩ := HL.out.later hbel (Nat.le_refl _)
        injection hv with h1 h2 h3
        subst h1
        obtain ⟨x, hx, _, hc⟩ := hl.resolve_left (by omega)
        exact ⟨x, hx, hc j hlt⟩
      have hokj := HOK.out j hlt
      have HT : Hid ((R.take (j + 1)).map empC = (R.take j).map empC ++ [empC (Pc.nthR R j)]) := by
        have e : R.take (j + 1) = R.take j ++ [Pc.nthR R j] := by
          rw [List.take_add_one]
          simp [Pc.nthR, hlt]
        rw [Hid, e, List.map_append]
        rfl
      have hlj : ((R.take j).map empC).length = j := by simp; omega
      have c1 := HS.out.cells.2
      have hXl := heap_lt HS.out.hX
      have HOW : Hid (wr.ownsRow w.heap.size 70 4 cv j (rowC (colF ((R.take j).map empC) V nils) j)) := by
        have := HS.out.cr
        rw [hlj] at this
        exact this
      obtain ⟨a1, k1, rfl⟩ := own_slice HOW.out
      have HX0 : Hid (wr.heap[X]? = some (.cells #[rv, .slice a1 j k1] 67 (0, 0))) := HS.out.hX
      have hnX : Value.ownBlock (.slice a1 j k1) ≠ some X := own_ne HOW.out HS.out.hX state_types.2.2
      have HEJ : Hid (∀ w' : World, Calls Try.prog 39 #[.agg #[.int .i64 (Pc.nthR R j).1, .int .i64 (Pc.nthR R j).2]] w' fun e w'' => ∃ v, e = .returned (.agg #[.int .i64 (empC (Pc.nthR R j)).kd, .int .i64 (empC (Pc.nthR R j)).cap, v, .slice none 0 0]) ∧ w''.ownsRow w'.heap.size 2 1 v (empC (Pc.nthR R j)).vs.length (numC (empC (Pc.nthR R j)).vs) ∧ Below w'.heap.size w' w'') := fun w' => HE.out w' _ hokj
      have HOKJ : Hid (CoOk (empC (Pc.nthR R j))) := empC_ok hokj
      have hps : (empC (Pc.nthR R j)).ps = [] := rfl
      have HPS : Hid ((empC (Pc.nthR R j)).ps = []) := hps
      generalize empC (Pc.nthR R j) = cj at *
      generalize (Pc.nthR R j).1 = r1 at *
      generalize (Pc.nthR R j).2 = r2 at *
      generalize hxs : rowC (colF ((R.take j).map empC) V nils) j = xs at *
      have hwr : w.heap.size ≤ wr.heap.size := hbel.size
      clear hbel HL HOK HE hokj hps hS0 hB0
      go_wp2_with fail
      go_region_law (first
        | (go_simp; go_at_call 39; refine (HEJ.out _).mono ?_; rintro e w3 ⟨v, rfl, hov, hb3⟩; have hx3 : w3.heap[X]? = some (.cells #[rv, .slice a1 j k1] 67 (0, 0)) := ((hb3.block X (by simp; omega)).trans (Below.heap_alloc _ _ _ hXl)).trans HX0.out; have s1 : w3.cell? ⟨X, 1, none⟩ = some (.slice a1 j k1) := (cell_at hx3 1).trans rfl; have hX3 : X < w3.heap.size := heap_lt hx3; have ow3 : w3.ownsRow w.heap.size 70 4 (.slice a1 j k1) j xs := own_keep ((HOW.out.alloc _).drew) (Keep.of_below hb3 []) (by simp); have hsz3 : wr.heap.size + 1 ≤ w3.heap.size := (by have := hb3.size; simpa using this); have one3 : v.oneCell' = true := one_own hov)
        | (refine step_lies_wide _ (by rfl) _ _ _ (by rfl) w.heap.size 70 i0 _ 4 64 Try.underlying65 hi hz0 hz1 hz2 rfl (by omega) (.slice a1 j k1) j xs (by rfl) (ow3.alloc _) ⟨w3.heap.size, 0, none⟩ 1 1 [.int .i64 cj.kd, .int .i64 cj.cap, v, .slice none 0 0] (by rfl) (by rfl) (World.news_of_block (cs := #[.int .i64 cj.kd, .int .i64 cj.cap, v, .slice none 0 0]) (t := 70) (fr := (0, 0)) (heap_alloc_new w3 _)) (fun u hu => one_four one3 u hu) (by omega) (by unfold maxLen; omega) (by omega) (by simp; omega) (w3.heap.size + 1) (by simp) ?_; intro gg cap' w4 hown4 hgrow hat hlt4; have hx4 : w4.heap[X]? = some (.cells #[rv, .slice a1 j k1] 67 (0, 0)) := ((hgrow.block X (by simp; omega) (Ne.symm hnX)).trans (Below.heap_alloc _ _ _ (by omega))).trans hx3; have s2 : w4.cell? ⟨X, 1, none⟩ = some (.slice a1 j k1) := (cell_at hx4 1).trans rfl; have s3 : w4.frozen? ⟨X, 1, none⟩ = false := frozen_at hx4 1))
      all_goals
        have HF : Hid (∃ F', StR (w4.setCell ⟨X, 1, none⟩ (.slice (some ⟨gg, 0, none⟩) (j + 1) cap')) w.heap.size X F' (List.replicate n 0) ((R.take (j + 1)).map empC) rv (.slice (some ⟨gg, 0, none⟩) (j + 1) cap') (upd V j v) nils ∧ Below w.heap.size w (w4.setCell ⟨X, 1, none⟩ (.slice (some ⟨gg, 0, none⟩) (j + 1) cap'))) := by
          have hb13 : Below wr.heap.size wr w3 := (below_then (below_a1 _ _) ⟨hb3.os, hb3.tape, hb3.output, hb3.size, hb3.block⟩)
          obtain ⟨F', hst, hnx⟩ := StR.snoc (c := cj) (v := v) (p := .slice none 0 0) (gg := gg) (cap := cap') HS.out hb13 (own_base hov (by simp)) (by rw [HPS.out]; exact World.ownsRow_nil _ _ _ _) HOKJ.out (by rw [hlj]; omega) hwr (by rw [hlj, hxs]; exact hown4) (Keep.grown (Keep.alloc (Keep.refl _ _) _) hgrow (fun b hb => Or.inl (by simpa using hb))) (by
            rcases hat with h1 | h1
            · exact Or.inl h1
            · right; omega)
          rw [hlj] at hst hnx
          rw [HT.out]
          have e : upd nils j (.slice none 0 0) = nils := by
            funext q
            unfold upd nils
            split <;> rfl
          rw [e] at hst
          exact ⟨F', hst, HB.out.trans (hnx.below (HB.out.size) (fun b hb => (HS.out.lo b hb).1))⟩
        clear hown4 hgrow hat hlt4 hx4 s2 s3 hov hb3 hx3 s1 ow3
        go_wp2_with fail
        go_roundw
        case rel =>
          obtain ⟨F', h1, h2⟩ := HF.out
          exact ⟨j + 1, F', _, _, _, hlt, by go_num, h1, h2⟩
        case measure => simpa [intOf] using HM.out
    · obtain rfl : j = R.length := by omega
      have HZ : Hid (StAt wr w.heap.size X F (List.replicate n 0) (R.map empC)) := by
        have := HS.out
        rw [List.take_length] at this
        exact ⟨_, _, _, _, this⟩
      clear HS HL HOK HE hbel
      go_wp2_with fail
      go_ret2
      exact ⟨X, F, rfl, HZ.out, HB.out⟩
end Go.Proofs.Ytgbmnngmfcneaaa.Pl
