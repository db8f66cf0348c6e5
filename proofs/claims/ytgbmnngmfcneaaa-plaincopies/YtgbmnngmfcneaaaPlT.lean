/- Load, Store, Call, Raw: the program's. -/
import Derived.Test.YtgbmnngmfcneaaaPlS
namespace Go.Proofs.Ytgbmnngmfcneaaa.Pl
open Go.ChangeShapes Go.WideShapes Go.ChangeAt Go.RowKit
attribute [local go_sem ↓] Go.wp_at_zero Go.wp_at_succ

theorem StR.cells {w : World} {B X : Nat} {F : List Nat} {raw : List Int} {cs : List Co} {rv cv : Value} {V P : Nat → Value} (h : StR w B X F raw cs rv cv V P) : w.cell? ⟨X, 0, none⟩ = some rv ∧ w.cell? ⟨X, 1, none⟩ = some cv := ⟨(cell_at h.hX 0).trans rfl, (cell_at h.hX 1).trans rfl⟩
theorem hasc_any {w : World} {B X : Nat} {F : List Nat} {raw : List Int} {cs : List Co} (h : StAt w B X F raw cs) : Calls Try.prog 36 #[.pointer (some ⟨X, 0, none⟩)] w fun e w' => e = .returned (.bool true) ∧ w' = w := by
  obtain ⟨rv, cv, V, P, hs⟩ := h
  obtain ⟨h0, _⟩ := hs.cells
  obtain ⟨a, cap, rfl⟩ := own_slice hs.rr
  have h1 := hs.r1
  have hd : decide ((0 : Int) < (raw.length : Int)) = true := by simp; omega
  clear hs
  generalize raw.length = n at *
  go_enter Try.func36, Try.ntmps36
  go_wp2_with fail
  go_ret
  refine ⟨?_, rfl⟩
  have : 0 < n := by omega
  simp [this]
/-- The plain number of a place. -/
def plc (raw : List Int) (p : Int) : Nat := (p % 18446744073709551616).toNat % raw.length
theorem plc_num (p : Int) (n : Nat) : (IntKind.u64.wrap p).tmod (n : Int) = (((p % 18446744073709551616).toNat % n : Nat) : Int) := by
  have h1 : IntKind.u64.wrap p = ((p % 18446744073709551616).toNat : Int) := by
    rw [IntKind.wrap_u64]
    omega
  rw [h1]
  exact (Int.ofNat_tmod _ _).symm
theorem idx_any {w : World} {B X : Nat} {F : List Nat} {raw : List Int} {cs : List Co} (h : StAt w B X F raw cs) (p : Int) : Calls Try.prog 37 #[.pointer (some ⟨X, 0, none⟩), .int .i64 p] w fun e w' => e = .returned (.int .u64 (plc raw p : Int)) ∧ w' = w := by
  obtain ⟨rv, cv, V, P, hs⟩ := h
  obtain ⟨h0, _⟩ := hs.cells
  obtain ⟨a, cap, rfl⟩ := own_slice hs.rr
  have h1 := hs.r1
  have h64 := hs.r64
  clear hs
  unfold plc
  generalize raw.length = n at *
  go_enter Try.func37, Try.ntmps37
  go_wp2_with fail
  go_ret
  exact ⟨by rw [plc_num]; rfl, rfl⟩
def setR (raw : List Int) (p v : Int) : List Int := raw.set (plc raw p) v
theorem plc_lt {raw : List Int} (h : 1 ≤ raw.length) (p : Int) : plc raw p < raw.length := Nat.mod_lt _ h
theorem load_any {w : World} {B X : Nat} {F : List Nat} {raw : List Int} {cs : List Co} (h : StAt w B X F raw cs) (p : Int) : Calls Try.prog 20 #[.pointer (some ⟨X, 0, none⟩), .int .i64 p] w fun e w' => e = .returned (.int .i64 (nth raw (plc raw p))) ∧ Below w.heap.size w w' := by
  have HH : Hid (∀ w' : World, Below w.heap.size w w' → Calls Try.prog 36 #[.pointer (some ⟨X, 0, none⟩)] w' fun e w'' => e = .returned (.bool true) ∧ w'' = w') := fun w' hb => hasc_any (h.later hb)
  have HI : Hid (∀ w' : World, Below w.heap.size w w' → Calls Try.prog 37 #[.pointer (some ⟨X, 0, none⟩), .int .i64 p] w' fun e w'' => e = .returned (.int .u64 (plc raw p : Int)) ∧ w'' = w') := fun w' hb => idx_any (h.later hb) p
  obtain ⟨rv, cv, V, P, hs⟩ := h
  obtain ⟨h0, _⟩ := hs.cells
  have hlt := plc_lt hs.r1 p
  have h64 := hs.r64
  have hl : X < w.heap.size := heap_lt hs.hX
  have hnl := Nl.of_own hs.rr (by omega) hs.rs
  obtain ⟨a, cap, rfl⟩ := own_slice hs.rr
  obtain ⟨_, _, hc⟩ := nl_cells hnl
  obtain ⟨x, rfl, hxb, hx⟩ := hc _ hlt
  clear hs hnl hc
  generalize plc raw p = i at *
  go_enter Try.func20, Try.ntmps20
  go_wp2_with fail
  refine (HH.out _ (Below.refl _ _)).mono ?_
  rintro e w1 ⟨rfl, hw1⟩
  obtain rfl := hw1.symm
  go_wp2_with fail
  go_quiet ((go_at_call 37; refine Calls.quiet_of_same (HI.out _ (below_drawn (Below.refl _ _) _))))
  go_wp2_with fail
  go_ret
  exact ⟨rfl, below_drawn (Below.refl _ _) _⟩
theorem StR.put {w : World} {B X : Nat} {F : List Nat} {raw : List Int} {cs : List Co} {cv : Value} {V P : Nat → Value} {g cap : Nat} (h : StR w B X F raw cs (.slice (some ⟨g, 0, none⟩) raw.length cap) cv V P) (i : Nat) (z : Int) (hz : Sx z) :
    StR (w.setCell ⟨g, i, none⟩ (.int .i64 z)) B X F (raw.set i z) cs (.slice (some ⟨g, 0, none⟩) raw.length cap) cv V P ∧ Keep F w (w.setCell ⟨g, i, none⟩ (.int .i64 z)) := by
  have hgF : g ∈ F := h.rF g rfl
  have hk : Keep [g] w (w.setCell ⟨g, i, none⟩ (.int .i64 z)) := Keep.setCell (Keep.refl _ _) _ _ (Or.inl (by simp))
  have hrow := own_set2 h.rr i (.int .i64 z)
  rw [numC_set] at hrow
  refine ⟨⟨?_, h.XF, by rw [List.length_set]; exact hrow, h.rF, h.rV, own_keep h.cr hk (fun b hb e => ?_), h.cF, ⟨fun j hj => own_keep (h.rows.vs j hj) hk (fun b hb e => ?_), fun j hj => own_keep (h.rows.ps j hj) hk (fun b hb e => ?_), h.rows.iv, h.rows.ip, h.rows.vv, h.rows.pp, h.rows.ok⟩, by rw [List.length_set]; exact h.r1, by rw [List.length_set]; exact h.r64, fun x hx => ?_, h.c8, fun b hb => ⟨(h.lo b hb).1, Nat.lt_of_lt_of_le (h.lo b hb).2 hk.size⟩⟩, hk.mono (fun b hb => by simp at hb; rw [hb]; exact hgF)⟩
  · rw [hk.block _ (heap_lt h.hX) (fun e => by
      simp at e
      exact own_ne h.rr h.hX state_types.1 (by rw [e]; rfl))]
    exact h.hX
  · simp at e
    subst e
    exact rows_apart h.rr h.cr (fun e => i64_coll e.symm) b rfl hb
  · simp at e
    subst e
    exact h.rV j hj b rfl hb
  · simp at e
    subst e
    exact rows_apart h.rr (h.rows.ps j hj) i64_pair b rfl hb
  · rcases List.mem_or_eq_of_mem_set hx with h1 | h1
    · exact h.rs x h1
    · rw [h1]; exact hz
theorem StR.drewN {w : World} {B X : Nat} {F : List Nat} {raw : List Int} {cs : List Co} {rv cv : Value} {V P : Nat → Value} (h : StR w B X F raw cs rv cv V P) (n : Nat) : StR (w.drewN n) B X F raw cs rv cv V P := h.keep (G := []) (Keep.drewN (Keep.refl _ _) n) (by simp)
theorem store_any {w : World} {B X : Nat} {F : List Nat} {raw : List Int} {cs : List Co} (h : StAt w B X F raw cs) (p v : Int) (hv : Sx v) : Calls Try.prog 19 #[.pointer (some ⟨X, 0, none⟩), .int .i64 p, .int .i64 v] w fun e w' => e = .returned (.tuple #[]) ∧ StAt w' B X F (setR raw p v) cs ∧ Next F F w w' := by
  have HH : Hid (∀ w' : World, Below w.heap.size w w' → Calls Try.prog 36 #[.pointer (some ⟨X, 0, none⟩)] w' fun e w'' => e = .returned (.bool true) ∧ w'' = w') := fun w' hb => hasc_any (h.later hb)
  have HI : Hid (∀ w' : World, Below w.heap.size w w' → Calls Try.prog 37 #[.pointer (some ⟨X, 0, none⟩), .int .i64 p] w' fun e w'' => e = .returned (.int .u64 (plc raw p : Int)) ∧ w'' = w') := fun w' hb => idx_any (h.later hb) p
  obtain ⟨rv, cv, V, P, hs⟩ := h
  obtain ⟨h0, _⟩ := hs.cells
  have hlt := plc_lt hs.r1 p
  have h64 := hs.r64
  have hl : X < w.heap.size := heap_lt hs.hX
  have hnl := Nl.of_own hs.rr (by omega) hs.rs
  obtain ⟨a, cap, rfl⟩ := own_slice hs.rr
  obtain ⟨_, _, hc⟩ := nl_cells hnl
  obtain ⟨x, rfl, hxb, hx⟩ := hc _ hlt
  obtain ⟨g, rfl⟩ := own_at0 hs.rr
  rw [add_at, Nat.zero_add] at hx
  have hf : w.frozen? ⟨g, plc raw p, none⟩ = false := (own_some hs.rr _ (by omega)).2
  have HF : Hid (∀ n, StAt ((w.setCell ⟨g, plc raw p, none⟩ (.int .i64 v)).drewN n) B X F (setR raw p v) cs ∧ Next F F w ((w.setCell ⟨g, plc raw p, none⟩ (.int .i64 v)).drewN n)) := fun n => by
    obtain ⟨h1, h2⟩ := hs.put (plc raw p) v hv
    exact ⟨⟨_, _, _, _, h1.drewN n⟩, h2.drewN n, fun b hb => Or.inl hb⟩
  clear hs hnl hc
  generalize plc raw p = i at *
  go_enter Try.func19, Try.ntmps19
  go_wp2_with fail
  refine (HH.out _ (Below.refl _ _)).mono ?_
  rintro e w1 ⟨rfl, hw1⟩
  obtain rfl := hw1.symm
  go_wp2_with fail
  go_region_with ((go_at_call 37; refine (HI.out _ (below_drawn (Below.refl _ _) 1)).mono ?_; rintro e w2 ⟨rfl, hw2⟩; obtain rfl := hw2.symm))
  all_goals
    refine bodyPost_end (results_none rfl _ _ _) rfl ?_
    exact ⟨rfl, HF.out 1⟩
theorem raw_any {w : World} {B X : Nat} {F : List Nat} {raw : List Int} {cs : List Co} (h : StAt w B X F raw cs) : Calls Try.prog 17 #[.pointer (some ⟨X, 0, none⟩)] w fun e w' => ∃ u, e = .returned u ∧ w'.ownsRow w.heap.size 2 1 u raw.length (numC raw) ∧ Below w.heap.size w w' := by
  obtain ⟨rv, cv, V, P, hs⟩ := h
  have HC : Hid (Calls Try.prog 24 #[rv] w fun e w' => ∃ u, e = .returned u ∧ w'.ownsRow w.heap.size 2 1 u raw.length (numC raw) ∧ Below w.heap.size w w') := copi_any (Src.of_own hs.rr numC_one) (by have := hs.r64; omega)
  obtain ⟨h0, _⟩ := hs.cells
  obtain ⟨a, cap, rfl⟩ := own_slice hs.rr
  clear hs
  go_enter Try.func17, Try.ntmps17
  go_wp2_with fail
  refine HC.out.mono ?_
  rintro e w1 ⟨u, rfl, ho, hb⟩
  have HO : Hid (w1.ownsRow w.heap.size 2 1 u raw.length (numC raw) ∧ Below w.heap.size w w1) := ⟨ho, hb⟩
  obtain ⟨ua, uc, rfl⟩ := own_slice ho
  clear ho hb
  go_wp2_with fail
  go_ret
  exact ⟨_, rfl, HO.out⟩
def callS (cs : List Co) (r call : Int) (a : List Int) : (Int × Int × Int) × List Co := if 0 ≤ r ∧ r < (cs.length : Int) then ((actV (nthC cs r.toNat) call a).1, cs.set r.toNat (actV (nthC cs r.toNat) call a).2) else ((0, 0, 1), cs)
theorem actV_kc (c : Co) (call : Int) (a : List Int) : (actV c call a).2.kd = c.kd ∧ (actV c call a).2.cap = c.cap := by
  unfold actV
  split
  · exact doV_kc c call a
  · exact ⟨rfl, rfl⟩
theorem call_any {w : World} {B X : Nat} {F : List Nat} {raw : List Int} {cs : List Co} {va : Value} {a : List Int} (h : StAt w B X F raw cs) (r call : Int) (ha : Nl w va a) (hB : B ≤ w.heap.size) (hd : a.length ≠ 0 → ∀ x n cp, va = .slice (some x) n cp → x.block ∉ F) :
    Calls Try.prog 14 #[.pointer (some ⟨X, 0, none⟩), .int .i64 r, .int .i64 call, va] w fun e w' => e = .returned (.tuple #[.int .i64 (callS cs r call a).1.1, .int .i64 (callS cs r call a).1.2.1, .int .i64 (callS cs r call a).1.2.2]) ∧ ∃ F', StAt w' B X F' raw (callS cs r call a).2 ∧ Next F F' w w' := by
  obtain ⟨rv, cv, V, P, hs⟩ := h
  obtain ⟨h0, h1⟩ := hs.cells
  have hc8 := hs.c8
  unfold callS
  by_cases hr0 : 0 ≤ r
  · by_cases hr1 : r < (cs.length : Int)
    · rw [if_pos ⟨hr0, hr1⟩]
      obtain ⟨i, rfl⟩ : ∃ i : Nat, r = (i : Int) := ⟨r.toNat, by omega⟩
      rw [show ((i : Int)).toNat = i from rfl]
      have hi : i < cs.length := by omega
      obtain ⟨g, cap, L, rfl, hcol, hrow⟩ := hs.col hi
      have HD : Hid (Calls Try.prog 30 #[.pointer (some ⟨g, i * 4, none⟩), .int .i64 call, va] w (Did3 w B g (i * 4) L (V i) (P i) (actV (nthC cs i) call a))) := do_any call hcol ha hB (fun h0 x n cp e hb => hd h0 x n cp e (hs.rows.iv i hi _ hb))
      have HF : Hid (∀ w' v' p', ColAt w' B g (i * 4) ((L.set (i * 4 + 2) v').set (i * 4 + 3) p') (actV (nthC cs i) call a).2 v' p' → Keep (g :: ((V i).ownBlock.toList ++ (P i).ownBlock.toList)) w w' → Fr w (V i) v' → Fr w (P i) p' → ∃ F', StAt w' B X F' raw (cs.set i (actV (nthC cs i) call a).2) ∧ Next F F' w w') := fun w' v' p' hc hk hf1 hf2 => by
        obtain ⟨k1, k2⟩ := actV_kc (nthC cs i) call a
        obtain ⟨h1, h2⟩ := hs.did hi rfl hcol.hg hc (hrow w' _ v' p' k1 k2 hc.hg) hk hf1 hf2
        exact ⟨_, ⟨_, _, _, _, h1⟩, h2⟩
      obtain ⟨a2, c2, rfl⟩ := nl_slice ha
      have hd0 : decide ((i : Int) < 0) = false := by simp
      have hd1 : decide (((cs.length : Nat) : Int) ≤ (i : Int)) = false := by simp; omega
      generalize cs.length = n at *
      generalize actV (nthC cs i) call a = x at *
      clear hs hcol hrow ha hd hB hr1 hr0 h0
      go_enter Try.func14, Try.ntmps14
      go_wp2_with fail
      refine HD.out.mono ?_
      rintro e w1 ⟨rfl, v', p', hc, hk, hf1, hf2⟩
      have HE : Hid (∃ F', StAt w1 B X F' raw (cs.set i x.2) ∧ Next F F' w w1) := HF.out w1 v' p' hc hk hf1 hf2
      clear hc hk hf1 hf2 HF
      go_wp2_with fail
      go_ret3
      exact ⟨rfl, HE.out⟩
    · rw [if_neg (fun h => hr1 h.2)]
      obtain ⟨a1, k1, rfl⟩ := own_slice hs.cr
      have HS : Hid (StAt w B X F raw cs) := ⟨_, _, _, _, hs⟩
      have hd0 : decide (r < 0) = false := by simp; omega
      have hd1 : decide (((cs.length : Nat) : Int) ≤ r) = true := by simp; omega
      clear hs ha hd hB hr1 hr0 h0
      go_enter Try.func14, Try.ntmps14
      go_wp2_with fail
      go_ret3
      exact ⟨rfl, F, HS.out, Next.refl _ _⟩
  · rw [if_neg (fun h => hr0 h.1)]
    have HS : Hid (StAt w B X F raw cs) := ⟨_, _, _, _, hs⟩
    have hd0 : decide (r < 0) = true := by simp; omega
    clear hs ha hd hB hr0 h0 h1
    go_enter Try.func14, Try.ntmps14
    go_wp2_with fail
    go_ret3
    exact ⟨rfl, F, HS.out, Next.refl _ _⟩
end Go.Proofs.Ytgbmnngmfcneaaa.Pl
