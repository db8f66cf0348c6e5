/- ChainApart, walked. -/
import Derived.Test.YtbbcfimgnbdpeaaChE
namespace Go.Proofs.Ytbbcfimgnbdpeaa.Ch
open Go.ChangeShapes Go.WideShapes Go.ChangeAt Go.RowKit
attribute [local go_sem ↓] Go.wp_at_zero Go.wp_at_succ

/-- A call under way, what was read of it, and blocks of others that stay. -/
structure AM (w0 wr : World) (Y : Nat) (F : List Nat) (mc : Mc) (vr : Value) (R : List Int) (Fx : List (Nat × Array Value × TypeId)) : Prop where
  bel : Below w0.heap.size w0 wr
  mac : McAt wr Y F mc
  low : ∀ q ∈ F, w0.heap.size ≤ q
  row : wr.ownsRow w0.heap.size 2 1 vr R.length (numC R)
  nR : ∀ b, vr.ownBlock = some b → b ∉ F
  fx : ∀ p ∈ Fx, wr.heap[p.1]? = some (.cells p.2.1 p.2.2 (0, 0)) ∧ p.1 ∉ F ∧ p.2.2 ≠ 2
theorem AM.later {w0 wr w' : World} {Y : Nat} {F : List Nat} {mc : Mc} {vr : Value} {R : List Int} {Fx : List (Nat × Array Value × TypeId)} (h : AM w0 wr Y F mc vr R Fx) (hb : Below wr.heap.size wr w') : AM w0 w' Y F mc vr R Fx :=
  ⟨h.bel.trans (hb.mono h.bel.size), h.mac.later hb, h.low, own_keep h.row (Keep.of_below hb []) (by simp), h.nR, fun p hp => by
    obtain ⟨h1, h2, h3⟩ := h.fx p hp
    exact ⟨by rw [hb.block _ (heap_lt h1)]; exact h1, h2, h3⟩⟩
theorem AM.next {w0 wr w' : World} {Y : Nat} {F F' : List Nat} {mc mc' : Mc} {vr : Value} {R : List Int} {Fx : List (Nat × Array Value × TypeId)} (h : AM w0 wr Y F mc vr R Fx) (hm : McAt w' Y F' mc') (hn : Next F F' wr w') : AM w0 w' Y F' mc' vr R Fx := by
  have hnew : ∀ q, q < wr.heap.size → q ∉ F → q ∉ F' := fun q h1 h2 h3 => by
    rcases hn.2 q h3 with h4 | h4
    · exact h2 h4
    · omega
  refine ⟨h.bel.trans (hn.below h.bel.size h.low), hm, fun q hq => ?_, own_keep h.row hn.1 h.nR, fun b hb => hnew b (own_block h.row b hb).2 (h.nR b hb), fun p hp => ?_⟩
  · rcases hn.2 q hq with h4 | h4
    · exact h.low q h4
    · have := h.bel.size; omega
  · obtain ⟨h1, h2, h3⟩ := h.fx p hp
    exact ⟨by rw [hn.1.block _ (heap_lt h1) h2]; exact h1, hnew _ (heap_lt h1) h2, h3⟩
/-- A new block stands beside. -/
theorem AM.new {w0 wr w' : World} {Y : Nat} {F : List Nat} {mc : Mc} {vr : Value} {R : List Int} {Fx : List (Nat × Array Value × TypeId)} (h : AM w0 wr Y F mc vr R Fx) {cs : Array Value} {t : TypeId} (hr : w'.heap[wr.heap.size]? = some (.cells cs t (0, 0))) (hb : Below wr.heap.size wr w') (ht : t ≠ 2) : AM w0 w' Y F mc vr R ((wr.heap.size, cs, t) :: Fx) := by
  have h' := h.later hb
  refine ⟨h'.bel, h'.mac, h'.low, h'.row, h'.nR, fun p hp => ?_⟩
  rcases List.mem_cons.1 hp with rfl | hp
  · exact ⟨hr, fun hF => by have := h.mac.lt _ hF; simp at this, ht⟩
  · exact h'.fx p hp
theorem AM.set {w0 wr : World} {Y : Nat} {F : List Nat} {mc : Mc} {vr : Value} {R : List Int} {Fx Fx' : List (Nat × Array Value × TypeId)} (h : AM w0 wr Y F mc vr R Fx) {b : Nat} {old cs : Array Value} {t : TypeId} (hb : w0.heap.size ≤ b) (hin : (b, old, t) ∈ Fx) (hf : ∀ p ∈ Fx', p = (b, cs, t) ∨ (p ∈ Fx ∧ p.1 ≠ b)) : AM w0 (wr.setRow b cs) Y F mc vr R Fx' := by
  obtain ⟨h1, h2, h3⟩ := h.fx _ hin
  simp only at h1 h2 h3
  have hk : Keep [b] wr (wr.setRow b cs) := ⟨rfl, rfl, rfl, by rw [setRow_size]; exact Nat.le_refl _, fun q _ hq => setRow_other _ _ _ _ (by simpa using hq)⟩
  refine ⟨h.bel.trans (hk.below h.bel.size (by simpa using hb)), h.mac.keep hk (fun q hq => by simp; exact fun e => h2 (e ▸ hq)), h.low, own_keep h.row hk (fun q hq => by simp; exact fun e => own_ne h.row h1 h3 (by rw [hq, e])), h.nR, fun p hp => ?_⟩
  rcases hf p hp with rfl | ⟨hp1, hp2⟩
  · exact ⟨setRow_heap _ _ _ _ _ _ h1, h2, h3⟩
  · obtain ⟨g1, g2, g3⟩ := h.fx p hp1
    exact ⟨by rw [setRow_other _ _ _ _ hp2]; exact g1, g2, g3⟩
theorem AM.read {w0 wr w' : World} {Y g cap : Nat} {o : Obj} {F : List Nat} {mc : Mc} {vr : Value} {R : List Int} {v : Int} {Fx : List (Nat × Array Value × TypeId)} (h : AM w0 wr Y F mc vr R Fx) (hown : w'.ownsRow w0.heap.size 2 1 (.slice (some ⟨g, 0, none⟩) (R.length + 1) cap) (R.length + 1) (numC R ++ [.int .i64 v])) (hg : (wr.alloc o).grownBy w' vr.ownBlock) (hb : vr.ownBlock = some g ∨ g = wr.heap.size + 1) :
    AM w0 w' Y F mc (.slice (some ⟨g, 0, none⟩) (R.length + 1) cap) (R ++ [v]) Fx := by
  have h1 := h.later (below_a1 wr o)
  have hk : Keep (match vr.ownBlock with | some b => [b] | none => []) (wr.alloc o) w' := (Keep.refl _ _).grown hg (fun b hb => by rw [hb]; simp)
  have hmem : ∀ b, b ∈ (match vr.ownBlock with | some b => [b] | none => []) → vr.ownBlock = some b := fun b hb => by
    cases hv : vr.ownBlock with
    | none => rw [hv] at hb; simp at hb
    | some c => rw [hv] at hb; simp at hb; rw [hb]
  have hlow : ∀ b, vr.ownBlock = some b → w0.heap.size ≤ b := fun b hb => (own_block h.row b hb).1
  refine ⟨h1.bel.trans (hk.below h1.bel.size (fun b hb => hlow b (hmem b hb))), h1.mac.keep hk (fun b hb hc => h.nR b (hmem b hc) hb), h.low, by rw [List.length_append, numC_snoc]; exact hown, fun b hb' => ?_, fun p hp => ?_⟩
  · simp [Value.ownBlock] at hb'
    subst hb'
    rcases hb with h2 | h2
    · exact h.nR g h2
    · intro h3
      have := h.mac.lt g h3
      omega
  · obtain ⟨g1, g2, g3⟩ := h1.fx p hp
    exact ⟨by rw [hk.block _ (heap_lt g1) (fun hc => own_ne h1.row g1 g3 (hmem _ hc))]; exact g1, g2, g3⟩
theorem AM.nl {w0 wr : World} {Y : Nat} {F : List Nat} {mc : Mc} {vr : Value} {R : List Int} {Fx : List (Nat × Array Value × TypeId)} (h : AM w0 wr Y F mc vr R Fx) (h1 : R.length ≤ 100) (h2 : ∀ x ∈ R, Sx x) : Nl wr vr R := Nl.of_own h.row (by omega) h2
theorem ask_cells {w : World} {P : Nat} {b m c : Int} {va vw : Value} (h : w.heap[P]? = some (.cells #[.int .i64 b, .int .i64 m, .int .i64 c, va, vw] 24 (0, 0))) :
    w.cell? ⟨P, 0, none⟩ = some (.int .i64 b) ∧ w.cell? ⟨P, 1, none⟩ = some (.int .i64 m) ∧ w.cell? ⟨P, 2, none⟩ = some (.int .i64 c) ∧ w.cell? ⟨P, 3, none⟩ = some va ∧ w.cell? ⟨P, 4, none⟩ = some vw :=
  ⟨by rw [cell_at h]; rfl, by rw [cell_at h]; rfl, by rw [cell_at h]; rfl, by rw [cell_at h]; rfl, by rw [cell_at h]; rfl⟩
theorem ow_wrap' {n i : Nat} (hn : n ≤ 17592186044416) (hi : i < n) : wrap64 ((i : Int) + 1) = ((i + 1 : Nat) : Int) := by
  unfold wrap64
  omega
theorem ap_less {n i : Nat} (hi : i < n) : n - (i + 1) < n - i := by omega
theorem ap_u {P Wb Ub Tb Ob : Nat} {kl k1 ky cb : Array Value} {t t2 : TypeId} (h : P < Wb ∧ Wb < Ub ∧ Ub < Tb ∧ Tb < Ob) : ∀ r ∈ [(Ob, kl, t), (Tb, k1, t), (Ub, ky, t), (Wb, k1, t), (P, cb, t2)], r = (Ub, ky, t) ∨ (r ∈ [(Ob, kl, t), (Tb, k1, t), (Ub, kl, t), (Wb, k1, t), (P, cb, t2)] ∧ r.1 ≠ Ub) := by
  intro r hr
  simp only [List.mem_cons, List.not_mem_nil, or_false] at hr
  rcases hr with rfl | rfl | rfl | rfl | rfl
  · exact Or.inr ⟨by simp, show Ob ≠ Ub by omega⟩
  · exact Or.inr ⟨by simp, show Tb ≠ Ub by omega⟩
  · exact Or.inl rfl
  · exact Or.inr ⟨by simp, show Wb ≠ Ub by omega⟩
  · exact Or.inr ⟨by simp, show P ≠ Ub by omega⟩
theorem ap_o {P Wb Ub Tb Ob : Nat} {kl k1 ky cb : Array Value} {t t2 : TypeId} (h : P < Wb ∧ Wb < Ub ∧ Ub < Tb ∧ Tb < Ob) : ∀ r ∈ [(Ob, ky, t), (Tb, k1, t), (Ub, ky, t), (Wb, k1, t), (P, cb, t2)], r = (Ob, ky, t) ∨ (r ∈ [(Ob, kl, t), (Tb, k1, t), (Ub, ky, t), (Wb, k1, t), (P, cb, t2)] ∧ r.1 ≠ Ob) := by
  intro r hr
  simp only [List.mem_cons, List.not_mem_nil, or_false] at hr
  rcases hr with rfl | rfl | rfl | rfl | rfl
  · exact Or.inl rfl
  · exact Or.inr ⟨by simp, show Tb ≠ Ob by omega⟩
  · exact Or.inr ⟨by simp, show Ub ≠ Ob by omega⟩
  · exact Or.inr ⟨by simp, show Wb ≠ Ob by omega⟩
  · exact Or.inr ⟨by simp, show P ≠ Ob by omega⟩
/-- Two calls that are asked for, in two blocks. -/
def TwoA (w0 wr : World) (ca cb : Array Value) : Prop := Below w0.heap.size w0 wr ∧ wr.heap[w0.heap.size]? = some (.cells ca 24 (0, 0)) ∧ wr.heap[w0.heap.size + 1]? = some (.cells cb 24 (0, 0))
theorem TwoA.later {w0 wr w' : World} {ca cb : Array Value} (h : TwoA w0 wr ca cb) (hb : Below wr.heap.size wr w') : TwoA w0 w' ca cb :=
  ⟨h.1.trans (hb.mono h.1.size), by rw [hb.block _ (heap_lt h.2.1)]; exact h.2.1, by rw [hb.block _ (heap_lt h.2.2)]; exact h.2.2⟩
set_option maxRecDepth 100000 in
set_option maxHeartbeats 2000000 in
theorem apart_no {w : World} {v1 v2 : Value} {p q : Ask} (ha : AskV w v1 p) (hb : AskV w v2 q) (h : rightV p.b p.m p.c p.A.length = false ∨ rightV q.b q.m q.c q.A.length = false) : Calls Try.prog 6 #[v1, v2] w fun e w' => e = .returned (.bool true) ∧ Below w.heap.size w w' := by
  obtain ⟨va, vw, rfl, hA, hW, _⟩ := ha
  obtain ⟨vb, vx, rfl, hB, hX, _⟩ := hb
  have HR1 : Hid (∀ w' : World, Below w.heap.size w w' → Calls Try.prog 10 #[.int .i64 p.b, .int .i64 p.m, .int .i64 p.c, va] w' fun e w'' => e = .returned (.bool (rightV p.b p.m p.c p.A.length)) ∧ Below w'.heap.size w' w'') := fun w' hb => right_any w' _ _ _ va p.A (hA.later hb (Nat.le_refl _))
  have HR2 : Hid (∀ w' : World, Below w.heap.size w w' → Calls Try.prog 10 #[.int .i64 q.b, .int .i64 q.m, .int .i64 q.c, vb] w' fun e w'' => e = .returned (.bool (rightV q.b q.m q.c q.A.length)) ∧ Below w'.heap.size w' w'') := fun w' hb => right_any w' _ _ _ vb q.A (hB.later hb (Nat.le_refl _))
  generalize rightV p.b p.m p.c p.A.length = r1 at *
  generalize rightV q.b q.m q.c q.A.length = r2 at *
  clear hA hB hW hX
  go_enter Try.func6, Try.ntmps6
  go_wp2_with fail
  refine (HR1.out _ (below_then (below_a1 _ _) (below_a1 _ _))).mono ?_
  rintro e w1 ⟨rfl, hb1⟩
  have HT : Hid (TwoA w w1 #[.int .i64 p.b, .int .i64 p.m, .int .i64 p.c, va, vw] #[.int .i64 q.b, .int .i64 q.m, .int .i64 q.c, vb, vx]) := ⟨below_next2 hb1, row_next1 hb1, row_next2 hb1⟩
  obtain ⟨c0, c1, c2, c3, c4⟩ := ask_cells HT.out.2.2
  clear hb1
  go_wp2_with fail
  refine (HR2.out _ HT.out.1).mono ?_
  rintro e w2 ⟨rfl, hb2⟩
  have HB2 : Hid (Below w.heap.size w w2) := below_then HT.out.1 hb2
  clear hb2 c0 c1 c2 c3 c4
  cases r1
  · go_wp2_with fail
    go_ret
    exact ⟨rfl, HB2.out⟩
  · obtain rfl : r2 = false := by simpa using h
    go_wp2_with fail
    go_ret
    exact ⟨rfl, HB2.out⟩
set_option maxRecDepth 100000 in
set_option maxHeartbeats 2000000 in
theorem apart_yes {w : World} {v1 v2 : Value} {p q : Ask} (ha : AskV w v1 p) (hb : AskV w v2 q) (h1 : rightV p.b p.m p.c p.A.length = true) (h2 : rightV q.b q.m q.c q.A.length = true) : Calls Try.prog 6 #[v1, v2] w fun e w' => e = .returned (.bool true) ∧ Below w.heap.size w w' := by
  obtain ⟨va, vw, rfl, hA, hW, _⟩ := ha
  obtain ⟨vb, vx, rfl, hB, hX, _⟩ := hb
  obtain ⟨i0, hi, hz0, hz1, hz2⟩ := info_parts info_i64
  have HR1 : Hid (∀ w' : World, Below w.heap.size w w' → Calls Try.prog 10 #[.int .i64 p.b, .int .i64 p.m, .int .i64 p.c, va] w' fun e w'' => e = .returned (.bool true) ∧ Below w'.heap.size w' w'') := fun w' hb => by have := right_any w' p.b p.m p.c va p.A (hA.later hb (Nat.le_refl _)); rw [h1] at this; exact this
  have HR2 : Hid (∀ w' : World, Below w.heap.size w w' → Calls Try.prog 10 #[.int .i64 q.b, .int .i64 q.m, .int .i64 q.c, vb] w' fun e w'' => e = .returned (.bool true) ∧ Below w'.heap.size w' w'') := fun w' hb => by have := right_any w' q.b q.m q.c vb q.A (hB.later hb (Nat.le_refl _)); rw [h2] at this; exact this
  have HN1 : Hid (∀ w' : World, Below w.heap.size w w' → Calls Try.prog 9 #[.int .i64 p.b, .int .i64 p.m, .int .i64 p.c, va] w' fun e w'' => ∃ X F, e = .returned (.tuple #[.pointer (some ⟨X, 0, none⟩), .int .i64 0]) ∧ McAt w'' X F (mkM p.b p.m p.c p.A) ∧ (∀ q ∈ F, w'.heap.size ≤ q) ∧ Below w'.heap.size w' w'') := fun w' hb => new_yes w' _ _ _ va p.A (hA.later hb (Nat.le_refl _)) h1
  have HN2 : Hid (∀ w' : World, Below w.heap.size w w' → Calls Try.prog 9 #[.int .i64 q.b, .int .i64 q.m, .int .i64 q.c, vb] w' fun e w'' => ∃ X F, e = .returned (.tuple #[.pointer (some ⟨X, 0, none⟩), .int .i64 0]) ∧ McAt w'' X F (mkM q.b q.m q.c q.A) ∧ (∀ q ∈ F, w'.heap.size ≤ q) ∧ Below w'.heap.size w' w'') := fun w' hb => new_yes w' _ _ _ vb q.A (hB.later hb (Nat.le_refl _)) h2
  have HX : Hid (∀ (w : World) (X : Nat) (F : List Nat) (m : Mc) (v : Int), McAt w X F m → Calls Try.prog 13 #[.pointer (some ⟨X, 0, none⟩), .int .i64 v] w fun e w' => e = .returned (.agg (wnC (tellM m v))) ∧ ∃ F', McAt w' X F' (goM m v) ∧ Next F F' w w') := fun w X F m v h => next_any h v
  have HQ1 : Hid (∀ (w' : World), Below w.heap.size w w' → Calls Try.prog 16 #[.int .i64 p.b, .int .i64 p.m, .int .i64 p.c, va, .slice none 0 0, .int .i64 0, .agg (wnC wn0)] w' fun e w'' => e = .returned (.agg (wnC (wantV p.b p.m p.c p.A [] 0 wn0))) ∧ Below w'.heap.size w' w'') := fun w' hb => wants_any w' _ _ _ 0 va _ p.A [] wn0 (hA.later hb (Nat.le_refl _)) Nl.nil h1
  have HQ2 : Hid (∀ (w' : World) (k : Int) (vr : Value) (R : List Int) (x : Wn), Below w.heap.size w w' → Nl w' vr R → Calls Try.prog 16 #[.int .i64 q.b, .int .i64 q.m, .int .i64 q.c, vb, vr, .int .i64 k, .agg (wnC x)] w' fun e w'' => e = .returned (.agg (wnC (wantV q.b q.m q.c q.A R k x))) ∧ Below w'.heap.size w' w'') := fun w' k vr R x hb h => wants_any w' _ _ _ k vb vr q.A R x (hB.later hb (Nat.le_refl _)) h h2
  have HS1 := rel_step (rel_first h1) 0 ⟨by decide, by decide⟩
  have HS2 := rel_step (rel_first h2) 0 ⟨by decide, by decide⟩
  simp only [show ∀ z, readV [] wn0 z = [] from fun _ => rfl, show cntV 0 wn0 = 0 from rfl] at HS1 HS2
  obtain ⟨wa, wcap, rfl⟩ := nl_slice hX
  obtain ⟨_, hWl, hWc⟩ := nl_cells hX
  have HWC : Hid (∀ i, i < q.W.length → ∃ x, wa = some x ∧ x.block < w.heap.size ∧ w.cell? (x.add i) = some (.int .i64 (nth q.W i))) := hWc
  have HSX : Hid (∀ i, Sx (nth q.W i)) := nl_w64 hX.w64
  generalize hn : q.W.length = n at *
  have HT1 : Hid (tellM (mkM p.b p.m p.c p.A) 0 = wantV p.b p.m p.c p.A [] 0 wn0) := HS1.1
  have HT2 : Hid (tellM (mkM q.b q.m q.c q.A) 0 = wantV q.b q.m q.c q.A [] 0 wn0 ∧ Rel q.b q.m q.c q.A (goM (mkM q.b q.m q.c q.A) 0) [] 0 (wantV q.b q.m q.c q.A [] 0 wn0)) := HS2
  clear HS1 HS2 hA hB hW hX hWc h1 h2
  go_enter Try.func6, Try.ntmps6
  go_wp2_with fail
  refine (HR1.out _ (below_then (below_a1 _ _) (below_a1 _ _))).mono ?_
  rintro e w1 ⟨rfl, hb1⟩
  have HA1 : Hid (TwoA w w1 #[.int .i64 p.b, .int .i64 p.m, .int .i64 p.c, va, vw] #[.int .i64 q.b, .int .i64 q.m, .int .i64 q.c, vb, .slice wa n wcap]) := ⟨below_next2 hb1, row_next1 hb1, row_next2 hb1⟩
  obtain ⟨c0, c1, c2, c3, c4⟩ := ask_cells HA1.out.2.2
  clear hb1 HR1
  go_wp2_with fail
  refine (HR2.out _ HA1.out.1).mono ?_
  rintro e w2 ⟨rfl, hb2⟩
  have HA2 := HA1.out.later hb2
  have HA2' : Hid (TwoA w w2 #[.int .i64 p.b, .int .i64 p.m, .int .i64 p.c, va, vw] #[.int .i64 q.b, .int .i64 q.m, .int .i64 q.c, vb, .slice wa n wcap]) := HA2
  obtain ⟨d0, d1, d2, d3, d4⟩ := ask_cells HA2.2.1
  clear hb2 c0 c1 c2 c3 c4 HR2 HA2 HA1
  go_wp2_with fail
  refine (HN1.out _ HA2'.out.1).mono ?_
  rintro e w3 ⟨X, G, rfl, hm3, hF3, hb3⟩
  have HA3 : Hid (TwoA w w3 #[.int .i64 p.b, .int .i64 p.m, .int .i64 p.c, va, vw] #[.int .i64 q.b, .int .i64 q.m, .int .i64 q.c, vb, .slice wa n wcap]) := HA2'.out.later hb3
  have HM3 : Hid (McAt w3 X G (mkM p.b p.m p.c p.A) ∧ ∀ b ∈ G, w.heap.size + 1 < b) := ⟨hm3, fun b hb => by have := hF3 b hb; have := heap_lt HA2'.out.2.2; omega⟩
  obtain ⟨c0, c1, c2, c3, c4⟩ := ask_cells HA3.out.2.2
  clear hb3 d0 d1 d2 d3 d4 HA2' hm3 hF3 HN1
  go_wp2_with fail
  refine (HN2.out _ HA3.out.1).mono ?_
  rintro e w4 ⟨Y, F, rfl, hm4, hF4, hb4⟩
  have HA4 : Hid (TwoA w w4 #[.int .i64 p.b, .int .i64 p.m, .int .i64 p.c, va, vw] #[.int .i64 q.b, .int .i64 q.m, .int .i64 q.c, vb, .slice wa n wcap]) := HA3.out.later hb4
  have HM4 : Hid (McAt w4 X G (mkM p.b p.m p.c p.A) ∧ McAt w4 Y F (mkM q.b q.m q.c q.A) ∧ (∀ b ∈ F, w.heap.size + 1 < b) ∧ ∀ b ∈ F, b ∉ G) := ⟨HM3.out.1.later hb4, hm4, fun b hb => by have := hF4 b hb; have := heap_lt HA3.out.2.2; omega, fun b hb hG => by have := hF4 b hb; have := HM3.out.1.lt b hG; omega⟩
  clear hb4 c0 c1 c2 c3 c4 HA3 hm4 hF4 HN2
  go_wp2_with fail
  refine (HX.out _ X G _ 0 HM4.out.1).mono ?_
  rintro e w5 ⟨rfl, G', hm5, hn5⟩
  rw [HT1.out]
  generalize hy1 : wantV p.b p.m p.c p.A [] 0 wn0 = y1 at *
  generalize hy2 : wantV q.b q.m q.c q.A [] 0 wn0 = y2 at *
  have HQ3 : Hid (∀ (w' : World), Below w.heap.size w w' → Calls Try.prog 16 #[.int .i64 q.b, .int .i64 q.m, .int .i64 q.c, vb, .slice none 0 0, .int .i64 0, .agg (wnC wn0)] w' fun e w'' => e = .returned (.agg (wnC y2)) ∧ Below w'.heap.size w' w'') := fun w' hb => by
    have := HQ2.out w' 0 _ [] wn0 hb Nl.nil
    rw [hy2] at this
    exact this
  obtain ⟨ca, hca⟩ : ∃ ca : Array Value, #[.int .i64 p.b, .int .i64 p.m, .int .i64 p.c, va, vw] = ca := ⟨_, rfl⟩
  obtain ⟨cb, hcb⟩ : ∃ cb : Array Value, #[.int .i64 q.b, .int .i64 q.m, .int .i64 q.c, vb, .slice wa n wcap] = cb := ⟨_, rfl⟩
  have HCA : Hid (#[.int .i64 p.b, .int .i64 p.m, .int .i64 p.c, va, vw] = ca) := hca
  have HCB : Hid (#[.int .i64 q.b, .int .i64 q.m, .int .i64 q.c, vb, .slice wa n wcap] = cb) := hcb
  have HAM5 : Hid (AM w w5 Y F (mkM q.b q.m q.c q.A) (.slice none 0 0) [] [(w.heap.size + 1, cb, 24), (w.heap.size, ca, 24)]) := by
    obtain ⟨hx4, hy4, hF4, hFG⟩ := HM4.out
    obtain ⟨hA4, hA5, hA6⟩ := HA4.out
    rw [hca] at hA5
    rw [hcb] at hA6
    refine ⟨hA4.trans (hn5.below hA4.size (fun b hb => by have := HM3.out.2 b hb; omega)), hy4.keep hn5.1 hFG, fun b hb => by have := hF4 b hb; omega, World.ownsRow_nil _ _ _ _, by simp [Value.ownBlock], fun r hr => ?_⟩
    simp only [List.mem_cons, List.not_mem_nil, or_false] at hr
    rcases hr with rfl | rfl
    · exact ⟨by rw [hn5.1.block _ (heap_lt hA6) (fun h => by have := HM3.out.2 _ h; omega)]; exact hA6, fun h => by have := hF4 _ h; omega, show (24 : Nat) ≠ 2 by decide⟩
    · exact ⟨by rw [hn5.1.block _ (heap_lt hA5) (fun h => by have := HM3.out.2 _ h; omega)]; exact hA5, fun h => by have := hF4 _ h; omega, show (24 : Nat) ≠ 2 by decide⟩
  clear hm5 hn5 HM3 HM4 HA4 hca hcb hy1 hy2
  -- w is laid
  obtain ⟨w6, hs6, hr6, hb6, hz6⟩ := new_wn (P := Try.prog) (w := w5) (t := 34) (z := #[.int .i64 0, .int .i64 0, .int .i64 0, .int .i64 0]) rfl (wnC_size y1) (wnC_one y1)
  have HAM6 := HAM5.out.new hr6 hb6 (by decide)
  have hk1z : (wnC y1).size = 4 := rfl
  have HU := HX.out w6 Y F _ 0 HAM6.mac
  rw [HT2.out.1] at HU
  have hlt5 : w.heap.size + 1 < w5.heap.size := heap_lt (HAM5.out.fx (w.heap.size + 1, cb, 24) (by simp)).1
  have HAM6' : Hid (AM w w6 Y F (mkM q.b q.m q.c q.A) (.slice none 0 0) [] [(w5.heap.size, wnC y1, 34), (w.heap.size + 1, cb, 24), (w.heap.size, ca, 24)]) := HAM6
  have HU' : Hid (Calls Try.prog 13 #[.pointer (some ⟨Y, 0, none⟩), .int .i64 0] w6 fun e w' => e = .returned (.agg (wnC y2)) ∧ ∃ F', McAt w' Y F' (goM (mkM q.b q.m q.c q.A) 0) ∧ Next F F' w6 w') := HU
  generalize hk1 : wnC y1 = k1 at *
  have HK1 : Hid (wnC y1 = k1) := hk1
  clear HAM6 HU hr6 hb6 hk1 HAM5
  go_wp2_with fail
  refine HU'.out.mono ?_
  rintro e w7 ⟨rfl, F7, hm7, hn7⟩
  have HAM7 := HAM6'.out.next hm7 hn7
  have hlt7 : w5.heap.size < w7.heap.size := heap_lt (HAM7.fx (w5.heap.size, k1, 34) (by simp)).1
  obtain ⟨w8, hs8, hr8, hb8, hz8⟩ := new_wn (P := Try.prog) (w := w7) (t := 34) (z := #[.int .i64 0, .int .i64 0, .int .i64 0, .int .i64 0]) rfl (wnC_size y2) (wnC_one y2)
  have HAM8 : Hid (AM w w8 Y F7 (goM (mkM q.b q.m q.c q.A) 0) (.slice none 0 0) [] [(w7.heap.size, wnC y2, 34), (w5.heap.size, k1, 34), (w.heap.size + 1, cb, 24), (w.heap.size, ca, 24)]) := HAM7.new hr8 hb8 (by decide)
  have hk2z : (wnC y2).size = 4 := rfl
  have hpa := (HAM8.out.fx (w.heap.size, ca, 24) (by simp)).1
  rw [← HCA.out] at hpa
  obtain ⟨c0, c1, c2, c3, c4⟩ := ask_cells hpa
  generalize hk2 : wnC y2 = k2 at *
  have HK2 : Hid (wnC y2 = k2) := hk2
  clear HAM7 hm7 hn7 hr8 hb8 hk2 HAM6' HU' hs6 hz6 hpa
  simp only [wnC, wn0] at HQ1 HQ3
  go_wp2_with fail
  refine (HQ1.out _ HAM8.out.bel).mono ?_
  rintro e w9 ⟨rfl, hb9⟩
  have HAM9 := HAM8.out.later hb9
  have hlt9 : w7.heap.size < w9.heap.size := heap_lt (HAM9.fx (w7.heap.size, k2, 34) (by simp)).1
  obtain ⟨w10, hs10, hr10, hb10, hz10⟩ := new_wn (P := Try.prog) (w := w9) (t := 34) (z := #[.int .i64 0, .int .i64 0, .int .i64 0, .int .i64 0]) rfl hk1z (by rw [← HK1.out]; exact wnC_one y1)
  have HAM10 : Hid (AM w w10 Y F7 (goM (mkM q.b q.m q.c q.A) 0) (.slice none 0 0) [] [(w9.heap.size, k1, 34), (w7.heap.size, k2, 34), (w5.heap.size, k1, 34), (w.heap.size + 1, cb, 24), (w.heap.size, ca, 24)]) := HAM9.new hr10 hb10 (by decide)
  have hpb := (HAM10.out.fx (w.heap.size + 1, cb, 24) (by simp)).1
  rw [← HCB.out] at hpb
  obtain ⟨d0, d1, d2, d3, d4⟩ := ask_cells hpb
  clear HAM9 hb9 hr10 hb10 HAM8 hs8 hz8 hpb c0 c1 c2 c3 c4 HQ1
  go_wp2_with fail
  refine (HQ3.out _ HAM10.out.bel).mono ?_
  rintro e w11 ⟨rfl, hb11⟩
  have HAM11 := HAM10.out.later hb11
  have hlt11 : w9.heap.size < w11.heap.size := heap_lt (HAM11.fx (w9.heap.size, k1, 34) (by simp)).1
  obtain ⟨w12, hs12, hr12, hb12, hz12⟩ := new_wn (P := Try.prog) (w := w11) (t := 34) (z := #[.int .i64 0, .int .i64 0, .int .i64 0, .int .i64 0]) rfl hk2z (by rw [← HK2.out]; exact wnC_one y2)
  have HAM12 : AM w w12 Y F7 (goM (mkM q.b q.m q.c q.A) 0) (.slice none 0 0) [] [(w11.heap.size, k2, 34), (w9.heap.size, k1, 34), (w7.heap.size, k2, 34), (w5.heap.size, k1, 34), (w.heap.size + 1, cb, 24), (w.heap.size, ca, 24)] := HAM11.new hr12 hb12 (by decide)
  rw [← HK2.out] at HAM12
  have HAMF : Hid (AM w w12 Y F7 (goM (mkM q.b q.m q.c q.A) 0) (.slice none 0 0) [] [(w11.heap.size, wnC y2, 34), (w9.heap.size, k1, 34), (w7.heap.size, wnC y2, 34), (w5.heap.size, k1, 34), (w.heap.size + 1, cb, 24)]) := ⟨HAM12.bel, HAM12.mac, HAM12.low, HAM12.row, HAM12.nR, fun r hr => HAM12.fx r (by simp only [List.mem_cons, List.not_mem_nil, or_false] at hr ⊢; rcases hr with h | h | h | h | h <;> simp [h])⟩
  have HRF : Hid (Rel q.b q.m q.c q.A (goM (mkM q.b q.m q.c q.A) 0) [] 0 y2) := HT2.out.2
  generalize goM (mkM q.b q.m q.c q.A) 0 = mc0 at *
  generalize hOb : w11.heap.size = Ob at *
  generalize hTb : w9.heap.size = Tb at *
  generalize hUb : w7.heap.size = Ub at *
  generalize hWb : w5.heap.size = Wb at *
  have HLT : Hid (w.heap.size + 1 < Wb ∧ Wb < Ub ∧ Ub < Tb ∧ Tb < Ob) := ⟨hlt5, hlt7, hlt9, hlt11⟩
  clear HAM11 HAM12 hb11 hr12 hb12 HAM10 hs10 hz10 d0 d1 d2 d3 d4 HQ3 HT2 hlt5 hlt7 hlt9 hlt11 HT1
  have hpk1 : #[.int .i64 y1.kind, .int .i64 y1.cell, .int .i64 y1.val, .int .i64 y1.code] = k1 := HK1.out
  have hne1 : ∀ w : World, (binOp .neq 34 (.agg k1) (.agg k1)).run Try.prog w = .ok (.bool false) w := fun w => by rw [← HK1.out]; exact neq_wn y1 w
  have heq1 : ∀ w : World, (binOp .eql 34 (.agg k1) (.agg k1)).run Try.prog w = .ok (.bool true) w := fun w => by rw [← HK1.out]; exact eql_wn y1 w
  go_wp2_with fail
  clear hs12 hz12 HK2 hk2z
  go_loopg [15, 16, 17] n (fun g rv kv iv wr => ∃ (i : Nat) (R : List Int) (k : Int) (F : List Nat) (mc : Mc) (last : Wn), g = n - i ∧ i ≤ n ∧ iv = .int .i64 i ∧ kv = .int .i64 k ∧ AM w wr Y F mc rv R [(Ob, wnC last, 34), (Tb, k1, 34), (Ub, wnC last, 34), (Wb, k1, 34), (w.heap.size + 1, cb, 24)] ∧ Rel q.b q.m q.c q.A mc R k last)
  case atStart => exact ⟨0, [], 0, F7, mc0, y2, by omega, by omega, rfl, rfl, HAMF.out, HRF.out⟩
  case round =>
    obtain ⟨i, R, k, F, mc, last, rfl, hi2, rfl, rfl, hpm, hrl⟩ := hrel
    have HAM : Hid (AM w wr Y F mc u15 R [(Ob, wnC last, 34), (Tb, k1, 34), (Ub, wnC last, 34), (Wb, k1, 34), (w.heap.size + 1, cb, 24)]) := hpm
    have HRL : Hid (Rel q.b q.m q.c q.A mc R k last) := hrl
    have hpb := (hpm.fx (w.heap.size + 1, cb, 24) (by simp)).1
    rw [← HCB.out] at hpb
    obtain ⟨_, _, _, _, d4⟩ := ask_cells hpb
    have hwb := (hpm.fx (Wb, k1, 34) (by simp)).1
    have htb := (hpm.fx (Tb, k1, 34) (by simp)).1
    rw [← HK1.out] at hwb htb
    obtain ⟨a0, a1, a2, a3⟩ := wn_cells hwb
    obtain ⟨b0, b1, b2, b3⟩ := wn_cells htb
    obtain ⟨e0, e1, e2, e3⟩ := wn_cells (hpm.fx (Ub, wnC last, 34) (by simp)).1
    obtain ⟨f0, f1, f2, f3⟩ := wn_cells (hpm.fx (Ob, wnC last, 34) (by simp)).1
    have hpk2 : #[.int .i64 last.kind, .int .i64 last.cell, .int .i64 last.val, .int .i64 last.code] = wnC last := rfl
    have hne2 : ∀ w : World, (binOp .neq 34 (.agg (wnC last)) (.agg (wnC last))).run Try.prog w = .ok (.bool false) w := fun w => neq_wn last w
    have heq2 : ∀ w : World, (binOp .eql 34 (.agg (wnC last)) (.agg (wnC last))).run Try.prog w = .ok (.bool true) w := fun w => eql_wn last w
    generalize hkl : wnC last = kl at *
    have HKL : Hid (wnC last = kl) := hkl
    clear hpm hrl hpb hwb htb hkl
    by_cases hlt : i < n
    · have hd : decide ((i : Int) < (n : Int)) = true := by simp; omega
      obtain ⟨x, rfl, hxb, hx⟩ := HWC.out i hlt
      have hxr : wr.cell? (x.add i) = some (.int .i64 (nth q.W i)) := cell_later HAM.out.bel (by rw [add_block]; exact hxb) hx
      have HXC : Hid (∀ w' : World, Below w.heap.size w w' → w'.cell? (x.add i) = some (.int .i64 (nth q.W i))) := fun w' hb => cell_later hb (by rw [add_block]; exact hxb) hx
      have HSZ : Hid (Sx (nth q.W i)) := HSX.out i
      generalize nth q.W i = z at *
      clear hx hxb
      go_upto_block 2 with fail
      go_cut [15, 16, 120] (fun rv kv s120 wx => s120 = .int .i64 last.kind ∧ kv = .int .i64 (cntV k last) ∧ AM w wx Y F mc rv (readV R last z) [(Ob, kl, 34), (Tb, k1, 34), (Ub, kl, 34), (Wb, k1, 34), (w.heap.size + 1, cb, 24)])
      case first =>
        by_cases k2 : last.kind = 2
        · have HR2 : Hid (readV R last z = R ++ [z] ∧ cntV k last = k) := by simp [Hid, readV, cntV, k2]
          obtain ⟨ra, rc, rfl⟩ := own_slice HAM.out.row
          have hRl := (rel_len HRL.out).1
          rw [k2]
          go_wp2_with (at_builtin; refine list_lies_wide _ rfl _ _ 22 rfl w.heap.size 2 i0 _ 1 8 Try.underlying22 hi hz0 hz1 hz2 rfl (by decide) _ _ _ rfl (HAM.out.row.alloc _) ⟨wr.heap.size, 0, none⟩ 1 1 [.int .i64 z] rfl rfl ?c1 ?c2 ?c3 ?c4 ?c5 ?c6 _ rfl ?_)
          case c2 => rfl
          case c4 => unfold maxLen; omega
          case c5 => omega
          case c6 => have := HAM.out.bel.size; omega
          intro g cp w2 hown' hgrow hgb _
          have HP2 := HAM.out.read hown' hgrow hgb
          have HP3 : Hid (AM w w2 Y F mc (.slice (some ⟨g, 0, none⟩) (R.length + 1) cp) (R ++ [z]) [(Ob, kl, 34), (Tb, k1, 34), (Ub, kl, 34), (Wb, k1, 34), (w.heap.size + 1, cb, 24)]) := HP2
          clear hown' hgrow hgb HP2
          go_wp2_with fail
          go_meet
          rw [HR2.out.1, HR2.out.2]
          exact ⟨by rw [k2], rfl, HP3.out⟩
        · by_cases k3 : last.kind = 3
          · have HR2 : Hid (readV R last z = R ∧ cntV k last = k + 1) := by simp [Hid, readV, cntV, k3]
            have hkw : wrap64 (k + 1) = k + 1 := by have := (rel_len HRL.out).2; unfold wrap64; omega
            rw [k3]
            go_wp2_with fail
            go_meet
            rw [HR2.out.1, HR2.out.2]
            exact ⟨by rw [k3], by first | rfl | rw [hkw], HAM.out⟩
          · have HR2 : Hid (readV R last z = R ∧ cntV k last = k) := by simp [Hid, readV, cntV, k2, k3]
            have e2 : (last.kind == 2) = false := by simpa using k2
            have e3 : (last.kind == 3) = false := by simpa using k3
            go_wp2_with fail
            go_meet
            rw [HR2.out.1, HR2.out.2]
            exact ⟨rfl, rfl, HAM.out⟩
      case rest =>
        obtain ⟨rfl, rfl, hpm⟩ := hcut
        have HS2 := rel_step HRL.out z HSZ.out
        have HP0 : Hid (AM w wc Y F mc u15 (readV R last z) [(Ob, kl, 34), (Tb, k1, 34), (Ub, kl, 34), (Wb, k1, 34), (w.heap.size + 1, cb, 24)]) := hpm
        have hpb := (hpm.fx (w.heap.size + 1, cb, 24) (by simp)).1
        rw [← HCB.out] at hpb
        obtain ⟨_, _, _, _, g4⟩ := ask_cells hpb
        have hxc := HXC.out wc hpm.bel
        have HRR : Hid (tellM mc z = wantV q.b q.m q.c q.A (readV R last z) (cntV k last) last ∧ Rel q.b q.m q.c q.A (goM mc z) (readV R last z) (cntV k last) (wantV q.b q.m q.c q.A (readV R last z) (cntV k last) last)) := HS2
        have HLEN : Hid ((readV R last z).length ≤ 100 ∧ ∀ x ∈ readV R last z, Sx x) := ⟨(rel_len HS2.2).1, rel_w64 HS2.2⟩
        generalize hy : wantV q.b q.m q.c q.A (readV R last z) (cntV k last) last = y at *
        have HWQ : Hid (∀ w' : World, Below w.heap.size w w' → Nl w' u15 (readV R last z) → Calls Try.prog 16 #[.int .i64 q.b, .int .i64 q.m, .int .i64 q.c, vb, u15, .int .i64 (cntV k last), .agg kl] w' fun e w'' => e = .returned (.agg (wnC y)) ∧ Below w'.heap.size w' w'') := fun w' hb hl => by
          have := HQ2.out w' (cntV k last) u15 (readV R last z) last hb hl
          rw [hy, HKL.out] at this
          exact this
        have HNX : Hid (Calls Try.prog 13 #[.pointer (some ⟨Y, 0, none⟩), .int .i64 z] wc fun e w' => e = .returned (.agg (wnC y)) ∧ ∃ F', McAt w' Y F' (goM mc z) ∧ Next F F' wc w') := by
          have := HX.out wc Y F mc z HP0.out.mac
          rw [HRR.out.1] at this
          exact this
        clear hpm HS2 hy hpb a0 a1 a2 a3 b0 b1 b2 b3 e0 e1 e2 e3 f0 f1 f2 f3 d4 hxr hne1 hne2 heq1 heq2
        go_wp2_with fail
        refine HNX.out.mono ?_
        rintro e w2 ⟨rfl, F', hm2, hn2⟩
        have HP2 := HP0.out.next hm2 hn2
        have hub := (HP2.fx (Ub, kl, 34) (by simp)).1
        have hst := store_wn (P := Try.prog) hub (by rw [← HKL.out]; rfl) (wnC_size y) (wnC_one y)
        have HP3 : AM w (w2.setRow Ub (wnC y)) Y F' (goM mc z) u15 (readV R last z) [(Ob, kl, 34), (Tb, k1, 34), (Ub, wnC y, 34), (Wb, k1, 34), (w.heap.size + 1, cb, 24)] := HP2.set (t := 34) (by have := HLT.out; omega) (old := kl) (by simp) (ap_u HLT.out)
        obtain ⟨w3, hw3⟩ : ∃ w3, w2.setRow Ub (wnC y) = w3 := ⟨_, rfl⟩
        rw [hw3] at hst HP3
        have HP3' : Hid (AM w w3 Y F' (goM mc z) u15 (readV R last z) [(Ob, kl, 34), (Tb, k1, 34), (Ub, wnC y, 34), (Wb, k1, 34), (w.heap.size + 1, cb, 24)]) := HP3
        have hpb := (HP3.fx (w.heap.size + 1, cb, 24) (by simp)).1
        rw [← HCB.out] at hpb
        obtain ⟨g0, g1, g2, g3, g4'⟩ := ask_cells hpb
        have hob := (HP3.fx (Ob, kl, 34) (by simp)).1
        rw [← HKL.out] at hob
        obtain ⟨f0, f1, f2, f3⟩ := wn_cells hob
        have hyz : (wnC y).size = 4 := rfl
        have HKY1 : Hid (∀ (w4 : World), Below w3.heap.size w3 w4 → ∃ w5, (storeCells ⟨Ob, 0, none⟩ (wnC y).toList 0).run Try.prog w4 = .ok () w5 ∧ AM w w5 Y F' (goM mc z) u15 (readV R last z) [(Ob, wnC y, 34), (Tb, k1, 34), (Ub, wnC y, 34), (Wb, k1, 34), (w.heap.size + 1, cb, 24)]) := fun w4 hb4 => by
          have h4 := HP3'.out.later hb4
          exact ⟨_, store_wn (h4.fx (Ob, kl, 34) (by simp)).1 (by rw [← HKL.out]; rfl) rfl (wnC_one y), h4.set (t := 34) (by have := HLT.out; omega) (old := kl) (by simp) (ap_o HLT.out)⟩
        generalize hky : wnC y = ky at *
        have HKY : Hid (wnC y = ky) := hky
        clear HP2 HP3 hub hw3 hpb hob hm2 hn2 hky HNX HP0
        go_wp2_with fail
        refine (HWQ.out _ HP3'.out.bel (HP3'.out.nl HLEN.out.1 HLEN.out.2)).mono ?_
        rintro e w4 ⟨rfl, hb4⟩
        obtain ⟨w5, hs5, hp5⟩ := HKY1.out w4 hb4
        have HP5 : Hid (AM w w5 Y F' (goM mc z) u15 (readV R last z) [(Ob, wnC y, 34), (Tb, k1, 34), (Ub, wnC y, 34), (Wb, k1, 34), (w.heap.size + 1, cb, 24)]) := by rw [Hid, HKY.out]; exact hp5
        clear hb4 hp5 HKY1 HP3' hst f0 f1 f2 f3 g0 g1 g2 g3 g4 g4' hxc HWQ
        go_wp2_with fail
        have hiw := ow_wrap' hWl hlt
        go_roundg (n - (i + 1))
        case rel => exact ⟨i + 1, _, _, F', _, y, rfl, hlt, by first | rw [hiw] | go_num, rfl, HP5.out, HRR.out.2⟩
        case measure => exact ap_less hlt
    · have hd : decide ((i : Int) < (n : Int)) = false := by simp; omega
      go_wp2_with fail
      go_ret
      exact ⟨rfl, HAM.out.bel⟩
theorem apart_walk {w : World} {v1 v2 : Value} {p q : Ask} (ha : AskV w v1 p) (hb : AskV w v2 q) : Calls Try.prog 6 #[v1, v2] w fun e w' => e = .returned (.bool true) ∧ Below w.heap.size w w' := by
  cases h1 : rightV p.b p.m p.c p.A.length with
  | false => exact apart_no ha hb (Or.inl h1)
  | true =>
    cases h2 : rightV q.b q.m q.c q.A.length with
    | false => exact apart_no ha hb (Or.inr h2)
    | true => exact apart_yes ha hb h1 h2
end Go.Proofs.Ytbbcfimgnbdpeaa.Ch
