/- The law's play, walked: a call is handed words, and wants what the document says. -/
import Derived.Test.YtbbcfimgnbdpeaaChW
import Derived.Test.YtbbcfimgnbdpeaaCoN
import Derived.Test.YtbbcfimgnbdpeaaCoA
import Derived.Deep.CutBlock
import Derived.Deep.DeepCutAuto
import Derived.Deep.LoopGhost
namespace Go.Proofs.Ytbbcfimgnbdpeaa.Ch
open Go.ChangeShapes Go.WideShapes Go.ChangeAt Go.RowKit
attribute [local go_sem ↓] Go.wp_at_zero Go.wp_at_succ

/-- A call under way, what was read of it, what it told last, and the call as it was asked for: as they lie. -/
structure PM (w0 wr : World) (X L P : Nat) (pc : Array Value) (vr : Value) (F : List Nat) (mc : Mc) (R : List Int) (last : Wn) : Prop where
  bel : Below w0.heap.size w0 wr
  mac : McAt wr X F mc
  low : ∀ q ∈ F, w0.heap.size ≤ q
  lst : wr.heap[L]? = some (.cells (wnC last) 34 (0, 0))
  par : wr.heap[P]? = some (.cells pc 24 (0, 0))
  row : wr.ownsRow w0.heap.size 2 1 vr R.length (numC R)
  nL : L ∉ F
  nP : P ∉ F
  nR : ∀ b, vr.ownBlock = some b → b ∉ F
  bL : w0.heap.size ≤ L
theorem PM.later {w0 wr w' : World} {X L P : Nat} {pc : Array Value} {vr : Value} {F : List Nat} {mc : Mc} {R : List Int} {last : Wn} (h : PM w0 wr X L P pc vr F mc R last) (hb : Below wr.heap.size wr w') : PM w0 w' X L P pc vr F mc R last :=
  ⟨h.bel.trans (hb.mono h.bel.size), h.mac.later hb, h.low, by rw [hb.block _ (heap_lt h.lst)]; exact h.lst, by rw [hb.block _ (heap_lt h.par)]; exact h.par, own_keep h.row (Keep.of_below hb []) (by simp), h.nL, h.nP, h.nR, h.bL⟩
/-- The call goes on. -/
theorem PM.next {w0 wr w' : World} {X L P : Nat} {pc : Array Value} {vr : Value} {F F' : List Nat} {mc mc' : Mc} {R : List Int} {last : Wn} (h : PM w0 wr X L P pc vr F mc R last) (hm : McAt w' X F' mc') (hn : Next F F' wr w') : PM w0 w' X L P pc vr F' mc' R last := by
  have hnew : ∀ q, q < wr.heap.size → q ∉ F → q ∉ F' := fun q h1 h2 h3 => by
    rcases hn.2 q h3 with h4 | h4
    · exact h2 h4
    · omega
  refine ⟨h.bel.trans (hn.below h.bel.size h.low), hm, fun q hq => ?_, by rw [hn.1.block _ (heap_lt h.lst) h.nL]; exact h.lst, by rw [hn.1.block _ (heap_lt h.par) h.nP]; exact h.par, own_keep h.row hn.1 h.nR, hnew _ (heap_lt h.lst) h.nL, hnew _ (heap_lt h.par) h.nP, fun b hb => hnew b (own_block h.row b hb).2 (h.nR b hb), h.bL⟩
  rcases hn.2 q hq with h4 | h4
  · exact h.low q h4
  · have := h.bel.size; omega
/-- What was told last becomes another. -/
theorem PM.last {w0 wr : World} {X L P : Nat} {pc : Array Value} {vr : Value} {F : List Nat} {mc : Mc} {R : List Int} {last : Wn} (h : PM w0 wr X L P pc vr F mc R last) (x : Wn) : PM w0 (wr.setRow L (wnC x)) X L P pc vr F mc R x := by
  have hk : Keep [L] wr (wr.setRow L (wnC x)) := ⟨rfl, rfl, rfl, by rw [setRow_size]; exact Nat.le_refl _, fun b _ hb => setRow_other _ _ _ _ (by simpa using hb)⟩
  have hLP : P ≠ L := fun e => by
    have h1 := h.par
    rw [e, h.lst] at h1
    simp at h1
  exact ⟨h.bel.trans (hk.below h.bel.size (by simpa using h.bL)), h.mac.keep hk (fun b hb => by simp; exact fun e => h.nL (e ▸ hb)), h.low, setRow_heap _ _ _ _ _ _ h.lst, by rw [setRow_other _ _ _ _ hLP]; exact h.par, own_keep h.row hk (fun b hb => by simp; exact fun e => own_ne h.row h.lst (by decide) (by rw [hb, e])), h.nL, h.nP, h.nR, h.bL⟩
/-- One more was read. -/
theorem PM.read {w0 wr w' : World} {X L P g cap : Nat} {o : Obj} {pc : Array Value} {vr : Value} {F : List Nat} {mc : Mc} {R : List Int} {last : Wn} {v : Int} (h : PM w0 wr X L P pc vr F mc R last) (hown : w'.ownsRow w0.heap.size 2 1 (.slice (some ⟨g, 0, none⟩) (R.length + 1) cap) (R.length + 1) (numC R ++ [.int .i64 v])) (hg : (wr.alloc o).grownBy w' vr.ownBlock) (hb : vr.ownBlock = some g ∨ g = wr.heap.size + 1) :
    PM w0 w' X L P pc (.slice (some ⟨g, 0, none⟩) (R.length + 1) cap) F mc (R ++ [v]) last := by
  have h1 := h.later (below_a1 wr o)
  have hk : Keep (match vr.ownBlock with | some b => [b] | none => []) (wr.alloc o) w' := (Keep.refl _ _).grown hg (fun b hb => by rw [hb]; simp)
  have hmem : ∀ b, b ∈ (match vr.ownBlock with | some b => [b] | none => []) → vr.ownBlock = some b := fun b hb => by
    cases hv : vr.ownBlock with
    | none => rw [hv] at hb; simp at hb
    | some c => rw [hv] at hb; simp at hb; rw [hb]
  have hlow : ∀ b, vr.ownBlock = some b → w0.heap.size ≤ b := fun b hb => (own_block h.row b hb).1
  refine ⟨h1.bel.trans (hk.below h1.bel.size (fun b hb => hlow b (hmem b hb))), h1.mac.keep hk (fun b hb hc => h.nR b (hmem b hc) hb), h.low, ?_, ?_, by rw [List.length_append, numC_snoc]; exact hown, h.nL, h.nP, fun b hb' => ?_, h.bL⟩
  · rw [hk.block _ (heap_lt h1.lst) (fun hc => own_ne h1.row h1.lst (by decide) (hmem _ hc))]
    exact h1.lst
  · rw [hk.block _ (heap_lt h1.par) (fun hc => own_ne h1.row h1.par (by decide) (hmem _ hc))]
    exact h1.par
  · simp [Value.ownBlock] at hb'
    subst hb'
    rcases hb with h2 | h2
    · exact h.nR g h2
    · intro h3
      have := h.mac.lt g h3
      omega
theorem PM.nl {w0 wr : World} {X L P : Nat} {pc : Array Value} {vr : Value} {F : List Nat} {mc : Mc} {R : List Int} {last : Wn} (h : PM w0 wr X L P pc vr F mc R last) (h1 : R.length ≤ 100) (h2 : ∀ x ∈ R, Sx x) : Nl wr vr R := Nl.of_own h.row (by omega) h2
theorem PM.parts {w0 wr : World} {X L P : Nat} {b m c : Int} {va vw vr : Value} {F : List Nat} {mc : Mc} {R : List Int} {last : Wn} (h : PM w0 wr X L P #[.int .i64 b, .int .i64 m, .int .i64 c, va, vw] vr F mc R last) :
    (wr.cell? ⟨P, 0, none⟩ = some (.int .i64 b) ∧ wr.cell? ⟨P, 1, none⟩ = some (.int .i64 m) ∧ wr.cell? ⟨P, 2, none⟩ = some (.int .i64 c) ∧ wr.cell? ⟨P, 3, none⟩ = some va ∧ wr.cell? ⟨P, 4, none⟩ = some vw) ∧
    wr.cell? ⟨L, 0, none⟩ = some (.int .i64 last.kind) ∧ wr.cell? ⟨L, 1, none⟩ = some (.int .i64 last.cell) ∧ wr.cell? ⟨L, 2, none⟩ = some (.int .i64 last.val) ∧ wr.cell? ⟨L, 3, none⟩ = some (.int .i64 last.code) :=
  ⟨⟨by rw [cell_at h.par]; rfl, by rw [cell_at h.par]; rfl, by rw [cell_at h.par]; rfl, by rw [cell_at h.par]; rfl, by rw [cell_at h.par]; rfl⟩, by rw [cell_at h.lst]; rfl, by rw [cell_at h.lst]; rfl, by rw [cell_at h.lst]; rfl, by rw [cell_at h.lst]; rfl⟩
theorem pl_wrap {n i k : Nat} (hn : n ≤ 17592186044416) (hk : k ≤ 100) (hi : i ≤ n + 4 + k + 1) : wrap64 ((i : Int) + 1) = ((i + 1 : Nat) : Int) := by
  unfold wrap64
  omega
theorem pl_lt {n i k l : Nat} {x : Int} (h : i < n + 4 ∨ x ≠ 6) (hl : x = 6 ∨ i + l ≤ k) : i < n + 4 + k + 1 := by
  rcases h with h | h
  · omega
  · rcases hl with h1 | h1
    · exact absurd h1 h
    · omega
theorem pl_less {n i k : Nat} (h : i < n + 4 + k + 1) : n + 4 + k + 1 - (i + 1) < n + 4 + k + 1 - i := by omega
set_option maxRecDepth 100000 in
set_option maxHeartbeats 2000000 in
theorem play_any {w0 w : World} {X : Nat} {F : List Nat} {v : Value} {q : Ask} (hb0 : Below w0.heap.size w0 w) (ha : AskV w0 v q) (hr : rightV q.b q.m q.c q.A.length = true) (hm : McAt w X F (mkM q.b q.m q.c q.A)) (hF : ∀ b ∈ F, w0.heap.size ≤ b) :
    Calls Try.prog 11 #[.pointer (some ⟨X, 0, none⟩), v] w fun e w' => e = .returned (.bool true) ∧ Below w0.heap.size w0 w' := by
  obtain ⟨va, vw, rfl, hA, hW, _⟩ := ha
  obtain ⟨i0, hi, hz0, hz1, hz2⟩ := info_parts info_i64
  have HN : Hid (∀ (w : World) (F : List Nat) (m : Mc) (v : Int), McAt w X F m → Calls Try.prog 13 #[.pointer (some ⟨X, 0, none⟩), .int .i64 v] w fun e w' => e = .returned (.agg (wnC (tellM m v))) ∧ ∃ F', McAt w' X F' (goM m v) ∧ Next F F' w w') := fun w F m v h => next_any h v
  have HQ : Hid (∀ (w : World) (k : Int) (vr : Value) (R : List Int) (x : Wn), Below w0.heap.size w0 w → Nl w vr R → Calls Try.prog 16 #[.int .i64 q.b, .int .i64 q.m, .int .i64 q.c, va, vr, .int .i64 k, .agg (wnC x)] w fun e w' => e = .returned (.agg (wnC (wantV q.b q.m q.c q.A R k x))) ∧ Below w.heap.size w w') := fun w k vr R x hb h => wants_any w _ _ _ k va vr q.A R x (hA.later hb (Nat.le_refl _)) h hr
  obtain ⟨wa, wcap, rfl⟩ := nl_slice hW
  obtain ⟨_, hWl, hWc⟩ := nl_cells hW
  have HWC : Hid (∀ i, i < q.W.length → ∃ x, wa = some x ∧ x.block < w0.heap.size ∧ w0.cell? (x.add i) = some (.int .i64 (nth q.W i))) := hWc
  have HML : Hid (mostW q.m ≤ 100) := most_le hr
  have HSX : Hid (∀ i, Sx (nth q.W i)) := nl_w64 hW.w64
  have HRF : Hid (Rel q.b q.m q.c q.A (mkM q.b q.m q.c q.A) [] 0 wn0) := rel_first hr
  have HM : Hid (McAt w X F (mkM q.b q.m q.c q.A)) := hm
  have HB0 : Hid (Below w0.heap.size w0 w) := hb0
  have HFL : Hid (∀ b ∈ F, w0.heap.size ≤ b) := hF
  clear hm hb0 hF hWc hA hW hr
  go_enter Try.func11, Try.ntmps11
  go_upto_block 0 with fail
  obtain ⟨w1, hw1⟩ : ∃ w1, w1 = (w.alloc (.cells #[.int .i64 q.b, .int .i64 q.m, .int .i64 q.c, va, .slice wa q.W.length wcap] 24)).alloc (.cells (wnC wn0) 34) := ⟨_, rfl⟩
  have HPM : Hid (PM w0 w1 X (w.heap.size + 1) w.heap.size #[.int .i64 q.b, .int .i64 q.m, .int .i64 q.c, va, .slice wa q.W.length wcap] (.slice none 0 0) F (mkM q.b q.m q.c q.A) [] wn0) := by
    have hb1 : Below w.heap.size w w1 := by rw [hw1]; exact below_then (below_a1 _ _) (below_a1 _ _)
    have hlt := HM.out.lt
    refine ⟨HB0.out.trans (hb1.mono HB0.out.size), HM.out.later hb1, HFL.out, by rw [hw1]; exact heap_alloc2_new _ _ _, by rw [hw1]; exact heap_alloc2_old _ _ _, World.ownsRow_nil _ _ _ _, fun h => by have := hlt _ h; omega, fun h => by have := hlt _ h; omega, by simp [Value.ownBlock], by have := HB0.out.size; omega⟩
  simp only [wnC, wn0] at hw1
  rw [← hw1]
  clear hw1
  generalize hL : w.heap.size + 1 = L at *
  generalize hP : w.heap.size = P at *
  generalize hpc : (#[.int .i64 q.b, .int .i64 q.m, .int .i64 q.c, va, .slice wa q.W.length wcap] : Array Value) = pc at HPM
  have HPC : Hid ((#[.int .i64 q.b, .int .i64 q.m, .int .i64 q.c, va, .slice wa q.W.length wcap] : Array Value) = pc) := hpc
  clear hpc HM HB0 HFL
  generalize hn : q.W.length = n at *
  go_wp2_with fail
  go_loopg [5, 6, 8] (n + 4 + mostW q.m + 1) (fun g rv kv iv wr => ∃ (i : Nat) (R : List Int) (k : Int) (F : List Nat) (mc : Mc) (last : Wn), g = n + 4 + mostW q.m + 1 - i ∧ i ≤ n + 4 + mostW q.m + 1 ∧ iv = .int .i64 i ∧ kv = .int .i64 k ∧ PM w0 wr X L P pc rv F mc R last ∧ Rel q.b q.m q.c q.A mc R k last ∧ (last.kind = 6 ∨ i + leftM mc ≤ mostW q.m))
  case atStart => exact ⟨0, [], 0, F, _, wn0, by omega, by omega, rfl, rfl, HPM.out, HRF.out, Or.inr (by have := left_first q.b q.m q.c q.A; omega)⟩
  case round =>
    obtain ⟨i, R, k, F, mc, last, rfl, hi2, rfl, rfl, hpm, hrl, hlf⟩ := hrel
    have HPW : Hid (PM w0 wr X L P pc u5 F mc R last) := hpm
    have HRL : Hid (Rel q.b q.m q.c q.A mc R k last) := hrl
    have HLF : Hid (last.kind = 6 ∨ i + leftM mc ≤ mostW q.m) := hlf
    have hl0 : wr.cell? ⟨L, 0, none⟩ = some (.int .i64 last.kind) := by rw [cell_at hpm.lst]; rfl
    have hp4 : wr.cell? ⟨P, 4, none⟩ = some (.slice wa n wcap) := by rw [cell_at hpm.par, ← HPC.out]; rfl
    have hwn : wrap64 ((n : Int) + 4) = (n : Int) + 4 := by unfold wrap64; omega
    clear hpm hrl hlf
    refine wp_seq_k ?_
    intro K3 hK3
    go_cut [8] (fun iv wx => iv = .int .i64 i ∧ wx = wr ∧ (i < n + 4 ∨ last.kind ≠ 6))
    case first =>
      by_cases h4 : i < n + 4
      · have d4 : decide ((i : Int) < (n : Int) + 4) = true := by simp; omega
        go_wp2_with fail
        go_meet
        exact ⟨rfl, rfl, Or.inl h4⟩
      · have d4 : decide ((i : Int) < (n : Int) + 4) = false := by simp; omega
        by_cases h6 : last.kind = 6
        · rw [h6] at hl0
          go_wp2_with fail
          go_ret
          exact ⟨rfl, HPW.out.bel⟩
        · have d6 : (last.kind == 6) = false := by simpa using h6
          go_wp2_with fail
          go_meet
          exact ⟨rfl, rfl, Or.inr h6⟩
    case rest =>
      obtain ⟨rfl, rfl, hcond⟩ := hcut
      have HCD : Hid (i < n + 4 ∨ last.kind ≠ 6) := hcond
      clear hcond hwn
      go_upto_if 30 with fail
      go_cut [9] (fun vv wx => ∃ z, vv = .int .i64 z ∧ Sx z ∧ wx = wc)
      case first =>
        by_cases hin : i < n
        · obtain ⟨x, rfl, hxb, hx⟩ := HWC.out i (by omega)
          have hx' : wc.cell? (x.add i) = some (.int .i64 (nth q.W i)) := cell_later HPW.out.bel (by rw [add_block]; exact hxb) hx
          have hd : decide ((i : Int) < (n : Int)) = true := by simp; omega
          have hsx := HSX.out i
          generalize nth q.W i = z at *
          go_wp2_with fail
          go_meet
          exact ⟨z, rfl, hsx, rfl⟩
        · have hd : decide ((i : Int) < (n : Int)) = false := by simp; omega
          go_wp2_with fail
          go_meet
          exact ⟨0, rfl, ⟨by decide, by decide⟩, rfl⟩
      case rest =>
        obtain ⟨z, rfl, hsz, rfl⟩ := hcut
        have HSZ : Hid (Sx z) := hsz
        clear hsz
        go_upto_block 2 with fail
        go_cut [5, 6, 37] (fun rv kv s37 wx => s37 = .int .i64 last.kind ∧ kv = .int .i64 (cntV k last) ∧ PM w0 wx X L P pc rv F mc (readV R last z) last)
        case first =>
          by_cases k2 : last.kind = 2
          · have HR2 : Hid (readV R last z = R ++ [z] ∧ cntV k last = k) := by simp [Hid, readV, cntV, k2]
            rw [k2] at hl0
            obtain ⟨ra, rc, rfl⟩ := own_slice HPW.out.row
            have hRl := (rel_len HRL.out).1
            rw [k2]
            go_wp2_with (at_builtin; refine list_lies_wide _ rfl _ _ 22 rfl w0.heap.size 2 i0 _ 1 8 Try.underlying22 hi hz0 hz1 hz2 rfl (by decide) _ _ _ rfl (HPW.out.row.alloc _) ⟨wc.heap.size, 0, none⟩ 1 1 [.int .i64 z] rfl rfl ?c1 ?c2 ?c3 ?c4 ?c5 ?c6 _ rfl ?_)
            case c1 => exact World.news_of_block (cs := #[.int .i64 z]) (t := 2) (fr := (0, 0)) (heap_alloc_new _ _)
            case c2 => intro u hu; simp at hu; subst hu; rfl
            case c3 => decide
            case c4 => unfold maxLen; omega
            case c5 => omega
            case c6 => have := HPW.out.bel.size; simp; omega
            intro g cp w2 hown' hgrow hgb _
            have HP2 : Hid (PM w0 w2 X L P pc (.slice (some ⟨g, 0, none⟩) (R.length + 1) cp) F mc (R ++ [z]) last) := HPW.out.read hown' hgrow hgb
            clear hown' hgrow hgb
            go_wp2_with fail
            go_meet
            rw [HR2.out.1, HR2.out.2]
            exact ⟨by rw [k2], rfl, HP2.out⟩
          · by_cases k3 : last.kind = 3
            · have HR2 : Hid (readV R last z = R ∧ cntV k last = k + 1) := by simp [Hid, readV, cntV, k3]
              have hkw : wrap64 (k + 1) = k + 1 := by have := (rel_len HRL.out).2; unfold wrap64; omega
              rw [k3] at hl0
              rw [k3]
              go_wp2_with fail
              go_meet
              rw [HR2.out.1, HR2.out.2]
              exact ⟨by rw [k3], by rw [hkw], HPW.out⟩
            · have HR2 : Hid (readV R last z = R ∧ cntV k last = k) := by simp [Hid, readV, cntV, k2, k3]
              have e2 : (last.kind == 2) = false := by simpa using k2
              have e3 : (last.kind == 3) = false := by simpa using k3
              go_wp2_with fail
              go_meet
              rw [HR2.out.1, HR2.out.2]
              exact ⟨rfl, rfl, HPW.out⟩
        case rest =>
          obtain ⟨rfl, rfl, hpm⟩ := hcut
          have HS2 := rel_step HRL.out z HSZ.out
          have HP0 : Hid (PM w0 wc X L P pc u5 F mc (readV R last z) last) := hpm
          have hpm' := hpm
          rw [← HPC.out] at hpm'
          obtain ⟨⟨p0, p1, p2, p3, _⟩, l0, l1, l2, l3⟩ := hpm'.parts
          have HLN : Hid (Nl wc u5 (readV R last z)) := hpm.nl (rel_len HS2.2).1 (rel_w64 HS2.2)
          have hpk0 : #[.int .i64 last.kind, .int .i64 last.cell, .int .i64 last.val, .int .i64 last.code] = wnC last := rfl
          have HRR : Hid (tellM mc z = wantV q.b q.m q.c q.A (readV R last z) (cntV k last) last ∧ Rel q.b q.m q.c q.A (goM mc z) (readV R last z) (cntV k last) (wantV q.b q.m q.c q.A (readV R last z) (cntV k last) last)) := HS2
          generalize hy : wantV q.b q.m q.c q.A (readV R last z) (cntV k last) last = y at *
          have HWQ : Hid (Calls Try.prog 16 #[.int .i64 q.b, .int .i64 q.m, .int .i64 q.c, va, u5, .int .i64 (cntV k last), .agg (wnC last)] wc fun e w' => e = .returned (.agg (wnC y)) ∧ Below wc.heap.size wc w') := by
            have := HQ.out wc (cntV k last) u5 (readV R last z) last HP0.out.bel HLN.out
            rw [hy] at this
            exact this
          clear hpm hpm' HS2 hy hp4 hl0
          generalize hcl : wnC last = cl at *
          have HCL : Hid (wnC last = cl) := hcl
          clear hcl
          go_wp2_with fail
          refine HWQ.out.mono ?_
          rintro e w1 ⟨rfl, hb1⟩
          -- the document's want is laid
          have HP1 : Hid (PM w0 w1 X L P pc u5 F mc (readV R last z) last) := HP0.out.later hb1
          obtain ⟨w2, hs2, hr2, hb2, hz2'⟩ := new_wn (P := Try.prog) (w := w1) (t := 34) (z := #[.int .i64 0, .int .i64 0, .int .i64 0, .int .i64 0]) rfl (wnC_size y) (wnC_one y)
          have HP2 : Hid (PM w0 w2 X L P pc u5 F mc (readV R last z) last) := HP1.out.later hb2
          have hKF : w1.heap.size ∉ F := fun h => by have := HP1.out.mac.lt _ h; omega
          have hpk : #[.int .i64 y.kind, .int .i64 y.cell, .int .i64 y.val, .int .i64 y.code] = wnC y := rfl
          have hcz : (wnC y).size = 4 := rfl
          have hne : ∀ w : World, (binOp .neq 34 (.agg (wnC y)) (.agg (wnC y))).run Try.prog w = .ok (.bool false) w := fun w => neq_wn y w
          have HNX : Hid (Calls Try.prog 13 #[.pointer (some ⟨X, 0, none⟩), .int .i64 z] w2 fun e w' => e = .returned (.agg (wnC y)) ∧ ∃ F', McAt w' X F' (goM mc z) ∧ Next F F' w2 w') := by
            have := HN.out w2 F mc z HP2.out.mac
            rw [HRR.out.1] at this
            exact this
          have HR2 : Hid (w2.heap[w1.heap.size]? = some (.cells (wnC y) 34 (0, 0))) := hr2
          have HFT : ∀ (w3 : World) (F' : List Nat), McAt w3 X F' (goM mc z) → Next F F' w2 w3 → ∃ w4 w5, (storeCells ⟨w3.heap.size, 0, none⟩ (wnC y).toList 0).run Try.prog (w3.alloc (.cells #[.int .i64 0, .int .i64 0, .int .i64 0, .int .i64 0] 34)) = .ok () w4 ∧ (w4.cell? ⟨w3.heap.size, 0, none⟩ = some (.int .i64 y.kind) ∧ w4.cell? ⟨w3.heap.size, 1, none⟩ = some (.int .i64 y.cell) ∧ w4.cell? ⟨w3.heap.size, 2, none⟩ = some (.int .i64 y.val) ∧ w4.cell? ⟨w3.heap.size, 3, none⟩ = some (.int .i64 y.code)) ∧
              (w4.cell? ⟨w1.heap.size, 0, none⟩ = some (.int .i64 y.kind) ∧ w4.cell? ⟨w1.heap.size, 1, none⟩ = some (.int .i64 y.cell) ∧ w4.cell? ⟨w1.heap.size, 2, none⟩ = some (.int .i64 y.val) ∧ w4.cell? ⟨w1.heap.size, 3, none⟩ = some (.int .i64 y.code)) ∧ (storeCells ⟨L, 0, none⟩ (wnC y).toList 0).run Try.prog w4 = .ok () w5 ∧ PM w0 w5 X L P pc u5 F' (goM mc z) (readV R last z) y := fun w3 F' hm hn => by
            have h3 := HP2.out.next hm hn
            obtain ⟨w4, hs4, hr4, hb4, _⟩ := new_wn (P := Try.prog) (w := w3) (t := 34) (z := #[.int .i64 0, .int .i64 0, .int .i64 0, .int .i64 0]) rfl (wnC_size y) (wnC_one y)
            have h4 := h3.later hb4
            have hk3 : w3.heap[w1.heap.size]? = some (.cells (wnC y) 34 (0, 0)) := by rw [hn.1.block _ (heap_lt HR2.out) hKF]; exact HR2.out
            have hk4 : w4.heap[w1.heap.size]? = some (.cells (wnC y) 34 (0, 0)) := by rw [hb4.block _ (heap_lt hk3)]; exact hk3
            exact ⟨w4, _, hs4, wn_cells hr4, wn_cells hk4, store_wn h4.lst rfl rfl (wnC_one y), h4.last y⟩
          have HFT' : Hid _ := HFT
          have HRN : Hid (Rel q.b q.m q.c q.A (goM mc z) (readV R last z) (cntV k last) y) := HRR.out.2
          have HLN2 : Hid (y.kind = 6 ∨ i + 1 + leftM (goM mc z) ≤ mostW q.m) := by
            by_cases h6 : y.kind = 6
            · exact Or.inl h6
            · obtain ⟨_, h8⟩ := left_step HRL.out z HSZ.out
              have h9 := h8 (by rw [HRR.out.1]; exact h6)
              rcases HLF.out with h7 | h7
              · exact absurd (rel_still HRL.out h7 z HRR.out.1) h6
              · exact Or.inr (by omega)
          have hb1s := hb1.size
          generalize hcy : wnC y = cy at *
          clear hb1 hcy hr2 hb2 HP0 HP1 HLN HWQ p0 p1 p2 p3 l0 l1 l2 l3 hpk0 HQ HN HFT
          go_wp2_with fail
          refine HNX.out.mono ?_
          rintro e w3 ⟨rfl, F', hm3, hn3⟩
          obtain ⟨w4, w5, hs4, ⟨a0, a1, a2, a3⟩, ⟨b0, b1, b2, b3⟩, hs5, hpm5⟩ := HFT'.out w3 F' hm3 hn3
          have HP5 : Hid (PM w0 w5 X L P pc u5 F' (goM mc z) (readV R last z) y) := hpm5
          clear hm3 hn3 hpm5 HNX HFT' HP2 hs2
          go_wp2_with fail
          have hiw : wrap64 ((i : Int) + 1) = ((i + 1 : Nat) : Int) := pl_wrap hWl HML.out hi2
          have hlt1 : i < n + 4 + mostW q.m + 1 := pl_lt HCD.out HLF.out
          go_roundg (n + 4 + mostW q.m + 1 - (i + 1))
          case rel => exact ⟨i + 1, _, _, F', _, y, rfl, hlt1, by rw [hiw], rfl, HP5.out, HRN.out, HLN2.out⟩
          case measure => exact pl_less hlt1
end Go.Proofs.Ytbbcfimgnbdpeaa.Ch
