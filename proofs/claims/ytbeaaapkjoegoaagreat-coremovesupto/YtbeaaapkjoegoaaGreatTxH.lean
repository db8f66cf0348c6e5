/- goOn. -/
import Derived.Test.YtbeaaapkjoegoaaGreatJTxATxG
namespace Go.Proofs.YtbeaaapkjoegoaaGreat
open Go.ChangeShapes Go.WideShapes Go.ChangeAt Go.RowKit
attribute [local go_sem ↓] Go.wp_at_zero Go.wp_at_succ
set_option linter.unusedVariables false

theorem me_b (w : World) (a : Addr) : (method 383 145 (.pointer (some a)) "Step").run Tryz.prog w = .ok (189, .pointer (some a)) w := by kernel_rfl
theorem me_r (w : World) (a : Addr) (c : Int) : (method 383 155 (.agg #[.pointer (some a), .int .i64 c]) "Step").run Tryz.prog w = .ok (193, .pointer (some a)) w := by kernel_rfl
theorem me_c (w : World) (a : Addr) : (method 383 158 (.pointer (some a)) "Step").run Tryz.prog w = .ok (209, .pointer (some a)) w := by kernel_rfl
theorem me_w (w : World) (a : Addr) (c : Int) : (method 383 187 (.agg #[.pointer (some a), .int .i64 c]) "Step").run Tryz.prog w = .ok (221, .pointer (some a)) w := by kernel_rfl
def anV (k e v : Int) (y : Bool) : Value := .agg #[.int .i64 k, .int .i64 e, .int .i64 v, .bool y]
/-- A block beside all that changes. -/
theorem row_next {w w1 w2 : World} {G G' : List Nat} {B : Nat} {o : Obj} (hlt : ∀ q ∈ G, q < w.heap.size) (hB : w.heap.size ≤ B) (hr : w1.heap[B]? = some o) (hn : Next G G' w1 w2) : w2.heap[B]? = some o ∧ B ∉ G' := by
  have h1 : B ∉ G := fun e => by have := hlt B e; omega
  refine ⟨(hn.1.block B (heap_lt hr) h1).trans hr, fun e => ?_⟩
  rcases hn.2 B e with e | e
  · exact h1 e
  · have := heap_lt hr; omega
theorem TM.other {w w' : World} {base : Nat} {p : Value} {c r : Nat} {L : List Ac} {F : List Nat} {T : Nat} {x : Tx} {G : List Nat} {H : List Nat} (h : TM w base p c r L F T x G) (k : Keep H w w') (hd : ∀ q ∈ G ++ F, q ∉ H) : TM w' base p c r L F T x G := ⟨h.mem.keep k (fun q hq => hd q (by simp [hq])), h.tx.keep k (fun q hq => hd q (by simp [hq])), h.out⟩
theorem nx_other {A B : List Nat} {w w2 w3 : World} {k : Nat} (h : Next A B w w2) (hk : w.heap.size ≤ k) (q : Keep [k] w2 w3) : Next A B w w3 := ⟨h.1.trans q (fun b hb => Or.inr (by simp at hb; omega)), h.2⟩
theorem rd_ok {x : Tx} {P : Fe.Cp} {b : Fe.Ck} (hx : XOk x) (hy : x.wy = .rd P b) : ∃ n, Fe.KOk P b n := by have hw := hx.wy; unfold wyOk at hw; rw [hy] at hw; exact hw.2.2.2.2.1
theorem rd_lo {x : Tx} {P : Fe.Cp} {b : Fe.Ck} (hx : XOk x) (hy : x.wy = .rd P b) : 0 ≤ P.cell := by have hw := hx.wy; unfold wyOk at hw; rw [hy] at hw; exact hw.2.2.1
theorem cm_done {r : Nat} {P : Co.Cp} {b : Co.Ck} {u : Co.Cu} {L : List Ac} (hk : Co.COk P b u) (h : Co.ansZ r P b u L = 3) : 1 ≤ (Co.nextU r P b u L).stamp ∧ (Co.nextU r P b u L).stamp ≤ 1099511627776 := by
  have hn := hk.n2
  unfold Co.ansZ at h
  unfold Co.nextU
  split at h
  · next hg =>
    rw [if_pos hg]
    have e3 := (Co.goesC_iff.mp hg).1
    split at h
    · next e0 =>
      exfalso
      unfold Co.holdA Co.heldK at h
      split at h
      · split at h <;> simp at h
      · next h3 => exact h3 h
    · next e0 =>
      rw [if_neg e0]
      split at h
      · split at h <;> simp at h
      · next e1 =>
        rw [if_neg e1]
        unfold Co.swapU
        split at h
        · next hs =>
          rw [if_pos hs]
          rcases hk.c with c | c | c
          · omega
          · simp only; omega
          · omega
        · simp at h
  · simp at h
set_option maxRecDepth 100000 in
set_option maxHeartbeats 3200000 in
theorem goOn_bg {w : World} {base : Nat} {p : Value} {c r : Nat} {L : List Ac} {F : List Nat} {T : Nat} {x : Tx} {G : List Nat} {b : Bg} (h : TM w base p c r L F T x G) (hb : base ≤ w.heap.size) (hL : L.length < 3298534883328) (hE : x.ev.length < 1073741824) (hx : XOk x) (hy : x.wy = .bg b) (hd : Wd L) (t : Int) :
    Calls Tryz.prog 50 #[.pointer (some ⟨T, 0, none⟩), p, .int .i64 t] w fun e w' => e = .returned (anV (stepX c r x L t).k (stepX c r x L t).e (stepX c r x L t).v (stepX c r x L t).y) ∧ ∃ F' G', TM w' base p c r (stepX c r x L t).L F' T (stepX c r x L t).x G' ∧ Next (G ++ F) (G' ++ F') w w' := by
  have HFN : Hid ((stepM c r x L t).k = 3 → ∀ w' G', TxAt w' base T { x with wy := (stepM c r x L t).wy } G' → base ≤ w'.heap.size → Calls Tryz.prog 80 #[.pointer (some ⟨T, 0, none⟩), .int .i64 (stepM c r x L t).v] w' fun e w'' => e = .returned (.bool (finX x (stepM c r x L t).v (stepM c r x L t).wy).2) ∧ ∃ G'', TxAt w'' base T (finX x (stepM c r x L t).v (stepM c r x L t).wy).1 G'' ∧ Next G' G'' w' w'') := fun hk3 w' G' hq hb' => by
    have hwy : (stepM c r x L t).wy = .bg (Be.nextB r x.s b L) := by unfold stepM; rw [hy]
    have hkk : Be.ansK r x.s b L = 3 := by unfold stepM at hk3; rw [hy] at hk3; exact hk3
    have h2 : (Be.nextB r x.s b L).st = 2 := by
      unfold Be.ansK at hkk
      unfold Be.nextB
      split at hkk
      · next hg =>
        rw [if_pos hg]
        split at hkk
        · next h => exact h
        · simp at hkk
      · simp at hkk
    rw [hwy] at hq ⊢
    exact finish_bg hq hb' hE rfl h2 _
  have HEN : Hid (∀ w' G' why, TxAt w' base T { x with wy := (stepM c r x L t).wy } G' → base ≤ w'.heap.size → Calls Tryz.prog 76 #[.pointer (some ⟨T, 0, none⟩), .int .i64 why] w' fun e w'' => e = .returned (.tuple #[]) ∧ ∃ G'', TxAt w'' base T (x.finis why) G'' ∧ Next G' G'' w' w'') := fun w' G' why hq hb' => end_any hq hb' hE why
  have hlt := h.lt
  have HLT : Hid (∀ q ∈ G ++ F, q < w.heap.size) := fun q hq => (hlt q hq).2
  obtain ⟨hm, ⟨lg, tk, ev, wv, Gm, h'⟩, ho⟩ := h
  obtain ⟨X, rfl, HM⟩ := mach_bg hm h' ho hb hL hy (by have := hx.wy; unfold wyOk at this; rw [hy] at this; exact this.1) t
  obtain ⟨M, rfl⟩ := hm.ptr
  obtain ⟨x0, x1, x2, x3, x4, x5, x6, x7, x8, x9, x10, x11, x12⟩ := h'.raw.cells
  have hT := heap_lt h'.raw
  have hMe : ∀ w, (method 383 145 (.pointer (some ⟨X, 0, none⟩)) "Step").run Tryz.prog w = .ok (189, .pointer (some ⟨X, 0, none⟩)) w := fun w => me_b w _
  clear h' x0 x1 x2 x3 x4 x5 x6 x7 x8 x10 x11 x12 hm hd hlt hL hE hx hy ho
  unfold stepX goOn anV
  generalize stepM c r x L t = a at *
  obtain ⟨y, L', kk, ee, vv, gg⟩ := a
  simp only at HM HFN HEN ⊢
  by_cases k4 : kk = 4
  · subst k4
    rw [if_pos rfl]
    clear HFN
    go_enter Tryz.func50, Tryz.ntmps50
    go_wp2_with fail
    refine (HM _ (below_a1 _ _)).mono ?_
    rintro e w1 ⟨rfl, F1, G1, q1, k1⟩
    have HQ1 : Hid (TM w1 base (.pointer (some ⟨M, 0, none⟩)) c r L' F1 T { x with wy := y } G1) := q1
    have HR1 : Hid (w1.heap[w.heap.size]? = some (.cells #[.int .i64 0, .int .i64 0, .int .i64 0, .bool false] 64 (0, 0)) ∧ w.heap.size ∉ G1 ++ F1) := row_next HLT.out (Nat.le_refl _) (heap_alloc_new w _) k1
    have HK1 : Hid (Next (G ++ F) (G1 ++ F1) w w1) := (Next.of_below (below_a1 _ _) _).trans k1
    have HB1 : Hid (base ≤ w1.heap.size) := Nat.le_trans hb HK1.out.1.size
    have hW1 : w.heap.size < w1.heap.size := heap_lt HR1.out.1
    clear q1 k1 HM x9
    go_wp2_with fail
    refine (HEN.out _ _ ee (HQ1.out.tx.below (below_a1 _ _)) (Nat.le_trans HB1.out (by simp))).mono ?_
    rintro e w2 ⟨rfl, G2, q2, k2⟩
    have HR2 : Hid (w2.heap[w.heap.size]? = some (.cells #[.int .i64 0, .int .i64 0, .int .i64 0, .bool false] 64 (0, 0)) ∧ w.heap.size ∉ G2 ++ F1) := by
      have a1 : w.heap.size ∉ G1 := fun e => HR1.out.2 (by simp [e])
      have a2 : (w1.alloc (.cells #[.int .i64 4, .int .i64 ee, .int .i64 vv, .bool gg] 64)).heap[w.heap.size]? = some (.cells #[.int .i64 0, .int .i64 0, .int .i64 0, .bool false] 64 (0, 0)) := row_on HR1.out.1 (below_a1 _ _)
      refine ⟨(k2.1.block _ (heap_lt a2) a1).trans a2, fun e => ?_⟩
      rcases List.mem_append.1 e with e | e
      · rcases k2.2 _ e with e | e
        · exact a1 e
        · simp at e; omega
      · exact HR1.out.2 (by simp [e])
    have HA2 : Hid (w2.heap[w1.heap.size]? = some (.cells #[.int .i64 4, .int .i64 ee, .int .i64 vv, .bool gg] 64 (0, 0))) := by
      have a1 : w1.heap.size ∉ G1 := fun e => by have := (HQ1.out.tx.lt _ e).2; omega
      exact (k2.1.block _ (by simp) a1).trans (heap_alloc_new w1 _)
    have HQ2 : Hid (TM w2 base (.pointer (some ⟨M, 0, none⟩)) c r L' F1 T (x.finis ee) G2 ∧ Next (G ++ F) (G2 ++ F1) w w2) := by
      obtain ⟨a1, a2⟩ := (HQ1.out.below (below_a1 _ _)).onTx q2 k2
      exact ⟨a1, HK1.out.trans ((Next.of_below (below_a1 _ _) _).trans a2)⟩
    obtain ⟨⟨a0, a1, a2, a3⟩, g0, g1, g2, g3⟩ := ans_cells HR2.out.1
    have c0 : w2.cell? ⟨w1.heap.size, 0, none⟩ = some (.int .i64 4) := by rw [cell_at HA2.out]; rfl
    have c1 : w2.cell? ⟨w1.heap.size, 1, none⟩ = some (.int .i64 ee) := by rw [cell_at HA2.out]; rfl
    have c2 : w2.cell? ⟨w1.heap.size, 2, none⟩ = some (.int .i64 vv) := by rw [cell_at HA2.out]; rfl
    have c3 : w2.cell? ⟨w1.heap.size, 3, none⟩ = some (.bool gg) := by rw [cell_at HA2.out]; rfl
    have hBa := heap_lt HR2.out.1
    have hBb := heap_lt HA2.out
    clear q2 k2 hW1
    go_wp2
    have qf := HQ2.out.1.other (Co.keepWB (w := w2) (B := w.heap.size) 4 ee vv gg) (fun q hq e => HR2.out.2 (by simp only [List.mem_singleton] at e; rw [← e]; exact hq))
    exact ret_ans rfl rfl (Co.ansW_set rfl HR2.out.1 4 ee vv gg) rfl rfl ⟨rfl, F1, G2, qf, nx_other HQ2.out.2 (Nat.le_refl _) (Co.keepWB (w := w2) (B := w.heap.size) 4 ee vv gg)⟩
  by_cases k3 : kk = 3
  · subst k3
    rw [if_neg (by decide), if_pos rfl]
    clear HEN
    cases hf : (finX x vv y).2
    all_goals
      rw [hf] at HFN
    · rw [if_neg (by decide)]
      go_enter Tryz.func50, Tryz.ntmps50
      go_wp2_with fail
      refine (HM _ (below_a1 _ _)).mono ?_
      rintro e w1 ⟨rfl, F1, G1, q1, k1⟩
      have HQ1 : Hid (TM w1 base (.pointer (some ⟨M, 0, none⟩)) c r L' F1 T { x with wy := y } G1) := q1
      have HR1 : Hid (w1.heap[w.heap.size]? = some (.cells #[.int .i64 0, .int .i64 0, .int .i64 0, .bool false] 64 (0, 0)) ∧ w.heap.size ∉ G1 ++ F1) := row_next HLT.out (Nat.le_refl _) (heap_alloc_new w _) k1
      have HK1 : Hid (Next (G ++ F) (G1 ++ F1) w w1) := (Next.of_below (below_a1 _ _) _).trans k1
      have HB1 : Hid (base ≤ w1.heap.size) := Nat.le_trans hb HK1.out.1.size
      have hW1 : w.heap.size < w1.heap.size := heap_lt HR1.out.1
      clear q1 k1 HM x9
      go_wp2_with fail
      refine (HFN.out (by first | rfl | trivial) _ _ (HQ1.out.tx.below (below_a1 _ _)) (Nat.le_trans HB1.out (by simp))).mono ?_
      rintro e w2 ⟨rfl, G2, q2, k2⟩
      have HR2 : Hid (w2.heap[w.heap.size]? = some (.cells #[.int .i64 0, .int .i64 0, .int .i64 0, .bool false] 64 (0, 0)) ∧ w.heap.size ∉ G2 ++ F1) := by
        have a1 : w.heap.size ∉ G1 := fun e => HR1.out.2 (by simp [e])
        have a2 : (w1.alloc (.cells #[.int .i64 3, .int .i64 ee, .int .i64 vv, .bool gg] 64)).heap[w.heap.size]? = some (.cells #[.int .i64 0, .int .i64 0, .int .i64 0, .bool false] 64 (0, 0)) := row_on HR1.out.1 (below_a1 _ _)
        refine ⟨(k2.1.block _ (heap_lt a2) a1).trans a2, fun e => ?_⟩
        rcases List.mem_append.1 e with e | e
        · rcases k2.2 _ e with e | e
          · exact a1 e
          · simp at e; omega
        · exact HR1.out.2 (by simp [e])
      have HA2 : Hid (w2.heap[w1.heap.size]? = some (.cells #[.int .i64 3, .int .i64 ee, .int .i64 vv, .bool gg] 64 (0, 0))) := by
        have a1 : w1.heap.size ∉ G1 := fun e => by have := (HQ1.out.tx.lt _ e).2; omega
        exact (k2.1.block _ (by simp) a1).trans (heap_alloc_new w1 _)
      have HQ2 : Hid (TM w2 base (.pointer (some ⟨M, 0, none⟩)) c r L' F1 T (finX x vv y).1 G2 ∧ Next (G ++ F) (G2 ++ F1) w w2) := by
        obtain ⟨a1, a2⟩ := (HQ1.out.below (below_a1 _ _)).onTx q2 k2
        exact ⟨a1, HK1.out.trans ((Next.of_below (below_a1 _ _) _).trans a2)⟩
      obtain ⟨⟨a0, a1, a2, a3⟩, g0, g1, g2, g3⟩ := ans_cells HR2.out.1
      have c0 : w2.cell? ⟨w1.heap.size, 0, none⟩ = some (.int .i64 3) := by rw [cell_at HA2.out]; rfl
      have c1 : w2.cell? ⟨w1.heap.size, 1, none⟩ = some (.int .i64 ee) := by rw [cell_at HA2.out]; rfl
      have c2 : w2.cell? ⟨w1.heap.size, 2, none⟩ = some (.int .i64 vv) := by rw [cell_at HA2.out]; rfl
      have c3 : w2.cell? ⟨w1.heap.size, 3, none⟩ = some (.bool gg) := by rw [cell_at HA2.out]; rfl
      have hBa := heap_lt HR2.out.1
      have hBb := heap_lt HA2.out
      clear q2 k2 hW1
      go_wp2
      have qf := HQ2.out.1.other (Co.keepWB (w := w2) (B := w.heap.size) 2 0 0 true) (fun q hq e => HR2.out.2 (by simp only [List.mem_singleton] at e; rw [← e]; exact hq))
      exact ret_ans rfl rfl (Co.ansW_set rfl HR2.out.1 2 0 0 true) rfl rfl ⟨rfl, F1, G2, qf, nx_other HQ2.out.2 (Nat.le_refl _) (Co.keepWB (w := w2) (B := w.heap.size) 2 0 0 true)⟩
    · rw [if_pos rfl]
      go_enter Tryz.func50, Tryz.ntmps50
      go_wp2_with fail
      refine (HM _ (below_a1 _ _)).mono ?_
      rintro e w1 ⟨rfl, F1, G1, q1, k1⟩
      have HQ1 : Hid (TM w1 base (.pointer (some ⟨M, 0, none⟩)) c r L' F1 T { x with wy := y } G1) := q1
      have HR1 : Hid (w1.heap[w.heap.size]? = some (.cells #[.int .i64 0, .int .i64 0, .int .i64 0, .bool false] 64 (0, 0)) ∧ w.heap.size ∉ G1 ++ F1) := row_next HLT.out (Nat.le_refl _) (heap_alloc_new w _) k1
      have HK1 : Hid (Next (G ++ F) (G1 ++ F1) w w1) := (Next.of_below (below_a1 _ _) _).trans k1
      have HB1 : Hid (base ≤ w1.heap.size) := Nat.le_trans hb HK1.out.1.size
      have hW1 : w.heap.size < w1.heap.size := heap_lt HR1.out.1
      clear q1 k1 HM x9
      go_wp2_with fail
      refine (HFN.out (by first | rfl | trivial) _ _ (HQ1.out.tx.below (below_a1 _ _)) (Nat.le_trans HB1.out (by simp))).mono ?_
      rintro e w2 ⟨rfl, G2, q2, k2⟩
      have HR2 : Hid (w2.heap[w.heap.size]? = some (.cells #[.int .i64 0, .int .i64 0, .int .i64 0, .bool false] 64 (0, 0)) ∧ w.heap.size ∉ G2 ++ F1) := by
        have a1 : w.heap.size ∉ G1 := fun e => HR1.out.2 (by simp [e])
        have a2 : (w1.alloc (.cells #[.int .i64 3, .int .i64 ee, .int .i64 vv, .bool gg] 64)).heap[w.heap.size]? = some (.cells #[.int .i64 0, .int .i64 0, .int .i64 0, .bool false] 64 (0, 0)) := row_on HR1.out.1 (below_a1 _ _)
        refine ⟨(k2.1.block _ (heap_lt a2) a1).trans a2, fun e => ?_⟩
        rcases List.mem_append.1 e with e | e
        · rcases k2.2 _ e with e | e
          · exact a1 e
          · simp at e; omega
        · exact HR1.out.2 (by simp [e])
      have HA2 : Hid (w2.heap[w1.heap.size]? = some (.cells #[.int .i64 3, .int .i64 ee, .int .i64 vv, .bool gg] 64 (0, 0))) := by
        have a1 : w1.heap.size ∉ G1 := fun e => by have := (HQ1.out.tx.lt _ e).2; omega
        exact (k2.1.block _ (by simp) a1).trans (heap_alloc_new w1 _)
      have HQ2 : Hid (TM w2 base (.pointer (some ⟨M, 0, none⟩)) c r L' F1 T (finX x vv y).1 G2 ∧ Next (G ++ F) (G2 ++ F1) w w2) := by
        obtain ⟨a1, a2⟩ := (HQ1.out.below (below_a1 _ _)).onTx q2 k2
        exact ⟨a1, HK1.out.trans ((Next.of_below (below_a1 _ _) _).trans a2)⟩
      obtain ⟨⟨a0, a1, a2, a3⟩, g0, g1, g2, g3⟩ := ans_cells HR2.out.1
      have c0 : w2.cell? ⟨w1.heap.size, 0, none⟩ = some (.int .i64 3) := by rw [cell_at HA2.out]; rfl
      have c1 : w2.cell? ⟨w1.heap.size, 1, none⟩ = some (.int .i64 ee) := by rw [cell_at HA2.out]; rfl
      have c2 : w2.cell? ⟨w1.heap.size, 2, none⟩ = some (.int .i64 vv) := by rw [cell_at HA2.out]; rfl
      have c3 : w2.cell? ⟨w1.heap.size, 3, none⟩ = some (.bool gg) := by rw [cell_at HA2.out]; rfl
      have hBa := heap_lt HR2.out.1
      have hBb := heap_lt HA2.out
      clear q2 k2 hW1
      go_wp2
      have qf := HQ2.out.1.other (Co.keepWB (w := w2) (B := w.heap.size) 3 ee vv gg) (fun q hq e => HR2.out.2 (by simp only [List.mem_singleton] at e; rw [← e]; exact hq))
      exact ret_ans rfl rfl (Co.ansW_set rfl HR2.out.1 3 ee vv gg) rfl rfl ⟨rfl, F1, G2, qf, nx_other HQ2.out.2 (Nat.le_refl _) (Co.keepWB (w := w2) (B := w.heap.size) 3 ee vv gg)⟩
  · rw [if_neg k4, if_neg k3]
    have d4 : (kk == 4) = false := by simpa using k4
    have d3 : (kk == 3) = false := by simpa using k3
    clear HFN HEN
    go_enter Tryz.func50, Tryz.ntmps50
    go_wp2_with fail
    refine (HM _ (below_a1 _ _)).mono ?_
    rintro e w1 ⟨rfl, F1, G1, q1, k1⟩
    have HQ1 : Hid (TM w1 base (.pointer (some ⟨M, 0, none⟩)) c r L' F1 T { x with wy := y } G1) := q1
    have HR1 : Hid (w1.heap[w.heap.size]? = some (.cells #[.int .i64 0, .int .i64 0, .int .i64 0, .bool false] 64 (0, 0)) ∧ w.heap.size ∉ G1 ++ F1) := row_next HLT.out (Nat.le_refl _) (heap_alloc_new w _) k1
    have HK1 : Hid (Next (G ++ F) (G1 ++ F1) w w1) := (Next.of_below (below_a1 _ _) _).trans k1
    have HB1 : Hid (base ≤ w1.heap.size) := Nat.le_trans hb HK1.out.1.size
    have hW1 : w.heap.size < w1.heap.size := heap_lt HR1.out.1
    clear q1 k1 HM x9
    obtain ⟨⟨a0, a1, a2, a3⟩, g0, g1, g2, g3⟩ := ans_cells HR1.out.1
    have hBa := heap_lt HR1.out.1
    go_wp2
    have qf := HQ1.out.other (Co.keepWB (w := w1) (B := w.heap.size) kk ee vv gg) (fun q hq e => HR1.out.2 (by simp only [List.mem_singleton] at e; rw [← e]; exact hq))
    exact ret_ans rfl rfl (row_on (Co.ansW_set rfl HR1.out.1 kk ee vv gg) (below_a1 _ _)) rfl rfl ⟨rfl, F1, G1, qf.below (below_a1 _ _), (nx_other HK1.out (Nat.le_refl _) (Co.keepWB (w := w1) (B := w.heap.size) kk ee vv gg)).trans (Next.of_below (below_a1 _ _) _)⟩
set_option maxRecDepth 100000 in
set_option maxHeartbeats 3200000 in
theorem goOn_rd {w : World} {base : Nat} {p : Value} {c r : Nat} {L : List Ac} {F : List Nat} {T : Nat} {x : Tx} {G : List Nat} {P : Fe.Cp} {b : Fe.Ck} (h : TM w base p c r L F T x G) (hb : base ≤ w.heap.size) (hL : L.length < 3298534883328) (hE : x.ev.length < 1073741824) (hx : XOk x) (hy : x.wy = .rd P b) (hd : Wd L) (t : Int) :
    Calls Tryz.prog 50 #[.pointer (some ⟨T, 0, none⟩), p, .int .i64 t] w fun e w' => e = .returned (anV (stepX c r x L t).k (stepX c r x L t).e (stepX c r x L t).v (stepX c r x L t).y) ∧ ∃ F' G', TM w' base p c r (stepX c r x L t).L F' T (stepX c r x L t).x G' ∧ Next (G ++ F) (G' ++ F') w w' := by
  have HFN : Hid ((stepM c r x L t).k = 3 → ∀ w' G', TxAt w' base T { x with wy := (stepM c r x L t).wy } G' → base ≤ w'.heap.size → Calls Tryz.prog 80 #[.pointer (some ⟨T, 0, none⟩), .int .i64 (stepM c r x L t).v] w' fun e w'' => e = .returned (.bool (finX x (stepM c r x L t).v (stepM c r x L t).wy).2) ∧ ∃ G'', TxAt w'' base T (finX x (stepM c r x L t).v (stepM c r x L t).wy).1 G'' ∧ Next G' G'' w' w'') := fun hk3 w' G' hq hb' => by
    have hwy : (stepM c r x L t).wy = .rd (Fe.nextFP c r P L) (Fe.nextFB c r P b L) := by unfold stepM; rw [hy]
    have hkk : Fe.ansF c r P b L = 3 := by unfold stepM at hk3; rw [hy] at hk3; exact hk3
    have h2 : (Fe.nextFB c r P b L).st = 4 := by
      unfold Fe.ansF at hkk
      unfold Fe.nextFB
      split at hkk
      · next hg =>
        rw [if_pos hg]
        split at hkk
        · next hr =>
          rw [if_pos hr]
          unfold Fe.ansKK at hkk
          unfold Fe.nextK
          split at hkk
          · next hk =>
            rw [if_pos hk]
            unfold Fe.kindK Fe.kindV at hkk
            split at hkk
            · simp at hkk
            · split at hkk
              · next h => exact h
              · split at hkk <;> simp at hkk
          · simp at hkk
        · simp at hkk
      · simp at hkk
    rw [hwy] at hq ⊢
    exact finish_rd hq hb' hE rfl h2 _
  have HEN : Hid (∀ w' G' why, TxAt w' base T { x with wy := (stepM c r x L t).wy } G' → base ≤ w'.heap.size → Calls Tryz.prog 76 #[.pointer (some ⟨T, 0, none⟩), .int .i64 why] w' fun e w'' => e = .returned (.tuple #[]) ∧ ∃ G'', TxAt w'' base T (x.finis why) G'' ∧ Next G' G'' w' w'') := fun w' G' why hq hb' => end_any hq hb' hE why
  have hlt := h.lt
  have HLT : Hid (∀ q ∈ G ++ F, q < w.heap.size) := fun q hq => (hlt q hq).2
  obtain ⟨hm, ⟨lg, tk, ev, wv, Gm, h'⟩, ho⟩ := h
  obtain ⟨X, rfl, HM⟩ := mach_rd hm h' ho hb hL hy (rd_ok hx hy).choose_spec (rd_lo hx hy) hd t
  obtain ⟨M, rfl⟩ := hm.ptr
  obtain ⟨x0, x1, x2, x3, x4, x5, x6, x7, x8, x9, x10, x11, x12⟩ := h'.raw.cells
  have hT := heap_lt h'.raw
  have hMe : ∀ w, (method 383 155 (.agg #[.pointer (some ⟨X, 0, none⟩), .int .i64 P.cell]) "Step").run Tryz.prog w = .ok (193, .pointer (some ⟨X, 0, none⟩)) w := fun w => me_r w _ _
  clear h' x0 x1 x2 x3 x4 x5 x6 x7 x8 x10 x11 x12 hm hd hlt hL hE hx hy ho
  unfold stepX goOn anV
  generalize stepM c r x L t = a at *
  obtain ⟨y, L', kk, ee, vv, gg⟩ := a
  simp only at HM HFN HEN ⊢
  by_cases k4 : kk = 4
  · subst k4
    rw [if_pos rfl]
    clear HFN
    go_enter Tryz.func50, Tryz.ntmps50
    go_wp2_with fail
    refine (HM _ (below_a1 _ _)).mono ?_
    rintro e w1 ⟨rfl, F1, G1, q1, k1⟩
    have HQ1 : Hid (TM w1 base (.pointer (some ⟨M, 0, none⟩)) c r L' F1 T { x with wy := y } G1) := q1
    have HR1 : Hid (w1.heap[w.heap.size]? = some (.cells #[.int .i64 0, .int .i64 0, .int .i64 0, .bool false] 64 (0, 0)) ∧ w.heap.size ∉ G1 ++ F1) := row_next HLT.out (Nat.le_refl _) (heap_alloc_new w _) k1
    have HK1 : Hid (Next (G ++ F) (G1 ++ F1) w w1) := (Next.of_below (below_a1 _ _) _).trans k1
    have HB1 : Hid (base ≤ w1.heap.size) := Nat.le_trans hb HK1.out.1.size
    have hW1 : w.heap.size < w1.heap.size := heap_lt HR1.out.1
    clear q1 k1 HM x9
    go_wp2_with fail
    refine (HEN.out _ _ ee (HQ1.out.tx.below (below_a1 _ _)) (Nat.le_trans HB1.out (by simp))).mono ?_
    rintro e w2 ⟨rfl, G2, q2, k2⟩
    have HR2 : Hid (w2.heap[w.heap.size]? = some (.cells #[.int .i64 0, .int .i64 0, .int .i64 0, .bool false] 64 (0, 0)) ∧ w.heap.size ∉ G2 ++ F1) := by
      have a1 : w.heap.size ∉ G1 := fun e => HR1.out.2 (by simp [e])
      have a2 : (w1.alloc (.cells #[.int .i64 4, .int .i64 ee, .int .i64 vv, .bool gg] 64)).heap[w.heap.size]? = some (.cells #[.int .i64 0, .int .i64 0, .int .i64 0, .bool false] 64 (0, 0)) := row_on HR1.out.1 (below_a1 _ _)
      refine ⟨(k2.1.block _ (heap_lt a2) a1).trans a2, fun e => ?_⟩
      rcases List.mem_append.1 e with e | e
      · rcases k2.2 _ e with e | e
        · exact a1 e
        · simp at e; omega
      · exact HR1.out.2 (by simp [e])
    have HA2 : Hid (w2.heap[w1.heap.size]? = some (.cells #[.int .i64 4, .int .i64 ee, .int .i64 vv, .bool gg] 64 (0, 0))) := by
      have a1 : w1.heap.size ∉ G1 := fun e => by have := (HQ1.out.tx.lt _ e).2; omega
      exact (k2.1.block _ (by simp) a1).trans (heap_alloc_new w1 _)
    have HQ2 : Hid (TM w2 base (.pointer (some ⟨M, 0, none⟩)) c r L' F1 T (x.finis ee) G2 ∧ Next (G ++ F) (G2 ++ F1) w w2) := by
      obtain ⟨a1, a2⟩ := (HQ1.out.below (below_a1 _ _)).onTx q2 k2
      exact ⟨a1, HK1.out.trans ((Next.of_below (below_a1 _ _) _).trans a2)⟩
    obtain ⟨⟨a0, a1, a2, a3⟩, g0, g1, g2, g3⟩ := ans_cells HR2.out.1
    have c0 : w2.cell? ⟨w1.heap.size, 0, none⟩ = some (.int .i64 4) := by rw [cell_at HA2.out]; rfl
    have c1 : w2.cell? ⟨w1.heap.size, 1, none⟩ = some (.int .i64 ee) := by rw [cell_at HA2.out]; rfl
    have c2 : w2.cell? ⟨w1.heap.size, 2, none⟩ = some (.int .i64 vv) := by rw [cell_at HA2.out]; rfl
    have c3 : w2.cell? ⟨w1.heap.size, 3, none⟩ = some (.bool gg) := by rw [cell_at HA2.out]; rfl
    have hBa := heap_lt HR2.out.1
    have hBb := heap_lt HA2.out
    clear q2 k2 hW1
    go_wp2
    have qf := HQ2.out.1.other (Co.keepWB (w := w2) (B := w.heap.size) 4 ee vv gg) (fun q hq e => HR2.out.2 (by simp only [List.mem_singleton] at e; rw [← e]; exact hq))
    exact ret_ans rfl rfl (Co.ansW_set rfl HR2.out.1 4 ee vv gg) rfl rfl ⟨rfl, F1, G2, qf, nx_other HQ2.out.2 (Nat.le_refl _) (Co.keepWB (w := w2) (B := w.heap.size) 4 ee vv gg)⟩
  by_cases k3 : kk = 3
  · subst k3
    rw [if_neg (by decide), if_pos rfl]
    clear HEN
    cases hf : (finX x vv y).2
    all_goals
      rw [hf] at HFN
    · rw [if_neg (by decide)]
      go_enter Tryz.func50, Tryz.ntmps50
      go_wp2_with fail
      refine (HM _ (below_a1 _ _)).mono ?_
      rintro e w1 ⟨rfl, F1, G1, q1, k1⟩
      have HQ1 : Hid (TM w1 base (.pointer (some ⟨M, 0, none⟩)) c r L' F1 T { x with wy := y } G1) := q1
      have HR1 : Hid (w1.heap[w.heap.size]? = some (.cells #[.int .i64 0, .int .i64 0, .int .i64 0, .bool false] 64 (0, 0)) ∧ w.heap.size ∉ G1 ++ F1) := row_next HLT.out (Nat.le_refl _) (heap_alloc_new w _) k1
      have HK1 : Hid (Next (G ++ F) (G1 ++ F1) w w1) := (Next.of_below (below_a1 _ _) _).trans k1
      have HB1 : Hid (base ≤ w1.heap.size) := Nat.le_trans hb HK1.out.1.size
      have hW1 : w.heap.size < w1.heap.size := heap_lt HR1.out.1
      clear q1 k1 HM x9
      go_wp2_with fail
      refine (HFN.out (by first | rfl | trivial) _ _ (HQ1.out.tx.below (below_a1 _ _)) (Nat.le_trans HB1.out (by simp))).mono ?_
      rintro e w2 ⟨rfl, G2, q2, k2⟩
      have HR2 : Hid (w2.heap[w.heap.size]? = some (.cells #[.int .i64 0, .int .i64 0, .int .i64 0, .bool false] 64 (0, 0)) ∧ w.heap.size ∉ G2 ++ F1) := by
        have a1 : w.heap.size ∉ G1 := fun e => HR1.out.2 (by simp [e])
        have a2 : (w1.alloc (.cells #[.int .i64 3, .int .i64 ee, .int .i64 vv, .bool gg] 64)).heap[w.heap.size]? = some (.cells #[.int .i64 0, .int .i64 0, .int .i64 0, .bool false] 64 (0, 0)) := row_on HR1.out.1 (below_a1 _ _)
        refine ⟨(k2.1.block _ (heap_lt a2) a1).trans a2, fun e => ?_⟩
        rcases List.mem_append.1 e with e | e
        · rcases k2.2 _ e with e | e
          · exact a1 e
          · simp at e; omega
        · exact HR1.out.2 (by simp [e])
      have HA2 : Hid (w2.heap[w1.heap.size]? = some (.cells #[.int .i64 3, .int .i64 ee, .int .i64 vv, .bool gg] 64 (0, 0))) := by
        have a1 : w1.heap.size ∉ G1 := fun e => by have := (HQ1.out.tx.lt _ e).2; omega
        exact (k2.1.block _ (by simp) a1).trans (heap_alloc_new w1 _)
      have HQ2 : Hid (TM w2 base (.pointer (some ⟨M, 0, none⟩)) c r L' F1 T (finX x vv y).1 G2 ∧ Next (G ++ F) (G2 ++ F1) w w2) := by
        obtain ⟨a1, a2⟩ := (HQ1.out.below (below_a1 _ _)).onTx q2 k2
        exact ⟨a1, HK1.out.trans ((Next.of_below (below_a1 _ _) _).trans a2)⟩
      obtain ⟨⟨a0, a1, a2, a3⟩, g0, g1, g2, g3⟩ := ans_cells HR2.out.1
      have c0 : w2.cell? ⟨w1.heap.size, 0, none⟩ = some (.int .i64 3) := by rw [cell_at HA2.out]; rfl
      have c1 : w2.cell? ⟨w1.heap.size, 1, none⟩ = some (.int .i64 ee) := by rw [cell_at HA2.out]; rfl
      have c2 : w2.cell? ⟨w1.heap.size, 2, none⟩ = some (.int .i64 vv) := by rw [cell_at HA2.out]; rfl
      have c3 : w2.cell? ⟨w1.heap.size, 3, none⟩ = some (.bool gg) := by rw [cell_at HA2.out]; rfl
      have hBa := heap_lt HR2.out.1
      have hBb := heap_lt HA2.out
      clear q2 k2 hW1
      go_wp2
      have qf := HQ2.out.1.other (Co.keepWB (w := w2) (B := w.heap.size) 2 0 0 true) (fun q hq e => HR2.out.2 (by simp only [List.mem_singleton] at e; rw [← e]; exact hq))
      exact ret_ans rfl rfl (Co.ansW_set rfl HR2.out.1 2 0 0 true) rfl rfl ⟨rfl, F1, G2, qf, nx_other HQ2.out.2 (Nat.le_refl _) (Co.keepWB (w := w2) (B := w.heap.size) 2 0 0 true)⟩
    · rw [if_pos rfl]
      go_enter Tryz.func50, Tryz.ntmps50
      go_wp2_with fail
      refine (HM _ (below_a1 _ _)).mono ?_
      rintro e w1 ⟨rfl, F1, G1, q1, k1⟩
      have HQ1 : Hid (TM w1 base (.pointer (some ⟨M, 0, none⟩)) c r L' F1 T { x with wy := y } G1) := q1
      have HR1 : Hid (w1.heap[w.heap.size]? = some (.cells #[.int .i64 0, .int .i64 0, .int .i64 0, .bool false] 64 (0, 0)) ∧ w.heap.size ∉ G1 ++ F1) := row_next HLT.out (Nat.le_refl _) (heap_alloc_new w _) k1
      have HK1 : Hid (Next (G ++ F) (G1 ++ F1) w w1) := (Next.of_below (below_a1 _ _) _).trans k1
      have HB1 : Hid (base ≤ w1.heap.size) := Nat.le_trans hb HK1.out.1.size
      have hW1 : w.heap.size < w1.heap.size := heap_lt HR1.out.1
      clear q1 k1 HM x9
      go_wp2_with fail
      refine (HFN.out (by first | rfl | trivial) _ _ (HQ1.out.tx.below (below_a1 _ _)) (Nat.le_trans HB1.out (by simp))).mono ?_
      rintro e w2 ⟨rfl, G2, q2, k2⟩
      have HR2 : Hid (w2.heap[w.heap.size]? = some (.cells #[.int .i64 0, .int .i64 0, .int .i64 0, .bool false] 64 (0, 0)) ∧ w.heap.size ∉ G2 ++ F1) := by
        have a1 : w.heap.size ∉ G1 := fun e => HR1.out.2 (by simp [e])
        have a2 : (w1.alloc (.cells #[.int .i64 3, .int .i64 ee, .int .i64 vv, .bool gg] 64)).heap[w.heap.size]? = some (.cells #[.int .i64 0, .int .i64 0, .int .i64 0, .bool false] 64 (0, 0)) := row_on HR1.out.1 (below_a1 _ _)
        refine ⟨(k2.1.block _ (heap_lt a2) a1).trans a2, fun e => ?_⟩
        rcases List.mem_append.1 e with e | e
        · rcases k2.2 _ e with e | e
          · exact a1 e
          · simp at e; omega
        · exact HR1.out.2 (by simp [e])
      have HA2 : Hid (w2.heap[w1.heap.size]? = some (.cells #[.int .i64 3, .int .i64 ee, .int .i64 vv, .bool gg] 64 (0, 0))) := by
        have a1 : w1.heap.size ∉ G1 := fun e => by have := (HQ1.out.tx.lt _ e).2; omega
        exact (k2.1.block _ (by simp) a1).trans (heap_alloc_new w1 _)
      have HQ2 : Hid (TM w2 base (.pointer (some ⟨M, 0, none⟩)) c r L' F1 T (finX x vv y).1 G2 ∧ Next (G ++ F) (G2 ++ F1) w w2) := by
        obtain ⟨a1, a2⟩ := (HQ1.out.below (below_a1 _ _)).onTx q2 k2
        exact ⟨a1, HK1.out.trans ((Next.of_below (below_a1 _ _) _).trans a2)⟩
      obtain ⟨⟨a0, a1, a2, a3⟩, g0, g1, g2, g3⟩ := ans_cells HR2.out.1
      have c0 : w2.cell? ⟨w1.heap.size, 0, none⟩ = some (.int .i64 3) := by rw [cell_at HA2.out]; rfl
      have c1 : w2.cell? ⟨w1.heap.size, 1, none⟩ = some (.int .i64 ee) := by rw [cell_at HA2.out]; rfl
      have c2 : w2.cell? ⟨w1.heap.size, 2, none⟩ = some (.int .i64 vv) := by rw [cell_at HA2.out]; rfl
      have c3 : w2.cell? ⟨w1.heap.size, 3, none⟩ = some (.bool gg) := by rw [cell_at HA2.out]; rfl
      have hBa := heap_lt HR2.out.1
      have hBb := heap_lt HA2.out
      clear q2 k2 hW1
      go_wp2
      have qf := HQ2.out.1.other (Co.keepWB (w := w2) (B := w.heap.size) 3 ee vv gg) (fun q hq e => HR2.out.2 (by simp only [List.mem_singleton] at e; rw [← e]; exact hq))
      exact ret_ans rfl rfl (Co.ansW_set rfl HR2.out.1 3 ee vv gg) rfl rfl ⟨rfl, F1, G2, qf, nx_other HQ2.out.2 (Nat.le_refl _) (Co.keepWB (w := w2) (B := w.heap.size) 3 ee vv gg)⟩
  · rw [if_neg k4, if_neg k3]
    have d4 : (kk == 4) = false := by simpa using k4
    have d3 : (kk == 3) = false := by simpa using k3
    clear HFN HEN
    go_enter Tryz.func50, Tryz.ntmps50
    go_wp2_with fail
    refine (HM _ (below_a1 _ _)).mono ?_
    rintro e w1 ⟨rfl, F1, G1, q1, k1⟩
    have HQ1 : Hid (TM w1 base (.pointer (some ⟨M, 0, none⟩)) c r L' F1 T { x with wy := y } G1) := q1
    have HR1 : Hid (w1.heap[w.heap.size]? = some (.cells #[.int .i64 0, .int .i64 0, .int .i64 0, .bool false] 64 (0, 0)) ∧ w.heap.size ∉ G1 ++ F1) := row_next HLT.out (Nat.le_refl _) (heap_alloc_new w _) k1
    have HK1 : Hid (Next (G ++ F) (G1 ++ F1) w w1) := (Next.of_below (below_a1 _ _) _).trans k1
    have HB1 : Hid (base ≤ w1.heap.size) := Nat.le_trans hb HK1.out.1.size
    have hW1 : w.heap.size < w1.heap.size := heap_lt HR1.out.1
    clear q1 k1 HM x9
    obtain ⟨⟨a0, a1, a2, a3⟩, g0, g1, g2, g3⟩ := ans_cells HR1.out.1
    have hBa := heap_lt HR1.out.1
    go_wp2
    have qf := HQ1.out.other (Co.keepWB (w := w1) (B := w.heap.size) kk ee vv gg) (fun q hq e => HR1.out.2 (by simp only [List.mem_singleton] at e; rw [← e]; exact hq))
    exact ret_ans rfl rfl (row_on (Co.ansW_set rfl HR1.out.1 kk ee vv gg) (below_a1 _ _)) rfl rfl ⟨rfl, F1, G1, qf.below (below_a1 _ _), (nx_other HK1.out (Nat.le_refl _) (Co.keepWB (w := w1) (B := w.heap.size) kk ee vv gg)).trans (Next.of_below (below_a1 _ _) _)⟩
set_option maxRecDepth 100000 in
set_option maxHeartbeats 3200000 in
theorem goOn_cm {w : World} {base : Nat} {p : Value} {c r : Nat} {L : List Ac} {F : List Nat} {T : Nat} {x : Tx} {G : List Nat} {P : Co.Cp} {b : Co.Ck} {u : Co.Cu} (h : TM w base p c r L F T x G) (hb : base ≤ w.heap.size) (hL : L.length < 3298534883328) (hE : x.ev.length < 1073741824) (hx : XOk x) (hy : x.wy = .cm P b u) (hd : Wd L) (t : Int) :
    Calls Tryz.prog 50 #[.pointer (some ⟨T, 0, none⟩), p, .int .i64 t] w fun e w' => e = .returned (anV (stepX c r x L t).k (stepX c r x L t).e (stepX c r x L t).v (stepX c r x L t).y) ∧ ∃ F' G', TM w' base p c r (stepX c r x L t).L F' T (stepX c r x L t).x G' ∧ Next (G ++ F) (G' ++ F') w w' := by
  have HFN : Hid ((stepM c r x L t).k = 3 → ∀ w' G', TxAt w' base T { x with wy := (stepM c r x L t).wy } G' → base ≤ w'.heap.size → Calls Tryz.prog 80 #[.pointer (some ⟨T, 0, none⟩), .int .i64 (stepM c r x L t).v] w' fun e w'' => e = .returned (.bool (finX x (stepM c r x L t).v (stepM c r x L t).wy).2) ∧ ∃ G'', TxAt w'' base T (finX x (stepM c r x L t).v (stepM c r x L t).wy).1 G'' ∧ Next G' G'' w' w'') := fun hk3 w' G' hq hb' => by
    have hwy : (stepM c r x L t).wy = .cm P (Co.nextCB r P b u L) (Co.nextU r P b u L) := by unfold stepM; rw [hy]
    have hkk : Co.ansZ r P b u L = 3 := by unfold stepM at hk3; rw [hy] at hk3; exact hk3
    have hst := cm_done (by have hw := hx.wy; unfold wyOk at hw; rw [hy] at hw; exact hw.2.2.2.1) hkk
    rw [hwy] at hq ⊢
    exact finish_cm hq hb' hE hx.s1 hx.s16 rfl hst.1 hst.2 _
  have HEN : Hid (∀ w' G' why, TxAt w' base T { x with wy := (stepM c r x L t).wy } G' → base ≤ w'.heap.size → Calls Tryz.prog 76 #[.pointer (some ⟨T, 0, none⟩), .int .i64 why] w' fun e w'' => e = .returned (.tuple #[]) ∧ ∃ G'', TxAt w'' base T (x.finis why) G'' ∧ Next G' G'' w' w'') := fun w' G' why hq hb' => end_any hq hb' hE why
  have hlt := h.lt
  have HLT : Hid (∀ q ∈ G ++ F, q < w.heap.size) := fun q hq => (hlt q hq).2
  obtain ⟨hm, ⟨lg, tk, ev, wv, Gm, h'⟩, ho⟩ := h
  obtain ⟨X, rfl, HM⟩ := mach_cm hm h' ho hb hL hy (by have hw := hx.wy; unfold wyOk at hw; rw [hy] at hw; exact hw.2.2.2.1) hd t
  obtain ⟨M, rfl⟩ := hm.ptr
  obtain ⟨x0, x1, x2, x3, x4, x5, x6, x7, x8, x9, x10, x11, x12⟩ := h'.raw.cells
  have hT := heap_lt h'.raw
  have hMe : ∀ w, (method 383 158 (.pointer (some ⟨X, 0, none⟩)) "Step").run Tryz.prog w = .ok (209, .pointer (some ⟨X, 0, none⟩)) w := fun w => me_c w _
  clear h' x0 x1 x2 x3 x4 x5 x6 x7 x8 x10 x11 x12 hm hd hlt hL hE hx hy ho
  unfold stepX goOn anV
  generalize stepM c r x L t = a at *
  obtain ⟨y, L', kk, ee, vv, gg⟩ := a
  simp only at HM HFN HEN ⊢
  by_cases k4 : kk = 4
  · subst k4
    rw [if_pos rfl]
    clear HFN
    go_enter Tryz.func50, Tryz.ntmps50
    go_wp2_with fail
    refine (HM _ (below_a1 _ _)).mono ?_
    rintro e w1 ⟨rfl, F1, G1, q1, k1⟩
    have HQ1 : Hid (TM w1 base (.pointer (some ⟨M, 0, none⟩)) c r L' F1 T { x with wy := y } G1) := q1
    have HR1 : Hid (w1.heap[w.heap.size]? = some (.cells #[.int .i64 0, .int .i64 0, .int .i64 0, .bool false] 64 (0, 0)) ∧ w.heap.size ∉ G1 ++ F1) := row_next HLT.out (Nat.le_refl _) (heap_alloc_new w _) k1
    have HK1 : Hid (Next (G ++ F) (G1 ++ F1) w w1) := (Next.of_below (below_a1 _ _) _).trans k1
    have HB1 : Hid (base ≤ w1.heap.size) := Nat.le_trans hb HK1.out.1.size
    have hW1 : w.heap.size < w1.heap.size := heap_lt HR1.out.1
    clear q1 k1 HM x9
    go_wp2_with fail
    refine (HEN.out _ _ ee (HQ1.out.tx.below (below_a1 _ _)) (Nat.le_trans HB1.out (by simp))).mono ?_
    rintro e w2 ⟨rfl, G2, q2, k2⟩
    have HR2 : Hid (w2.heap[w.heap.size]? = some (.cells #[.int .i64 0, .int .i64 0, .int .i64 0, .bool false] 64 (0, 0)) ∧ w.heap.size ∉ G2 ++ F1) := by
      have a1 : w.heap.size ∉ G1 := fun e => HR1.out.2 (by simp [e])
      have a2 : (w1.alloc (.cells #[.int .i64 4, .int .i64 ee, .int .i64 vv, .bool gg] 64)).heap[w.heap.size]? = some (.cells #[.int .i64 0, .int .i64 0, .int .i64 0, .bool false] 64 (0, 0)) := row_on HR1.out.1 (below_a1 _ _)
      refine ⟨(k2.1.block _ (heap_lt a2) a1).trans a2, fun e => ?_⟩
      rcases List.mem_append.1 e with e | e
      · rcases k2.2 _ e with e | e
        · exact a1 e
        · simp at e; omega
      · exact HR1.out.2 (by simp [e])
    have HA2 : Hid (w2.heap[w1.heap.size]? = some (.cells #[.int .i64 4, .int .i64 ee, .int .i64 vv, .bool gg] 64 (0, 0))) := by
      have a1 : w1.heap.size ∉ G1 := fun e => by have := (HQ1.out.tx.lt _ e).2; omega
      exact (k2.1.block _ (by simp) a1).trans (heap_alloc_new w1 _)
    have HQ2 : Hid (TM w2 base (.pointer (some ⟨M, 0, none⟩)) c r L' F1 T (x.finis ee) G2 ∧ Next (G ++ F) (G2 ++ F1) w w2) := by
      obtain ⟨a1, a2⟩ := (HQ1.out.below (below_a1 _ _)).onTx q2 k2
      exact ⟨a1, HK1.out.trans ((Next.of_below (below_a1 _ _) _).trans a2)⟩
    obtain ⟨⟨a0, a1, a2, a3⟩, g0, g1, g2, g3⟩ := ans_cells HR2.out.1
    have c0 : w2.cell? ⟨w1.heap.size, 0, none⟩ = some (.int .i64 4) := by rw [cell_at HA2.out]; rfl
    have c1 : w2.cell? ⟨w1.heap.size, 1, none⟩ = some (.int .i64 ee) := by rw [cell_at HA2.out]; rfl
    have c2 : w2.cell? ⟨w1.heap.size, 2, none⟩ = some (.int .i64 vv) := by rw [cell_at HA2.out]; rfl
    have c3 : w2.cell? ⟨w1.heap.size, 3, none⟩ = some (.bool gg) := by rw [cell_at HA2.out]; rfl
    have hBa := heap_lt HR2.out.1
    have hBb := heap_lt HA2.out
    clear q2 k2 hW1
    go_wp2
    have qf := HQ2.out.1.other (Co.keepWB (w := w2) (B := w.heap.size) 4 ee vv gg) (fun q hq e => HR2.out.2 (by simp only [List.mem_singleton] at e; rw [← e]; exact hq))
    exact ret_ans rfl rfl (Co.ansW_set rfl HR2.out.1 4 ee vv gg) rfl rfl ⟨rfl, F1, G2, qf, nx_other HQ2.out.2 (Nat.le_refl _) (Co.keepWB (w := w2) (B := w.heap.size) 4 ee vv gg)⟩
  by_cases k3 : kk = 3
  · subst k3
    rw [if_neg (by decide), if_pos rfl]
    clear HEN
    cases hf : (finX x vv y).2
    all_goals
      rw [hf] at HFN
    · rw [if_neg (by decide)]
      go_enter Tryz.func50, Tryz.ntmps50
      go_wp2_with fail
      refine (HM _ (below_a1 _ _)).mono ?_
      rintro e w1 ⟨rfl, F1, G1, q1, k1⟩
      have HQ1 : Hid (TM w1 base (.pointer (some ⟨M, 0, none⟩)) c r L' F1 T { x with wy := y } G1) := q1
      have HR1 : Hid (w1.heap[w.heap.size]? = some (.cells #[.int .i64 0, .int .i64 0, .int .i64 0, .bool false] 64 (0, 0)) ∧ w.heap.size ∉ G1 ++ F1) := row_next HLT.out (Nat.le_refl _) (heap_alloc_new w _) k1
      have HK1 : Hid (Next (G ++ F) (G1 ++ F1) w w1) := (Next.of_below (below_a1 _ _) _).trans k1
      have HB1 : Hid (base ≤ w1.heap.size) := Nat.le_trans hb HK1.out.1.size
      have hW1 : w.heap.size < w1.heap.size := heap_lt HR1.out.1
      clear q1 k1 HM x9
      go_wp2_with fail
      refine (HFN.out (by first | rfl | trivial) _ _ (HQ1.out.tx.below (below_a1 _ _)) (Nat.le_trans HB1.out (by simp))).mono ?_
      rintro e w2 ⟨rfl, G2, q2, k2⟩
      have HR2 : Hid (w2.heap[w.heap.size]? = some (.cells #[.int .i64 0, .int .i64 0, .int .i64 0, .bool false] 64 (0, 0)) ∧ w.heap.size ∉ G2 ++ F1) := by
        have a1 : w.heap.size ∉ G1 := fun e => HR1.out.2 (by simp [e])
        have a2 : (w1.alloc (.cells #[.int .i64 3, .int .i64 ee, .int .i64 vv, .bool gg] 64)).heap[w.heap.size]? = some (.cells #[.int .i64 0, .int .i64 0, .int .i64 0, .bool false] 64 (0, 0)) := row_on HR1.out.1 (below_a1 _ _)
        refine ⟨(k2.1.block _ (heap_lt a2) a1).trans a2, fun e => ?_⟩
        rcases List.mem_append.1 e with e | e
        · rcases k2.2 _ e with e | e
          · exact a1 e
          · simp at e; omega
        · exact HR1.out.2 (by simp [e])
      have HA2 : Hid (w2.heap[w1.heap.size]? = some (.cells #[.int .i64 3, .int .i64 ee, .int .i64 vv, .bool gg] 64 (0, 0))) := by
        have a1 : w1.heap.size ∉ G1 := fun e => by have := (HQ1.out.tx.lt _ e).2; omega
        exact (k2.1.block _ (by simp) a1).trans (heap_alloc_new w1 _)
      have HQ2 : Hid (TM w2 base (.pointer (some ⟨M, 0, none⟩)) c r L' F1 T (finX x vv y).1 G2 ∧ Next (G ++ F) (G2 ++ F1) w w2) := by
        obtain ⟨a1, a2⟩ := (HQ1.out.below (below_a1 _ _)).onTx q2 k2
        exact ⟨a1, HK1.out.trans ((Next.of_below (below_a1 _ _) _).trans a2)⟩
      obtain ⟨⟨a0, a1, a2, a3⟩, g0, g1, g2, g3⟩ := ans_cells HR2.out.1
      have c0 : w2.cell? ⟨w1.heap.size, 0, none⟩ = some (.int .i64 3) := by rw [cell_at HA2.out]; rfl
      have c1 : w2.cell? ⟨w1.heap.size, 1, none⟩ = some (.int .i64 ee) := by rw [cell_at HA2.out]; rfl
      have c2 : w2.cell? ⟨w1.heap.size, 2, none⟩ = some (.int .i64 vv) := by rw [cell_at HA2.out]; rfl
      have c3 : w2.cell? ⟨w1.heap.size, 3, none⟩ = some (.bool gg) := by rw [cell_at HA2.out]; rfl
      have hBa := heap_lt HR2.out.1
      have hBb := heap_lt HA2.out
      clear q2 k2 hW1
      go_wp2
      have qf := HQ2.out.1.other (Co.keepWB (w := w2) (B := w.heap.size) 2 0 0 true) (fun q hq e => HR2.out.2 (by simp only [List.mem_singleton] at e; rw [← e]; exact hq))
      exact ret_ans rfl rfl (Co.ansW_set rfl HR2.out.1 2 0 0 true) rfl rfl ⟨rfl, F1, G2, qf, nx_other HQ2.out.2 (Nat.le_refl _) (Co.keepWB (w := w2) (B := w.heap.size) 2 0 0 true)⟩
    · rw [if_pos rfl]
      go_enter Tryz.func50, Tryz.ntmps50
      go_wp2_with fail
      refine (HM _ (below_a1 _ _)).mono ?_
      rintro e w1 ⟨rfl, F1, G1, q1, k1⟩
      have HQ1 : Hid (TM w1 base (.pointer (some ⟨M, 0, none⟩)) c r L' F1 T { x with wy := y } G1) := q1
      have HR1 : Hid (w1.heap[w.heap.size]? = some (.cells #[.int .i64 0, .int .i64 0, .int .i64 0, .bool false] 64 (0, 0)) ∧ w.heap.size ∉ G1 ++ F1) := row_next HLT.out (Nat.le_refl _) (heap_alloc_new w _) k1
      have HK1 : Hid (Next (G ++ F) (G1 ++ F1) w w1) := (Next.of_below (below_a1 _ _) _).trans k1
      have HB1 : Hid (base ≤ w1.heap.size) := Nat.le_trans hb HK1.out.1.size
      have hW1 : w.heap.size < w1.heap.size := heap_lt HR1.out.1
      clear q1 k1 HM x9
      go_wp2_with fail
      refine (HFN.out (by first | rfl | trivial) _ _ (HQ1.out.tx.below (below_a1 _ _)) (Nat.le_trans HB1.out (by simp))).mono ?_
      rintro e w2 ⟨rfl, G2, q2, k2⟩
      have HR2 : Hid (w2.heap[w.heap.size]? = some (.cells #[.int .i64 0, .int .i64 0, .int .i64 0, .bool false] 64 (0, 0)) ∧ w.heap.size ∉ G2 ++ F1) := by
        have a1 : w.heap.size ∉ G1 := fun e => HR1.out.2 (by simp [e])
        have a2 : (w1.alloc (.cells #[.int .i64 3, .int .i64 ee, .int .i64 vv, .bool gg] 64)).heap[w.heap.size]? = some (.cells #[.int .i64 0, .int .i64 0, .int .i64 0, .bool false] 64 (0, 0)) := row_on HR1.out.1 (below_a1 _ _)
        refine ⟨(k2.1.block _ (heap_lt a2) a1).trans a2, fun e => ?_⟩
        rcases List.mem_append.1 e with e | e
        · rcases k2.2 _ e with e | e
          · exact a1 e
          · simp at e; omega
        · exact HR1.out.2 (by simp [e])
      have HA2 : Hid (w2.heap[w1.heap.size]? = some (.cells #[.int .i64 3, .int .i64 ee, .int .i64 vv, .bool gg] 64 (0, 0))) := by
        have a1 : w1.heap.size ∉ G1 := fun e => by have := (HQ1.out.tx.lt _ e).2; omega
        exact (k2.1.block _ (by simp) a1).trans (heap_alloc_new w1 _)
      have HQ2 : Hid (TM w2 base (.pointer (some ⟨M, 0, none⟩)) c r L' F1 T (finX x vv y).1 G2 ∧ Next (G ++ F) (G2 ++ F1) w w2) := by
        obtain ⟨a1, a2⟩ := (HQ1.out.below (below_a1 _ _)).onTx q2 k2
        exact ⟨a1, HK1.out.trans ((Next.of_below (below_a1 _ _) _).trans a2)⟩
      obtain ⟨⟨a0, a1, a2, a3⟩, g0, g1, g2, g3⟩ := ans_cells HR2.out.1
      have c0 : w2.cell? ⟨w1.heap.size, 0, none⟩ = some (.int .i64 3) := by rw [cell_at HA2.out]; rfl
      have c1 : w2.cell? ⟨w1.heap.size, 1, none⟩ = some (.int .i64 ee) := by rw [cell_at HA2.out]; rfl
      have c2 : w2.cell? ⟨w1.heap.size, 2, none⟩ = some (.int .i64 vv) := by rw [cell_at HA2.out]; rfl
      have c3 : w2.cell? ⟨w1.heap.size, 3, none⟩ = some (.bool gg) := by rw [cell_at HA2.out]; rfl
      have hBa := heap_lt HR2.out.1
      have hBb := heap_lt HA2.out
      clear q2 k2 hW1
      go_wp2
      have qf := HQ2.out.1.other (Co.keepWB (w := w2) (B := w.heap.size) 3 ee vv gg) (fun q hq e => HR2.out.2 (by simp only [List.mem_singleton] at e; rw [← e]; exact hq))
      exact ret_ans rfl rfl (Co.ansW_set rfl HR2.out.1 3 ee vv gg) rfl rfl ⟨rfl, F1, G2, qf, nx_other HQ2.out.2 (Nat.le_refl _) (Co.keepWB (w := w2) (B := w.heap.size) 3 ee vv gg)⟩
  · rw [if_neg k4, if_neg k3]
    have d4 : (kk == 4) = false := by simpa using k4
    have d3 : (kk == 3) = false := by simpa using k3
    clear HFN HEN
    go_enter Tryz.func50, Tryz.ntmps50
    go_wp2_with fail
    refine (HM _ (below_a1 _ _)).mono ?_
    rintro e w1 ⟨rfl, F1, G1, q1, k1⟩
    have HQ1 : Hid (TM w1 base (.pointer (some ⟨M, 0, none⟩)) c r L' F1 T { x with wy := y } G1) := q1
    have HR1 : Hid (w1.heap[w.heap.size]? = some (.cells #[.int .i64 0, .int .i64 0, .int .i64 0, .bool false] 64 (0, 0)) ∧ w.heap.size ∉ G1 ++ F1) := row_next HLT.out (Nat.le_refl _) (heap_alloc_new w _) k1
    have HK1 : Hid (Next (G ++ F) (G1 ++ F1) w w1) := (Next.of_below (below_a1 _ _) _).trans k1
    have HB1 : Hid (base ≤ w1.heap.size) := Nat.le_trans hb HK1.out.1.size
    have hW1 : w.heap.size < w1.heap.size := heap_lt HR1.out.1
    clear q1 k1 HM x9
    obtain ⟨⟨a0, a1, a2, a3⟩, g0, g1, g2, g3⟩ := ans_cells HR1.out.1
    have hBa := heap_lt HR1.out.1
    go_wp2
    have qf := HQ1.out.other (Co.keepWB (w := w1) (B := w.heap.size) kk ee vv gg) (fun q hq e => HR1.out.2 (by simp only [List.mem_singleton] at e; rw [← e]; exact hq))
    exact ret_ans rfl rfl (row_on (Co.ansW_set rfl HR1.out.1 kk ee vv gg) (below_a1 _ _)) rfl rfl ⟨rfl, F1, G1, qf.below (below_a1 _ _), (nx_other HK1.out (Nat.le_refl _) (Co.keepWB (w := w1) (B := w.heap.size) kk ee vv gg)).trans (Next.of_below (below_a1 _ _) _)⟩
set_option maxRecDepth 100000 in
set_option maxHeartbeats 3200000 in
theorem goOn_wr {w : World} {base : Nat} {p : Value} {c r : Nat} {L : List Ac} {F : List Nat} {T : Nat} {x : Tx} {G : List Nat} {P : Ba.Bp} {b : Ba.Bk} (h : TM w base p c r L F T x G) (hb : base ≤ w.heap.size) (hL : L.length < 3298534883328) (hE : x.ev.length < 1073741824) (hx : XOk x) (hy : x.wy = .wr P b) (hd : Wd L) (t : Int) :
    Calls Tryz.prog 50 #[.pointer (some ⟨T, 0, none⟩), p, .int .i64 t] w fun e w' => e = .returned (anV (stepX c r x L t).k (stepX c r x L t).e (stepX c r x L t).v (stepX c r x L t).y) ∧ ∃ F' G', TM w' base p c r (stepX c r x L t).L F' T (stepX c r x L t).x G' ∧ Next (G ++ F) (G' ++ F') w w' := by
  have HFN : Hid ((stepM c r x L t).k = 3 → ∀ w' G', TxAt w' base T { x with wy := (stepM c r x L t).wy } G' → base ≤ w'.heap.size → Calls Tryz.prog 80 #[.pointer (some ⟨T, 0, none⟩), .int .i64 (stepM c r x L t).v] w' fun e w'' => e = .returned (.bool (finX x (stepM c r x L t).v (stepM c r x L t).wy).2) ∧ ∃ G'', TxAt w'' base T (finX x (stepM c r x L t).v (stepM c r x L t).wy).1 G'' ∧ Next G' G'' w' w'') := fun hk3 w' G' hq hb' => by
    have hwy : (stepM c r x L t).wy = .wr P (Ba.nextBk c r P b L) := by unfold stepM; rw [hy]
    rw [hwy] at hq ⊢
    exact finish_wr hq hb' hE rfl _
  have HEN : Hid (∀ w' G' why, TxAt w' base T { x with wy := (stepM c r x L t).wy } G' → base ≤ w'.heap.size → Calls Tryz.prog 76 #[.pointer (some ⟨T, 0, none⟩), .int .i64 why] w' fun e w'' => e = .returned (.tuple #[]) ∧ ∃ G'', TxAt w'' base T (x.finis why) G'' ∧ Next G' G'' w' w'') := fun w' G' why hq hb' => end_any hq hb' hE why
  have hlt := h.lt
  have HLT : Hid (∀ q ∈ G ++ F, q < w.heap.size) := fun q hq => (hlt q hq).2
  obtain ⟨hm, ⟨lg, tk, ev, wv, Gm, h'⟩, ho⟩ := h
  obtain ⟨X, rfl, HM⟩ := mach_wr hm h' ho hb hL hy (by have hw := hx.wy; unfold wyOk at hw; rw [hy] at hw; exact hw.2.2.1) t
  obtain ⟨M, rfl⟩ := hm.ptr
  obtain ⟨x0, x1, x2, x3, x4, x5, x6, x7, x8, x9, x10, x11, x12⟩ := h'.raw.cells
  have hT := heap_lt h'.raw
  have hMe : ∀ w, (method 383 187 (.agg #[.pointer (some ⟨X, 0, none⟩), .int .i64 P.st]) "Step").run Tryz.prog w = .ok (221, .pointer (some ⟨X, 0, none⟩)) w := fun w => me_w w _ _
  clear h' x0 x1 x2 x3 x4 x5 x6 x7 x8 x10 x11 x12 hm hd hlt hL hE hx hy ho
  unfold stepX goOn anV
  generalize stepM c r x L t = a at *
  obtain ⟨y, L', kk, ee, vv, gg⟩ := a
  simp only at HM HFN HEN ⊢
  by_cases k4 : kk = 4
  · subst k4
    rw [if_pos rfl]
    clear HFN
    go_enter Tryz.func50, Tryz.ntmps50
    go_wp2_with fail
    refine (HM _ (below_a1 _ _)).mono ?_
    rintro e w1 ⟨rfl, F1, G1, q1, k1⟩
    have HQ1 : Hid (TM w1 base (.pointer (some ⟨M, 0, none⟩)) c r L' F1 T { x with wy := y } G1) := q1
    have HR1 : Hid (w1.heap[w.heap.size]? = some (.cells #[.int .i64 0, .int .i64 0, .int .i64 0, .bool false] 64 (0, 0)) ∧ w.heap.size ∉ G1 ++ F1) := row_next HLT.out (Nat.le_refl _) (heap_alloc_new w _) k1
    have HK1 : Hid (Next (G ++ F) (G1 ++ F1) w w1) := (Next.of_below (below_a1 _ _) _).trans k1
    have HB1 : Hid (base ≤ w1.heap.size) := Nat.le_trans hb HK1.out.1.size
    have hW1 : w.heap.size < w1.heap.size := heap_lt HR1.out.1
    clear q1 k1 HM x9
    go_wp2_with fail
    refine (HEN.out _ _ ee (HQ1.out.tx.below (below_a1 _ _)) (Nat.le_trans HB1.out (by simp))).mono ?_
    rintro e w2 ⟨rfl, G2, q2, k2⟩
    have HR2 : Hid (w2.heap[w.heap.size]? = some (.cells #[.int .i64 0, .int .i64 0, .int .i64 0, .bool false] 64 (0, 0)) ∧ w.heap.size ∉ G2 ++ F1) := by
      have a1 : w.heap.size ∉ G1 := fun e => HR1.out.2 (by simp [e])
      have a2 : (w1.alloc (.cells #[.int .i64 4, .int .i64 ee, .int .i64 vv, .bool gg] 64)).heap[w.heap.size]? = some (.cells #[.int .i64 0, .int .i64 0, .int .i64 0, .bool false] 64 (0, 0)) := row_on HR1.out.1 (below_a1 _ _)
      refine ⟨(k2.1.block _ (heap_lt a2) a1).trans a2, fun e => ?_⟩
      rcases List.mem_append.1 e with e | e
      · rcases k2.2 _ e with e | e
        · exact a1 e
        · simp at e; omega
      · exact HR1.out.2 (by simp [e])
    have HA2 : Hid (w2.heap[w1.heap.size]? = some (.cells #[.int .i64 4, .int .i64 ee, .int .i64 vv, .bool gg] 64 (0, 0))) := by
      have a1 : w1.heap.size ∉ G1 := fun e => by have := (HQ1.out.tx.lt _ e).2; omega
      exact (k2.1.block _ (by simp) a1).trans (heap_alloc_new w1 _)
    have HQ2 : Hid (TM w2 base (.pointer (some ⟨M, 0, none⟩)) c r L' F1 T (x.finis ee) G2 ∧ Next (G ++ F) (G2 ++ F1) w w2) := by
      obtain ⟨a1, a2⟩ := (HQ1.out.below (below_a1 _ _)).onTx q2 k2
      exact ⟨a1, HK1.out.trans ((Next.of_below (below_a1 _ _) _).trans a2)⟩
    obtain ⟨⟨a0, a1, a2, a3⟩, g0, g1, g2, g3⟩ := ans_cells HR2.out.1
    have c0 : w2.cell? ⟨w1.heap.size, 0, none⟩ = some (.int .i64 4) := by rw [cell_at HA2.out]; rfl
    have c1 : w2.cell? ⟨w1.heap.size, 1, none⟩ = some (.int .i64 ee) := by rw [cell_at HA2.out]; rfl
    have c2 : w2.cell? ⟨w1.heap.size, 2, none⟩ = some (.int .i64 vv) := by rw [cell_at HA2.out]; rfl
    have c3 : w2.cell? ⟨w1.heap.size, 3, none⟩ = some (.bool gg) := by rw [cell_at HA2.out]; rfl
    have hBa := heap_lt HR2.out.1
    have hBb := heap_lt HA2.out
    clear q2 k2 hW1
    go_wp2
    have qf := HQ2.out.1.other (Co.keepWB (w := w2) (B := w.heap.size) 4 ee vv gg) (fun q hq e => HR2.out.2 (by simp only [List.mem_singleton] at e; rw [← e]; exact hq))
    exact ret_ans rfl rfl (Co.ansW_set rfl HR2.out.1 4 ee vv gg) rfl rfl ⟨rfl, F1, G2, qf, nx_other HQ2.out.2 (Nat.le_refl _) (Co.keepWB (w := w2) (B := w.heap.size) 4 ee vv gg)⟩
  by_cases k3 : kk = 3
  · subst k3
    rw [if_neg (by decide), if_pos rfl]
    clear HEN
    cases hf : (finX x vv y).2
    all_goals
      rw [hf] at HFN
    · rw [if_neg (by decide)]
      go_enter Tryz.func50, Tryz.ntmps50
      go_wp2_with fail
      refine (HM _ (below_a1 _ _)).mono ?_
      rintro e w1 ⟨rfl, F1, G1, q1, k1⟩
      have HQ1 : Hid (TM w1 base (.pointer (some ⟨M, 0, none⟩)) c r L' F1 T { x with wy := y } G1) := q1
      have HR1 : Hid (w1.heap[w.heap.size]? = some (.cells #[.int .i64 0, .int .i64 0, .int .i64 0, .bool false] 64 (0, 0)) ∧ w.heap.size ∉ G1 ++ F1) := row_next HLT.out (Nat.le_refl _) (heap_alloc_new w _) k1
      have HK1 : Hid (Next (G ++ F) (G1 ++ F1) w w1) := (Next.of_below (below_a1 _ _) _).trans k1
      have HB1 : Hid (base ≤ w1.heap.size) := Nat.le_trans hb HK1.out.1.size
      have hW1 : w.heap.size < w1.heap.size := heap_lt HR1.out.1
      clear q1 k1 HM x9
      go_wp2_with fail
      refine (HFN.out (by first | rfl | trivial) _ _ (HQ1.out.tx.below (below_a1 _ _)) (Nat.le_trans HB1.out (by simp))).mono ?_
      rintro e w2 ⟨rfl, G2, q2, k2⟩
      have HR2 : Hid (w2.heap[w.heap.size]? = some (.cells #[.int .i64 0, .int .i64 0, .int .i64 0, .bool false] 64 (0, 0)) ∧ w.heap.size ∉ G2 ++ F1) := by
        have a1 : w.heap.size ∉ G1 := fun e => HR1.out.2 (by simp [e])
        have a2 : (w1.alloc (.cells #[.int .i64 3, .int .i64 ee, .int .i64 vv, .bool gg] 64)).heap[w.heap.size]? = some (.cells #[.int .i64 0, .int .i64 0, .int .i64 0, .bool false] 64 (0, 0)) := row_on HR1.out.1 (below_a1 _ _)
        refine ⟨(k2.1.block _ (heap_lt a2) a1).trans a2, fun e => ?_⟩
        rcases List.mem_append.1 e with e | e
        · rcases k2.2 _ e with e | e
          · exact a1 e
          · simp at e; omega
        · exact HR1.out.2 (by simp [e])
      have HA2 : Hid (w2.heap[w1.heap.size]? = some (.cells #[.int .i64 3, .int .i64 ee, .int .i64 vv, .bool gg] 64 (0, 0))) := by
        have a1 : w1.heap.size ∉ G1 := fun e => by have := (HQ1.out.tx.lt _ e).2; omega
        exact (k2.1.block _ (by simp) a1).trans (heap_alloc_new w1 _)
      have HQ2 : Hid (TM w2 base (.pointer (some ⟨M, 0, none⟩)) c r L' F1 T (finX x vv y).1 G2 ∧ Next (G ++ F) (G2 ++ F1) w w2) := by
        obtain ⟨a1, a2⟩ := (HQ1.out.below (below_a1 _ _)).onTx q2 k2
        exact ⟨a1, HK1.out.trans ((Next.of_below (below_a1 _ _) _).trans a2)⟩
      obtain ⟨⟨a0, a1, a2, a3⟩, g0, g1, g2, g3⟩ := ans_cells HR2.out.1
      have c0 : w2.cell? ⟨w1.heap.size, 0, none⟩ = some (.int .i64 3) := by rw [cell_at HA2.out]; rfl
      have c1 : w2.cell? ⟨w1.heap.size, 1, none⟩ = some (.int .i64 ee) := by rw [cell_at HA2.out]; rfl
      have c2 : w2.cell? ⟨w1.heap.size, 2, none⟩ = some (.int .i64 vv) := by rw [cell_at HA2.out]; rfl
      have c3 : w2.cell? ⟨w1.heap.size, 3, none⟩ = some (.bool gg) := by rw [cell_at HA2.out]; rfl
      have hBa := heap_lt HR2.out.1
      have hBb := heap_lt HA2.out
      clear q2 k2 hW1
      go_wp2
      have qf := HQ2.out.1.other (Co.keepWB (w := w2) (B := w.heap.size) 2 0 0 true) (fun q hq e => HR2.out.2 (by simp only [List.mem_singleton] at e; rw [← e]; exact hq))
      exact ret_ans rfl rfl (Co.ansW_set rfl HR2.out.1 2 0 0 true) rfl rfl ⟨rfl, F1, G2, qf, nx_other HQ2.out.2 (Nat.le_refl _) (Co.keepWB (w := w2) (B := w.heap.size) 2 0 0 true)⟩
    · rw [if_pos rfl]
      go_enter Tryz.func50, Tryz.ntmps50
      go_wp2_with fail
      refine (HM _ (below_a1 _ _)).mono ?_
      rintro e w1 ⟨rfl, F1, G1, q1, k1⟩
      have HQ1 : Hid (TM w1 base (.pointer (some ⟨M, 0, none⟩)) c r L' F1 T { x with wy := y } G1) := q1
      have HR1 : Hid (w1.heap[w.heap.size]? = some (.cells #[.int .i64 0, .int .i64 0, .int .i64 0, .bool false] 64 (0, 0)) ∧ w.heap.size ∉ G1 ++ F1) := row_next HLT.out (Nat.le_refl _) (heap_alloc_new w _) k1
      have HK1 : Hid (Next (G ++ F) (G1 ++ F1) w w1) := (Next.of_below (below_a1 _ _) _).trans k1
      have HB1 : Hid (base ≤ w1.heap.size) := Nat.le_trans hb HK1.out.1.size
      have hW1 : w.heap.size < w1.heap.size := heap_lt HR1.out.1
      clear q1 k1 HM x9
      go_wp2_with fail
      refine (HFN.out (by first | rfl | trivial) _ _ (HQ1.out.tx.below (below_a1 _ _)) (Nat.le_trans HB1.out (by simp))).mono ?_
      rintro e w2 ⟨rfl, G2, q2, k2⟩
      have HR2 : Hid (w2.heap[w.heap.size]? = some (.cells #[.int .i64 0, .int .i64 0, .int .i64 0, .bool false] 64 (0, 0)) ∧ w.heap.size ∉ G2 ++ F1) := by
        have a1 : w.heap.size ∉ G1 := fun e => HR1.out.2 (by simp [e])
        have a2 : (w1.alloc (.cells #[.int .i64 3, .int .i64 ee, .int .i64 vv, .bool gg] 64)).heap[w.heap.size]? = some (.cells #[.int .i64 0, .int .i64 0, .int .i64 0, .bool false] 64 (0, 0)) := row_on HR1.out.1 (below_a1 _ _)
        refine ⟨(k2.1.block _ (heap_lt a2) a1).trans a2, fun e => ?_⟩
        rcases List.mem_append.1 e with e | e
        · rcases k2.2 _ e with e | e
          · exact a1 e
          · simp at e; omega
        · exact HR1.out.2 (by simp [e])
      have HA2 : Hid (w2.heap[w1.heap.size]? = some (.cells #[.int .i64 3, .int .i64 ee, .int .i64 vv, .bool gg] 64 (0, 0))) := by
        have a1 : w1.heap.size ∉ G1 := fun e => by have := (HQ1.out.tx.lt _ e).2; omega
        exact (k2.1.block _ (by simp) a1).trans (heap_alloc_new w1 _)
      have HQ2 : Hid (TM w2 base (.pointer (some ⟨M, 0, none⟩)) c r L' F1 T (finX x vv y).1 G2 ∧ Next (G ++ F) (G2 ++ F1) w w2) := by
        obtain ⟨a1, a2⟩ := (HQ1.out.below (below_a1 _ _)).onTx q2 k2
        exact ⟨a1, HK1.out.trans ((Next.of_below (below_a1 _ _) _).trans a2)⟩
      obtain ⟨⟨a0, a1, a2, a3⟩, g0, g1, g2, g3⟩ := ans_cells HR2.out.1
      have c0 : w2.cell? ⟨w1.heap.size, 0, none⟩ = some (.int .i64 3) := by rw [cell_at HA2.out]; rfl
      have c1 : w2.cell? ⟨w1.heap.size, 1, none⟩ = some (.int .i64 ee) := by rw [cell_at HA2.out]; rfl
      have c2 : w2.cell? ⟨w1.heap.size, 2, none⟩ = some (.int .i64 vv) := by rw [cell_at HA2.out]; rfl
      have c3 : w2.cell? ⟨w1.heap.size, 3, none⟩ = some (.bool gg) := by rw [cell_at HA2.out]; rfl
      have hBa := heap_lt HR2.out.1
      have hBb := heap_lt HA2.out
      clear q2 k2 hW1
      go_wp2
      have qf := HQ2.out.1.other (Co.keepWB (w := w2) (B := w.heap.size) 3 ee vv gg) (fun q hq e => HR2.out.2 (by simp only [List.mem_singleton] at e; rw [← e]; exact hq))
      exact ret_ans rfl rfl (Co.ansW_set rfl HR2.out.1 3 ee vv gg) rfl rfl ⟨rfl, F1, G2, qf, nx_other HQ2.out.2 (Nat.le_refl _) (Co.keepWB (w := w2) (B := w.heap.size) 3 ee vv gg)⟩
  · rw [if_neg k4, if_neg k3]
    have d4 : (kk == 4) = false := by simpa using k4
    have d3 : (kk == 3) = false := by simpa using k3
    clear HFN HEN
    go_enter Tryz.func50, Tryz.ntmps50
    go_wp2_with fail
    refine (HM _ (below_a1 _ _)).mono ?_
    rintro e w1 ⟨rfl, F1, G1, q1, k1⟩
    have HQ1 : Hid (TM w1 base (.pointer (some ⟨M, 0, none⟩)) c r L' F1 T { x with wy := y } G1) := q1
    have HR1 : Hid (w1.heap[w.heap.size]? = some (.cells #[.int .i64 0, .int .i64 0, .int .i64 0, .bool false] 64 (0, 0)) ∧ w.heap.size ∉ G1 ++ F1) := row_next HLT.out (Nat.le_refl _) (heap_alloc_new w _) k1
    have HK1 : Hid (Next (G ++ F) (G1 ++ F1) w w1) := (Next.of_below (below_a1 _ _) _).trans k1
    have HB1 : Hid (base ≤ w1.heap.size) := Nat.le_trans hb HK1.out.1.size
    have hW1 : w.heap.size < w1.heap.size := heap_lt HR1.out.1
    clear q1 k1 HM x9
    obtain ⟨⟨a0, a1, a2, a3⟩, g0, g1, g2, g3⟩ := ans_cells HR1.out.1
    have hBa := heap_lt HR1.out.1
    go_wp2
    have qf := HQ1.out.other (Co.keepWB (w := w1) (B := w.heap.size) kk ee vv gg) (fun q hq e => HR1.out.2 (by simp only [List.mem_singleton] at e; rw [← e]; exact hq))
    exact ret_ans rfl rfl (row_on (Co.ansW_set rfl HR1.out.1 kk ee vv gg) (below_a1 _ _)) rfl rfl ⟨rfl, F1, G1, qf.below (below_a1 _ _), (nx_other HK1.out (Nat.le_refl _) (Co.keepWB (w := w1) (B := w.heap.size) kk ee vv gg)).trans (Next.of_below (below_a1 _ _) _)⟩
theorem goOn_any {w : World} {base : Nat} {p : Value} {c r : Nat} {L : List Ac} {F : List Nat} {T : Nat} {x : Tx} {G : List Nat} (h : TM w base p c r L F T x G) (hb : base ≤ w.heap.size) (hL : L.length < 3298534883328) (hE : x.ev.length < 1073741824) (hx : XOk x) (hy : x.wy ≠ .no) (hd : Wd L) (t : Int) :
    Calls Tryz.prog 50 #[.pointer (some ⟨T, 0, none⟩), p, .int .i64 t] w fun e w' => e = .returned (anV (stepX c r x L t).k (stepX c r x L t).e (stepX c r x L t).v (stepX c r x L t).y) ∧ ∃ F' G', TM w' base p c r (stepX c r x L t).L F' T (stepX c r x L t).x G' ∧ Next (G ++ F) (G' ++ F') w w' := by
  cases e : x.wy with
  | no => exact absurd e hy
  | bg b => exact goOn_bg h hb hL hE hx e hd t
  | rd P b => exact goOn_rd h hb hL hE hx e hd t
  | cm P b u => exact goOn_cm h hb hL hE hx e hd t
  | wr P b => exact goOn_wr h hb hL hE hx e hd t
end Go.Proofs.YtbeaaapkjoegoaaGreat
