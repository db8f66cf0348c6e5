/- read, commit. -/
import Derived.Test.YtbeaaapkjoegoaaGreatJTxVTxK
import Derived.Test.YtbeaaapkjoegoaaGreatTxQ
namespace Go.Proofs.YtbeaaapkjoegoaaGreat
open Go.ChangeShapes Go.WideShapes Go.ChangeAt Go.RowKit
attribute [local go_sem ↓] Go.wp_at_zero Go.wp_at_succ
set_option linter.unusedVariables false

set_option maxRecDepth 100000 in
theorem readO_any {w : World} {base : Nat} {p : Value} {c r : Nat} {L : List Ac} {F : List Nat} {T : Nat} {x : Tx} {G : List Nat} (h : TM w base p c r L F T x G) (hb : base ≤ w.heap.size) (hE : x.ev.length < 1073741824) {cl : Int} (hy : Tl.getY x.tb cl = true) (t : Int) :
    Calls Tryz.prog 39 #[.pointer (some ⟨T, 0, none⟩), p, .int .i64 t, .int .i64 cl] w fun e w' => e = .returned (anV 3 0 (Tl.getV x.tb cl) false) ∧ ∃ G', TM w' base p c r L F T (x.tell (ownE x cl)) G' ∧ Next (G ++ F) (G' ++ F) w w' := by
  have hlt := h.lt
  have HLT : Hid (∀ q ∈ G ++ F, q < w.heap.size) := fun q hq => (hlt q hq).2
  have HQ0 : Hid (TM w base p c r L F T x G) := h
  clear hlt
  obtain ⟨w0, hw0⟩ : ∃ w0, w0 = w.alloc (.cells #[.int .i64 0, .int .i64 0, .int .i64 0, .bool false] 64) := ⟨_, rfl⟩
  have HB0 : Hid (Below w.heap.size w w0) := by rw [hw0]; exact below_a1 _ _
  have HR0 : Hid (w0.heap[w.heap.size]? = some (.cells #[.int .i64 0, .int .i64 0, .int .i64 0, .bool false] 64 (0, 0)) ∧ w.heap.size ∉ G ++ F) := ⟨by rw [hw0]; exact heap_alloc_new _ _, fun e => by have := HLT.out _ e; omega⟩
  obtain ⟨hm, ⟨lg, tk, ev, wv, Gm, h'⟩, ho⟩ := h
  have HX1 : Hid (TxAt' w0 base T x G lg tk ev wv Gm) := h'.below HB0.out
  have HBB : Hid (base ≤ w0.heap.size) := Nat.le_trans hb HB0.out.size
  have HOW : Hid (Calls Tryz.prog 71 #[.pointer (some ⟨lg, 0, none⟩), .int .i64 cl] w0 fun e w' => e = .returned (.tuple #[.int .i64 (Tl.getV x.tb cl), .bool true]) ∧ Below w0.heap.size w0 w') := by rw [← hy]; exact Tl.own_any HX1.out.log cl
  have HTL : Hid (∀ w', Below w0.heap.size w0 w' → Calls Tryz.prog 70 #[.pointer (some ⟨T, 0, none⟩), .agg #[.int .i64 0, .int .i64 0, .int .i64 0, .int .i64 2, .int .i64 cl, .int .i64 (Tl.getV x.tb cl), .bool true, .int .i64 x.z, .int .i64 x.seen, .int .i64 0, .int .u64 0, .int .u64 0, .int .u64 0, .int .u64 0, .int .u64 0, .int .u64 0, .int .u64 0, .int .u64 0, .int .i64 0]] w' fun e w'' => e = .returned (.tuple #[]) ∧ ∃ G' v', TxAt' w'' base T (x.tell (ownE x cl)) G' lg tk v' wv Gm ∧ Next G G' w' w'') := fun w' k => tx_tell0 (HX1.out.below k) (Nat.le_trans HBB.out k.size) hE (ownE x cl)
  have HCE : Hid (∀ w', Below w0.heap.size w0 w' → TRaw w' T (x.s : Int) x.n x.mu (.pointer (some ⟨lg, 0, none⟩)) ev wv x.begun x.z x.seen) := fun w' k => HX1.out.raw.below k
  have HCC : Hid (∀ w' G' v', TxAt' w' base T (x.tell (ownE x cl)) G' lg tk v' wv Gm → w'.cell? ⟨T, 11, none⟩ = some (.int .i64 x.z) ∧ w'.cell? ⟨T, 12, none⟩ = some (.int .i64 x.seen)) := fun w' G' v' q => q.raw.cells.2.2.2.2.2.2.2.2.2.2.2
  obtain ⟨M, rfl⟩ := hm.ptr
  obtain ⟨x0, x1, x2, x3, x4, x5, x6, x7, x8, x9, x10, x11, x12⟩ := h'.raw.cells
  have hT := heap_lt h'.raw
  clear h' hm ho x0 x1 x2 x3 x4 x5 x6 x8 x9 x10 x11 x12 hy
  unfold anV
  generalize Tl.getV x.tb cl = gv at *
  go_enter Tryz.func39, Tryz.ntmps39
  go_wp2_with fail
  rw [← hw0]
  clear hw0
  refine HOW.out.mono ?_
  rintro e w1 ⟨rfl, hb1⟩
  obtain ⟨_, _, _, _, _, _, _, _, _, _, _, y11, y12⟩ := (HCE.out _ hb1).cells
  have hT1 : T < w1.heap.size := heap_lt (HCE.out _ hb1)
  have HB1 : Hid (Below w0.heap.size w0 w1) := hb1
  clear x7 hb1 HOW HCE
  go_wp2_with fail
  go_region_held3 (fun w' => w'.cell? ⟨T, 11, none⟩ = some (.int .i64 x.z) ∧ w'.cell? ⟨T, 12, none⟩ = some (.int .i64 x.seen)) (first | go_keep | exact hS) (first
    | (go_at_call 70; refine (HTL.out _ (below_then HB1.out (bl_drew _))).mono ?_; rintro e w5 ⟨rfl, G5, v5, q5, k5⟩; have hS := HCC.out _ _ _ q5))
  obtain ⟨m5, k55⟩ := (HQ0.out.below HB0.out).onTx (x' := x.tell (ownE x cl)) (G' := G5) ⟨_, _, _, _, _, q5⟩ ((Next.of_below (below_then HB1.out (bl_drew _)) _).trans k5)
  have HQN : Hid (TM w5 base (.pointer (some ⟨M, 0, none⟩)) c r L F T (x.tell (ownE x cl)) G5) := m5
  have HKN : Hid (Next (G ++ F) (G5 ++ F) w0 w5) := k55
  clear q5 k5 m5 k55 hS y11 y12
  have HRN : Hid (w5.heap[w.heap.size]? = some (.cells #[.int .i64 0, .int .i64 0, .int .i64 0, .bool false] 64 (0, 0)) ∧ w.heap.size ∉ G5 ++ F) := row_next0 HR0.out.1 HR0.out.2 HKN.out
  have HNN : Hid (Next (G ++ F) (G5 ++ F) w w5) := (Next.of_below HB0.out _).trans HKN.out
  obtain ⟨⟨a0, a1, a2, a3⟩, g0, g1, g2, g3⟩ := ans_cells HRN.out.1
  have hBa := heap_lt HRN.out.1
  go_wp2
  have qf := HQN.out.other (Co.keepWB (w := w5) (B := w.heap.size) 3 0 gv false) (fun q hq e => HRN.out.2 (by simp only [List.mem_singleton] at e; rw [← e]; exact hq))
  exact ret_ans rfl rfl (Co.ansW_set rfl HRN.out.1 3 0 gv false) rfl rfl ⟨rfl, G5, qf, nx_other HNN.out (Nat.le_refl _) (Co.keepWB (w := w5) (B := w.heap.size) 3 0 gv false)⟩
set_option maxRecDepth 100000 in
set_option maxHeartbeats 1600000 in
theorem readF_any {w : World} {base : Nat} {p : Value} {c r : Nat} {L : List Ac} {F : List Nat} {T : Nat} {x : Tx} {G : List Nat} (h : TM w base p c r L F T x G) (hb : base ≤ w.heap.size) (hL : L.length < 3298534883328) (hE : x.ev.length < 1073741824) (h1 : 1 ≤ x.s) (h2 : x.s ≤ 16) (hz0 : 0 ≤ x.z) (hz1 : x.z ≤ 9223372036854775807) (hd : Wd L) {cl : Int} (c0 : 0 ≤ cl) (c1 : cl < 1024) (hx : XOk (readX x cl)) (hy : Tl.getY x.tb cl = false) (t : Int) :
    Calls Tryz.prog 39 #[.pointer (some ⟨T, 0, none⟩), p, .int .i64 t, .int .i64 cl] w fun e w' => e = .returned (anV (stepX c r (readX x cl) L t).k (stepX c r (readX x cl) L t).e (stepX c r (readX x cl) L t).v (stepX c r (readX x cl) L t).y) ∧ ∃ F' G', TM w' base p c r (stepX c r (readX x cl) L t).L F' T (stepX c r (readX x cl) L t).x G' ∧ Next (G ++ F) (G' ++ F') w w' := by
  have HG : Hid (∀ w' G', TM w' base p c r L F T (readX x cl) G' → base ≤ w'.heap.size → Calls Tryz.prog 50 #[.pointer (some ⟨T, 0, none⟩), p, .int .i64 t] w' fun e w'' => e = .returned (anV (stepX c r (readX x cl) L t).k (stepX c r (readX x cl) L t).e (stepX c r (readX x cl) L t).v (stepX c r (readX x cl) L t).y) ∧ ∃ F' G'', TM w'' base p c r (stepX c r (readX x cl) L t).L F' T (stepX c r (readX x cl) L t).x G'' ∧ Next (G' ++ F) (G'' ++ F') w' w'') := fun w' G' hq hb' => goOn_any hq hb' hL hE hx (by simp [readX]) hd t
  have hlt := h.lt
  have HLT : Hid (∀ q ∈ G ++ F, q < w.heap.size) := fun q hq => (hlt q hq).2
  have HQ0 : Hid (TM w base p c r L F T x G) := h
  clear hlt
  obtain ⟨w0, hw0⟩ : ∃ w0, w0 = w.alloc (.cells #[.int .i64 0, .int .i64 0, .int .i64 0, .bool false] 64) := ⟨_, rfl⟩
  have HB0 : Hid (Below w.heap.size w w0) := by rw [hw0]; exact below_a1 _ _
  have HR0 : Hid (w0.heap[w.heap.size]? = some (.cells #[.int .i64 0, .int .i64 0, .int .i64 0, .bool false] 64 (0, 0)) ∧ w.heap.size ∉ G ++ F) := ⟨by rw [hw0]; exact heap_alloc_new _ _, fun e => by have := HLT.out _ e; omega⟩
  obtain ⟨hm, ⟨lg, tk, ev, wv, Gm, h'⟩, ho⟩ := h
  have HX1 : Hid (TxAt' w0 base T x G lg tk ev wv Gm) := h'.below HB0.out
  have HBB : Hid (base ≤ w0.heap.size) := Nat.le_trans hb HB0.out.size
  have HOW : Hid (Calls Tryz.prog 71 #[.pointer (some ⟨lg, 0, none⟩), .int .i64 cl] w0 fun e w' => e = .returned (.tuple #[.int .i64 (Tl.getV x.tb cl), .bool false]) ∧ Below w0.heap.size w0 w') := by rw [← hy]; exact Tl.own_any HX1.out.log cl
  have HRE : Hid (∀ w', Below w0.heap.size w0 w' → Calls Tryz.prog 72 #[.pointer (some ⟨lg, 0, none⟩), .int .i64 cl] w' fun e w'' => e = .returned (.tuple #[]) ∧ TxAt' w'' base T { x with rd := Tl.readR x.rd cl } G lg tk ev wv Gm ∧ Next G G w0 w'') := fun w' k => by
    refine (Tl.read_any (HX1.out.below k).log cl).mono ?_
    rintro e w'' ⟨rfl, l1, k1⟩
    obtain ⟨t1, t2⟩ := tx_log (HX1.out.below k) l1 ((tl_keep k1).mono (fun b hb => by simp at hb ⊢; exact Or.inl hb))
    exact ⟨rfl, t1, (Next.of_below k _).trans t2⟩
  have hro : Sg.Ok (Tl.readR x.rd cl) := Tl.readR_ok h'.log.ok cl
  have HFN : Hid (∀ w', Calls Tryz.prog 73 #[.int .i64 (x.s : Int), .int .i64 x.z, .agg #[swV (Tl.readR x.rd cl) 0, swV (Tl.readR x.rd cl) 1, swV (Tl.readR x.rd cl) 2, swV (Tl.readR x.rd cl) 3, swV (Tl.readR x.rd cl) 4, swV (Tl.readR x.rd cl) 5, swV (Tl.readR x.rd cl) 6, swV (Tl.readR x.rd cl) 7], .int .i64 cl] w' fun e w'' => ∃ X, e = .returned (.tuple #[.pointer (some ⟨X, 0, none⟩), .int .i64 0]) ∧ w'.heap.size ≤ X ∧ Fe.KAt w'' X (readP x cl) (Fe.ckNew (readP x cl)) ∧ Below w'.heap.size w' w'') := fun w' => Fe.fnew_yes w' h1 h2 hz0 hz1 hro c0 c1
  have HRD : Hid (∀ w2 w', TxAt' w2 base T { x with rd := Tl.readR x.rd cl } G lg tk ev wv Gm → Below w2.heap.size w2 w' → Calls Tryz.prog 64 #[.pointer (some ⟨lg, 0, none⟩)] w' fun e w'' => e = .returned (.agg #[swV (Tl.readR x.rd cl) 0, swV (Tl.readR x.rd cl) 1, swV (Tl.readR x.rd cl) 2, swV (Tl.readR x.rd cl) 3, swV (Tl.readR x.rd cl) 4, swV (Tl.readR x.rd cl) 5, swV (Tl.readR x.rd cl) 6, swV (Tl.readR x.rd cl) 7]) ∧ Below w'.heap.size w' w'') := fun w2 w' q k => by
    rw [← sv_eight hro]; exact Tl.reads_any (q.log.below k)
  have HCE : Hid (∀ w', Below w0.heap.size w0 w' → TRaw w' T (x.s : Int) x.n x.mu (.pointer (some ⟨lg, 0, none⟩)) ev wv x.begun x.z x.seen) := fun w' k => HX1.out.raw.below k
  obtain ⟨M, rfl⟩ := hm.ptr
  obtain ⟨x0, x1, x2, x3, x4, x5, x6, x7, x8, x9, x10, x11, x12⟩ := h'.raw.cells
  have hT := heap_lt h'.raw
  clear h' hm ho x0 x1 x2 x3 x4 x5 x6 x8 x9 x10 x11 x12 hy hro hx hd hL hE h1 h2 hz0 hz1 c0 c1
  generalize stepX c r (readX x cl) L t = a at *
  obtain ⟨x', L', kk, ee, vv, gg⟩ := a
  unfold anV at *
  simp only at HG ⊢
  go_enter Tryz.func39, Tryz.ntmps39
  go_wp2_with fail
  rw [← hw0]
  clear hw0
  refine HOW.out.mono ?_
  rintro e w1 ⟨rfl, hb1⟩
  obtain ⟨_, _, _, _, _, _, _, y7, _, _, _, _, _⟩ := (HCE.out _ hb1).cells
  have hT1 : T < w1.heap.size := heap_lt (HCE.out _ hb1)
  clear x7 HOW
  go_wp2_with fail
  refine (HRE.out _ hb1).mono ?_
  rintro e w2 ⟨rfl, q2, k2⟩
  have HX2 : Hid (TxAt' w2 base T { x with rd := Tl.readR x.rd cl } G lg tk ev wv Gm) := q2
  have HK2 : Hid (Next G G w0 w2) := k2
  have HC2 : Hid (∀ w', Below w2.heap.size w2 w' → TRaw w' T (x.s : Int) x.n x.mu (.pointer (some ⟨lg, 0, none⟩)) ev wv x.begun x.z x.seen) := fun w' k => HX2.out.raw.below k
  obtain ⟨_, z1, _, _, _, _, _, z7, _, _, _, z11, _⟩ := (HC2.out w2 (Below.refl _ _)).cells
  have hT2 : T < w2.heap.size := heap_lt q2.raw
  clear y7 hb1 q2 k2 hT1 HRE HCE HX1
  go_wp2_with fail
  go_region_held3 (fun w' => w'.cell? ⟨T, 1, none⟩ = some (.int .i64 (x.s : Int)) ∧ w'.cell? ⟨T, 7, none⟩ = some (.pointer (some ⟨lg, 0, none⟩)) ∧ w'.cell? ⟨T, 11, none⟩ = some (.int .i64 x.z)) (first | go_keep | exact hS) (first
    | (go_at_call 64; refine (HRD.out _ _ HX2.out (bl_drew _)).mono ?_; rintro e w3 ⟨rfl, hb3⟩; have hB3 : Below w2.heap.size w2 w3 := below_then (bl_drew _) hb3; obtain ⟨_, s1, _, _, _, _, _, s7, _, _, _, s11, _⟩ := (HC2.out _ hB3).cells; have hS := And.intro s1 (And.intro s7 s11); clear s1 s7 s11)
    | (go_at_call 73; refine (HFN.out _).mono ?_; rintro e w4 ⟨X, rfl, hX1, hX2, hb4⟩; have hB4 : Below w2.heap.size w2 w4 := below_then hB3 hb4; obtain ⟨_, s1, _, _, _, _, _, s7, _, _, _, s11, _⟩ := (HC2.out _ hB4).cells; have hS := And.intro s1 (And.intro s7 s11); clear s1 s7 s11))
  have HR4 : Hid (TRaw w4 T (x.s : Int) x.n x.mu (.pointer (some ⟨lg, 0, none⟩)) ev wv x.begun x.z x.seen) := HC2.out _ hB4
  have HW4 : Hid (∃ G5, TxAt' (w4.setCell ⟨T, 9, none⟩ (.iface 155 (.agg #[.pointer (some ⟨X, 0, none⟩), .int .i64 cl]))) base T (readX x cl) G5 lg tk ev (.iface 155 (.agg #[.pointer (some ⟨X, 0, none⟩), .int .i64 cl])) [X] ∧ Next G G5 w0 (w4.setCell ⟨T, 9, none⟩ (.iface 155 (.agg #[.pointer (some ⟨X, 0, none⟩), .int .i64 cl])))) := by
    have ks : Keep [T] w4 (w4.setCell ⟨T, 9, none⟩ (.iface 155 (.agg #[.pointer (some ⟨X, 0, none⟩), .int .i64 cl]))) := (Keep.refl _ _).setCell _ _ (Or.inl (by simp))
    have hs3 := hB3.size
    obtain ⟨G5, a1, a2⟩ := tx_way (y := .rd (readP x cl) (Fe.ckNew (readP x cl))) HX2.out ((tset HR4.out).2.1 _) ((Keep.of_below hB4 [T]).trans ks (fun b hb => Or.inl hb)) ⟨X, rfl, rfl, hX2.keep ks (by simp; omega), Nat.le_trans HBB.out (Nat.le_trans HK2.out.1.size (by omega))⟩ (fun q hq => by simp at hq; omega) (by simp)
    exact ⟨G5, a1, HK2.out.trans a2⟩
  obtain ⟨_, _, _, _, _, _, _, _, _, v9, _, _, _⟩ := HR4.out.cells
  have f9 := HR4.out.fz 9
  have hT4 : T < w4.heap.size := heap_lt HR4.out
  clear hS hX1 hX2 hb3 hb4 hB3 hB4 z1 z7 z11 hT2
  go_wp2_with fail
  obtain ⟨G5, q5, k5⟩ := HW4.out
  clear HW4
  obtain ⟨w5, hw5⟩ : ∃ w5, w5 = w4.setCell ⟨T, 9, none⟩ (.iface 155 (.agg #[.pointer (some ⟨X, 0, none⟩), .int .i64 cl])) := ⟨_, rfl⟩
  rw [← hw5] at q5 k5 ⊢
  obtain ⟨m5, k55⟩ := (HQ0.out.below HB0.out).onTx (x' := readX x cl) (G' := G5) ⟨_, _, _, _, _, q5⟩ k5
  have HM3 : Hid (TM w5 base (.pointer (some ⟨M, 0, none⟩)) c r L F T (readX x cl) G5) := m5
  have HK3 : Hid (Next (G ++ F) (G5 ++ F) w0 w5) := k55
  have hb3 : base ≤ w5.heap.size := Nat.le_trans HBB.out k5.1.size
  clear q5 k5 m5 k55 hw5 v9 f9
  refine (HG.out _ _ HM3.out hb3).mono ?_
  rintro e w4 ⟨rfl, F4, G4, q4, k4⟩
  have HQN : Hid (TM w4 base (.pointer (some ⟨M, 0, none⟩)) c r L' F4 T x' G4) := q4
  have HKN : Hid (Next (G ++ F) (G4 ++ F4) w0 w4) := HK3.out.trans k4
  clear q4 k4
  have HRN : Hid (w4.heap[w.heap.size]? = some (.cells #[.int .i64 0, .int .i64 0, .int .i64 0, .bool false] 64 (0, 0)) ∧ w.heap.size ∉ G4 ++ F4) := row_next0 HR0.out.1 HR0.out.2 HKN.out
  have HNN : Hid (Next (G ++ F) (G4 ++ F4) w w4) := (Next.of_below HB0.out _).trans HKN.out
  obtain ⟨⟨a0, a1, a2, a3⟩, g0, g1, g2, g3⟩ := ans_cells HRN.out.1
  have hBa := heap_lt HRN.out.1
  go_wp2
  have qf := HQN.out.other (Co.keepWB (w := w4) (B := w.heap.size) kk ee vv gg) (fun q hq e => HRN.out.2 (by simp only [List.mem_singleton] at e; rw [← e]; exact hq))
  exact ret_ans rfl rfl (Co.ansW_set rfl HRN.out.1 kk ee vv gg) rfl rfl ⟨rfl, F4, G4, qf, nx_other HNN.out (Nat.le_refl _) (Co.keepWB (w := w4) (B := w.heap.size) kk ee vv gg)⟩
set_option maxRecDepth 100000 in
theorem commN_any {w : World} {base : Nat} {p : Value} {c r : Nat} {L : List Ac} {F : List Nat} {T : Nat} {x : Tx} {G : List Nat} (h : TM w base p c r L F T x G) (hb : base ≤ w.heap.size) (hE : x.ev.length < 1073741824) (hy : x.tb.R.length = 0) (t : Int) :
    Calls Tryz.prog 41 #[.pointer (some ⟨T, 0, none⟩), p, .int .i64 t] w fun e w' => e = .returned (anV 3 0 0 false) ∧ ∃ G', TM w' base p c r L F T (x.finis 0) G' ∧ Next (G ++ F) (G' ++ F) w w' := by
  have hlt := h.lt
  have HLT : Hid (∀ q ∈ G ++ F, q < w.heap.size) := fun q hq => (hlt q hq).2
  have HQ0 : Hid (TM w base p c r L F T x G) := h
  clear hlt
  obtain ⟨w0, hw0⟩ : ∃ w0, w0 = w.alloc (.cells #[.int .i64 0, .int .i64 0, .int .i64 0, .bool false] 64) := ⟨_, rfl⟩
  have HB0 : Hid (Below w.heap.size w w0) := by rw [hw0]; exact below_a1 _ _
  have HR0 : Hid (w0.heap[w.heap.size]? = some (.cells #[.int .i64 0, .int .i64 0, .int .i64 0, .bool false] 64 (0, 0)) ∧ w.heap.size ∉ G ++ F) := ⟨by rw [hw0]; exact heap_alloc_new _ _, fun e => by have := HLT.out _ e; omega⟩
  have HEN : Hid (∀ w', Below w0.heap.size w0 w' → Calls Tryz.prog 76 #[.pointer (some ⟨T, 0, none⟩), .int .i64 0] w' fun e w'' => e = .returned (.tuple #[]) ∧ ∃ G', TxAt w'' base T (x.finis 0) G' ∧ Next G G' w' w'') := fun w' k => end_any ((h.tx.below HB0.out).below k) (Nat.le_trans hb (Nat.le_trans HB0.out.size k.size)) hE 0
  obtain ⟨hm, ⟨lg, tk, ev, wv, Gm, h'⟩, ho⟩ := h
  have HX1 : Hid (TxAt' w0 base T x G lg tk ev wv Gm) := h'.below HB0.out
  have HLN : Hid (Calls Tryz.prog 75 #[.pointer (some ⟨tk, 0, none⟩)] w0 fun e w' => e = .returned (.int .i64 0) ∧ Below w0.heap.size w0 w') := by
    refine (Tl.len_any HX1.out.log.tab).mono ?_
    rintro e w' ⟨rfl, rfl⟩
    exact ⟨by rw [hy]; rfl, Below.refl _ _⟩
  obtain ⟨M, rfl⟩ := hm.ptr
  have y0 : w0.cell? ⟨lg, 0, none⟩ = some (.pointer (some ⟨tk, 0, none⟩)) := HX1.out.log.ptr
  have y7 : w0.cell? ⟨T, 7, none⟩ = some (.pointer (some ⟨lg, 0, none⟩)) := HX1.out.raw.cells.2.2.2.2.2.2.2.1
  rw [hw0] at y0 y7
  have hT := heap_lt h'.raw
  have hlg := heap_lt h'.log.log
  clear h' hm ho hy
  unfold anV
  go_enter Tryz.func41, Tryz.ntmps41
  go_wp2_with fail
  rw [← hw0]
  rw [← hw0] at y0 y7
  clear hw0
  refine HLN.out.mono ?_
  rintro e w1 ⟨rfl, hb1⟩
  clear y0 y7
  go_wp2_with fail
  refine (HEN.out _ hb1).mono ?_
  rintro e w2 ⟨rfl, G2, q2, k2⟩
  obtain ⟨m2, k22⟩ := (HQ0.out.below HB0.out).onTx q2 ((Next.of_below hb1 _).trans k2)
  have HQN : Hid (TM w2 base (.pointer (some ⟨M, 0, none⟩)) c r L F T (x.finis 0) G2) := m2
  have HKN : Hid (Next (G ++ F) (G2 ++ F) w0 w2) := k22
  clear q2 k2 m2 k22 hb1
  have HRN : Hid (w2.heap[w.heap.size]? = some (.cells #[.int .i64 0, .int .i64 0, .int .i64 0, .bool false] 64 (0, 0)) ∧ w.heap.size ∉ G2 ++ F) := row_next0 HR0.out.1 HR0.out.2 HKN.out
  have HNN : Hid (Next (G ++ F) (G2 ++ F) w w2) := (Next.of_below HB0.out _).trans HKN.out
  obtain ⟨⟨a0, a1, a2, a3⟩, g0, g1, g2, g3⟩ := ans_cells HRN.out.1
  have hBa := heap_lt HRN.out.1
  go_wp2
  have qf := HQN.out.other (Co.keepWB (w := w2) (B := w.heap.size) 3 0 0 false) (fun q hq e => HRN.out.2 (by simp only [List.mem_singleton] at e; rw [← e]; exact hq))
  exact ret_ans rfl rfl (Co.ansW_set rfl HRN.out.1 3 0 0 false) rfl rfl ⟨rfl, G2, qf, nx_other HNN.out (Nat.le_refl _) (Co.keepWB (w := w2) (B := w.heap.size) 3 0 0 false)⟩
set_option maxRecDepth 100000 in
set_option maxHeartbeats 1600000 in
theorem commF_any {w : World} {base : Nat} {p : Value} {c r : Nat} {L : List Ac} {F : List Nat} {T : Nat} {x : Tx} {G : List Nat} (h : TM w base p c r L F T x G) (hb : base ≤ w.heap.size) (hL : L.length < 3298534883328) (hE : x.ev.length < 1073741824) (h1 : 1 ≤ x.s) (h2 : x.s ≤ 16) (hz0 : 0 ≤ x.z) (hz1 : x.z ≤ 9223372036854775807) (hd : Wd L) (hn1 : 1 ≤ x.n) (hn2 : x.n ≤ 1099511627776) (hx : XOk (commX x)) (hy : x.tb.R.length ≠ 0) (t : Int) :
    Calls Tryz.prog 41 #[.pointer (some ⟨T, 0, none⟩), p, .int .i64 t] w fun e w' => e = .returned (anV (stepX c r (commX x) L t).k (stepX c r (commX x) L t).e (stepX c r (commX x) L t).v (stepX c r (commX x) L t).y) ∧ ∃ F' G', TM w' base p c r (stepX c r (commX x) L t).L F' T (stepX c r (commX x) L t).x G' ∧ Next (G ++ F) (G' ++ F') w w' := by
  have HG : Hid (∀ w' G', TM w' base p c r L F T (commX x) G' → base ≤ w'.heap.size → Calls Tryz.prog 50 #[.pointer (some ⟨T, 0, none⟩), p, .int .i64 t] w' fun e w'' => e = .returned (anV (stepX c r (commX x) L t).k (stepX c r (commX x) L t).e (stepX c r (commX x) L t).v (stepX c r (commX x) L t).y) ∧ ∃ F' G'', TM w'' base p c r (stepX c r (commX x) L t).L F' T (stepX c r (commX x) L t).x G'' ∧ Next (G' ++ F) (G'' ++ F') w' w'') := fun w' G' hq hb' => goOn_any hq hb' hL hE hx (by simp [commX]) hd t
  have hlt := h.lt
  have HLT : Hid (∀ q ∈ G ++ F, q < w.heap.size) := fun q hq => (hlt q hq).2
  have HQ0 : Hid (TM w base p c r L F T x G) := h
  clear hlt
  obtain ⟨w0, hw0⟩ : ∃ w0, w0 = w.alloc (.cells #[.int .i64 0, .int .i64 0, .int .i64 0, .bool false] 64) := ⟨_, rfl⟩
  have HB0 : Hid (Below w.heap.size w w0) := by rw [hw0]; exact below_a1 _ _
  have HR0 : Hid (w0.heap[w.heap.size]? = some (.cells #[.int .i64 0, .int .i64 0, .int .i64 0, .bool false] 64 (0, 0)) ∧ w.heap.size ∉ G ++ F) := ⟨by rw [hw0]; exact heap_alloc_new _ _, fun e => by have := HLT.out _ e; omega⟩
  obtain ⟨hm, ⟨lg, tk, ev, wv, Gm, h'⟩, ho⟩ := h
  have HX1 : Hid (TxAt' w0 base T x G lg tk ev wv Gm) := h'.below HB0.out
  have HBB : Hid (base ≤ w0.heap.size) := Nat.le_trans hb HB0.out.size
  obtain ⟨nn, hnn⟩ : ∃ nn : Int, nn = (x.tb.R.length : Int) := ⟨_, rfl⟩
  have HLN : Hid (Calls Tryz.prog 75 #[.pointer (some ⟨tk, 0, none⟩)] w0 fun e w' => e = .returned (.int .i64 nn) ∧ Below w0.heap.size w0 w') := by
    refine (Tl.len_any HX1.out.log.tab).mono ?_
    rintro e w' ⟨rfl, rfl⟩
    exact ⟨by rw [hnn], Below.refl _ _⟩
  have d0 : (nn == 0) = false := by simp; omega
  have hro : Sg.Ok x.rd := h'.log.ok
  have HMN : Hid (∀ w', Calls Tryz.prog 77 #[.agg #[.int .i64 0, .int .i64 (x.s : Int), .int .i64 0, .int .i64 x.n, .bool x.mu, .int .i64 0, .slice none 0 0], .int .i64 x.z, .agg #[swV x.rd 0, swV x.rd 1, swV x.rd 2, swV x.rd 3, swV x.rd 4, swV x.rd 5, swV x.rd 6, swV x.rd 7]] w' fun e w'' => ∃ Z X, e = .returned (.tuple #[.pointer (some ⟨Z, 0, none⟩), .int .i64 0]) ∧ w'.heap.size ≤ Z ∧ w'.heap.size ≤ X ∧ Z ≠ X ∧ Co.CAt w'' Z (commP x) Co.cuNew (Co.ptr X) ∧ Co.KAt w'' X (commP x) (Co.ckNew (commP x)) ∧ Below w'.heap.size w' w'') := fun w' => Co.mnew_yes w' (P := commP x) ⟨h1, h2, hz0, hz1, hro⟩ rfl hn1 hn2 0 0 0 (.slice none 0 0)
  have HRD : Hid (∀ w', Below w0.heap.size w0 w' → Calls Tryz.prog 64 #[.pointer (some ⟨lg, 0, none⟩)] w' fun e w'' => e = .returned (.agg #[swV x.rd 0, swV x.rd 1, swV x.rd 2, swV x.rd 3, swV x.rd 4, swV x.rd 5, swV x.rd 6, swV x.rd 7]) ∧ Below w'.heap.size w' w'') := fun w' k => by
    rw [← sv_eight hro]; exact Tl.reads_any (HX1.out.below k).log
  have HCE : Hid (∀ w', Below w0.heap.size w0 w' → TRaw w' T (x.s : Int) x.n x.mu (.pointer (some ⟨lg, 0, none⟩)) ev wv x.begun x.z x.seen) := fun w' k => HX1.out.raw.below k
  obtain ⟨M, rfl⟩ := hm.ptr
  have y0 : w0.cell? ⟨lg, 0, none⟩ = some (.pointer (some ⟨tk, 0, none⟩)) := HX1.out.log.ptr
  have y7 : w0.cell? ⟨T, 7, none⟩ = some (.pointer (some ⟨lg, 0, none⟩)) := HX1.out.raw.cells.2.2.2.2.2.2.2.1
  rw [hw0] at y0 y7
  have hT := heap_lt h'.raw
  have hlg := heap_lt h'.log.log
  clear h' hm ho hy hnn hro hx hd hL hE h1 h2 hz0 hz1 hn1 hn2
  generalize stepX c r (commX x) L t = a at *
  obtain ⟨x', L', kk, ee, vv, gg⟩ := a
  unfold anV at *
  simp only at HG ⊢
  go_enter Tryz.func41, Tryz.ntmps41
  go_wp2_with fail
  rw [← hw0]
  rw [← hw0] at y0 y7
  clear hw0
  refine HLN.out.mono ?_
  rintro e w1 ⟨rfl, hb1⟩
  have HB1 : Hid (Below w0.heap.size w0 w1) := hb1
  obtain ⟨z0, z1, z2, z3, z4, z5, z6, z7, _, _, _, z11, _⟩ := (HCE.out _ hb1).cells
  have hT1 : T < w1.heap.size := heap_lt (HCE.out _ hb1)
  clear y0 y7 hb1
  go_wp2_with fail
  go_region_held3 (fun w' => w'.cell? ⟨T, 0, none⟩ = some (.int .i64 0) ∧ w'.cell? ⟨T, 1, none⟩ = some (.int .i64 (x.s : Int)) ∧ w'.cell? ⟨T, 2, none⟩ = some (.int .i64 0) ∧ w'.cell? ⟨T, 3, none⟩ = some (.int .i64 x.n) ∧ w'.cell? ⟨T, 4, none⟩ = some (.bool x.mu) ∧ w'.cell? ⟨T, 5, none⟩ = some (.int .i64 0) ∧ w'.cell? ⟨T, 6, none⟩ = some (.slice none 0 0) ∧ w'.cell? ⟨T, 7, none⟩ = some (.pointer (some ⟨lg, 0, none⟩)) ∧ w'.cell? ⟨T, 11, none⟩ = some (.int .i64 x.z)) (first | go_keep | exact hS | exact hS9) (first
    | (go_at_call 64; refine (HRD.out _ (below_then HB1.out (bl_drew _))).mono ?_; rintro e w2 ⟨rfl, hb2⟩; have hB2 : Below w0.heap.size w0 w2 := below_then (below_then HB1.out (bl_drew _)) hb2; obtain ⟨s0, s1, s2, s3, s4, s5, s6, s7, _, _, _, s11, _⟩ := (HCE.out _ hB2).cells; have hS := And.intro s0 (And.intro s1 (And.intro s2 (And.intro s3 (And.intro s4 (And.intro s5 (And.intro s6 (And.intro s7 s11))))))); clear s0 s1 s2 s3 s4 s5 s6 s7 s11)
    | (go_at_call 77; refine (HMN.out _).mono ?_; rintro e w3 ⟨Z, X, rfl, hZ1, hX1, hZX, hZ2, hX2, hb3⟩; have hB3 : Below w0.heap.size w0 w3 := below_then hB2 hb3; obtain ⟨u0, u1, u2, u3, u4, u5, u6, u7, _, _, _, u11, _⟩ := ((tset (HCE.out _ hB3)).2.1 (.iface 158 (.pointer (some ⟨Z, 0, none⟩)))).cells; have hS9 := And.intro u0 (And.intro u1 (And.intro u2 (And.intro u3 (And.intro u4 (And.intro u5 (And.intro u6 (And.intro u7 u11))))))); clear u0 u1 u2 u3 u4 u5 u6 u7 u11; have f9 := (HCE.out _ hB3).fz 9; have hT3 : T < w3.heap.size := heap_lt (HCE.out _ hB3); obtain ⟨s0, s1, s2, s3, s4, s5, s6, s7, _, v9, _, s11, _⟩ := (HCE.out _ hB3).cells; have hS := And.intro s0 (And.intro s1 (And.intro s2 (And.intro s3 (And.intro s4 (And.intro s5 (And.intro s6 (And.intro s7 s11))))))); clear s0 s1 s2 s3 s4 s5 s6 s7 s11))
  have HR3 : Hid (TRaw w3 T (x.s : Int) x.n x.mu (.pointer (some ⟨lg, 0, none⟩)) ev wv x.begun x.z x.seen) := HCE.out _ hB3
  have HW3 : Hid (∃ G5, TxAt' (w3.setCell ⟨T, 9, none⟩ (.iface 158 (.pointer (some ⟨Z, 0, none⟩)))) base T (commX x) G5 lg tk ev (.iface 158 (.pointer (some ⟨Z, 0, none⟩))) [Z, X] ∧ Next G G5 w0 (w3.setCell ⟨T, 9, none⟩ (.iface 158 (.pointer (some ⟨Z, 0, none⟩))))) := by
    have ks : Keep [T] w3 (w3.setCell ⟨T, 9, none⟩ (.iface 158 (.pointer (some ⟨Z, 0, none⟩)))) := (Keep.refl _ _).setCell _ _ (Or.inl (by simp))
    have hs2 := hB2.size
    have hs1 := HBB.out
    have hT0 : T < w0.heap.size := heap_lt HX1.out.raw
    exact tx_way (y := .cm (commP x) (Co.ckNew (commP x)) Co.cuNew) HX1.out ((tset HR3.out).2.1 _) ((Keep.of_below hB3 [T]).trans ks (fun b hb => Or.inl hb)) ⟨Z, X, rfl, rfl, hZ2.keep ks (by simp; omega), hX2.keep ks (by simp; omega), by omega, by omega, hZX⟩ (fun q hq => by simp at hq; omega) (by simp; exact hZX)
  obtain ⟨G5, q5, k5⟩ := HW3.out
  clear HW3
  obtain ⟨w5, hw5⟩ : ∃ w5, w5 = w3.setCell ⟨T, 9, none⟩ (.iface 158 (.pointer (some ⟨Z, 0, none⟩))) := ⟨_, rfl⟩
  rw [← hw5] at q5 k5 ⊢
  obtain ⟨m5, k55⟩ := (HQ0.out.below HB0.out).onTx (x' := commX x) (G' := G5) ⟨_, _, _, _, _, q5⟩ k5
  have HM3 : Hid (TM w5 base (.pointer (some ⟨M, 0, none⟩)) c r L F T (commX x) G5) := m5
  have HK3 : Hid (Next (G ++ F) (G5 ++ F) w0 w5) := k55
  have hb5 : base ≤ w5.heap.size := Nat.le_trans HBB.out k5.1.size
  clear hS hS9 hZ1 hX1 hZX hZ2 hX2 hb3 hB3 hB2 hb2 f9 v9 hT3 z0 z1 z2 z3 z4 z5 z6 z7 z11 q5 k5 m5 k55 hw5 hT1
  have hb3 := hb5
  go_wp2_with fail
  refine (HG.out _ _ HM3.out hb3).mono ?_
  rintro e w4 ⟨rfl, F4, G4, q4, k4⟩
  have HQN : Hid (TM w4 base (.pointer (some ⟨M, 0, none⟩)) c r L' F4 T x' G4) := q4
  have HKN : Hid (Next (G ++ F) (G4 ++ F4) w0 w4) := HK3.out.trans k4
  clear q4 k4
  have HRN : Hid (w4.heap[w.heap.size]? = some (.cells #[.int .i64 0, .int .i64 0, .int .i64 0, .bool false] 64 (0, 0)) ∧ w.heap.size ∉ G4 ++ F4) := row_next0 HR0.out.1 HR0.out.2 HKN.out
  have HNN : Hid (Next (G ++ F) (G4 ++ F4) w w4) := (Next.of_below HB0.out _).trans HKN.out
  obtain ⟨⟨a0, a1, a2, a3⟩, g0, g1, g2, g3⟩ := ans_cells HRN.out.1
  have hBa := heap_lt HRN.out.1
  go_wp2
  have qf := HQN.out.other (Co.keepWB (w := w4) (B := w.heap.size) kk ee vv gg) (fun q hq e => HRN.out.2 (by simp only [List.mem_singleton] at e; rw [← e]; exact hq))
  exact ret_ans rfl rfl (Co.ansW_set rfl HRN.out.1 kk ee vv gg) rfl rfl ⟨rfl, F4, G4, qf, nx_other HNN.out (Nat.le_refl _) (Co.keepWB (w := w4) (B := w.heap.size) kk ee vv gg)⟩
end Go.Proofs.YtbeaaapkjoegoaaGreat
/- Do. -/
namespace Go.Proofs.YtbeaaapkjoegoaaGreat
open Go.ChangeShapes Go.WideShapes Go.ChangeAt Go.RowKit
attribute [local go_sem ↓] Go.wp_at_zero Go.wp_at_succ
set_option linter.unusedVariables false

theorem put_same {s : Tl.Tb} {c v : Int} (h : Tl.writeE s c = 5) : Tl.put s c v = s := by
  have h2 : Tl.putE s c = 2 := by
    unfold Tl.writeE at h
    split at h
    · next e => exact e
    · unfold Tl.putE at h
      split at h
      · split at h
        · simp at h
        · split at h <;> simp at h
      · simp at h
  unfold Tl.putE at h2
  unfold Tl.put
  split at h2
  · next hr =>
    rw [if_pos hr]
    split at h2
    · simp at h2
    · next e =>
      split at h2
      · next hm => rw [if_pos hm]
      · simp at h2
  · simp at h2
theorem xok_put {x : Tx} (h : XOk x) (hp : x.phase = 2) {c v : Int} (hv : W64 v) : XOk { x with tb := Tl.put x.tb c v } := by
  have hw : x.wy = .no := by
    unfold Tx.phase at hp
    cases e : x.wy with
    | no => rfl
    | _ => rw [e] at hp; simp at hp
  have hph : ({ x with tb := Tl.put x.tb c v } : Tx).phase = 2 := hp
  exact ⟨h.s1, h.s16, h.n1, h.n2, Tl.put_inv h.inv c v, put_val h.val hv, h.rd, h.z0, h.z1, h.seen, fun e => by rw [hph] at e; omega, fun _ _ => h.liv (by omega) (by omega), fun e => by rw [hph] at e; omega, by unfold wyOk; rw [show ({ x with tb := Tl.put x.tb c v } : Tx).wy = .no from hw]; trivial⟩
set_option maxRecDepth 100000 in
theorem do_no {w : World} {base : Nat} {p : Value} {c r : Nat} {L : List Ac} {F : List Nat} {T : Nat} {x : Tx} {G : List Nat} (h : TM w base p c r L F T x G) (a : Wa) (hn : takesX c r x a = false) (t : Int) :
    Calls Tryz.prog 14 #[.pointer (some ⟨T, 0, none⟩), p, .int .i64 t, waV a] w fun e w' => e = .returned (anV 4 1 0 false) ∧ TM w' base p c r L F T x G ∧ Next (G ++ F) (G ++ F) w w' := by
  have HTK : Hid (∀ w', Below w.heap.size w w' → Calls Tryz.prog 37 #[.pointer (some ⟨T, 0, none⟩), p, waV a] w' fun e w'' => e = .returned (.bool false) ∧ Below w'.heap.size w' w'') := fun w' k => by rw [← hn]; exact takesT (h.below k) a
  have HQ0 : Hid (TM w base p c r L F T x G) := h
  obtain ⟨M, rfl⟩ := h.mem.ptr
  have hlt := h.lt
  have HLT : Hid (∀ q ∈ G ++ F, q < w.heap.size) := fun q hq => (hlt q hq).2
  clear h hlt hn
  obtain ⟨kd, cl, va, co⟩ := a
  unfold waV anV at *
  obtain ⟨w0, hw0⟩ : ∃ w0, w0 = (w.alloc (.cells #[.int .i64 kd, .int .i64 cl, .int .i64 va, .int .i64 co] 58)).alloc (.cells #[.int .i64 0, .int .i64 0, .int .i64 0, .bool false] 64) := ⟨_, rfl⟩
  have HB0 : Hid (Below w.heap.size w w0) := by rw [hw0]; exact below_then (below_a1 _ _) (below_a1 _ _)
  have HW0 : Hid (w0.heap[w.heap.size]? = some (.cells #[.int .i64 kd, .int .i64 cl, .int .i64 va, .int .i64 co] 58 (0, 0))) := by rw [hw0]; exact row_on (heap_alloc_new _ _) (below_a1 _ _)
  have HR0 : Hid (w0.heap[w.heap.size + 1]? = some (.cells #[.int .i64 0, .int .i64 0, .int .i64 0, .bool false] 64 (0, 0)) ∧ w.heap.size + 1 ∉ G ++ F) := ⟨by rw [hw0]; exact heap_alloc2_new w _ _, fun e => by have := HLT.out _ e; omega⟩
  go_enter Tryz.func14, Tryz.ntmps14
  go_wp2_with fail
  rw [← hw0]
  clear hw0
  refine (HTK.out _ HB0.out).mono ?_
  rintro e w1 ⟨rfl, hb1⟩
  have HB1 : Hid (Below w.heap.size w w1) := below_then HB0.out hb1
  have HW1 : Hid (w1.heap[w.heap.size]? = some (.cells #[.int .i64 kd, .int .i64 cl, .int .i64 va, .int .i64 co] 58 (0, 0))) := row_on HW0.out hb1
  have HR1 : Hid (w1.heap[w.heap.size + 1]? = some (.cells #[.int .i64 0, .int .i64 0, .int .i64 0, .bool false] 64 (0, 0)) ∧ w.heap.size + 1 ∉ G ++ F) := ⟨row_on HR0.out.1 hb1, HR0.out.2⟩
  have k0 : w1.cell? ⟨w.heap.size, 0, none⟩ = some (.int .i64 kd) := by rw [cell_at HW1.out]; rfl
  have k1 : w1.cell? ⟨w.heap.size, 1, none⟩ = some (.int .i64 cl) := by rw [cell_at HW1.out]; rfl
  have k2 : w1.cell? ⟨w.heap.size, 2, none⟩ = some (.int .i64 va) := by rw [cell_at HW1.out]; rfl
  have k3 : w1.cell? ⟨w.heap.size, 3, none⟩ = some (.int .i64 co) := by rw [cell_at HW1.out]; rfl
  have hW1 := heap_lt HW1.out
  clear hb1
  obtain ⟨⟨a0, a1, a2, a3⟩, g0, g1, g2, g3⟩ := ans_cells HR1.out.1
  have hBa := heap_lt HR1.out.1
  go_wp2
  have qf := (HQ0.out.below HB1.out).other (Co.keepWB (w := w1) (B := w.heap.size + 1) 4 1 0 false) (fun q hq e => HR1.out.2 (by simp only [List.mem_singleton] at e; rw [← e]; exact hq))
  exact ret_ans rfl rfl (Co.ansW_set rfl HR1.out.1 4 1 0 false) rfl rfl ⟨rfl, qf, nx_other (Next.of_below HB1.out _) (Nat.le_succ _) (Co.keepWB (w := w1) (B := w.heap.size + 1) 4 1 0 false)⟩
set_option maxRecDepth 100000 in
theorem do_1 {w : World} {base : Nat} {p : Value} {c r : Nat} {L : List Ac} {F : List Nat} {T : Nat} {x : Tx} {G : List Nat} (h : TM w base p c r L F T x G) (a : Wa) (hn : takesX c r x a = true) (hk : a.kind = 1) (t : Int) {x' : Tx} {L' : List Ac} {kk ee vv : Int} {gg : Bool}
    (HIN : ∀ w', Below w.heap.size w w' → Calls Tryz.prog 38 #[.pointer (some ⟨T, 0, none⟩), p, .int .i64 t] w' fun e w'' => e = .returned (anV kk ee vv gg) ∧ ∃ F' G', TM w'' base p c r L' F' T x' G' ∧ Next (G ++ F) (G' ++ F') w' w'') :
    Calls Tryz.prog 14 #[.pointer (some ⟨T, 0, none⟩), p, .int .i64 t, waV a] w fun e w' => e = .returned (anV kk ee vv gg) ∧ ∃ F' G', TM w' base p c r L' F' T x' G' ∧ Next (G ++ F) (G' ++ F') w w' := by
  have HTK : Hid (∀ w', Below w.heap.size w w' → Calls Tryz.prog 37 #[.pointer (some ⟨T, 0, none⟩), p, waV a] w' fun e w'' => e = .returned (.bool true) ∧ Below w'.heap.size w' w'') := fun w' k => by rw [← hn]; exact takesT (h.below k) a
  have HQ0 : Hid (TM w base p c r L F T x G) := h
  obtain ⟨M, rfl⟩ := h.mem.ptr
  have hlt := h.lt
  have HLT : Hid (∀ q ∈ G ++ F, q < w.heap.size) := fun q hq => (hlt q hq).2
  clear h hlt hn
  obtain ⟨kd, cl, va, co⟩ := a
  unfold waV anV at *
  simp only at hk
  subst hk
  obtain ⟨w0, hw0⟩ : ∃ w0, w0 = (w.alloc (.cells #[.int .i64 1, .int .i64 cl, .int .i64 va, .int .i64 co] 58)).alloc (.cells #[.int .i64 0, .int .i64 0, .int .i64 0, .bool false] 64) := ⟨_, rfl⟩
  have HB0 : Hid (Below w.heap.size w w0) := by rw [hw0]; exact below_then (below_a1 _ _) (below_a1 _ _)
  have HW0 : Hid (w0.heap[w.heap.size]? = some (.cells #[.int .i64 1, .int .i64 cl, .int .i64 va, .int .i64 co] 58 (0, 0))) := by rw [hw0]; exact row_on (heap_alloc_new _ _) (below_a1 _ _)
  have HR0 : Hid (w0.heap[w.heap.size + 1]? = some (.cells #[.int .i64 0, .int .i64 0, .int .i64 0, .bool false] 64 (0, 0)) ∧ w.heap.size + 1 ∉ G ++ F) := ⟨by rw [hw0]; exact heap_alloc2_new w _ _, fun e => by have := HLT.out _ e; omega⟩
  go_enter Tryz.func14, Tryz.ntmps14
  go_wp2_with fail
  rw [← hw0]
  clear hw0
  refine (HTK.out _ HB0.out).mono ?_
  rintro e w1 ⟨rfl, hb1⟩
  have HB1 : Hid (Below w.heap.size w w1) := below_then HB0.out hb1
  have HW1 : Hid (w1.heap[w.heap.size]? = some (.cells #[.int .i64 1, .int .i64 cl, .int .i64 va, .int .i64 co] 58 (0, 0))) := row_on HW0.out hb1
  have HR1 : Hid (w1.heap[w.heap.size + 1]? = some (.cells #[.int .i64 0, .int .i64 0, .int .i64 0, .bool false] 64 (0, 0)) ∧ w.heap.size + 1 ∉ G ++ F) := ⟨row_on HR0.out.1 hb1, HR0.out.2⟩
  have k0 : w1.cell? ⟨w.heap.size, 0, none⟩ = some (.int .i64 1) := by rw [cell_at HW1.out]; rfl
  have k1 : w1.cell? ⟨w.heap.size, 1, none⟩ = some (.int .i64 cl) := by rw [cell_at HW1.out]; rfl
  have k2 : w1.cell? ⟨w.heap.size, 2, none⟩ = some (.int .i64 va) := by rw [cell_at HW1.out]; rfl
  have k3 : w1.cell? ⟨w.heap.size, 3, none⟩ = some (.int .i64 co) := by rw [cell_at HW1.out]; rfl
  have hW1 := heap_lt HW1.out
  clear hb1
  go_wp2_with fail
  refine (HIN _ HB1.out).mono ?_
  rintro e w2 ⟨rfl, F2, G2, q2, n2⟩
  have HQ2 : Hid (TM w2 base (.pointer (some ⟨M, 0, none⟩)) c r L' F2 T x' G2) := q2
  have HR2 : Hid (w2.heap[w.heap.size + 1]? = some (.cells #[.int .i64 0, .int .i64 0, .int .i64 0, .bool false] 64 (0, 0)) ∧ w.heap.size + 1 ∉ G2 ++ F2) := row_next0 HR1.out.1 HR1.out.2 n2
  have HN2 : Hid (Next (G ++ F) (G2 ++ F2) w w2) := (Next.of_below HB1.out _).trans n2
  clear q2 n2 k0 k1 k2 k3
  obtain ⟨⟨a0, a1, a2, a3⟩, g0, g1, g2, g3⟩ := ans_cells HR2.out.1
  have hBa := heap_lt HR2.out.1
  go_wp2
  have qf := HQ2.out.other (Co.keepWB (w := w2) (B := w.heap.size + 1) kk ee vv gg) (fun q hq e => HR2.out.2 (by simp only [List.mem_singleton] at e; rw [← e]; exact hq))
  exact ret_ans rfl rfl (Co.ansW_set rfl HR2.out.1 kk ee vv gg) rfl rfl ⟨rfl, F2, G2, qf, nx_other HN2.out (Nat.le_succ _) (Co.keepWB (w := w2) (B := w.heap.size + 1) kk ee vv gg)⟩
set_option maxRecDepth 100000 in
theorem do_2 {w : World} {base : Nat} {p : Value} {c r : Nat} {L : List Ac} {F : List Nat} {T : Nat} {x : Tx} {G : List Nat} (h : TM w base p c r L F T x G) (a : Wa) (hn : takesX c r x a = true) (hk : a.kind = 2) (t : Int) {x' : Tx} {L' : List Ac} {kk ee vv : Int} {gg : Bool}
    (HIN : ∀ w', Below w.heap.size w w' → Calls Tryz.prog 39 #[.pointer (some ⟨T, 0, none⟩), p, .int .i64 t, .int .i64 a.cell] w' fun e w'' => e = .returned (anV kk ee vv gg) ∧ ∃ F' G', TM w'' base p c r L' F' T x' G' ∧ Next (G ++ F) (G' ++ F') w' w'') :
    Calls Tryz.prog 14 #[.pointer (some ⟨T, 0, none⟩), p, .int .i64 t, waV a] w fun e w' => e = .returned (anV kk ee vv gg) ∧ ∃ F' G', TM w' base p c r L' F' T x' G' ∧ Next (G ++ F) (G' ++ F') w w' := by
  have HTK : Hid (∀ w', Below w.heap.size w w' → Calls Tryz.prog 37 #[.pointer (some ⟨T, 0, none⟩), p, waV a] w' fun e w'' => e = .returned (.bool true) ∧ Below w'.heap.size w' w'') := fun w' k => by rw [← hn]; exact takesT (h.below k) a
  have HQ0 : Hid (TM w base p c r L F T x G) := h
  obtain ⟨M, rfl⟩ := h.mem.ptr
  have hlt := h.lt
  have HLT : Hid (∀ q ∈ G ++ F, q < w.heap.size) := fun q hq => (hlt q hq).2
  clear h hlt hn
  obtain ⟨kd, cl, va, co⟩ := a
  unfold waV anV at *
  simp only at hk
  subst hk
  obtain ⟨w0, hw0⟩ : ∃ w0, w0 = (w.alloc (.cells #[.int .i64 2, .int .i64 cl, .int .i64 va, .int .i64 co] 58)).alloc (.cells #[.int .i64 0, .int .i64 0, .int .i64 0, .bool false] 64) := ⟨_, rfl⟩
  have HB0 : Hid (Below w.heap.size w w0) := by rw [hw0]; exact below_then (below_a1 _ _) (below_a1 _ _)
  have HW0 : Hid (w0.heap[w.heap.size]? = some (.cells #[.int .i64 2, .int .i64 cl, .int .i64 va, .int .i64 co] 58 (0, 0))) := by rw [hw0]; exact row_on (heap_alloc_new _ _) (below_a1 _ _)
  have HR0 : Hid (w0.heap[w.heap.size + 1]? = some (.cells #[.int .i64 0, .int .i64 0, .int .i64 0, .bool false] 64 (0, 0)) ∧ w.heap.size + 1 ∉ G ++ F) := ⟨by rw [hw0]; exact heap_alloc2_new w _ _, fun e => by have := HLT.out _ e; omega⟩
  go_enter Tryz.func14, Tryz.ntmps14
  go_wp2_with fail
  rw [← hw0]
  clear hw0
  refine (HTK.out _ HB0.out).mono ?_
  rintro e w1 ⟨rfl, hb1⟩
  have HB1 : Hid (Below w.heap.size w w1) := below_then HB0.out hb1
  have HW1 : Hid (w1.heap[w.heap.size]? = some (.cells #[.int .i64 2, .int .i64 cl, .int .i64 va, .int .i64 co] 58 (0, 0))) := row_on HW0.out hb1
  have HR1 : Hid (w1.heap[w.heap.size + 1]? = some (.cells #[.int .i64 0, .int .i64 0, .int .i64 0, .bool false] 64 (0, 0)) ∧ w.heap.size + 1 ∉ G ++ F) := ⟨row_on HR0.out.1 hb1, HR0.out.2⟩
  have k0 : w1.cell? ⟨w.heap.size, 0, none⟩ = some (.int .i64 2) := by rw [cell_at HW1.out]; rfl
  have k1 : w1.cell? ⟨w.heap.size, 1, none⟩ = some (.int .i64 cl) := by rw [cell_at HW1.out]; rfl
  have k2 : w1.cell? ⟨w.heap.size, 2, none⟩ = some (.int .i64 va) := by rw [cell_at HW1.out]; rfl
  have k3 : w1.cell? ⟨w.heap.size, 3, none⟩ = some (.int .i64 co) := by rw [cell_at HW1.out]; rfl
  have hW1 := heap_lt HW1.out
  clear hb1
  go_wp2_with fail
  refine (HIN _ HB1.out).mono ?_
  rintro e w2 ⟨rfl, F2, G2, q2, n2⟩
  have HQ2 : Hid (TM w2 base (.pointer (some ⟨M, 0, none⟩)) c r L' F2 T x' G2) := q2
  have HR2 : Hid (w2.heap[w.heap.size + 1]? = some (.cells #[.int .i64 0, .int .i64 0, .int .i64 0, .bool false] 64 (0, 0)) ∧ w.heap.size + 1 ∉ G2 ++ F2) := row_next0 HR1.out.1 HR1.out.2 n2
  have HN2 : Hid (Next (G ++ F) (G2 ++ F2) w w2) := (Next.of_below HB1.out _).trans n2
  clear q2 n2 k0 k1 k2 k3
  obtain ⟨⟨a0, a1, a2, a3⟩, g0, g1, g2, g3⟩ := ans_cells HR2.out.1
  have hBa := heap_lt HR2.out.1
  go_wp2
  have qf := HQ2.out.other (Co.keepWB (w := w2) (B := w.heap.size + 1) kk ee vv gg) (fun q hq e => HR2.out.2 (by simp only [List.mem_singleton] at e; rw [← e]; exact hq))
  exact ret_ans rfl rfl (Co.ansW_set rfl HR2.out.1 kk ee vv gg) rfl rfl ⟨rfl, F2, G2, qf, nx_other HN2.out (Nat.le_succ _) (Co.keepWB (w := w2) (B := w.heap.size + 1) kk ee vv gg)⟩
set_option maxRecDepth 100000 in
theorem do_3 {w : World} {base : Nat} {p : Value} {c r : Nat} {L : List Ac} {F : List Nat} {T : Nat} {x : Tx} {G : List Nat} (h : TM w base p c r L F T x G) (a : Wa) (hn : takesX c r x a = true) (hk : a.kind = 3) (t : Int) {x' : Tx} {L' : List Ac} {kk ee vv : Int} {gg : Bool}
    (HIN : ∀ w', Below w.heap.size w w' → Calls Tryz.prog 40 #[.pointer (some ⟨T, 0, none⟩), .int .i64 a.cell, .int .i64 a.value] w' fun e w'' => e = .returned (anV kk ee vv gg) ∧ ∃ F' G', TM w'' base p c r L' F' T x' G' ∧ Next (G ++ F) (G' ++ F') w' w'') :
    Calls Tryz.prog 14 #[.pointer (some ⟨T, 0, none⟩), p, .int .i64 t, waV a] w fun e w' => e = .returned (anV kk ee vv gg) ∧ ∃ F' G', TM w' base p c r L' F' T x' G' ∧ Next (G ++ F) (G' ++ F') w w' := by
  have HTK : Hid (∀ w', Below w.heap.size w w' → Calls Tryz.prog 37 #[.pointer (some ⟨T, 0, none⟩), p, waV a] w' fun e w'' => e = .returned (.bool true) ∧ Below w'.heap.size w' w'') := fun w' k => by rw [← hn]; exact takesT (h.below k) a
  have HQ0 : Hid (TM w base p c r L F T x G) := h
  obtain ⟨M, rfl⟩ := h.mem.ptr
  have hlt := h.lt
  have HLT : Hid (∀ q ∈ G ++ F, q < w.heap.size) := fun q hq => (hlt q hq).2
  clear h hlt hn
  obtain ⟨kd, cl, va, co⟩ := a
  unfold waV anV at *
  simp only at hk
  subst hk
  obtain ⟨w0, hw0⟩ : ∃ w0, w0 = (w.alloc (.cells #[.int .i64 3, .int .i64 cl, .int .i64 va, .int .i64 co] 58)).alloc (.cells #[.int .i64 0, .int .i64 0, .int .i64 0, .bool false] 64) := ⟨_, rfl⟩
  have HB0 : Hid (Below w.heap.size w w0) := by rw [hw0]; exact below_then (below_a1 _ _) (below_a1 _ _)
  have HW0 : Hid (w0.heap[w.heap.size]? = some (.cells #[.int .i64 3, .int .i64 cl, .int .i64 va, .int .i64 co] 58 (0, 0))) := by rw [hw0]; exact row_on (heap_alloc_new _ _) (below_a1 _ _)
  have HR0 : Hid (w0.heap[w.heap.size + 1]? = some (.cells #[.int .i64 0, .int .i64 0, .int .i64 0, .bool false] 64 (0, 0)) ∧ w.heap.size + 1 ∉ G ++ F) := ⟨by rw [hw0]; exact heap_alloc2_new w _ _, fun e => by have := HLT.out _ e; omega⟩
  go_enter Tryz.func14, Tryz.ntmps14
  go_wp2_with fail
  rw [← hw0]
  clear hw0
  refine (HTK.out _ HB0.out).mono ?_
  rintro e w1 ⟨rfl, hb1⟩
  have HB1 : Hid (Below w.heap.size w w1) := below_then HB0.out hb1
  have HW1 : Hid (w1.heap[w.heap.size]? = some (.cells #[.int .i64 3, .int .i64 cl, .int .i64 va, .int .i64 co] 58 (0, 0))) := row_on HW0.out hb1
  have HR1 : Hid (w1.heap[w.heap.size + 1]? = some (.cells #[.int .i64 0, .int .i64 0, .int .i64 0, .bool false] 64 (0, 0)) ∧ w.heap.size + 1 ∉ G ++ F) := ⟨row_on HR0.out.1 hb1, HR0.out.2⟩
  have k0 : w1.cell? ⟨w.heap.size, 0, none⟩ = some (.int .i64 3) := by rw [cell_at HW1.out]; rfl
  have k1 : w1.cell? ⟨w.heap.size, 1, none⟩ = some (.int .i64 cl) := by rw [cell_at HW1.out]; rfl
  have k2 : w1.cell? ⟨w.heap.size, 2, none⟩ = some (.int .i64 va) := by rw [cell_at HW1.out]; rfl
  have k3 : w1.cell? ⟨w.heap.size, 3, none⟩ = some (.int .i64 co) := by rw [cell_at HW1.out]; rfl
  have hW1 := heap_lt HW1.out
  clear hb1
  go_wp2_with fail
  refine (HIN _ HB1.out).mono ?_
  rintro e w2 ⟨rfl, F2, G2, q2, n2⟩
  have HQ2 : Hid (TM w2 base (.pointer (some ⟨M, 0, none⟩)) c r L' F2 T x' G2) := q2
  have HR2 : Hid (w2.heap[w.heap.size + 1]? = some (.cells #[.int .i64 0, .int .i64 0, .int .i64 0, .bool false] 64 (0, 0)) ∧ w.heap.size + 1 ∉ G2 ++ F2) := row_next0 HR1.out.1 HR1.out.2 n2
  have HN2 : Hid (Next (G ++ F) (G2 ++ F2) w w2) := (Next.of_below HB1.out _).trans n2
  clear q2 n2 k0 k1 k2 k3
  obtain ⟨⟨a0, a1, a2, a3⟩, g0, g1, g2, g3⟩ := ans_cells HR2.out.1
  have hBa := heap_lt HR2.out.1
  go_wp2
  have qf := HQ2.out.other (Co.keepWB (w := w2) (B := w.heap.size + 1) kk ee vv gg) (fun q hq e => HR2.out.2 (by simp only [List.mem_singleton] at e; rw [← e]; exact hq))
  exact ret_ans rfl rfl (Co.ansW_set rfl HR2.out.1 kk ee vv gg) rfl rfl ⟨rfl, F2, G2, qf, nx_other HN2.out (Nat.le_succ _) (Co.keepWB (w := w2) (B := w.heap.size + 1) kk ee vv gg)⟩
set_option maxRecDepth 100000 in
theorem do_4 {w : World} {base : Nat} {p : Value} {c r : Nat} {L : List Ac} {F : List Nat} {T : Nat} {x : Tx} {G : List Nat} (h : TM w base p c r L F T x G) (a : Wa) (hn : takesX c r x a = true) (hk : a.kind = 4) (t : Int) {x' : Tx} {L' : List Ac} {kk ee vv : Int} {gg : Bool}
    (HIN : ∀ w', Below w.heap.size w w' → Calls Tryz.prog 41 #[.pointer (some ⟨T, 0, none⟩), p, .int .i64 t] w' fun e w'' => e = .returned (anV kk ee vv gg) ∧ ∃ F' G', TM w'' base p c r L' F' T x' G' ∧ Next (G ++ F) (G' ++ F') w' w'') :
    Calls Tryz.prog 14 #[.pointer (some ⟨T, 0, none⟩), p, .int .i64 t, waV a] w fun e w' => e = .returned (anV kk ee vv gg) ∧ ∃ F' G', TM w' base p c r L' F' T x' G' ∧ Next (G ++ F) (G' ++ F') w w' := by
  have HTK : Hid (∀ w', Below w.heap.size w w' → Calls Tryz.prog 37 #[.pointer (some ⟨T, 0, none⟩), p, waV a] w' fun e w'' => e = .returned (.bool true) ∧ Below w'.heap.size w' w'') := fun w' k => by rw [← hn]; exact takesT (h.below k) a
  have HQ0 : Hid (TM w base p c r L F T x G) := h
  obtain ⟨M, rfl⟩ := h.mem.ptr
  have hlt := h.lt
  have HLT : Hid (∀ q ∈ G ++ F, q < w.heap.size) := fun q hq => (hlt q hq).2
  clear h hlt hn
  obtain ⟨kd, cl, va, co⟩ := a
  unfold waV anV at *
  simp only at hk
  subst hk
  obtain ⟨w0, hw0⟩ : ∃ w0, w0 = (w.alloc (.cells #[.int .i64 4, .int .i64 cl, .int .i64 va, .int .i64 co] 58)).alloc (.cells #[.int .i64 0, .int .i64 0, .int .i64 0, .bool false] 64) := ⟨_, rfl⟩
  have HB0 : Hid (Below w.heap.size w w0) := by rw [hw0]; exact below_then (below_a1 _ _) (below_a1 _ _)
  have HW0 : Hid (w0.heap[w.heap.size]? = some (.cells #[.int .i64 4, .int .i64 cl, .int .i64 va, .int .i64 co] 58 (0, 0))) := by rw [hw0]; exact row_on (heap_alloc_new _ _) (below_a1 _ _)
  have HR0 : Hid (w0.heap[w.heap.size + 1]? = some (.cells #[.int .i64 0, .int .i64 0, .int .i64 0, .bool false] 64 (0, 0)) ∧ w.heap.size + 1 ∉ G ++ F) := ⟨by rw [hw0]; exact heap_alloc2_new w _ _, fun e => by have := HLT.out _ e; omega⟩
  go_enter Tryz.func14, Tryz.ntmps14
  go_wp2_with fail
  rw [← hw0]
  clear hw0
  refine (HTK.out _ HB0.out).mono ?_
  rintro e w1 ⟨rfl, hb1⟩
  have HB1 : Hid (Below w.heap.size w w1) := below_then HB0.out hb1
  have HW1 : Hid (w1.heap[w.heap.size]? = some (.cells #[.int .i64 4, .int .i64 cl, .int .i64 va, .int .i64 co] 58 (0, 0))) := row_on HW0.out hb1
  have HR1 : Hid (w1.heap[w.heap.size + 1]? = some (.cells #[.int .i64 0, .int .i64 0, .int .i64 0, .bool false] 64 (0, 0)) ∧ w.heap.size + 1 ∉ G ++ F) := ⟨row_on HR0.out.1 hb1, HR0.out.2⟩
  have k0 : w1.cell? ⟨w.heap.size, 0, none⟩ = some (.int .i64 4) := by rw [cell_at HW1.out]; rfl
  have k1 : w1.cell? ⟨w.heap.size, 1, none⟩ = some (.int .i64 cl) := by rw [cell_at HW1.out]; rfl
  have k2 : w1.cell? ⟨w.heap.size, 2, none⟩ = some (.int .i64 va) := by rw [cell_at HW1.out]; rfl
  have k3 : w1.cell? ⟨w.heap.size, 3, none⟩ = some (.int .i64 co) := by rw [cell_at HW1.out]; rfl
  have hW1 := heap_lt HW1.out
  clear hb1
  go_wp2_with fail
  refine (HIN _ HB1.out).mono ?_
  rintro e w2 ⟨rfl, F2, G2, q2, n2⟩
  have HQ2 : Hid (TM w2 base (.pointer (some ⟨M, 0, none⟩)) c r L' F2 T x' G2) := q2
  have HR2 : Hid (w2.heap[w.heap.size + 1]? = some (.cells #[.int .i64 0, .int .i64 0, .int .i64 0, .bool false] 64 (0, 0)) ∧ w.heap.size + 1 ∉ G2 ++ F2) := row_next0 HR1.out.1 HR1.out.2 n2
  have HN2 : Hid (Next (G ++ F) (G2 ++ F2) w w2) := (Next.of_below HB1.out _).trans n2
  clear q2 n2 k0 k1 k2 k3
  obtain ⟨⟨a0, a1, a2, a3⟩, g0, g1, g2, g3⟩ := ans_cells HR2.out.1
  have hBa := heap_lt HR2.out.1
  go_wp2
  have qf := HQ2.out.other (Co.keepWB (w := w2) (B := w.heap.size + 1) kk ee vv gg) (fun q hq e => HR2.out.2 (by simp only [List.mem_singleton] at e; rw [← e]; exact hq))
  exact ret_ans rfl rfl (Co.ansW_set rfl HR2.out.1 kk ee vv gg) rfl rfl ⟨rfl, F2, G2, qf, nx_other HN2.out (Nat.le_succ _) (Co.keepWB (w := w2) (B := w.heap.size + 1) kk ee vv gg)⟩
set_option maxRecDepth 100000 in
theorem do_5 {w : World} {base : Nat} {p : Value} {c r : Nat} {L : List Ac} {F : List Nat} {T : Nat} {x : Tx} {G : List Nat} (h : TM w base p c r L F T x G) (a : Wa) (hn : takesX c r x a = true) (hk : a.kind ≠ 1 ∧ a.kind ≠ 2 ∧ a.kind ≠ 3 ∧ a.kind ≠ 4) (t : Int) {x' : Tx} {L' : List Ac} {kk ee vv : Int} {gg : Bool}
    (HIN : ∀ w', Below w.heap.size w w' → Calls Tryz.prog 42 #[.pointer (some ⟨T, 0, none⟩), .int .i64 a.code] w' fun e w'' => e = .returned (anV kk ee vv gg) ∧ ∃ F' G', TM w'' base p c r L' F' T x' G' ∧ Next (G ++ F) (G' ++ F') w' w'') :
    Calls Tryz.prog 14 #[.pointer (some ⟨T, 0, none⟩), p, .int .i64 t, waV a] w fun e w' => e = .returned (anV kk ee vv gg) ∧ ∃ F' G', TM w' base p c r L' F' T x' G' ∧ Next (G ++ F) (G' ++ F') w w' := by
  have HTK : Hid (∀ w', Below w.heap.size w w' → Calls Tryz.prog 37 #[.pointer (some ⟨T, 0, none⟩), p, waV a] w' fun e w'' => e = .returned (.bool true) ∧ Below w'.heap.size w' w'') := fun w' k => by rw [← hn]; exact takesT (h.below k) a
  have HQ0 : Hid (TM w base p c r L F T x G) := h
  obtain ⟨M, rfl⟩ := h.mem.ptr
  have hlt := h.lt
  have HLT : Hid (∀ q ∈ G ++ F, q < w.heap.size) := fun q hq => (hlt q hq).2
  clear h hlt hn
  obtain ⟨kd, cl, va, co⟩ := a
  unfold waV anV at *
  simp only at hk
  have d1 : (kd == 1) = false := by simp; omega
  have d2 : (kd == 2) = false := by simp; omega
  have d3 : (kd == 3) = false := by simp; omega
  have d4 : (kd == 4) = false := by simp; omega
  obtain ⟨w0, hw0⟩ : ∃ w0, w0 = (w.alloc (.cells #[.int .i64 kd, .int .i64 cl, .int .i64 va, .int .i64 co] 58)).alloc (.cells #[.int .i64 0, .int .i64 0, .int .i64 0, .bool false] 64) := ⟨_, rfl⟩
  have HB0 : Hid (Below w.heap.size w w0) := by rw [hw0]; exact below_then (below_a1 _ _) (below_a1 _ _)
  have HW0 : Hid (w0.heap[w.heap.size]? = some (.cells #[.int .i64 kd, .int .i64 cl, .int .i64 va, .int .i64 co] 58 (0, 0))) := by rw [hw0]; exact row_on (heap_alloc_new _ _) (below_a1 _ _)
  have HR0 : Hid (w0.heap[w.heap.size + 1]? = some (.cells #[.int .i64 0, .int .i64 0, .int .i64 0, .bool false] 64 (0, 0)) ∧ w.heap.size + 1 ∉ G ++ F) := ⟨by rw [hw0]; exact heap_alloc2_new w _ _, fun e => by have := HLT.out _ e; omega⟩
  go_enter Tryz.func14, Tryz.ntmps14
  go_wp2_with fail
  rw [← hw0]
  clear hw0
  refine (HTK.out _ HB0.out).mono ?_
  rintro e w1 ⟨rfl, hb1⟩
  have HB1 : Hid (Below w.heap.size w w1) := below_then HB0.out hb1
  have HW1 : Hid (w1.heap[w.heap.size]? = some (.cells #[.int .i64 kd, .int .i64 cl, .int .i64 va, .int .i64 co] 58 (0, 0))) := row_on HW0.out hb1
  have HR1 : Hid (w1.heap[w.heap.size + 1]? = some (.cells #[.int .i64 0, .int .i64 0, .int .i64 0, .bool false] 64 (0, 0)) ∧ w.heap.size + 1 ∉ G ++ F) := ⟨row_on HR0.out.1 hb1, HR0.out.2⟩
  have k0 : w1.cell? ⟨w.heap.size, 0, none⟩ = some (.int .i64 kd) := by rw [cell_at HW1.out]; rfl
  have k1 : w1.cell? ⟨w.heap.size, 1, none⟩ = some (.int .i64 cl) := by rw [cell_at HW1.out]; rfl
  have k2 : w1.cell? ⟨w.heap.size, 2, none⟩ = some (.int .i64 va) := by rw [cell_at HW1.out]; rfl
  have k3 : w1.cell? ⟨w.heap.size, 3, none⟩ = some (.int .i64 co) := by rw [cell_at HW1.out]; rfl
  have hW1 := heap_lt HW1.out
  clear hb1
  go_wp2_with fail
  refine (HIN _ HB1.out).mono ?_
  rintro e w2 ⟨rfl, F2, G2, q2, n2⟩
  have HQ2 : Hid (TM w2 base (.pointer (some ⟨M, 0, none⟩)) c r L' F2 T x' G2) := q2
  have HR2 : Hid (w2.heap[w.heap.size + 1]? = some (.cells #[.int .i64 0, .int .i64 0, .int .i64 0, .bool false] 64 (0, 0)) ∧ w.heap.size + 1 ∉ G2 ++ F2) := row_next0 HR1.out.1 HR1.out.2 n2
  have HN2 : Hid (Next (G ++ F) (G2 ++ F2) w w2) := (Next.of_below HB1.out _).trans n2
  clear q2 n2 k0 k1 k2 k3
  obtain ⟨⟨a0, a1, a2, a3⟩, g0, g1, g2, g3⟩ := ans_cells HR2.out.1
  have hBa := heap_lt HR2.out.1
  go_wp2
  have qf := HQ2.out.other (Co.keepWB (w := w2) (B := w.heap.size + 1) kk ee vv gg) (fun q hq e => HR2.out.2 (by simp only [List.mem_singleton] at e; rw [← e]; exact hq))
  exact ret_ans rfl rfl (Co.ansW_set rfl HR2.out.1 kk ee vv gg) rfl rfl ⟨rfl, F2, G2, qf, nx_other HN2.out (Nat.le_succ _) (Co.keepWB (w := w2) (B := w.heap.size + 1) kk ee vv gg)⟩
theorem takes_iff {c r : Nat} {x : Tx} {a : Wa} (h : takesX c r x a = true) : r = x.s ∧ (a.kind = 1 → x.phase = 0) ∧ (a.kind = 2 ∨ a.kind = 3 → x.phase = 2 ∧ 0 ≤ a.cell ∧ a.cell < (c : Int)) ∧ (a.kind = 4 → x.phase = 2) ∧ (a.kind ≠ 1 → a.kind ≠ 2 → a.kind ≠ 3 → a.kind ≠ 4 → a.kind = 5 ∧ x.phase = 2 ∧ (a.code = 8 ∨ a.code = 7)) := by
  unfold takesX at h
  simp only [Bool.and_eq_true, decide_eq_true_eq] at h
  obtain ⟨h1, h2⟩ := h
  refine ⟨h1, fun e => ?_, fun e => ?_, fun e => ?_, fun e1 e2 e3 e4 => ?_⟩
  · rw [if_pos e] at h2; simpa using h2
  · rw [if_neg (by omega), if_pos e] at h2
    simp only [Bool.and_eq_true, decide_eq_true_eq] at h2
    exact ⟨h2.1.1, h2.1.2, h2.2⟩
  · rw [if_neg (by omega), if_neg (by omega), if_pos e] at h2; simpa using h2
  · rw [if_neg e1, if_neg (by omega), if_neg e4] at h2
    split at h2
    · next e5 =>
      simp only [Bool.and_eq_true, Bool.or_eq_true, decide_eq_true_eq] at h2
      exact ⟨e5, h2⟩
    · simp at h2
theorem do_any {w : World} {base : Nat} {p : Value} {c r : Nat} {L : List Ac} {F : List Nat} {T : Nat} {x : Tx} {G : List Nat} (h : TM w base p c r L F T x G) (hb : base ≤ w.heap.size) (hL : L.length < 3298534883328) (hE : x.ev.length + 1 < 1073741824) (hx : XOk x) (hd : Wd L) (hc : c ≤ 1024) (a : Wa) (t : Int) :
    Calls Tryz.prog 14 #[.pointer (some ⟨T, 0, none⟩), p, .int .i64 t, waV a] w fun e w' => e = .returned (anV (doX c r x L t a).k (doX c r x L t a).e (doX c r x L t a).v (doX c r x L t a).y) ∧ ∃ F' G', TM w' base p c r (doX c r x L t a).L F' T (doX c r x L t a).x G' ∧ Next (G ++ F) (G' ++ F') w w' := by
  unfold doX
  cases hn : takesX c r x a
  · rw [if_neg (by decide)]
    refine (do_no h a hn t).mono ?_
    rintro e w' ⟨rfl, h1, h2⟩
    exact ⟨rfl, F, G, h1, h2⟩
  · rw [if_pos rfl]
    obtain ⟨hr, t1, t2, t4, t5⟩ := takes_iff hn
    by_cases k1 : a.kind = 1
    · rw [if_pos k1]
      exact do_1 h a hn k1 t (fun w' k => open_any (h.below k) (Nat.le_trans hb k.size) hL hE hx.s1 hx.s16 (xok_open hx (t1 k1)) hd t)
    · rw [if_neg k1]
      by_cases k2 : a.kind = 2
      · rw [if_pos k2]
        obtain ⟨p2, c0, c1⟩ := t2 (Or.inl k2)
        cases hy : Tl.getY x.tb a.cell
        · rw [if_neg (by decide)]
          exact do_2 h a hn k2 t (fun w' k => readF_any (h.below k) (Nat.le_trans hb k.size) hL (by omega) hx.s1 hx.s16 hx.z0 hx.z1 hd c0 (by omega) (xok_read hx p2 c0 (by omega)) hy t)
        · rw [if_pos rfl]
          refine do_2 h a hn k2 t (fun w' k => (readO_any (h.below k) (Nat.le_trans hb k.size) (by omega) hy t).mono ?_)
          rintro e w'' ⟨rfl, G', h1, h2⟩
          exact ⟨rfl, F, G', h1, h2⟩
      · rw [if_neg k2]
        by_cases k3 : a.kind = 3
        · rw [if_pos k3]
          by_cases h5 : Tl.writeE x.tb a.cell = 5
          · rw [if_pos h5]
            have hp : Tl.put x.tb a.cell a.value = x.tb := put_same h5
            refine do_3 h a hn k3 t (fun w' k => (wrote_any (h.below k) (Nat.le_trans hb k.size) (by omega) a.cell a.value).mono ?_)
            rintro e w'' ⟨rfl, G', h1, h2⟩
            rw [if_pos h5, hp] at h1
            rw [if_pos h5]
            exact ⟨rfl, F, G', h1, h2⟩
          · rw [if_neg h5]
            refine do_3 h a hn k3 t (fun w' k => (wrote_any (h.below k) (Nat.le_trans hb k.size) (by omega) a.cell a.value).mono ?_)
            rintro e w'' ⟨rfl, G', h1, h2⟩
            rw [if_neg h5] at h1
            rw [if_neg h5]
            exact ⟨rfl, F, G', h1, h2⟩
        · rw [if_neg k3]
          by_cases k4 : a.kind = 4
          · rw [if_pos k4]
            by_cases h0 : x.tb.R.length = 0
            · rw [if_pos h0]
              refine do_4 h a hn k4 t (fun w' k => (commN_any (h.below k) (Nat.le_trans hb k.size) (by omega) h0 t).mono ?_)
              rintro e w'' ⟨rfl, G', h1, h2⟩
              exact ⟨rfl, F, G', h1, h2⟩
            · rw [if_neg h0]
              exact do_4 h a hn k4 t (fun w' k => commF_any (h.below k) (Nat.le_trans hb k.size) hL (by omega) hx.s1 hx.s16 hx.z0 hx.z1 hd hx.n1 hx.n2 (xok_comm hx (t4 k4) h0) h0 t)
          · rw [if_neg k4]
            refine do_5 h a hn ⟨k1, k2, k3, k4⟩ t (fun w' k => (abort_any (h.below k) (Nat.le_trans hb k.size) (by omega) a.code).mono ?_)
            rintro e w'' ⟨rfl, G', h1, h2⟩
            exact ⟨rfl, F, G', h1, h2⟩
theorem xok_do {c r : Nat} {x : Tx} {L : List Ac} {t : Int} {a : Wa} (h : XOk x) (hd : Wd L) (hc : c ≤ 1024) (hv : W64 a.value) : XOk (doX c r x L t a).x ∧ Wd (doX c r x L t a).L ∧ (doX c r x L t a).L.length ≤ L.length + 1 ∧ (doX c r x L t a).x.ev.length ≤ x.ev.length + 2 := by
  unfold doX
  cases hn : takesX c r x a
  · rw [if_neg (by decide)]; exact ⟨h, hd, by simp, by simp⟩
  · rw [if_pos rfl]
    obtain ⟨hr, t1, t2, t4, t5⟩ := takes_iff hn
    have fin : ∀ why, XOk (x.finis why) ∧ Wd L ∧ L.length ≤ L.length + 1 ∧ (x.finis why).ev.length ≤ x.ev.length + 2 := fun why => ⟨xok_fin h _, hd, by omega, by simp [Tx.finis, Tx.reset, Tx.tell]⟩
    by_cases k1 : a.kind = 1
    · rw [if_pos k1]
      obtain ⟨a1, a2, a3, a4⟩ := xok_step (c := c) (r := r) (t := t) (xok_open h (t1 k1)) hd
      exact ⟨a1, a2, a3, by have e1 : (openX x).ev.length = x.ev.length + 1 := (by simp [openX]); omega⟩
    · rw [if_neg k1]
      by_cases k2 : a.kind = 2
      · rw [if_pos k2]
        obtain ⟨p2, c0, c1⟩ := t2 (Or.inl k2)
        cases hy : Tl.getY x.tb a.cell
        · rw [if_neg (by decide)]
          obtain ⟨a1, a2, a3, a4⟩ := xok_step (c := c) (r := r) (t := t) (xok_read h p2 c0 (by omega)) hd
          exact ⟨a1, a2, a3, by have e1 : (readX x a.cell).ev.length = x.ev.length := rfl; omega⟩
        · rw [if_pos rfl]
          exact ⟨xok_tell h _, hd, by simp, by simp [Tx.tell]⟩
      · rw [if_neg k2]
        by_cases k3 : a.kind = 3
        · rw [if_pos k3]
          obtain ⟨p2, c0, c1⟩ := t2 (Or.inr k3)
          by_cases h5 : Tl.writeE x.tb a.cell = 5
          · rw [if_pos h5]; exact fin 5
          · rw [if_neg h5]
            refine ⟨xok_tell (x := { x with tb := Tl.put x.tb a.cell a.value }) (xok_put h p2 hv) _, hd, by simp, by simp [Tx.tell]⟩
        · rw [if_neg k3]
          by_cases k4 : a.kind = 4
          · rw [if_pos k4]
            by_cases h0 : x.tb.R.length = 0
            · rw [if_pos h0]; exact fin 0
            · rw [if_neg h0]
              obtain ⟨a1, a2, a3, a4⟩ := xok_step (c := c) (r := r) (t := t) (xok_comm h (t4 k4) h0) hd
              exact ⟨a1, a2, a3, by have e1 : (commX x).ev.length = x.ev.length := rfl; omega⟩
          · rw [if_neg k4]; exact fin a.code
end Go.Proofs.YtbeaaapkjoegoaaGreat
