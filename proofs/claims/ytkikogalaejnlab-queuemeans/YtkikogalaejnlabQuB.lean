/- The program's queue (layer 16): what a get wants. -/
import Derived.Test.YtkikogalaejnlabQuK
namespace Go.Proofs.Ytkikogalaejnlab.Qu
open Go.ChangeShapes Go.WideShapes Go.ChangeAt Go.RowKit
attribute [local go_sem ↓] Go.wp_at_zero Go.wp_at_succ

/-- A want is handed back, and the machine goes on. -/
def TellsM (w : World) (X : Nat) (F : List Nat) (m : Mc) (x : Wn) (e : Ending) (w' : World) : Prop := ∃ cs, Hid (wnC x = cs) ∧ cs.size = 4 ∧ e = .returned (.agg cs) ∧ McAt w' X F m ∧ Next F F w w'
/-- A machine under way, and the answer's variable. -/
structure Mi (w w2 : World) (X : Nat) (F : List Nat) (m : Mc) : Prop where
  mac : McAt w2 X F m
  row : w2.heap[w.heap.size]? = some (.cells z4 24 (0, 0))
  nx : Next F F w w2
  lt : X < w.heap.size
theorem Mi.first {w : World} {X : Nat} {F : List Nat} {m : Mc} (h : McAt w X F m) : Mi w (w.alloc (.cells z4 24)) X F m := ⟨h.later (below_a1 _ _), heap_alloc_new _ _, Next.of_below (below_a1 _ _) F, heap_lt h.2.1⟩
theorem Mi.on {w w2 w3 : World} {X : Nat} {F : List Nat} {m : Mc} (h : Mi w w2 X F m) (hb : Below w2.heap.size w2 w3) : Mi w w3 X F m := ⟨h.mac.later hb, by rw [hb.block _ (heap_lt h.row)]; exact h.row, h.nx.trans (Next.of_below hb F), h.lt⟩
theorem Mi.go {w w2 w3 : World} {X : Nat} {F : List Nat} {m m' : Mc} (h : Mi w w2 X F m) (hm : McAt w3 X F m') (hn : Next F F w2 w3) : Mi w w3 X F m' := ⟨hm, by rw [hn.1.block _ (heap_lt h.row) (by rw [h.mac.1]; have := h.lt; simp; omega)]; exact h.row, h.nx.trans hn, h.lt⟩
theorem Mi.drawn {w w2 : World} {X : Nat} {F : List Nat} {m : Mc} (h : Mi w w2 X F m) (n : Nat) : Mi w (w2.drewN n) X F m := h.on (below_drawn (Below.refl _ _) _)
theorem Mi.put {w w4 : World} {X : Nat} {F : List Nat} {m : Mc} (h : Mi w w4 X F m) {x : Wn} {cs : Array Value} (hcs : Hid (wnC x = cs)) : ∃ w5, (storeCells ⟨w.heap.size, 0, none⟩ cs.toList 0).run Try.prog w4 = .ok () w5 ∧ McAt w5 X F m ∧ Hid (w5.heap[w.heap.size]? = some (.cells cs 24 (0, 0)) ∧ McAt w5 X F m ∧ Next F F w w5) := by
  have hX := h.lt
  rw [← hcs.out]
  have hm5 : McAt (w4.setRow w.heap.size (wnC x)) X F m := ⟨h.mac.1, by rw [setRow_other _ _ _ _ (by omega)]; exact h.mac.2.1, h.mac.2.2⟩
  refine ⟨w4.setRow w.heap.size (wnC x), store_wn h.row rfl rfl (wnC_one x), hm5, setRow_heap _ _ _ _ _ _ h.row, hm5, ?_, fun b hb => Or.inl hb⟩
  have hk := h.nx.1
  exact ⟨hk.os, hk.tape, hk.output, by rw [setRow_size]; exact hk.size, fun b hb hn => by rw [setRow_other _ _ _ _ (by omega)]; exact hk.block b hb hn⟩
/-- One of the machine's cells becomes another. -/
theorem Mi.fresh {w : World} {X : Nat} {F : List Nat} {m m' : Mc} (h : McAt w X F m) (j : Nat) (v : Int) (hc : (mcC m).setIfInBounds j (.int .i64 v) = mcC m') (ho : OkM m') : Mi w ((w.setCell ⟨X, j, none⟩ (.int .i64 v)).alloc (.cells z4 24)) X F m' := by
  have hs : (w.setCell ⟨X, j, none⟩ (.int .i64 v)).heap.size = w.heap.size := by simp
  have h1 : McAt (w.setCell ⟨X, j, none⟩ (.int .i64 v)) X F m' := ⟨h.1, by rw [heap_set h.2.1, hc], ho⟩
  refine ⟨h1.later (below_a1 _ _), by rw [← hs]; exact heap_alloc_new _ _, ?_, heap_lt h.2.1⟩
  have h2 : Next F F w (w.setCell ⟨X, j, none⟩ (.int .i64 v)) := ⟨(Keep.refl _ _).setCell _ _ (Or.inl (by rw [h.1]; simp)), fun b hb => Or.inl hb⟩
  exact h2.trans (Next.of_below (below_a1 _ _) F)
def noteG (m : Mc) (v : Int) : Mc := if m.len = 0 ∨ m.most = 0 then m else if m.told = 2 then m else if m.told = 3 then { m with val := v } else m
theorem fget_any {w : World} {X : Nat} {F : List Nat} {m : Mc} (h : McAt w X F m) (v : Int) : Calls Try.prog 24 #[.pointer (some ⟨X, 0, none⟩), .int .i64 v] w (TellsM w X F (noteG m v) (getT (noteG m v))) := by
  have HR : Hid (∀ (w : World) (m : Mc) (c : Int), McAt w X F m → 0 ≤ c ∧ c ≤ 100 → Calls Try.prog 22 #[.pointer (some ⟨X, 0, none⟩), .int .i64 c] w (Tells w (readW (m.base + c)))) := fun w m c h hc => (read_any h c hc).mono tells_of
  have HW : Hid (∀ (w : World) (m : Mc) (c v : Int), McAt w X F m → 0 ≤ c ∧ c ≤ 100 → Calls Try.prog 28 #[.pointer (some ⟨X, 0, none⟩), .int .i64 c, .int .i64 v] w (Tells w (putW (m.base + c) v))) := fun w m c v h hc => (write_any h c v hc).mono tells_of
  have HD : Hid (∀ w : World, Calls Try.prog 25 #[.int .i64 m.val] w (Tells w (endW m.val 0))) := fun w => (done_any w _).mono tells_of
  have HF : Hid (∀ w : World, Calls Try.prog 27 #[.int .i64 1] w (Tells w (endW 0 1))) := fun w => (ref_any w 1 (by decide)).mono tells_of
  have HC : Hid (0 < m.most → ∀ w : World, Calls Try.prog 18 #[.int .i64 m.first, .int .i64 0, .int .i64 m.most] w fun e w' => e = .returned (.int .i64 (2 + behV m.first 0 m.most)) ∧ Below w.heap.size w w') := fun hn w => cell_any w _ _ _ ⟨hn, h.2.2.2.1.2⟩
  have HS : Hid (0 < m.most → ∀ w : World, Calls Try.prog 26 #[.int .i64 m.first, .int .i64 1, .int .i64 m.most] w fun e w' => e = .returned (.int .i64 (behV m.first 1 m.most)) ∧ Below w.heap.size w w') := fun hn w => slot_any w _ _ _ ⟨hn, h.2.2.2.1.2⟩
  have HM : Hid (Mi w (w.alloc (.cells z4 24)) X F m) := Mi.first h
  obtain ⟨⟨c0, c1, c2, c3⟩, _, c8, c9, c10⟩ := h.cells
  have hx : X < w.heap.size := heap_lt h.2.1
  obtain ⟨hb, hm, ht1, ht2, ht3⟩ := h.2.2
  by_cases hl : m.len = 0 ∨ m.most = 0
  · have e1 : noteG m v = m := by unfold noteG; rw [if_pos hl]
    have HY : Hid (getT m = endW 0 1) := by unfold getT; rw [if_pos hl]; exact rfl
    rw [e1]
    clear h e1 hb hm ht1 ht2 ht3
    by_cases h0 : m.len = 0
    · rw [h0] at c9
      clear hl h0
      go_enter Try.func24, Try.ntmps24
      go_wp2_with fail
      refine (HF.out _).mono ?_
      rintro e w4 ⟨cs, hcs, hz, rfl, hb4⟩
      obtain ⟨w5, hs5, hm5, hr5⟩ := (HM.out.on hb4).put hcs
      clear hb4 hm5
      go_wp2_with fail
      exact ret_wn rfl rfl hr5.out.1 hz rfl ⟨cs, by rw [Hid, HY.out]; exact hcs, hz, rfl, hr5.out.2⟩
    · have h1 : m.most = 0 := hl.resolve_left h0
      have f0 : (m.len == 0) = false := by simpa using h0
      rw [h1] at c1
      clear hl h0
      go_enter Try.func24, Try.ntmps24
      go_wp2_with fail
      refine (HF.out _).mono ?_
      rintro e w4 ⟨cs, hcs, hz, rfl, hb4⟩
      obtain ⟨w5, hs5, hm5, hr5⟩ := (HM.out.on hb4).put hcs
      clear hb4 hm5
      go_wp2_with fail
      exact ret_wn rfl rfl hr5.out.1 hz rfl ⟨cs, by rw [Hid, HY.out]; exact hcs, hz, rfl, hr5.out.2⟩
  · have f0 : (m.len == 0) = false := by simpa using (fun e => hl (Or.inl e) : ¬ m.len = 0)
    have f1 : (m.most == 0) = false := by simpa using (fun e => hl (Or.inr e) : ¬ m.most = 0)
    have HN : Hid (0 < m.most) := by have : ¬ m.most = 0 := fun e => hl (Or.inr e); exact (by omega : 0 < m.most)
    have HMS : Hid (m.most ≤ 16) := hm.2
    by_cases h2 : m.told = 2
    · have e1 : noteG m v = m := by unfold noteG; rw [if_neg hl, if_pos h2]
      have HY : Hid (getT m = readW (m.base + (2 + behV m.first 0 m.most))) := by unfold getT; rw [if_neg hl, if_pos h2]; exact rfl
      rw [e1]
      rw [h2] at c3
      have HC' := HC.out HN.out
      have HBH : Hid (0 ≤ 2 + behV m.first 0 m.most ∧ 2 + behV m.first 0 m.most ≤ 100) := by have := beh_lt (f := m.first) (k := 0) HN.out; have := HMS.out; exact ⟨by omega, by omega⟩
      generalize 2 + behV m.first 0 m.most = z at *
      clear h e1 hb hm ht1 ht2 ht3 h2 hl HC
      go_enter Try.func24, Try.ntmps24
      go_wp2_with fail
      obtain ⟨w2, hw2⟩ : ∃ w2, w2 = w.alloc (.cells z4 24) := ⟨_, rfl⟩
      have HM2 : Hid (Mi w w2 X F m) := by rw [hw2]; exact HM
      rw [← hw2]
      clear hw2 c0 c1 c2 c3 c8 c9 c10 HM
      obtain ⟨⟨e0, e1, e2, e3⟩, _, e8, e9, e10⟩ := HM2.out.mac.cells
      have hx2 : X < w2.heap.size := heap_lt HM2.out.mac.2.1
      go_region_held3 (fun w' => w'.cell? ⟨X, 1, none⟩ = some (.int .i64 m.most) ∧ w'.cell? ⟨X, 8, none⟩ = some (.int .i64 m.first)) (first | go_keep | exact hS | exact hS5) (first
        | (go_at_call 18; refine (HC' _).mono ?_; rintro e w3 ⟨rfl, hb3⟩; have hM3 : Mi w w3 X F m := HM2.out.on (below_then (bl_drew1 _) hb3); have hS : w3.cell? ⟨X, 1, none⟩ = some (.int .i64 m.most) ∧ w3.cell? ⟨X, 8, none⟩ = some (.int .i64 m.first) := ⟨(hM3.mac).cells.1.2.1, (hM3.mac).cells.2.2.1⟩)
        | (go_at_call 22; refine (HR.out _ m _ hM3.mac HBH.out).mono ?_; rintro e w4 ⟨cs, hcs, hz, rfl, hb4⟩; have hS : w4.cell? ⟨X, 1, none⟩ = some (.int .i64 m.most) ∧ w4.cell? ⟨X, 8, none⟩ = some (.int .i64 m.first) := ⟨((hM3.on hb4).mac).cells.1.2.1, ((hM3.on hb4).mac).cells.2.2.1⟩; obtain ⟨w5, hs5, hm5, hr5⟩ := (hM3.on hb4).put hcs; have hS5 : w5.cell? ⟨X, 1, none⟩ = some (.int .i64 m.most) ∧ w5.cell? ⟨X, 8, none⟩ = some (.int .i64 m.first) := ⟨(hm5).cells.1.2.1, (hm5).cells.2.2.1⟩))
      go_wp2_with fail
      exact ret_wn rfl rfl hr5.out.1 hz rfl ⟨cs, by rw [Hid, HY.out]; exact hcs, hz, rfl, hr5.out.2⟩
    · have f2 : (m.told == 2) = false := by simpa using h2
      by_cases h3 : m.told = 3
      · have e1 : noteG m v = { m with val := v } := by unfold noteG; rw [if_neg hl, if_neg h2, if_pos h3]
        have HY : Hid (getT { m with val := v } = putW (m.base + 0) (behV m.first 1 m.most)) := by
          unfold getT
          rw [if_neg hl, if_neg h2, if_pos h3, Int.add_zero]
          exact rfl
        rw [e1]
        rw [h3] at c3
        have HS' := HS.out HN.out
        have HOK : Hid (OkM { m with val := v }) := ⟨hb, hm, ht1, ht2, ht3⟩
        generalize hmv : ({ m with val := v } : Mc) = mv at *
        have HMV : Hid (mv.most = m.most ∧ mv.first = m.first ∧ mv.base = m.base) := by rw [← hmv]; exact ⟨rfl, rfl, rfl⟩
        have HSC : Hid ((mcC m).setIfInBounds 10 (.int .i64 v) = mcC mv) := by rw [← hmv]; exact rfl
        generalize behV m.first 1 m.most = z at *
        have HMF : Hid (Mi w ((w.setCell ⟨X, 10, none⟩ (.int .i64 v)).alloc (.cells z4 24)) X F mv) := Mi.fresh h 10 v HSC.out HOK.out
        have fz : w.frozen? ⟨X, 10, none⟩ = false := frozen_at h.2.1 10
        clear h e1 hb hm ht1 ht2 ht3 h2 h3 hl HC HS hmv f2
        go_enter Try.func24, Try.ntmps24
        go_wp2_with fail
        obtain ⟨w2, hw2⟩ : ∃ w2, w2 = (w.setCell ⟨X, 10, none⟩ (.int .i64 v)).alloc (.cells z4 24) := ⟨_, rfl⟩
        have HM2 : Hid (Mi w w2 X F mv) := by rw [hw2]; exact HMF.out
        rw [← hw2]
        clear hw2 c0 c1 c2 c3 c8 c9 c10 HM fz HMF
        have e1 : w2.cell? ⟨X, 1, none⟩ = some (.int .i64 m.most) := by rw [← HMV.out.1]; exact HM2.out.mac.cells.1.2.1
        have e8 : w2.cell? ⟨X, 8, none⟩ = some (.int .i64 m.first) := by rw [← HMV.out.2.1]; exact HM2.out.mac.cells.2.2.1
        have hx2 : X < w2.heap.size := heap_lt HM2.out.mac.2.1
        go_region_held3 (fun w' => w'.cell? ⟨X, 1, none⟩ = some (.int .i64 m.most) ∧ w'.cell? ⟨X, 8, none⟩ = some (.int .i64 m.first)) (first | go_keep | exact hS | exact hS5) (first
          | (go_at_call 26; refine (HS' _).mono ?_; rintro e w3 ⟨rfl, hb3⟩; have hM3 : Mi w w3 X F mv := HM2.out.on (below_then (bl_drew1 _) hb3); have hS : w3.cell? ⟨X, 1, none⟩ = some (.int .i64 m.most) ∧ w3.cell? ⟨X, 8, none⟩ = some (.int .i64 m.first) := ⟨by rw [← HMV.out.1]; exact (hM3.mac).cells.1.2.1, by rw [← HMV.out.2.1]; exact (hM3.mac).cells.2.2.1⟩)
          | (go_at_call 28; refine (HW.out _ mv _ _ hM3.mac (by decide)).mono ?_; rintro e w4 ⟨cs, hcs, hz, rfl, hb4⟩; have hS : w4.cell? ⟨X, 1, none⟩ = some (.int .i64 m.most) ∧ w4.cell? ⟨X, 8, none⟩ = some (.int .i64 m.first) := ⟨by rw [← HMV.out.1]; exact ((hM3.on hb4).mac).cells.1.2.1, by rw [← HMV.out.2.1]; exact ((hM3.on hb4).mac).cells.2.2.1⟩; obtain ⟨w5, hs5, hm5, hr5⟩ := (hM3.on hb4).put hcs; have hS5 : w5.cell? ⟨X, 1, none⟩ = some (.int .i64 m.most) ∧ w5.cell? ⟨X, 8, none⟩ = some (.int .i64 m.first) := ⟨by rw [← HMV.out.1]; exact (hm5).cells.1.2.1, by rw [← HMV.out.2.1]; exact (hm5).cells.2.2.1⟩))
        go_wp2_with fail
        exact ret_wn rfl rfl hr5.out.1 hz rfl ⟨cs, by rw [Hid, HY.out, ← HMV.out.2.2]; exact hcs, hz, rfl, hr5.out.2⟩
      · have f3 : (m.told == 3) = false := by simpa using h3
        have e1 : noteG m v = m := by unfold noteG; rw [if_neg hl, if_neg h2, if_neg h3]
        rw [e1]
        by_cases h4 : m.told = 4
        · have HY : Hid (getT m = putW (m.base + 1) (wrap64 (m.len - 1))) := by unfold getT; rw [if_neg hl, if_neg h2, if_neg h3, if_pos h4]; exact rfl
          rw [h4] at c3
          clear h e1 hb hm ht1 ht2 ht3 h2 h3 h4 hl HC f2 f3
          go_enter Try.func24, Try.ntmps24
          go_wp2_with fail
          refine (HW.out _ m _ _ HM.out.mac (by decide)).mono ?_
          rintro e w4 ⟨cs, hcs, hz, rfl, hb4⟩
          obtain ⟨w5, hs5, hm5, hr5⟩ := (HM.out.on hb4).put hcs
          clear hb4 hm5
          go_wp2_with fail
          exact ret_wn rfl rfl hr5.out.1 hz rfl ⟨cs, by rw [Hid, HY.out]; exact hcs, hz, rfl, hr5.out.2⟩
        · have f4 : (m.told == 4) = false := by simpa using h4
          have HY : Hid (getT m = endW m.val 0) := by unfold getT; rw [if_neg hl, if_neg h2, if_neg h3, if_neg h4]; exact rfl
          clear h e1 hb hm ht1 ht2 ht3 h2 h3 h4 hl HC
          go_enter Try.func24, Try.ntmps24
          go_wp2_with fail
          refine (HD.out _).mono ?_
          rintro e w4 ⟨cs, hcs, hz, rfl, hb4⟩
          obtain ⟨w5, hs5, hm5, hr5⟩ := (HM.out.on hb4).put hcs
          clear hb4 hm5
          go_wp2_with fail
          exact ret_wn rfl rfl hr5.out.1 hz rfl ⟨cs, by rw [Hid, HY.out]; exact hcs, hz, rfl, hr5.out.2⟩
end Go.Proofs.Ytkikogalaejnlab.Qu
