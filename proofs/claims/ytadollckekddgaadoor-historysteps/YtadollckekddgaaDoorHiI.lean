/- A read behind a touch; an event is taken. -/
import Derived.Test.YtadollckekddgaaDoorHiG
namespace Go.Proofs.YtadollckekddgaaDoor.Hi
open Go.ChangeShapes Go.WideShapes Go.ChangeAt Go.RowKit
set_option linter.unusedVariables false

theorem heap_alloc2_at {w4 : World} {n : Nat} (h : w4.heap.size = n) (o1 o2 : Obj) : ((w4.alloc o1).alloc o2).heap[n + 1]? = some o2 := by subst h; exact heap_alloc2_new w4 o1 o2
set_option maxRecDepth 100000 in
set_option maxHeartbeats 3200000 in
theorem touch_read {w : World} {B P k : Nat} {p : Pa} {b : Nat → Nat} {V : Nat → Value} {vt vp : Value} (h : PAt w B P k p b V vt vp) (hB : B ≤ w.heap.size) (hkb : k ≤ 925925926000) {i : Nat} (hi : i < p.txs.length) (e : Ev) (hk3 : e.kd = 2) (hs : (nt p.txs i).sg = 1 ∧ 0 ≤ e.cl ∧ e.cl < 1024) :
    Calls Tryd.prog 33 #[ptr (b i), evV e] w (TouchQ w B P k p b V vt vp i { nt p.txs i with sn := max (nt p.txs i).sn e.sn, ac := (nt p.txs i).ac ++ [Ac.mk e.cl e.vl false] }) := by
  obtain ⟨i0, hi0, hz0, hz1, hz2⟩ := info_parts info_acc
  have hx := h.tx i hi
  have hlt := heap_lt hx
  have hlt2 : b i < w.heap.size + 1 := by omega
  have hc6 : w.cell? ⟨b i, 6, none⟩ = some (.int .i64 1) := by rw [cell_at hx]; simp [txC, hs.1]
  have hc7 : w.cell? ⟨b i, 7, none⟩ = some (V i) := by rw [cell_at hx]; simp [txC]
  have hc4 : w.cell? ⟨b i, 4, none⟩ = some (.int .i64 (nt p.txs i).sn) := by rw [cell_at hx]; simp [txC]
  have hf7 := frozen_at hx 7
  have hf4 := frozen_at hx 4
  have hd2 : decide (e.cl < 0) = false := by simpa using hs.2.1
  have hd3 : decide (1024 ≤ e.cl) = false := by simpa using hs.2.2
  have HE : Hid (∀ (w' : World) (v' : Value), w'.heap[b i]? = some (.cells (txC { nt p.txs i with sn := max (nt p.txs i).sn e.sn, ac := (nt p.txs i).ac ++ [Ac.mk e.cl e.vl false] } v') 58 (0, 0)) → Keep (b i :: (V i).ownBlock.toList) w w' → w'.ownsRow B 87 3 v' ((nt p.txs i).ac ++ [Ac.mk e.cl e.vl false]).length (acsC ((nt p.txs i).ac ++ [Ac.mk e.cl e.vl false])) → (v'.ownBlock = (V i).ownBlock ∨ ∃ g, v'.ownBlock = some g ∧ w.heap.size ≤ g) → PAt w' B P (k + 1) (p.upd i { nt p.txs i with sn := max (nt p.txs i).sn e.sn, ac := (nt p.txs i).ac ++ [Ac.mk e.cl e.vl false] }) b (updV V i v') vt vp) :=
    fun w' v' hw hk ho hv => h.setAc hi hw hk ho hv (by omega) (by have := h.bd.2.2.2.2 i hi; simp; omega)
  have HOWN : Hid (w.ownsRow B 87 3 (V i) (nt p.txs i).ac.length (acsC (nt p.txs i).ac)) := h.ac i hi
  have hn : (nt p.txs i).ac.length ≤ 925925926000 := by have := h.bd.2.2.2.2 i hi; omega
  unfold TouchQ
  clear h hi
  obtain ⟨mm, hmm⟩ : ∃ mm, max (nt p.txs i).sn e.sn = mm := ⟨_, rfl⟩
  rw [hmm] at HE ⊢
  generalize p.upd i { nt p.txs i with sn := mm, ac := (nt p.txs i).ac ++ [Ac.mk e.cl e.vl false] } = q at *
  generalize nt p.txs i = t at *
  generalize b i = X at *
  generalize hv : V i = v at *
  obtain ⟨a, th, tx, kd, cl, vl, ow, sr, sn, sp, sg, er⟩ := e
  have HX : Hid (w.heap[X]? = some (.cells (txC t v) 58 (0, 0))) := hx
  obtain ⟨sa, cap, rfl⟩ := own_slice HOWN.out
  have hXv : (Value.slice sa t.ac.length cap).ownBlock ≠ some X := own_ne HOWN.out hx (by decide)
  have hNv : (Value.slice sa t.ac.length cap).ownBlock ≠ some w.heap.size := fun e => by
    have := HOWN.out.lt _ e
    omega
  have hlen : (acsC t.ac).length = t.ac.length * 3 := acsC_len _
  clear hx hs
  generalize hm : t.ac.length = n at *
  generalize hxs : acsC t.ac = xs at *
  have HX4 : Hid ((w.setCell ⟨X, 4, none⟩ (.int .i64 mm)).heap[X]? = some (.cells (txC { t with sn := mm } (.slice sa n cap)) 58 (0, 0))) := by rw [Hid, heap_set HX.out]; simp [txC]
  have HK4 : Hid (Keep [X] w (w.setCell ⟨X, 4, none⟩ (.int .i64 mm))) := (Keep.refl _ _).setCell _ _ (Or.inl (by simp))
  have HOWN4 : Hid ((w.setCell ⟨X, 4, none⟩ (.int .i64 mm)).ownsRow B 87 3 (.slice sa n cap) n xs) := own_keep HOWN.out HK4.out (fun x hx hm => by simp at hm; subst hm; exact hXv hx)
  unfold evV evA ptr
  dsimp only at *
  subst hk3
  have hsp : (t.sn < sn ∧ mm = sn) ∨ (¬ t.sn < sn ∧ mm = t.sn) := by omega
  clear hmm
  rcases hsp with ⟨hle, rfl⟩ | ⟨hle, rfl⟩
  all_goals
    go_enter Tryd.func33, Tryd.ntmps33
    go_wp2_with fail
    go_region
    go_wp2_with fail
  · generalize hw4 : w.setCell ⟨X, 4, none⟩ (.int .i64 mm) = w4 at *
    have hl4 : X < w4.heap.size := heap_lt HX4.out
    have hl42 : X < w4.heap.size + 1 := by omega
    have hsz : w4.heap.size = w.heap.size := by rw [← hw4]; simp [World.setCell]
    have hq7 : w4.cell? ⟨X, 7, none⟩ = some (.slice sa n cap) := by rw [cell_at HX4.out]; simp [txC]
    have hqf7 := frozen_at HX4.out 7
    have hN4 : (Value.slice sa n cap).ownBlock ≠ some w4.heap.size := fun e => by
      have := HOWN4.out.lt _ e
      omega
    have hB4 : B ≤ w4.heap.size := by omega
    go_region_law
      ((refine step_lies_wide _ (by rfl) _ _ _ (by rfl) B 87 i0 _ 3 24 Tryd.underlying56 hi0 hz0 hz1 hz2 rfl (by omega) (.slice sa n cap) n xs (by rfl) ((((HOWN4.out.alloc _).alloc _).drew).drew)
          ⟨w.heap.size + 1, 0, none⟩ 1 1 [.int .i64 cl, .int .i64 vl, .bool false] (by rfl) (by rfl) (World.news_of_block (cs := #[.int .i64 cl, .int .i64 vl, .bool false]) (t := 87) (fr := (0, 0)) (heap_alloc2_at hsz _ _)) (by simp [Value.oneCell'])
          (by omega) (by unfold maxLen; omega) (by omega) (by simp; omega) (w.heap.size + 2) (by simp [hsz]) ?_; intro gg cap' w1 hown1 hgrow hat hlt3; have hs1 : w1.cell? ⟨X, 7, none⟩ = some (.slice sa n cap) := (by rw [hgrow.cell_far _ (by simp; omega) (Ne.symm hXv)]; simp [hl4, hl42, World.cell?_alloc_past, hq7]); have hs2 : w1.frozen? ⟨X, 7, none⟩ = false := (by rw [hgrow.frozen_far _ (by simp; omega) (Ne.symm hXv)]; rw [fr_drew, fr_drew, World.frozen?_alloc_past _ _ _ (by simp; omega), World.frozen?_alloc_past _ _ _ hl4]; exact hqf7)))
    all_goals
      go_wp2
      go_ret
      obtain ⟨e1, e2, e3, e4⟩ := touch_end (t := t) (t' := { t with sn := mm, ac := t.ac ++ [Ac.mk cl vl false] }) (x := Ac.mk cl vl false) HX.out HX4.out HK4.out (by rw [hxs]; exact HOWN4.out) rfl hm (((((Keep.refl [] w4).alloc _).alloc _).drewN 1).drewN 1) (by rw [hxs]; exact hown1) hgrow (by rcases hat with h1 | h1; exact Or.inl h1; exact Or.inr (by omega))
      exact ⟨rfl, ⟨_, HE.out _ _ e1 e2 e3 e4⟩, e2⟩
  · generalize hw4 : w.setCell ⟨X, 4, none⟩ (.int .i64 t.sn) = w4 at *
    have hl4 : X < w4.heap.size := heap_lt HX4.out
    have hl42 : X < w4.heap.size + 1 := by omega
    have hsz : w4.heap.size = w.heap.size := by rw [← hw4]; simp [World.setCell]
    have hq7 : w4.cell? ⟨X, 7, none⟩ = some (.slice sa n cap) := by rw [cell_at HX4.out]; simp [txC]
    have hqf7 := frozen_at HX4.out 7
    have hN4 : (Value.slice sa n cap).ownBlock ≠ some w4.heap.size := fun e => by
      have := HOWN4.out.lt _ e
      omega
    have hB4 : B ≤ w4.heap.size := by omega
    go_region_law
      ((refine step_lies_wide _ (by rfl) _ _ _ (by rfl) B 87 i0 _ 3 24 Tryd.underlying56 hi0 hz0 hz1 hz2 rfl (by omega) (.slice sa n cap) n xs (by rfl) ((((HOWN4.out.alloc _).alloc _).drew).drew)
          ⟨w.heap.size + 1, 0, none⟩ 1 1 [.int .i64 cl, .int .i64 vl, .bool false] (by rfl) (by rfl) (World.news_of_block (cs := #[.int .i64 cl, .int .i64 vl, .bool false]) (t := 87) (fr := (0, 0)) (heap_alloc2_at hsz _ _)) (by simp [Value.oneCell'])
          (by omega) (by unfold maxLen; omega) (by omega) (by simp; omega) (w.heap.size + 2) (by simp [hsz]) ?_; intro gg cap' w1 hown1 hgrow hat hlt3; have hs1 : w1.cell? ⟨X, 7, none⟩ = some (.slice sa n cap) := (by rw [hgrow.cell_far _ (by simp; omega) (Ne.symm hXv)]; simp [hl4, hl42, World.cell?_alloc_past, hq7]); have hs2 : w1.frozen? ⟨X, 7, none⟩ = false := (by rw [hgrow.frozen_far _ (by simp; omega) (Ne.symm hXv)]; rw [fr_drew, fr_drew, World.frozen?_alloc_past _ _ _ (by simp; omega), World.frozen?_alloc_past _ _ _ hl4]; exact hqf7)))
    all_goals
      go_wp2
      go_ret
      obtain ⟨e1, e2, e3, e4⟩ := touch_end (t := t) (t' := { t with sn := t.sn, ac := t.ac ++ [Ac.mk cl vl false] }) (x := Ac.mk cl vl false) HX.out HX4.out HK4.out (by rw [hxs]; exact HOWN4.out) rfl hm (((((Keep.refl [] w4).alloc _).alloc _).drewN 1).drewN 1) (by rw [hxs]; exact hown1) hgrow (by rcases hat with h1 | h1; exact Or.inl h1; exact Or.inr (by omega))
      exact ⟨rfl, ⟨_, HE.out _ _ e1 e2 e3 e4⟩, e2⟩
end Go.Proofs.YtadollckekddgaaDoor.Hi
