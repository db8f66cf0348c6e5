/- A transaction reads or writes. -/
import Derived.Test.YtadollckekddgaaDoorHiC
import Derived.Deep.RegionHeldLaw
namespace Go.Proofs.YtadollckekddgaaDoor.Hi
open Go.ChangeShapes Go.WideShapes Go.ChangeAt Go.RowKit
set_option linter.unusedVariables false

def updV (V : Nat → Value) (i : Nat) (v : Value) : Nat → Value := fun j => if j = i then v else V j
/-- A transaction's block and its accesses' row become others. -/
theorem PAt.setAc {w w' : World} {B P k k' : Nat} {p : Pa} {b : Nat → Nat} {V : Nat → Value} {vt vp : Value} (h : PAt w B P k p b V vt vp) {i : Nat} (hi : i < p.txs.length) {t : Tr} {v' : Value} (hw : w'.heap[b i]? = some (.cells (txC t v') 58 (0, 0))) (hk : Keep (b i :: (V i).ownBlock.toList) w w')
    (ho : w'.ownsRow B 87 3 v' t.ac.length (acsC t.ac)) (hv : v'.ownBlock = (V i).ownBlock ∨ ∃ g, v'.ownBlock = some g ∧ w.heap.size ≤ g) (hkk : k ≤ k') (hl : t.ac.length ≤ k') : PAt w' B P k' (p.upd i t) b (updV V i v') vt vp := by
  have hle : (p.upd i t).txs.length = p.txs.length := by simp [Pa.upd]
  have hn : ∀ j, nt (p.upd i t).txs j = if j = i then t else nt p.txs j := fun j => nt_set hi
  have hrow : ∀ {e : TypeId} {cs : Array Value} {x : Nat}, w.heap[x]? = some (.cells cs e (0, 0)) → e ≠ 87 → (V i).ownBlock ≠ some x := fun hx ht => own_ne (h.ac i hi) hx ht
  have hno : ∀ {n : Nat} {v : Value} {xs : List Value}, w.ownsRow B 55 1 v n xs → ∀ x, v.ownBlock = some x → x ∉ (b i :: (V i).ownBlock.toList) := fun hr x hx hm => by
    simp only [List.mem_cons, Option.mem_toList] at hm
    rcases hm with rfl | hm
    · exact own_ne hr (h.tx i hi) (by decide) hx
    · obtain ⟨g, cap, cur, rfl, _, hg, _⟩ := hr.2.resolve_left (fun e => by rw [e.1] at hx; simp [Value.ownBlock] at hx)
      simp [Value.ownBlock] at hx
      subst hx
      exact hrow hg (by decide) hm
  refine ⟨?_, h.pB, by rw [hle]; exact own_keep h.ts hk (hno h.ts), own_keep h.ps hk (hno h.ps), h.tp, by rw [hle]; exact h.pl, fun j hj => ?_, by rw [hle]; exact h.bB, by rw [hle]; exact h.bi, fun j hj => ?_, fun j l hj hl' hjl x hx => ?_, ?_⟩
  · rw [hk.block _ (heap_lt h.pa) (by simp only [List.mem_cons, Option.mem_toList]; intro hm; rcases hm with hm | hm; exact h.bx hi hm.symm; exact hrow h.pa (by decide) hm)]
    exact h.pa
  · rw [hle] at hj
    rw [hn]
    unfold updV
    by_cases e : j = i
    · subst e; rw [if_pos rfl, if_pos rfl]; exact hw
    · rw [if_neg e, if_neg e, hk.block _ (heap_lt (h.tx j hj)) (by simp only [List.mem_cons, Option.mem_toList]; intro hm; rcases hm with hm | hm; exact h.bi j i hj hi e hm; exact hrow (h.tx j hj) (by decide) hm)]
      exact h.tx j hj
  · rw [hle] at hj
    rw [hn]
    unfold updV
    by_cases e : j = i
    · subst e; rw [if_pos rfl, if_pos rfl]; exact ho
    · rw [if_neg e, if_neg e]
      refine own_keep (h.ac j hj) hk (fun x hx hm => ?_)
      simp only [List.mem_cons, Option.mem_toList] at hm
      rcases hm with rfl | hm
      · exact own_ne (h.ac j hj) (h.tx i hi) (by decide) hx
      · exact h.av j i hj hi e x hx hm
  · rw [hle] at hj hl'
    have hlt : ∀ j, j < p.txs.length → ∀ x, (V j).ownBlock = some x → x < w.heap.size := fun j hj x hx => (own_block (h.ac j hj) x hx).2
    unfold updV at hx ⊢
    by_cases e : j = i
    · rw [if_pos e] at hx
      have e2 : l ≠ i := fun e2 => hjl (e.trans e2.symm)
      rw [if_neg e2]
      intro hc
      rcases hv with hv | ⟨g, hv, hg⟩
      · rw [hv] at hx
        exact h.av i l hi hl' (fun e3 => e2 e3.symm) x hx hc
      · rw [hv] at hx
        have := hlt l hl' x hc
        simp at hx
        omega
    · rw [if_neg e] at hx
      by_cases e2 : l = i
      · rw [if_pos e2]
        intro hc
        rcases hv with hv | ⟨g, hv, hg⟩
        · rw [hv] at hc
          exact h.av j i hj hi e x hx hc
        · rw [hv] at hc
          have := hlt j hj x hx
          simp at hc
          omega
      · rw [if_neg e2]
        exact h.av j l hj hl' hjl x hx
  · refine ⟨by rw [hle]; have := h.bd.1; omega, by have := h.bd.2.1; show p.pub.length ≤ k'; omega, h.bd.2.2.1, by have := h.bd.2.2.2.1; show p.co ≤ k'; omega, fun j hj => ?_⟩
    rw [hle] at hj
    rw [hn]
    by_cases e : j = i
    · subst e; rw [if_pos rfl]; exact hl
    · rw [if_neg e]; have := h.bd.2.2.2.2 j hj; omega
theorem fr_drew (w : World) (a : Addr) : w.drew.frozen? a = w.frozen? a := rfl
theorem info_acc : (Tryd.prog.info? 87).map (fun i => (i.zero, i.size, i.bytes)) = some (some (.agg #[.int .i64 0, .int .i64 0, .bool false]), 3, 24) := by kernel_rfl
theorem touch_no {w : World} {B P k : Nat} {p : Pa} {b : Nat → Nat} {V : Nat → Value} {vt vp : Value} (h : PAt w B P k p b V vt vp) {i : Nat} (hi : i < p.txs.length) (e : Ev) (hs : ¬ ((nt p.txs i).sg = 1 ∧ 0 ≤ e.cl ∧ e.cl < 1024)) :
    Calls Tryd.prog 33 #[ptr (b i), evV e] w fun x w' => x = .returned (.bool false) ∧ Keep [b i] w w' := by
  have hx := h.tx i hi
  have hlt := heap_lt hx
  have hc6 : w.cell? ⟨b i, 6, none⟩ = some (.int .i64 (nt p.txs i).sg) := by rw [cell_at hx]; simp [txC]
  clear h hi hx
  generalize (nt p.txs i).sg = z at *
  generalize b i = X at *
  obtain ⟨a, th, tx, kd, cl, vl, ow, sr, sn, sp, sg, er⟩ := e
  unfold evV evA ptr
  dsimp only at *
  by_cases h1 : z = 1
  · subst h1
    by_cases h2 : 0 ≤ cl
    · have h3 : ¬ cl < 1024 := fun h3 => hs ⟨rfl, h2, h3⟩
      have hd2 : decide (cl < 0) = false := by simpa using h2
      have hd3 : decide (1024 ≤ cl) = true := by simpa using h3
      clear hs
      go_enter Tryd.func33, Tryd.ntmps33
      go_wp2
      go_ret
      exact ⟨rfl, (Keep.refl [X] w).alloc _⟩
    · have hd2 : decide (cl < 0) = true := by simpa using h2
      clear hs
      go_enter Tryd.func33, Tryd.ntmps33
      go_wp2
      go_ret
      exact ⟨rfl, (Keep.refl [X] w).alloc _⟩
  · have hd : (z != 1) = true := by simpa using h1
    clear hs
    go_enter Tryd.func33, Tryd.ntmps33
    go_wp2
    go_ret
    exact ⟨rfl, (Keep.refl [X] w).alloc _⟩
theorem touch_end {w w4 w5 w1 : World} {B X gg cap' n : Nat} {t t' : Tr} {v : Value} {x : Ac} (hX : w.heap[X]? = some (.cells (txC t v) 58 (0, 0))) (hX4 : w4.heap[X]? = some (.cells (txC { t' with ac := t.ac } v) 58 (0, 0))) (hk4 : Keep [X] w w4) (hown : w4.ownsRow B 87 3 v n (acsC t.ac)) (hac : t'.ac = t.ac ++ [x]) (hn : t.ac.length = n)
    (hk5 : Keep [] w4 w5) (hown1 : w1.ownsRow B 87 3 (.slice (some ⟨gg, 0, none⟩) (n + 1) cap') (n + 1) (acsC t.ac ++ acC x)) (hgrow : w5.grownBy w1 v.ownBlock) (hat : v.ownBlock = some gg ∨ w.heap.size ≤ gg) :
    (w1.setCell ⟨X, 7, none⟩ (.slice (some ⟨gg, 0, none⟩) (n + 1) cap')).heap[X]? = some (.cells (txC t' (.slice (some ⟨gg, 0, none⟩) (n + 1) cap')) 58 (0, 0)) ∧ Keep (X :: v.ownBlock.toList) w (w1.setCell ⟨X, 7, none⟩ (.slice (some ⟨gg, 0, none⟩) (n + 1) cap')) ∧
      (w1.setCell ⟨X, 7, none⟩ (.slice (some ⟨gg, 0, none⟩) (n + 1) cap')).ownsRow B 87 3 (.slice (some ⟨gg, 0, none⟩) (n + 1) cap') t'.ac.length (acsC t'.ac) ∧ ((Value.slice (some ⟨gg, 0, none⟩) (n + 1) cap').ownBlock = v.ownBlock ∨ ∃ g, (Value.slice (some ⟨gg, 0, none⟩) (n + 1) cap').ownBlock = some g ∧ w.heap.size ≤ g) := by
  have k0 : Keep v.ownBlock.toList w4 w1 := (hk5.mono (G := v.ownBlock.toList) (fun b hb => by simp at hb)).grown hgrow (fun b hb => Or.inl (by rw [hb]; simp))
  have nX : X ∉ v.ownBlock.toList := fun hm => own_ne hown hX4 (by decide) (by simpa using hm)
  have h1 : w1.heap[X]? = some (.cells (txC { t' with ac := t.ac } v) 58 (0, 0)) := by rw [k0.block _ (heap_lt hX4) nX]; exact hX4
  have hg1 : (Value.slice (some ⟨gg, 0, none⟩) (n + 1) cap').ownBlock ≠ some X := own_ne hown1 h1 (by decide)
  have kset : Keep [X] w1 (w1.setCell ⟨X, 7, none⟩ (.slice (some ⟨gg, 0, none⟩) (n + 1) cap')) := (Keep.refl _ _).setCell _ _ (Or.inl (by simp))
  refine ⟨by rw [heap_set h1]; simp [txC], ?_, ?_, ?_⟩
  · have kk : Keep (X :: v.ownBlock.toList) w w1 := (hk4.mono (G := X :: v.ownBlock.toList) (fun b hb => by simp at hb; simp [hb])).trans k0 (fun b hb => Or.inl (by simp at hb ⊢; exact Or.inr hb))
    exact kk.trans kset (fun b hb => Or.inl (by simp at hb; simp [hb]))
  · rw [hac, acsC_snoc, List.length_append, hn]
    exact own_keep hown1 kset (fun b hb hm => by simp at hm; subst hm; exact hg1 hb)
  · rcases hat with e | e
    · exact Or.inl (by rw [e]; rfl)
    · exact Or.inr ⟨gg, rfl, e⟩
/-- What a touch makes. -/
def TouchQ (w : World) (B P k : Nat) (p : Pa) (b : Nat → Nat) (V : Nat → Value) (vt vp : Value) (i : Nat) (t : Tr) (x : Ending) (w' : World) : Prop := x = .returned (.bool true) ∧ (∃ v', PAt w' B P (k + 1) (p.upd i t) b (updV V i v') vt vp) ∧ Keep (b i :: (V i).ownBlock.toList) w w'
set_option maxRecDepth 100000 in
set_option maxHeartbeats 3200000 in
theorem touch_write {w : World} {B P k : Nat} {p : Pa} {b : Nat → Nat} {V : Nat → Value} {vt vp : Value} (h : PAt w B P k p b V vt vp) (hB : B ≤ w.heap.size) (hkb : k ≤ 925925926000) {i : Nat} (hi : i < p.txs.length) (e : Ev) (hk3 : e.kd = 3) (hs : (nt p.txs i).sg = 1 ∧ 0 ≤ e.cl ∧ e.cl < 1024) :
    Calls Tryd.prog 33 #[ptr (b i), evV e] w (TouchQ w B P k p b V vt vp i { nt p.txs i with ac := (nt p.txs i).ac ++ [Ac.mk e.cl e.vl true] }) := by
  obtain ⟨i0, hi0, hz0, hz1, hz2⟩ := info_parts info_acc
  have hx := h.tx i hi
  have hlt := heap_lt hx
  have hlt2 : b i < w.heap.size + 1 := by omega
  have hc6 : w.cell? ⟨b i, 6, none⟩ = some (.int .i64 1) := by rw [cell_at hx]; simp [txC, hs.1]
  have hc7 : w.cell? ⟨b i, 7, none⟩ = some (V i) := by rw [cell_at hx]; simp [txC]
  have hf7 := frozen_at hx 7
  have hd2 : decide (e.cl < 0) = false := by simpa using hs.2.1
  have hd3 : decide (1024 ≤ e.cl) = false := by simpa using hs.2.2
  have HE : Hid (∀ (w' : World) (v' : Value), w'.heap[b i]? = some (.cells (txC { nt p.txs i with ac := (nt p.txs i).ac ++ [Ac.mk e.cl e.vl true] } v') 58 (0, 0)) → Keep (b i :: (V i).ownBlock.toList) w w' → w'.ownsRow B 87 3 v' ((nt p.txs i).ac ++ [Ac.mk e.cl e.vl true]).length (acsC ((nt p.txs i).ac ++ [Ac.mk e.cl e.vl true])) → (v'.ownBlock = (V i).ownBlock ∨ ∃ g, v'.ownBlock = some g ∧ w.heap.size ≤ g) → PAt w' B P (k + 1) (p.upd i { nt p.txs i with ac := (nt p.txs i).ac ++ [Ac.mk e.cl e.vl true] }) b (updV V i v') vt vp) :=
    fun w' v' hw hk ho hv => h.setAc hi hw hk ho hv (by omega) (by have := h.bd.2.2.2.2 i hi; simp; omega)
  have HOWN : Hid (w.ownsRow B 87 3 (V i) (nt p.txs i).ac.length (acsC (nt p.txs i).ac)) := h.ac i hi
  have hn : (nt p.txs i).ac.length ≤ 925925926000 := by have := h.bd.2.2.2.2 i hi; omega
  unfold TouchQ
  clear h hi
  generalize p.upd i { nt p.txs i with ac := (nt p.txs i).ac ++ [Ac.mk e.cl e.vl true] } = q at *
  generalize nt p.txs i = t at *
  generalize b i = X at *
  generalize hv : V i = v at *
  obtain ⟨a, th, tx, kd, cl, vl, ow, sr, sn, sp, sg, er⟩ := e
  have HX : Hid (w.heap[X]? = some (.cells (txC t v) 58 (0, 0))) := hx
  obtain ⟨sa, cap, rfl⟩ := own_slice HOWN.out
  have hXv : (Value.slice sa t.ac.length cap).ownBlock ≠ some X := own_ne HOWN.out hx (by decide)
  have hNv : (Value.slice sa t.ac.length cap).ownBlock ≠ some w.heap.size := fun e => by
    have := HOWN.out.lt _ e
    omega
  have hlen : (acsC t.ac).length = t.ac.length * 3 := acsC_len _
  clear hx hs
  generalize hm : t.ac.length = n at *
  generalize hxs : acsC t.ac = xs at *
  unfold evV evA ptr
  dsimp only at *
  subst hk3
  go_enter Tryd.func33, Tryd.ntmps33
  go_wp2_with fail
  go_region_law
    ((refine step_lies_wide _ (by rfl) _ _ _ (by rfl) B 87 i0 _ 3 24 Tryd.underlying56 hi0 hz0 hz1 hz2 rfl (by omega) (.slice sa n cap) n xs (by rfl) (((HOWN.out.alloc _).alloc _).drew)
        ⟨w.heap.size + 1, 0, none⟩ 1 1 [.int .i64 cl, .int .i64 vl, .bool true] (by rfl) (by rfl) (World.news_of_block (cs := #[.int .i64 cl, .int .i64 vl, .bool true]) (t := 87) (fr := (0, 0)) (heap_alloc2_new w _ _)) (by simp [Value.oneCell'])
        (by omega) (by unfold maxLen; omega) (by omega) (by simp; omega) (w.heap.size + 2) (by simp) ?_; intro gg cap' w1 hown1 hgrow hat hlt3; have hs1 : w1.cell? ⟨X, 7, none⟩ = some (.slice sa n cap) := (by rw [hgrow.cell_far _ (by simp; omega) (Ne.symm hXv)]; simp [hlt, hlt2, World.cell?_alloc_past, hc7]); have hs2 : w1.frozen? ⟨X, 7, none⟩ = false := (by rw [hgrow.frozen_far _ (by simp; omega) (Ne.symm hXv)]; rw [fr_drew, World.frozen?_alloc_past _ _ _ (by simp; omega), World.frozen?_alloc_past _ _ _ hlt]; exact hf7)))
  all_goals
    go_wp2
    go_ret
    obtain ⟨e1, e2, e3, e4⟩ := touch_end (t := t) (t' := { t with ac := t.ac ++ [Ac.mk cl vl true] }) (x := Ac.mk cl vl true) HX.out HX.out (Keep.refl _ _) (by rw [hxs]; exact HOWN.out) rfl hm ((((Keep.refl [] w).alloc _).alloc _).drewN 1) (by rw [hxs]; exact hown1) hgrow (by rcases hat with h1 | h1; exact Or.inl h1; exact Or.inr (by omega))
    exact ⟨rfl, ⟨_, HE.out _ _ e1 e2 e3 e4⟩, e2⟩
end Go.Proofs.YtadollckekddgaaDoor.Hi
