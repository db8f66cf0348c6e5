/- The program's memory: a word found, an access noted. -/
import Derived.Test.YtbmmicfdnfpcaaaMemB
import Derived.Test.YtbmmicfdnfpcaaaAppW
import Derived.Deep.AppendLies
import Derived.Deep.DrawnRows
import Derived.Deep.RegionLaw
namespace Go.Proofs.Ytbmmicfdnfpcaaa
open Go.ChangeShapes Go.WideShapes Go.ChangeAt Go.RowKit
attribute [local go_sem ↓] Go.wp_at_zero Go.wp_at_succ

theorem word_any {w : World} {c r M H S C : Nat} {f : Ad → Int} {v : Value} (h : MemW w c r M H S C f v) (hr : r < 1000000) (hc : c < 1000000) (a : Ad) :
    Calls Try.prog 29 #[.pointer (some ⟨M, 0, none⟩), .agg (adC a)] w fun e w' => e = .returned (ptr_ c r M H S C a) ∧ Below w.heap.size w w' := by
  have h1 : w.cell? ⟨M, 1, none⟩ = some (.slice (some ⟨H, 0, none⟩) r r) := by rw [cell_at h.m]; rfl
  have h2 : w.cell? ⟨M, 2, none⟩ = some (.slice (some ⟨S, 0, none⟩) r r) := by rw [cell_at h.m]; rfl
  have h3 : w.cell? ⟨M, 3, none⟩ = some (.slice (some ⟨C, 0, none⟩) c c) := by rw [cell_at h.m]; rfl
  obtain ⟨k, i, j⟩ := a
  show Calls Try.prog 29 #[.pointer (some ⟨M, 0, none⟩), .agg #[.int .i64 k, .int .i64 i, .int .i64 j]] w fun e w' => _
  have yes : ∀ (q : Addr), isAd c r ⟨k, i, j⟩ = true → at_ M H S C ⟨k, i, j⟩ = q → ptr_ c r M H S C ⟨k, i, j⟩ = .pointer (some q) := fun q e1 e2 => by simp [ptr_, e1, e2]
  have no : isAd c r ⟨k, i, j⟩ = false → ptr_ c r M H S C ⟨k, i, j⟩ = .pointer none := fun e1 => by simp [ptr_, e1]
  by_cases k1 : k = 1
  · by_cases hi : i = 0
    · by_cases hj : j = 0
      · rw [yes ⟨M, 0, none⟩ (by simp [isAd, k1, hi, hj]) (by simp [at_, k1])]
        exact word_newest w M H S C c r k i j h1 h2 h3 hr hc k1 hi hj
      · rw [no (by simp [isAd, k1, hi, hj])]
        exact word_newest2 w M H S C c r k i j h1 h2 h3 hr hc k1 hi hj
    · rw [no (by simp [isAd, k1, hi])]
      exact word_newest1 w M H S C c r k i j h1 h2 h3 hr hc k1 hi
  by_cases k2 : k = 2
  · by_cases hi : 0 ≤ i ∧ i < (r : Int)
    · by_cases hj : j = 0
      · rw [yes ⟨H, i.toNat, none⟩ (by simp [isAd, k2, hi, hj]) (by simp [at_, k2])]
        exact word_head w M H S C c r k i j h1 h2 h3 hr hc k2 i.toNat (by omega) (by omega) hj
      · rw [no (by simp [isAd, k2, hj])]
        exact word_head2 w M H S C c r k i j h1 h2 h3 hr hc k2 hi hj
    · rw [no (by simp [isAd, k2]; omega)]
      exact word_head1 w M H S C c r k i j h1 h2 h3 hr hc k2 hi
  by_cases k3 : k = 3
  · by_cases hi : 0 ≤ i ∧ i < (r : Int)
    · by_cases hj : 0 ≤ j ∧ j < 8
      · rw [yes ⟨S, i.toNat * 8 + j.toNat, none⟩ (by simp [isAd, k3, hi, hj]) (by simp [at_, k3])]
        exact word_sig w M H S C c r k i j h1 h2 h3 hr hc k3 i.toNat j.toNat (by omega) (by omega) (by omega) (by omega)
      · rw [no (by simp [isAd, k3]; omega)]
        exact word_sig2 w M H S C c r k i j h1 h2 h3 hr hc k3 hi hj
    · rw [no (by simp [isAd, k3]; omega)]
      exact word_sig1 w M H S C c r k i j h1 h2 h3 hr hc k3 hi
  by_cases k4 : k = 4
  · by_cases hi : 0 ≤ i ∧ i < (c : Int)
    · by_cases hj : j = 0
      · rw [yes ⟨C, i.toNat, none⟩ (by simp [isAd, k4, hi, hj]) (by simp [at_, k4])]
        exact word_cell w M H S C c r k i j h1 h2 h3 hr hc k4 i.toNat (by omega) (by omega) hj
      · rw [no (by simp [isAd, k4, hj])]
        exact word_cell2 w M H S C c r k i j h1 h2 h3 hr hc k4 hi hj
    · rw [no (by simp [isAd, k4]; omega)]
      exact word_cell1 w M H S C c r k i j h1 h2 h3 hr hc k4 hi
  rw [no (by simp [isAd, k1, k2, k3, k4])]
  exact word_none w M H S C c r k i j h1 h2 h3 hr hc ⟨k1, k2, k3, k4⟩

theorem fr_drew (w : World) (a : Addr) : w.drew.frozen? a = w.frozen? a := rfl
theorem cl_drew (w : World) (a : Addr) : w.drew.cell? a = w.cell? a := rfl
theorem info_parts {t : TypeId} {z : Value} {s b : Nat} (h : (Try.prog.info? t).map (fun i => (i.zero, i.size, i.bytes)) = some (some z, s, b)) : ∃ i, Try.prog.info? t = some i ∧ i.zero = some z ∧ i.size = s ∧ i.bytes = b := by
  cases hi : Try.prog.info? t with
  | none => rw [hi] at h; cases h
  | some i => rw [hi] at h; simp at h; exact ⟨i, rfl, h.1, h.2.1, h.2.2⟩
theorem info_acc : (Try.prog.info? 92).map (fun i => (i.zero, i.size, i.bytes)) = some (some (.agg #[.int .i64 0, .int .i64 0, .int .i64 0, .int .i64 0, .int .i64 0, .int .i64 0, .int .i64 0, .bool false]), 8, 64) := by kernel_rfl

/-- An access more, as it lies. -/
theorem note_end {w w1 : World} {base c r M H S C gg cap' n : Nat} {f : Ad → Int} {v : Value} {L : List Ac} {x : Ac} {o1 o2 : Obj} (h : MemW w c r M H S C f v) (hown : w.ownsRow base 92 8 v L.length (logC L)) (hn : L.length = n)
    (hown1 : w1.ownsRow base 92 8 (.slice (some ⟨gg, 0, none⟩) (n + 1) cap') (n + 1) (logC L ++ (acC x).toList)) (hgrow : ((w.alloc o1).alloc o2).drew.grownBy w1 v.ownBlock) (hat : v.ownBlock = some gg ∨ gg = w.heap.size + 2) :
    ∃ v', MemW (w1.setCell ⟨M, 4, none⟩ (.slice (some ⟨gg, 0, none⟩) (n + 1) cap')) c r M H S C f v' ∧ (w1.setCell ⟨M, 4, none⟩ (.slice (some ⟨gg, 0, none⟩) (n + 1) cap')).ownsRow base 92 8 v' (L ++ [x]).length (logC (L ++ [x])) ∧
      (v'.ownBlock = v.ownBlock ∨ ∃ g, v'.ownBlock = some g ∧ w.heap.size ≤ g) ∧ Keep (M :: v.ownBlock.toList) w (w1.setCell ⟨M, 4, none⟩ (.slice (some ⟨gg, 0, none⟩) (n + 1) cap')) := by
  have k0 : Keep v.ownBlock.toList w w1 := by
    have : Keep v.ownBlock.toList w ((w.alloc o1).alloc o2).drew := ((Keep.refl _ _).alloc o1).alloc o2 |>.drewN 1
    exact this.grown hgrow (fun b hb => Or.inl (by rw [hb]; simp))
  have nm : ∀ {b : Nat} {cs : Array Value} {t : TypeId}, w.heap[b]? = some (.cells cs t (0, 0)) → t ≠ 92 → b ∉ v.ownBlock.toList := fun hb ht hm => own_ne hown hb ht (by simpa using hm)
  have h1 := h.keep k0 (nm h.m (by decide)) (nm h.h (by decide)) (nm h.s (by decide)) (nm h.c (by decide))
  have mh : M ≠ H := ne_of_type h.m h.h (by decide)
  have ms : M ≠ S := ne_of_type h.m h.s (by decide)
  have mc : M ≠ C := ne_of_type h.m h.c (by decide)
  have hg1 : (Value.slice (some ⟨gg, 0, none⟩) (n + 1) cap').ownBlock ≠ some M := own_ne hown1 h1.m (by decide)
  have kset : Keep [M] w1 (w1.setCell ⟨M, 4, none⟩ (.slice (some ⟨gg, 0, none⟩) (n + 1) cap')) := (Keep.refl _ _).setCell _ _ (Or.inl (by simp))
  refine ⟨.slice (some ⟨gg, 0, none⟩) (n + 1) cap', ⟨?_, ?_, ?_, ?_, h.ne⟩, ?_, ?_, ?_⟩
  · rw [heap_set h1.m]; rfl
  · rw [heap_set_other _ _ mh]; exact h1.h
  · rw [heap_set_other _ _ ms]; exact h1.s
  · rw [heap_set_other _ _ mc]; exact h1.c
  · rw [logC_app, logC_one, List.length_append, hn]
    exact own_keep hown1 kset (fun b hb hm => by simp at hm; subst hm; exact hg1 hb)
  · rcases hat with e | e
    · exact Or.inl (by rw [e]; rfl)
    · exact Or.inr ⟨gg, rfl, by omega⟩
  · exact (k0.mono (fun b hb => by simp at hb ⊢; exact Or.inr hb)).trans kset (fun b hb => by simp at hb; subst hb; exact Or.inl (by simp))

set_option maxRecDepth 100000 in
set_option maxHeartbeats 3200000 in
theorem note_any {w : World} {base c r M H S C : Nat} {f : Ad → Int} {v : Value} {L : List Ac} (h : MemW w c r M H S C f v) (hown : w.ownsRow base 92 8 v L.length (logC L)) (hb : base ≤ w.heap.size) (hL : L.length < 3298534883328) (x : Ac) :
    Calls Try.prog 30 #[.pointer (some ⟨M, 0, none⟩), .agg (acC x)] w fun e w' => ∃ v', e = .returned (.tuple #[]) ∧ MemW w' c r M H S C f v' ∧ w'.ownsRow base 92 8 v' (L ++ [x]).length (logC (L ++ [x])) ∧ (v'.ownBlock = v.ownBlock ∨ ∃ g, v'.ownBlock = some g ∧ w.heap.size ≤ g) ∧ Keep (M :: v.ownBlock.toList) w w' := by
  obtain ⟨i0, hi, hz0, hz1, hz2⟩ := info_parts info_acc
  have hM : M < w.heap.size := (Array.getElem?_eq_some_iff.1 h.m).1
  have hc4 : w.cell? ⟨M, 4, none⟩ = some v := by rw [cell_at h.m]; rfl
  have hf4 : w.frozen? ⟨M, 4, none⟩ = false := frozen_at h.m 4
  obtain ⟨a, cap, rfl⟩ : ∃ a cap, v = .slice a L.length cap := by
    rcases hown.2 with ⟨e, h0⟩ | ⟨g, cp, cur, e, _⟩
    · exact ⟨none, 0, by rw [e, h0]⟩
    · exact ⟨_, _, e⟩
  have hMv : (Value.slice a L.length cap).ownBlock ≠ some M := fun e => by
    rcases hown.2 with ⟨e1, h0⟩ | ⟨g, cp, cur, e1, _, hg, _⟩
    · rw [e1] at e; simp [Value.ownBlock] at e
    · rw [e1] at e
      simp [Value.ownBlock] at e
      subst e
      rw [h.m] at hg
      simp at hg
  have hNv : (Value.slice a L.length cap).ownBlock ≠ some w.heap.size := fun e => by
    have := hown.lt _ e
    omega
  obtain ⟨t, k, ⟨ak, ai, aj⟩, o, z, y⟩ := x
  have hM2 : M < w.heap.size + 1 := by omega
  have HH : Hid (MemW w c r M H S C f (.slice a L.length cap)) := h
  have HOWN : Hid (w.ownsRow base 92 8 (.slice a L.length cap) L.length (logC L)) := hown
  have hlen : (logC L).length = L.length * 8 := logC_len L
  clear h hown
  generalize hxs : logC L = xs at *
  generalize hn : L.length = n at *
  unfold acC
  go_enter Try.func30, Try.ntmps30
  go_wp2_with fail
  go_region_law
    ((refine step_lies_wide _ (by rfl) _ _ _ (by rfl) base 92 i0 _ 8 64 Try.underlying64 hi hz0 hz1 hz2 rfl (by omega) (.slice a n cap) n xs (by rfl) (((HOWN.out.alloc _).alloc _).drew)
        ⟨w.heap.size + 1, 0, none⟩ 1 1 [.int .i64 t, .int .i64 k, .int .i64 ak, .int .i64 ai, .int .i64 aj, .int .i64 o, .int .i64 z, .bool y] (by rfl) (by rfl) (World.news_of_block (cs := #[.int .i64 t, .int .i64 k, .int .i64 ak, .int .i64 ai, .int .i64 aj, .int .i64 o, .int .i64 z, .bool y]) (t := 92) (fr := (0, 0)) (heap_alloc2_new w _ _)) (by simp [Value.oneCell'])
        (by omega) (by unfold maxLen; omega) (by omega) (by simp; omega) (w.heap.size + 2) (by simp) ?_; intro gg cap' w1 hown1 hgrow hat hlt; have hs1 : w1.cell? ⟨M, 4, none⟩ = some (.slice a n cap) := (by rw [hgrow.cell_far _ (by simp; omega) (Ne.symm hMv)]; simp [hM, hM2, World.cell?_alloc_past, hc4]); have hs2 : w1.frozen? ⟨M, 4, none⟩ = false := (by rw [hgrow.frozen_far _ (by simp; omega) (Ne.symm hMv)]; rw [fr_drew, World.frozen?_alloc_past _ _ _ (by simp; omega), World.frozen?_alloc_past _ _ _ hM]; exact hf4)))
  all_goals
    subst hxs
    obtain ⟨v', e1, e2, e3, e4⟩ := note_end (x := ⟨t, k, ⟨ak, ai, aj⟩, o, z, y⟩) HH.out (by rw [hn]; exact HOWN.out) hn hown1 hgrow hat
    refine bodyPost_end (results_none rfl _ _ _) rfl ?_
    exact ⟨v', rfl, e1, e2, e3, e4⟩
end Go.Proofs.Ytbmmicfdnfpcaaa
