/- BackPlays: the list that is handed in, made, copied to, written over. -/
import Derived.Test.YtbmmicfdnfpcaaaBpI
import Derived.Laws.CopyOwn
import Derived.Laws.MakeOwn
namespace Go.Proofs.Ytbmmicfdnfpcaaa
open Go.ChangeShapes Go.WideShapes Go.ChangeAt Go.RowKit

theorem run_copy_part {P : Program} (w : World) (dT sT ty elem : TypeId) (g dLen dCap : Nat) (a : Addr) (sLen sCap : Nat) (cur : Array Value) (t : TypeId) (cs : List Value) (k : Nat)
    (hu : P.underlying dT = some (.slice elem)) (hs : (P.info? elem).map (·.size) = some k)
    (hg : w.heap[g]? = some (.cells cur t (0, 0))) (hn : cs.length = Nat.min sLen dLen * k)
    (hsrc : ∀ j v, cs[j]? = some v → w.cell? (a.add j) = some v) (hfit : cs.length ≤ cur.size) (h1 : ∀ v ∈ cs, v.oneCell' = true) :
    (Builtin.copy_ #[dT, sT] ty #[.slice (some ⟨g, 0, none⟩) dLen dCap, .slice (some a) sLen sCap]).run P w =
      .ok (goInt (Nat.min sLen dLen)) (w.setRow g (cs ++ cur.toList.drop cs.length).toArray) := by
  have hl := run_loadCells_list (P := P) w a cs hsrc
  have hst := run_storeCells_at P g 0 t cs 0 cur w hg (by omega) h1
  cases hq : P.info? elem with
  | none => simp [hq] at hs
  | some i =>
    have hi : i.size = k := by simpa [hq] using hs
    simp only [Nat.add_zero, Nat.zero_add, List.take_zero, List.nil_append] at hst
    simp [Builtin.copy_, run_underlying hu, Builtin.lenOf, Builtin.firstCells, sizeOf, typeInfo, hq, hi, ← hn, hl, hst]
theorem run_copy_none2 {P : Program} (w : World) (dT sT ty elem : TypeId) (d a : Option Addr) (dLen dCap sLen sCap : Nat) (hu : P.underlying dT = some (.slice elem)) (hs : ((P.info? elem).map (·.size)).isSome = true) (hn : Nat.min sLen dLen = 0) :
    (Builtin.copy_ #[dT, sT] ty #[.slice d dLen dCap, .slice a sLen sCap]).run P w = .ok (goInt 0) w := by
  cases hq : P.info? elem with
  | none => simp [hq] at hs
  | some i =>
    have hl : ∀ (x : Addr), (loadCells x 0).run P w = .ok #[] w := fun x => by simpa using run_loadCells_list (P := P) w x [] (by simp)
    cases d <;> cases a <;> simp [Builtin.copy_, run_underlying hu, Builtin.lenOf, Builtin.firstCells, sizeOf, typeInfo, hq, hn, storeCells, hl]
/-- What a new list of n writes is made of. -/
def fresh2 (n : Nat) : Array Value := madeCells (Value.cells (.agg #[.int .i64 0, .int .i64 0])) (n * 2)
theorem fresh2_size (n : Nat) : (fresh2 n).size = n * 2 := by simp [fresh2, size_madeCells]
theorem fresh2_get (n j : Nat) (h : j < n * 2) : (fresh2 n)[j]? = some (.int .i64 0) := by
  unfold fresh2 madeCells
  have h2 : j % 2 = 0 ∨ j % 2 = 1 := by omega
  rcases h2 with e | e <;> simp [h, Value.cells, e]
theorem make_wrs11 (w : World) (n : Nat) (hn : n ≤ 8796093022209) :
    (Instr.makeSlice 25 (.int .i64 (n : Int)) (.int .i64 (n : Int))).run Try.prog w = .ok (.slice (some ⟨w.heap.size, 0, none⟩) n n) (w.alloc (.cells (fresh2 n) 36)) := by
  obtain ⟨i0, hi, hz0, hz1, hz2⟩ := info_parts info_wr
  have := run_make (P := Try.prog) w 25 36 i0 _ Try.underlying25 hi hz0 .i64 .i64 (n : Int) (n : Int) (by omega) (by omega) (by rw [hz2]; omega) (by omega)
  rw [this]
  simp [fresh2, hz1]
/-- The list that is handed in, from a place on as it was. -/
def InR (w : World) (g : Nat) (W : List Wt) (q : Nat) : Prop := ∃ cs : Array Value, w.heap[g]? = some (.cells cs 36 (0, 0)) ∧ cs.size = W.length * 2 + 2 ∧ (∀ i, q ≤ i → i < W.length → cs[i * 2]? = some (.int .i64 (W.getD i noWt).c) ∧ cs[i * 2 + 1]? = some (.int .i64 (W.getD i noWt).v)) ∧ cs[W.length * 2]? = some (.int .i64 0) ∧ cs[W.length * 2 + 1]? = some (.int .i64 0)
theorem InR.below {w w' : World} {g : Nat} {W : List Wt} {q : Nat} (h : InR w g W q) (hb : Below w.heap.size w w') : InR w' g W q := by
  obtain ⟨cs, h1, h2⟩ := h
  exact ⟨cs, row_on h1 hb, h2⟩
theorem InR.lt {w : World} {g : Nat} {W : List Wt} {q : Nat} (h : InR w g W q) : g < w.heap.size := by
  obtain ⟨cs, h1, h2⟩ := h
  exact heap_lt h1
theorem InR.wl {w : World} {g : Nat} {W : List Wt} (h : InR w g W 0) (hb : W.length ≤ 8796093022208) (cap : Nat) : WL w (.slice (some ⟨g, 0, none⟩) W.length cap) W := by
  obtain ⟨cs, h1, h2, h3, h4⟩ := h
  refine ⟨_, cap, rfl, hb, Or.inr ⟨_, rfl, heap_lt h1, fun i hi => ?_⟩⟩
  obtain ⟨k1, k2⟩ := h3 i (by omega) hi
  rw [Sg.add_at, add_pos' _ _ (by decide)]
  exact ⟨by rw [cell_at h1]; simpa using k1, by rw [cell_at h1]; simpa using k2⟩
theorem InR.cells {w : World} {g : Nat} {W : List Wt} {q : Nat} (h : InR w g W q) (i : Nat) (hq : q ≤ i) (hi : i < W.length) : w.cell? ⟨g, i * 2, none⟩ = some (.int .i64 (W.getD i noWt).c) ∧ w.cell? ⟨g, i * 2 + 1, none⟩ = some (.int .i64 (W.getD i noWt).v) := by
  obtain ⟨cs, h1, h2, h3, h4⟩ := h
  obtain ⟨k1, k2⟩ := h3 i hq hi
  exact ⟨by rw [cell_at h1]; exact k1, by rw [cell_at h1]; exact k2⟩
theorem InR.last {w : World} {g : Nat} {W : List Wt} {q : Nat} (h : InR w g W q) : w.cell? ⟨g, W.length * 2, none⟩ = some (.int .i64 0) ∧ w.cell? ⟨g, W.length * 2 + 1, none⟩ = some (.int .i64 0) := by
  obtain ⟨cs, h1, h2, h3, h4, h5⟩ := h
  exact ⟨by rw [cell_at h1]; exact h4, by rw [cell_at h1]; exact h5⟩
theorem InR.fz {w : World} {g : Nat} {W : List Wt} {q : Nat} (h : InR w g W q) (j : Nat) : w.frozen? ⟨g, j, none⟩ = false := by
  obtain ⟨cs, h1, h2⟩ := h
  exact frozen_at h1 j
theorem InR.set {w : World} {g : Nat} {W : List Wt} {q : Nat} (h : InR w g W q) (hq : q < W.length) (a b : Value) : InR ((w.setCell ⟨g, q * 2, none⟩ a).setCell ⟨g, q * 2 + 1, none⟩ b) g W (q + 1) := by
  obtain ⟨cs, h1, h2, h3, h4, h5⟩ := h
  have k1 : (w.setCell ⟨g, q * 2, none⟩ a).heap[g]? = some (.cells (cs.setIfInBounds (q * 2) a) 36 (0, 0)) := by rw [heap_set h1]
  have k2 : ((w.setCell ⟨g, q * 2, none⟩ a).setCell ⟨g, q * 2 + 1, none⟩ b).heap[g]? = some (.cells ((cs.setIfInBounds (q * 2) a).setIfInBounds (q * 2 + 1) b) 36 (0, 0)) := by rw [heap_set k1]
  refine ⟨_, k2, by simpa using h2, fun i hi hl => ?_, ?_, ?_⟩
  · obtain ⟨e1, e2⟩ := h3 i (by omega) hl
    exact ⟨by rw [Array.getElem?_setIfInBounds_ne (by omega), Array.getElem?_setIfInBounds_ne (by omega)]; exact e1, by rw [Array.getElem?_setIfInBounds_ne (by omega), Array.getElem?_setIfInBounds_ne (by omega)]; exact e2⟩
  · rw [Array.getElem?_setIfInBounds_ne (by omega), Array.getElem?_setIfInBounds_ne (by omega)]; exact h4
  · rw [Array.getElem?_setIfInBounds_ne (by omega), Array.getElem?_setIfInBounds_ne (by omega)]; exact h5
theorem in_copy (w : World) {W : List Wt} {a : Option Addr} {cap : Nat} (ty : TypeId) (hl : WL w (.slice a W.length cap) W) :
    ∃ w2, (Builtin.copy_ #[25, 25] ty #[.slice (some ⟨w.heap.size, 0, none⟩) (W.length + 1) (W.length + 1), .slice a W.length cap]).run Try.prog (w.alloc (.cells (fresh2 (W.length + 1)) 36)) = .ok (goInt (W.length : Int)) w2 ∧ InR w2 w.heap.size W 0 ∧ Below w.heap.size w w2 := by
  obtain ⟨i0, hi, hz0, hz1, hz2⟩ := info_parts info_wr
  have hinfo : (Try.prog.info? 36).map (·.size) = some 2 := by rw [hi]; simp [hz1]
  obtain ⟨a', cap', he, hm, hl⟩ := hl
  simp at he
  obtain ⟨rfl, rfl⟩ := he
  by_cases h0 : W.length = 0
  · have hW : W = [] := List.eq_nil_of_length_eq_zero h0
    have e : goInt (W.length : Int) = goInt 0 := by rw [h0]; rfl
    rw [e]
    refine ⟨_, run_copy_none2 _ _ _ _ _ _ _ _ _ _ _ Try.underlying25 (by rw [hinfo]; rfl) (by rw [h0]; rfl), ⟨_, heap_alloc_new _ _, by rw [fresh2_size, h0], fun i _ hi => by omega, by rw [fresh2_get _ _ (by omega)], by rw [fresh2_get _ _ (by omega)]⟩, below_a1 _ _⟩
  · rcases hl with h | ⟨x, rfl, hxb, hc⟩
    · exact absurd (by rw [h]; rfl) h0
    have hmin : Nat.min W.length (W.length + 1) = W.length := Nat.min_eq_left (by omega)
    have hnews : ∀ j u, (wtC W)[j]? = some u → w.cell? (x.add j) = some u := fun j u hu => by
      obtain ⟨i, hi, ⟨rfl, rfl⟩ | ⟨rfl, rfl⟩⟩ := wtC_flat hu
      · exact (hc i hi).1
      · rw [← (hc i hi).2, add_add2]
    have hlen : (wtC W).length = W.length * 2 := wtC_len _
    have hrun := run_copy_part (P := Try.prog) (w.alloc (.cells (fresh2 (W.length + 1)) 36)) 25 25 ty 36 w.heap.size (W.length + 1) (W.length + 1) x W.length cap _ 36 (wtC W) 2 Try.underlying25 hinfo (heap_alloc_new _ _) (by rw [hlen, hmin])
      (fun j u hu => ((below_a1 w _).cell (p := x.add j) (by rw [add_block]; exact hxb)).trans (hnews j u hu))
      (by rw [hlen, fresh2_size]; omega)
      (fun v hv => by
        obtain ⟨i, hi, rfl⟩ := List.getElem_of_mem hv
        obtain ⟨k, hk, ⟨_, e⟩ | ⟨_, e⟩⟩ := wtC_flat (List.getElem?_eq_getElem hi) <;> rw [e] <;> rfl)
    rw [hmin] at hrun
    refine ⟨_, hrun, ⟨_, setRow_heap _ _ _ _ _ _ (heap_alloc_new w _), ?_, fun i _ hi => ?_, ?_, ?_⟩, _root_.Go.below_setRow (below_a1 _ _) (Nat.le_refl _) _⟩
    · simp [hlen, fresh2_size]; omega
    · have hg := wtC_get W i hi
      simp only [List.getElem?_toArray]
      rw [List.getElem?_append_left (by omega), List.getElem?_append_left (by omega)]
      exact hg
    · simp only [List.getElem?_toArray]
      rw [List.getElem?_append_right (by omega), List.getElem?_drop, hlen]
      have := fresh2_get (W.length + 1) (W.length * 2 + (W.length * 2 - W.length * 2)) (by omega)
      simpa using this
    · simp only [List.getElem?_toArray]
      rw [List.getElem?_append_right (by omega), List.getElem?_drop, hlen]
      have := fresh2_get (W.length + 1) (W.length * 2 + (W.length * 2 + 1 - W.length * 2)) (by omega)
      simpa using this
end Go.Proofs.Ytbmmicfdnfpcaaa
