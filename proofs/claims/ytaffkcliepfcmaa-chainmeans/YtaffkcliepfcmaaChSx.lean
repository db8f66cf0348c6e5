/- The document's Shape. -/
import Derived.Test.YtaffkcliepfcmaaChS
import Derived.Test.YtaffkcliepfcmaaChSu
import Derived.Test.YtaffkcliepfcmaaChSt
namespace Go.Proofs.Ytaffkcliepfcmaa.Ch
open Go.ChangeShapes Go.WideShapes Go.ChangeAt Go.RowKit
attribute [local go_sem ↓] Go.wp_at_zero Go.wp_at_succ

set_option maxRecDepth 10000 in
theorem rshape_arg {w : World} (m : Int) {v : Value} {C : List Int} (hv : Nl w v C) (hq : okS m C = false) : Calls Try.prog 9 #[.int .i64 m, v] w (ShE w (0, [], 1)) := by
  have HC : Hid (∀ w : World, Calls Try.prog 27 #[.int .i64 m] w fun e w' => e = .returned (.bool (decide (0 ≤ m) && decide (m ≤ 16))) ∧ w' = w) := fun w => rright_any w m
  have HZ : Hid (∀ w : World, Calls Try.prog 28 #[.int .i64 m] w fun e w' => e = .returned (.int .i64 (sizeV m)) ∧ w' = w) := fun w => rsize_any w m
  obtain ⟨a, cap, rfl⟩ := nl_slice hv
  unfold okS at hq
  generalize (decide (0 ≤ m) && decide (m ≤ 16)) = q1 at *
  clear hv
  cases q1
  · clear hq
    go_enter Try.func9, Try.ntmps9
    go_wp2_with fail
    refine (HC.out _).mono ?_
    rintro e w1 ⟨rfl, rfl⟩
    go_wp2_with fail
    exact ret_sh rfl rfl (heap_alloc_new _ _) rfl rfl ⟨_, rfl, World.ownsRow_nil _ _ _ _, below_a1 _ _⟩
  · have hq2 : ((C.length : Int) == sizeV m) = false := by simpa using hq
    clear hq
    generalize sizeV m = z at *
    go_enter Try.func9, Try.ntmps9
    go_wp2_with fail
    refine (HC.out _).mono ?_
    rintro e w1 ⟨rfl, rfl⟩
    go_wp2_with fail
    refine (HZ.out _).mono ?_
    rintro e w1 ⟨rfl, rfl⟩
    go_wp2_with fail
    exact ret_sh rfl rfl (heap_alloc_new _ _) rfl rfl ⟨_, rfl, World.ownsRow_nil _ _ _ _, below_a1 _ _⟩
set_option maxRecDepth 10000 in
theorem rshape_range {w : World} (n : Nat) {v : Value} {C : List Int} (hv : Nl w v C) (hn : n ≤ 16) (hC : C.length = 2 * n + 3) (hr : nth C 2 < 0 ∨ (n : Int) < nth C 2) : Calls Try.prog 9 #[.int .i64 n, v] w (ShE w (0, [], 12)) := by
  have HC : Hid (∀ w : World, Calls Try.prog 27 #[.int .i64 n] w fun e w' => e = .returned (.bool true) ∧ w' = w) := fun w => by
    have := rright_any w (n : Int)
    have e1 : (decide (0 ≤ (n : Int)) && decide ((n : Int) ≤ 16)) = true := by simp; omega
    rw [e1] at this
    exact this
  have HZ : Hid (∀ w : World, Calls Try.prog 28 #[.int .i64 n] w fun e w' => e = .returned (.int .i64 (C.length : Int)) ∧ w' = w) := fun w => by
    have := rsize_any w (n : Int)
    have e1 : sizeV (n : Int) = (C.length : Int) := by unfold sizeV; rw [if_pos (by omega)]; omega
    rw [e1] at this
    exact this
  obtain ⟨a, cap, rfl⟩ := nl_slice hv
  obtain ⟨_, _, hcell⟩ := nl_cells hv
  obtain ⟨x, rfl, hxb, hx⟩ := hcell 2 (by omega)
  have hlt : 2 < C.length := by omega
  rw [add_pos' _ _ (by decide)] at hx
  clear hv hcell
  generalize nth C 2 = p at *
  by_cases h0 : p < 0
  · have d1 : decide (p < 0) = true := by simpa using h0
    clear hr hC
    go_enter Try.func9, Try.ntmps9
    go_wp2_with fail
    refine (HC.out _).mono ?_
    rintro e w1 ⟨rfl, rfl⟩
    go_wp2_with fail
    refine (HZ.out _).mono ?_
    rintro e w1 ⟨rfl, rfl⟩
    go_wp2_with fail
    exact ret_sh rfl rfl (heap_alloc_new _ _) rfl rfl ⟨_, rfl, World.ownsRow_nil _ _ _ _, below_a1 _ _⟩
  · have d1 : decide (p < 0) = false := by simpa using h0
    have d2 : decide ((n : Int) < p) = true := by simpa using (by omega : (n : Int) < p)
    clear hr hC
    go_enter Try.func9, Try.ntmps9
    go_wp2_with fail
    refine (HC.out _).mono ?_
    rintro e w1 ⟨rfl, rfl⟩
    go_wp2_with fail
    refine (HZ.out _).mono ?_
    rintro e w1 ⟨rfl, rfl⟩
    go_wp2_with fail
    exact ret_sh rfl rfl (heap_alloc_new _ _) rfl rfl ⟨_, rfl, World.ownsRow_nil _ _ _ _, below_a1 _ _⟩
theorem info_bool : (Try.prog.info? 4).map (fun i => (i.zero, i.size, i.bytes)) = some (some (.bool false), 1, 1) := by kernel_rfl
theorem make_marks (w : World) (n : Nat) (hn : n ≤ 1000) :
    (Instr.makeSlice 69 (.int .i64 (n : Int)) (.int .i64 (n : Int))).run Try.prog w = .ok (.slice (some ⟨w.heap.size, 0, none⟩) n n) (w.alloc (bO (List.replicate n false))) := by
  obtain ⟨i0, hi, hz0, hz1, hz2⟩ := info_parts info_bool
  have := run_make (P := Try.prog) w 69 4 i0 _ Try.underlying69 hi hz0 .i64 .i64 (n : Int) (n : Int) (by omega) (by omega) (by rw [hz2]; omega) (by omega)
  rw [this]
  have e : bC (List.replicate n false) = madeCells (Value.cells (.bool false)) n := by
    apply Array.ext
    · simp [bC, madeCells, Value.cells]
    · intro i h1 h2
      simp [bC, madeCells, Value.cells, Nat.mod_one]
  unfold bO
  rw [e]
  simp [hz1]
structure FrM (w wk : World) (S : List Bool) : Prop where
  bel : Below w.heap.size w wk
  res : wk.heap[w.heap.size]? = some sh0
  marks : wk.heap[w.heap.size + 1]? = some (bO S)
theorem FrM.start (w : World) (S : List Bool) : FrM w ((w.alloc sh0).alloc (bO S)) S := ⟨below_then (below_a1 _ _) (below_a1 _ _), heap_alloc2_old _ _ _, heap_alloc2_new _ _ _⟩
theorem FrM.step {w wk wl : World} {S S' : List Bool} (h : FrM w wk S) (k : Keep [w.heap.size + 1] wk wl) (hm : wl.heap[w.heap.size + 1]? = some (bO S')) : FrM w wl S' :=
  ⟨h.bel.trans (k.below h.bel.size (by simp)), by rw [k.block _ (heap_lt h.res) (by simp)]; exact h.res, hm⟩
theorem FrM.own {w wk wl : World} {S : List Bool} (h : FrM w wk S) (k : Keep [w.heap.size + 1] wk wl) {base n : Nat} {v : Value} {xs : List Value} (ho : wk.ownsRow base 3 1 v n xs) : wl.ownsRow base 3 1 v n xs :=
  own_keep ho k (fun b hb => by simp; exact fun e => own_ne ho h.marks (by decide) (by rw [hb, e]))
/-- The document's shape under way: its block and the list in it. -/
def ShM (w0 wr : World) (B : Nat) (k : Int) (u : Value) (l : List Int) : Prop := Below w0.heap.size w0 wr ∧ wr.heap[B]? = some (.cells (shC k u (.slice none 0 0)) 35 (0, 0)) ∧ wr.ownsRow w0.heap.size 2 1 u l.length (numC l) ∧ w0.heap.size ≤ B
theorem fz_drew (w : World) (n : Nat) (a : Addr) : (w.drewN n).frozen? a = w.frozen? a := rfl
theorem ShM.push {w0 wr w1 : World} {B g cap j : Nat} {o : Obj} {k : Int} {u : Value} {l : List Int} (h : ShM w0 wr B k u (l.take j)) (hj : j < l.length) (hown : w1.ownsRow w0.heap.size 2 1 (.slice (some ⟨g, 0, none⟩) (j + 1) cap) (j + 1) (numC (l.take j) ++ [.int .i64 (nth l j)])) (hg : ((wr.alloc o).drewN 1).grownBy w1 u.ownBlock) :
    ShM w0 (w1.setCell ⟨B, 1, none⟩ (.slice (some ⟨g, 0, none⟩) (j + 1) cap)) B k (.slice (some ⟨g, 0, none⟩) (j + 1) cap) (l.take (j + 1)) := by
  obtain ⟨h1, h2, h3, h4⟩ := h
  have hB := heap_lt h2
  have hne := own_ne h3 h2 (by decide)
  have hr1 : w1.heap[B]? = some (.cells (shC k u (.slice none 0 0)) 35 (0, 0)) := by
    rw [hg.block _ (by show B < (wr.alloc o).heap.size; simp; omega) (fun e => hne e.symm)]
    show (wr.alloc o).heap[B]? = _
    rw [Below.heap_alloc _ _ _ hB]
    exact h2
  have hgB : g ≠ B := fun e => by
    have := own_ne hown hr1 (by decide)
    exact this (by rw [e]; rfl)
  have hb1 : Below w0.heap.size w0 w1 := (below_drawn (below_alloc h1 o) 1).grown hg (by show w0.heap.size ≤ (wr.alloc o).heap.size; have := h1.size; simp; omega) (fun b hb => (own_block h3 b hb).1)
  have hk : Keep [B] w1 (w1.setCell ⟨B, 1, none⟩ (.slice (some ⟨g, 0, none⟩) (j + 1) cap)) := (Keep.refl _ _).setCell _ _ (Or.inl (by simp))
  have hl : (l.take (j + 1)).length = j + 1 := by rw [List.length_take]; omega
  refine ⟨hb1.trans (hk.below hb1.size (by simpa using h4)), ?_, ?_, h4⟩
  · rw [heap_set hr1]
    rfl
  · rw [hl, num_snoc l j hj]
    exact own_keep hown hk (fun b hb => by simp [Value.ownBlock] at hb; subst hb; simpa using hgB)
theorem ShM.push0 {w0 wr w1 : World} {B g cap j : Nat} {o : Obj} {k : Int} {u : Value} {l : List Int} (h : ShM w0 wr B k u (l.take j)) (hj : j < l.length) (hown : w1.ownsRow w0.heap.size 2 1 (.slice (some ⟨g, 0, none⟩) (j + 1) cap) (j + 1) (numC (l.take j) ++ [.int .i64 (nth l j)])) (hg : (wr.alloc o).grownBy w1 u.ownBlock) :
    ShM w0 (w1.setCell ⟨B, 1, none⟩ (.slice (some ⟨g, 0, none⟩) (j + 1) cap)) B k (.slice (some ⟨g, 0, none⟩) (j + 1) cap) (l.take (j + 1)) := by
  obtain ⟨h1, h2, h3, h4⟩ := h
  have hB := heap_lt h2
  have hne := own_ne h3 h2 (by decide)
  have hr1 : w1.heap[B]? = some (.cells (shC k u (.slice none 0 0)) 35 (0, 0)) := by
    rw [hg.block _ (by show B < (wr.alloc o).heap.size; simp; omega) (fun e => hne e.symm)]
    show (wr.alloc o).heap[B]? = _
    rw [Below.heap_alloc _ _ _ hB]
    exact h2
  have hgB : g ≠ B := fun e => by
    have := own_ne hown hr1 (by decide)
    exact this (by rw [e]; rfl)
  have hb1 : Below w0.heap.size w0 w1 := (below_alloc h1 o).grown hg (by show w0.heap.size ≤ (wr.alloc o).heap.size; have := h1.size; simp; omega) (fun b hb => (own_block h3 b hb).1)
  have hk : Keep [B] w1 (w1.setCell ⟨B, 1, none⟩ (.slice (some ⟨g, 0, none⟩) (j + 1) cap)) := (Keep.refl _ _).setCell _ _ (Or.inl (by simp))
  have hl : (l.take (j + 1)).length = j + 1 := by rw [List.length_take]; omega
  refine ⟨hb1.trans (hk.below hb1.size (by simpa using h4)), ?_, ?_, h4⟩
  · rw [heap_set hr1]
    rfl
  · rw [hl, num_snoc l j hj]
    exact own_keep hown hk (fun b hb => by simp [Value.ownBlock] at hb; subst hb; simpa using hgB)
theorem sh_meas {n j : Nat} (h : j < n) (hw : wrap64 ((j : Int) + 1) = ((j + 1 : Nat) : Int)) : n - (intOf (Value.int .i64 (wrap64 ((j : Int) + 1)))).toNat < n - (intOf (Value.int .i64 (j : Int))).toNat := by
  rw [hw]
  simp [intOf]
  omega
theorem sh_meas' {n j : Nat} (h : j < n) : n - (intOf (Value.int .i64 ((j : Int) + 1))).toNat < n - (intOf (Value.int .i64 (j : Int))).toNat := by
  simp [intOf]
  omega
theorem ShM.res {w0 wr w1 : World} {B C : Nat} {o : Obj} {k : Int} {u x : Value} {l : List Int} {cs : Array Value} (h : ShM w0 wr B k u l) (hC : wr.heap[C]? = some (.cells cs 35 (0, 0))) (hne : C ≠ B) (hg : ((wr.alloc o).drewN 1).grownBy w1 u.ownBlock) : (w1.setCell ⟨B, 1, none⟩ x).heap[C]? = some (.cells cs 35 (0, 0)) := by
  have hlt := heap_lt hC
  rw [heap_set_other _ _ (Ne.symm hne), hg.block _ (by show C < (wr.alloc o).heap.size; simp; omega) (fun e => own_ne h.2.2.1 hC (by decide) e.symm)]
  show (wr.alloc o).heap[C]? = _
  rw [Below.heap_alloc _ _ _ hlt]
  exact hC
theorem ShM.drawn {w0 wr : World} {B : Nat} {k : Int} {u : Value} {l : List Int} (h : ShM w0 wr B k u l) (n : Nat) : ShM w0 (wr.drewN n) B k u l :=
  ⟨below_drawn h.1 n, h.2.1, own_keep h.2.2.1 (Keep.drewN (Keep.refl [] _) _) (by simp), h.2.2.2⟩
theorem kys_nth (C : List Int) (L : List Nat) {j : Nat} (h : j < L.length) : nth (kys C L) j = nth C (ky L[j]) := by
  rw [nth_at (by rw [kys_len]; exact h)]
  simp [kys]
theorem its_nth (L : List Nat) {j : Nat} (h : j < L.length) : nth (its L) j = (L[j] : Int) := by
  rw [nth_at (by simpa using h)]
  simp [its]
theorem pred_ex {j : Nat} (h : ¬ j = 0) : ∃ k, j = k + 1 := ⟨j - 1, by omega⟩
theorem e_pos {j k : Nat} (h : j = k + 1) : decide (0 < (j : Int)) = true ∧ decide (0 < j) = true ∧ k < j := ⟨by simp; omega, by simp; omega, by omega⟩
theorem wr_m {j k : Nat} (h : j = k + 1) (hj : j ≤ 100) : wrap64 ((j : Int) - 1) = (k : Int) ∧ IntKind.i64.wrap ((j : Int) - 1) = (k : Int) := ⟨by unfold wrap64; omega, by rw [IntKind.wrap_i64]; omega⟩
theorem no_lt {j l : Nat} (h : ¬ j < l) : decide ((j : Int) < (l : Int)) = false ∧ decide (j < l) = false := ⟨by simp; omega, by simp; omega⟩
theorem rise_of {K : List Int} {l : Nat} (hl : K.length = l) (h : ∀ i, i + 1 < l → nth K i < nth K (i + 1)) : K.Pairwise (· < ·) := (rise_iff K).2 (fun i hi => h i (by omega))
theorem lt_kj {j k l : Nat} (h : k < j) (hj : j < l) : k < l := by omega
theorem own_at {w : World} {base j cap : Nat} {a : Option Addr} {e : TypeId} {s : Nat} {xs : List Value} (h : w.ownsRow base e s (.slice a j cap) j xs) (hj : 0 < j) : ∃ g, a = some ⟨g, 0, none⟩ := by
  rcases h.2 with ⟨h9, h8⟩ | ⟨g, cp, cur, h9, _⟩
  · omega
  · injection h9 with h9 _ _
    exact ⟨g, h9⟩
theorem up_0 {K : List Int} {j : Nat} (h : j = 0) : ∀ i, i + 1 < j + 1 → nth K i < nth K (i + 1) := fun i hi => by omega
theorem up_s {K : List Int} {j k : Nat} (h : j = k + 1) (ha : ∀ i, i + 1 < j → nth K i < nth K (i + 1)) (hc : nth K k < nth K j) : ∀ i, i + 1 < j + 1 → nth K i < nth K (i + 1) := fun i hi => by
  by_cases h9 : i + 1 < j
  · exact ha i h9
  · obtain rfl : i = k := by omega
    rw [← h]
    exact hc
theorem not_up {K : List Int} {j k : Nat} (h : j = k + 1) (hj : j < K.length) (hc : nth K j ≤ nth K k) : ¬ K.Pairwise (· < ·) := fun h9 => by
  have := (rise_iff K).1 h9 k (by omega)
  rw [← h] at this
  omega
theorem add_0 (x : Addr) : x.add 0 = x := by unfold Addr.add; simp
set_option maxRecDepth 100000 in
set_option maxHeartbeats 2000000 in
theorem rshape_used {w : World} (n u : Nat) {v : Value} {C : List Int} (hv : Nl w v C) (hn : n ≤ 16) (hC : C.length = 2 * n + 3) (hu : u ≤ n) (h2 : nth C 2 = u) : Calls Try.prog 9 #[.int .i64 n, v] w (ShE w (outU C (hdV C u))) := by
  have HC : Hid (∀ w : World, Calls Try.prog 27 #[.int .i64 n] w fun e w' => e = .returned (.bool true) ∧ w' = w) := fun w => by
    have := rright_any w (n : Int)
    have e1 : (decide (0 ≤ (n : Int)) && decide ((n : Int) ≤ 16)) = true := by simp; omega
    rw [e1] at this
    exact this
  have HZ : Hid (∀ w : World, Calls Try.prog 28 #[.int .i64 n] w fun e w' => e = .returned (.int .i64 (C.length : Int)) ∧ w' = w) := fun w => by
    have := rsize_any w (n : Int)
    have e1 : sizeV (n : Int) = (C.length : Int) := by unfold sizeV; rw [if_pos (by omega)]; omega
    rw [e1] at this
    exact this
  have HNV : Hid (∀ w' : World, Below w.heap.size w w' → Nl w' v C) := fun w' hb => hv.later hb (Nat.le_refl _)
  have HRW : Hid (∀ (w' : World) (S : List Bool) (lk : Int), FrM w w' S → S.length = u + 1 → Calls Try.prog 29 #[v, .int .i64 lk, .int .i64 (u : Int), .slice (some ⟨w.heap.size + 1, 0, none⟩) (u + 1) (u + 1)] w' (RwP w' (w.heap.size + 1) u S (rv C u (u + 1) lk S))) := fun w' S lk hf hl => row_any (HNV.out w' hf.bel) hC hu hn hl hf.marks
  obtain ⟨a, cap, rfl⟩ := nl_slice hv
  obtain ⟨_, _, hcell⟩ := nl_cells hv
  obtain ⟨x, rfl, hxb, hx⟩ := hcell 2 (by omega)
  obtain ⟨x', he', _, hx0⟩ := hcell 0 (by omega)
  injection he' with he'
  subst he'
  obtain ⟨x', he', _, hx1⟩ := hcell 1 (by omega)
  injection he' with he'
  subst he'
  have hlt : 2 < C.length := by omega
  have hl0 : 0 < C.length := by omega
  have hl1 : 1 < C.length := by omega
  rw [add_pos' _ _ (by decide), h2] at hx
  rw [add_pos' _ _ (by decide)] at hx1
  rw [add_0] at hx0
  have HX1 : Hid (w.cell? ⟨x.block, x.off + 1, none⟩ = some (.int .i64 (nth C 1))) := hx1
  have HXA : Hid (∀ i, i < C.length → ∀ w' : World, Below w.heap.size w w' → w'.cell? (x.add i) = some (.int .i64 (nth C i))) := fun i hi w' hb => by
    obtain ⟨y, hy, hyb, hyc⟩ := hcell i hi
    injection hy with hy
    subst hy
    exact cell_later hb (by rw [add_block]; exact hyb) hyc
  have d1 : decide ((u : Int) < 0) = false := by simp
  have d2 : decide ((n : Int) < (u : Int)) = false := by simpa using hu
  have d2n : decide (n < u) = false := by simpa using hu
  have hwu : wrap64 ((u : Int) + 1) = ((u + 1 : Nat) : Int) := by unfold wrap64; omega
  have HD : Hid (C.length = 2 * n + 3 ∧ u ≤ n ∧ n ≤ 16) := ⟨hC, hu, hn⟩
  have hmk := make_marks (w.alloc sh0) (u + 1) (by omega)
  have hmk' : (Instr.makeSlice 69 (.int .i64 ((u : Int) + 1)) (.int .i64 ((u : Int) + 1))).run Try.prog (w.alloc sh0) = .ok (.slice (some ⟨(w.alloc sh0).heap.size, 0, none⟩) (u + 1) (u + 1)) ((w.alloc sh0).alloc (bO (List.replicate (u + 1) false))) := by simpa using hmk
  obtain ⟨o, ho⟩ : ∃ o, hdV C u = o := ⟨_, rfl⟩
  have HO : Hid (hdV C u = o) := ho
  rw [ho]
  have HF0 : Hid (FrM w ((w.alloc sh0).alloc (bO (List.replicate (u + 1) false))) (List.replicate (u + 1) false)) := FrM.start _ _
  have HRL : Hid ((List.replicate (u + 1) false).length = u + 1) := by simp [Hid]
  generalize hrep : List.replicate (u + 1) false = S0 at *
  have HREP : Hid (List.replicate (u + 1) false = S0) := hrep
  have HO1 : Hid ((match rv C u (u + 1) (nth C 0) S0 with
    | none => none
    | some L => match rv C u (u + 1) (nth C 1) (mkS S0 L) with
      | none => none
      | some Fr => if L.length + Fr.length = u then (if (kys C L).Pairwise (· < ·) then some L else none) else none) = o) := by rw [Hid, ← HO.out, ← HREP.out]; rfl
  generalize hc0 : nth C 0 = c0 at hx0 HO1
  generalize hc1 : nth C 1 = c1 at hx1 HX1 HO1
  clear hv hcell h2 hC ho hrep HO hc0 hc1
  go_enter Try.func9, Try.ntmps9
  go_wp2_with fail
  refine (HC.out _).mono ?_
  rintro e w1 ⟨rfl, rfl⟩
  go_wp2_with fail
  refine (HZ.out _).mono ?_
  rintro e w1 ⟨rfl, rfl⟩
  go_wp2_with fail
  refine (HRW.out _ S0 c0 HF0.out HRL.out).mono ?_
  rintro e w1 ⟨hk1, S1, hm1, hl1', ht1⟩
  have HF1 : Hid (FrM w w1 S1) := HF0.out.step hk1 hm1
  have z1 : w1.cell? ⟨x.block, x.off + 1, none⟩ = some (.int .i64 c1) := cell_later (a := ⟨x.block, x.off + 1, none⟩) HF1.out.bel hxb HX1.out
  have HSL : Hid (S1.length = u + 1) := hl1'
  have hxw : x.block < w1.heap.size := by have := HF1.out.bel.size; omega
  clear hk1 hm1 hl1' hx hx0 hx1 HC HZ HF0 hmk hmk' d1 d2 d2n hwu HX1
  rcases ht1 with ⟨ht1, rfl⟩ | ⟨L, vl, ht1, hSL, rfl, hown1⟩
  · have HV : Hid (o = none) := by rw [Hid, ← HO1.out, ht1]
    clear ht1 HO1
    go_wp2_with fail
    refine (HRW.out _ S1 c1 HF1.out HSL.out).mono ?_
    rintro e w2 ⟨hk2, S2, hm2, _, ht2⟩
    have HF2 : Hid (FrM w w2 S2) := HF1.out.step hk2 hm2
    obtain ⟨vf, bf, rfl⟩ : ∃ vf bf, e = .returned (.tuple #[vf, .bool bf]) := by
      rcases ht2 with ⟨_, rfl⟩ | ⟨_, _, _, _, rfl, _⟩
      · exact ⟨_, _, rfl⟩
      · exact ⟨_, _, rfl⟩
    clear ht2 hk2 hm2 HF1
    have hrow : w2.heap[w.heap.size]? = some sh0 := HF2.out.res
    have hst := store_sh (P := Try.prog) hrow rfl (shC_size 0 (.slice none 0 0) (.slice none 0 0)) (shC_one 0 _ (World.ownsRow_nil w2 0 _ _))
    have HG : Hid (w2.heap[w.heap.size]? = some sh0) := hrow
    have hpk : #[.int .i64 0, .slice none 0 0, .slice none 0 0] = shC 0 (.slice none 0 0) (.slice none 0 0) := rfl
    have HKS : Hid ((shC 0 (.slice none 0 0) (.slice none 0 0)).size = 3) := rfl
    generalize hcs : shC 0 (.slice none 0 0) (.slice none 0 0) = cs at hst hpk HKS
    have HCS : Hid (shC 0 (.slice none 0 0) (.slice none 0 0) = cs) := hcs
    clear hrow hcs
    go_wp2_with fail
    refine ret_sh rfl rfl (setRow_heap _ _ _ _ _ _ HG.out) HKS.out rfl ?_
    rw [HV.out]
    exact ⟨_, by rw [← HCS.out]; rfl, World.ownsRow_nil _ _ _ _, below_row HF2.out.bel _ (Nat.le_refl _) _⟩
  · have HT1 : Hid (rv C u (u + 1) c0 S0 = some L) := ht1
    have HW1 : Hid (w1.ownsRow w.heap.size 3 1 vl L.length (inC L)) := own_low hown1 (by simp; omega)
    subst hSL
    clear ht1 hown1
    go_wp2_with fail
    refine (HRW.out _ (mkS S0 L) c1 HF1.out HSL.out).mono ?_
    rintro e w2 ⟨hk2, S2, hm2, _, ht2⟩
    have HF2 : Hid (FrM w w2 S2) := HF1.out.step hk2 hm2
    have HW2 : Hid (w2.ownsRow w.heap.size 3 1 vl L.length (inC L)) := HF1.out.own hk2 HW1.out
    obtain ⟨va, vca, rfl⟩ := own_slice HW2.out
    clear hk2 hm2 z1 hxw
    rcases ht2 with ⟨ht2, rfl⟩ | ⟨Fr, vf, ht2, _, rfl, hown2⟩
    · have HV : Hid (o = none) := by rw [Hid, ← HO1.out, HT1.out]; simp only [ht2]
      clear ht2 HO1 HF1
      have hrow : w2.heap[w.heap.size]? = some sh0 := HF2.out.res
      have hst := store_sh (P := Try.prog) hrow rfl (shC_size 0 (.slice none 0 0) (.slice none 0 0)) (shC_one 0 _ (World.ownsRow_nil w2 0 _ _))
      have HG : Hid (w2.heap[w.heap.size]? = some sh0) := hrow
      have hpk : #[.int .i64 0, .slice none 0 0, .slice none 0 0] = shC 0 (.slice none 0 0) (.slice none 0 0) := rfl
      have HKS : Hid ((shC 0 (.slice none 0 0) (.slice none 0 0)).size = 3) := rfl
      generalize hcs : shC 0 (.slice none 0 0) (.slice none 0 0) = cs at hst hpk HKS
      have HCS : Hid (shC 0 (.slice none 0 0) (.slice none 0 0) = cs) := hcs
      clear hrow hcs
      go_wp2_with fail
      refine ret_sh rfl rfl (setRow_heap _ _ _ _ _ _ HG.out) HKS.out rfl ?_
      rw [HV.out]
      exact ⟨_, by rw [← HCS.out]; rfl, World.ownsRow_nil _ _ _ _, below_row HF2.out.bel _ (Nat.le_refl _) _⟩
    · have HO2 : Hid ((if L.length + Fr.length = u then (if (kys C L).Pairwise (· < ·) then some L else none) else none) = o) := by rw [Hid, ← HO1.out, HT1.out]; simp only [ht2]
      have HLE : Hid (L.length ≤ u ∧ Fr.length ≤ u ∧ ∀ i ∈ L, 1 ≤ i ∧ i ≤ u) := ⟨ph_le (rv_some HT1.out).2.2.1 (rv_some HT1.out).2.1, ph_le (rv_some ht2).2.2.1 (rv_some ht2).2.1, (rv_some HT1.out).2.1⟩
      obtain ⟨fa, fca, rfl⟩ := own_slice hown2
      have hws : wrap64 ((L.length : Int) + (Fr.length : Int)) = (L.length : Int) + (Fr.length : Int) := by have := HLE.out; have := HD.out; unfold wrap64; omega
      clear ht2 HO1 HF1 hown2 HW1
      by_cases h1 : L.length + Fr.length = u
      · have d3 : ((L.length : Int) + (Fr.length : Int) == (u : Int)) = true := by simp; omega
        have d3n : (L.length + Fr.length == u) = true := by simp; omega
        have HO3 : Hid ((if (kys C L).Pairwise (· < ·) then some L else none) = o) := by have := HO2.out; rw [if_pos h1] at this; exact this
        clear h1 HO2 hu
        go_wp2_with fail
        rename ((_ != _) = false) => hbn
        clear hbn
        have HNL : Hid (Nl w2 (.slice va L.length vca) (its L)) := nl_int HW2.out (by have := HLE.out; have := HD.out; omega) (fun i hi => by have := HLE.out.2.2 i hi; have := HD.out; omega)
        obtain ⟨hz9, hz8, hlc⟩ := nl_cells HNL.out
        clear hz9 hz8
        have HLC : Hid (∀ i, i < (its L).length → ∃ x, va = some x ∧ x.block < w2.heap.size ∧ w2.cell? (x.add i) = some (.int .i64 (nth (its L) i))) := hlc
        have HKE : Hid (∀ (w : World) (i : Nat), i ≤ 16 → Calls Try.prog 30 #[.int .i64 (i : Int)] w fun e w' => e = .returned (.int .i64 ((ky i : Nat) : Int)) ∧ w' = w) := fun w i h => by have := rkey_any w (i := (i : Int)) (by omega); rw [key_int] at this; exact this
        have HKL : Hid ((kys C L).length = L.length ∧ L.length ≤ 16 ∧ ∀ j (h : j < L.length), nth (kys C L) j = nth C (ky L[j]) ∧ nth (its L) j = (L[j] : Int) ∧ L[j] ≤ 16 ∧ ky L[j] < C.length) := by
          refine ⟨kys_len _ _, by have := HLE.out; have := HD.out; omega, fun j h => ⟨kys_nth C L h, its_nth L h, ?_, ?_⟩⟩
          · have := HLE.out.2.2 _ (List.getElem_mem h); have := HD.out; omega
          · have := HLE.out.2.2 _ (List.getElem_mem h); have := HD.out; unfold ky; omega
        have HIL : Hid ((its L).length = L.length) := by simp [Hid, its]
        obtain ⟨K, hK⟩ : ∃ K, kys C L = K := ⟨_, rfl⟩
        have HK : Hid (kys C L = K) := hK
        rw [hK] at HO3 HKL
        have hL16 : L.length ≤ 16 := HKL.out.2.1
        obtain ⟨i0, hi, hz0, hz1, hz2⟩ := info_parts info_i64
        have HZ3 : Hid (i0.zero = some (.int .i64 0) ∧ i0.size = 1 ∧ i0.bytes = 8) := ⟨hz0, hz1, hz2⟩
        clear hlc hK HT1 HRW HW2 HNL hws d3 d3n
        go_loopg [14] L.length (fun gh iv wr => ∃ (j : Nat) (uv : Value), gh = L.length - j ∧ j ≤ L.length ∧ iv = .int .i64 (j : Int) ∧ ShM w2 wr w2.heap.size 4 uv (K.take j) ∧ ∀ i, i + 1 < j → nth K i < nth K (i + 1))
        case atStart => exact ⟨0, .slice none 0 0, by omega, by omega, rfl, ⟨below_a1 _ _, heap_alloc_new _ _, World.ownsRow_nil _ _ _ _, by omega⟩, by intro i hi; omega⟩
        case round =>
          obtain ⟨j, uv, rfl, hj, rfl, hsm, hall⟩ := hrel
          have HA : Hid (∀ i, i + 1 < j → nth K i < nth K (i + 1)) := hall
          have HSM : Hid (ShM w2 wr w2.heap.size 4 uv (K.take j)) := hsm
          have HTL : Hid ((K.take j).length = j) := by rw [Hid, List.length_take]; have := HKL.out.1; omega
          have hown0 : wr.ownsRow w2.heap.size 2 1 uv j (numC (K.take j)) := by have := hsm.2.2.1; rw [HTL.out] at this; exact this
          obtain ⟨ua, uc, rfl⟩ := own_slice hown0
          have hws2 : w2.heap.size ≤ wr.heap.size := hsm.1.size
          have HBW : Hid (Below w.heap.size w wr) := below_then HF2.out.bel hsm.1
          have HRS : Hid (wr.heap[w.heap.size]? = some sh0) := by rw [Hid, hsm.1.block _ (heap_lt HF2.out.res)]; exact HF2.out.res
          have HWI : Hid (wrap64 ((j : Int) + 1) = ((j + 1 : Nat) : Int)) := by have := hL16; rw [Hid]; unfold wrap64; omega
          have HOW0 : Hid (wr.ownsRow w2.heap.size 2 1 (.slice ua j uc) j (numC (K.take j))) := hown0
          clear hsm hall hown0
          by_cases hlt : j < L.length
          · have dl : decide ((j : Int) < (L.length : Int)) = true := by simp; omega
            have dln : decide (j < L.length) = true := by simpa using hlt
            obtain ⟨xl, hxl, hxlb, hxlc⟩ := HLC.out j (by rw [HIL.out]; exact hlt)
            subst hxl
            obtain ⟨hk1, hk2, hk3, hk4⟩ := HKL.out.2.2 j hlt
            rw [hk2] at hxlc
            have y1 : wr.cell? (xl.add j) = some (.int .i64 (L[j] : Int)) := cell_later HSM.out.1 (by rw [add_block]; exact hxlb) hxlc
            have y2 : wr.cell? (x.add (ky L[j])) = some (.int .i64 (nth C (ky L[j]))) := HXA.out _ hk4 wr HBW.out
            have HKC : Hid (∀ w : World, Calls Try.prog 30 #[.int .i64 (L[j] : Int)] w fun e w' => e = .returned (.int .i64 ((ky L[j] : Nat) : Int)) ∧ w' = w) := fun w => HKE.out w _ hk3
            rw [← hk1] at y2
            obtain ⟨c, hc⟩ : ∃ c, nth K j = c := ⟨_, rfl⟩
            rw [hc] at y2
            have HJ : Hid (j < K.length ∧ nth K j = c ∧ j + 1 ≤ L.length) := ⟨by rw [HKL.out.1]; exact hlt, hc, hlt⟩
            have hxlw : xl.block < wr.heap.size := by omega
            have hxw : x.block < wr.heap.size := by have := HBW.out.size; omega
            generalize L[j] = nd at *
            generalize ky nd = q at *
            clear hk1 hk2 hk3 hxlc hc hxlb
            by_cases h0 : j = 0
            · have e0 : decide (0 < (j : Int)) = false := by simp; omega
              have e0n : decide (0 < j) = false := by simp; omega
              have HA2 : Hid (∀ i, i + 1 < j + 1 → nth K i < nth K (i + 1)) := up_0 h0
              have HS5 : Hid (ShM w2 wr w2.heap.size 4 (.slice ua j uc) (K.take j)) := HSM.out
              have hc1 : wr.cell? ⟨w2.heap.size, 1, none⟩ = some (.slice ua j uc) := by rw [cell_at HS5.out.2.1]; rfl
              have hB : w2.heap.size < wr.heap.size := heap_lt HS5.out.2.1
              clear h0 HOW0 HSM
              go_wp2_with fail
              refine (HKC.out _).mono ?_
              rintro e w3 ⟨rfl, hw3⟩
              obtain rfl := hw3.symm
              clear hw3
              have HOW : Hid (wr.ownsRow w2.heap.size 2 1 (.slice ua j uc) j (numC (K.take j))) := by have := HS5.out.2.2.1; rw [HTL.out] at this; exact this
              have hc1 : wr.cell? ⟨w2.heap.size, 1, none⟩ = some (.slice ua j uc) := by rw [cell_at HS5.out.2.1]; rfl
              have hne : (.slice ua j uc : Value).ownBlock ≠ some w2.heap.size := own_ne HS5.out.2.2.1 HS5.out.2.1 (by decide)
              have HFZ : Hid (wr.frozen? ⟨w2.heap.size, 1, none⟩ = false ∧ wr.cell? ⟨w2.heap.size, 1, none⟩ = some (.slice ua j uc) ∧ w2.heap.size < wr.heap.size) := ⟨frozen_at HS5.out.2.1 1, hc1, hB⟩
              have HNE : Hid ((.slice ua j uc : Value).ownBlock ≠ some w2.heap.size) := hne
              have HPU : Hid (∀ (o : Obj) (w1 : World) (g0 cap : Nat), w1.ownsRow w2.heap.size 2 1 (.slice (some ⟨g0, 0, none⟩) (j + 1) cap) (j + 1) (numC (K.take j) ++ [.int .i64 c]) → (wr.alloc o).grownBy w1 (.slice ua j uc : Value).ownBlock → ShM w2 (w1.setCell ⟨w2.heap.size, 1, none⟩ (.slice (some ⟨g0, 0, none⟩) (j + 1) cap)) w2.heap.size 4 (.slice (some ⟨g0, 0, none⟩) (j + 1) cap) (K.take (j + 1))) := fun o w1 g0 cap h1 h2 => HS5.out.push0 HJ.out.1 (by rw [HJ.out.2.1]; exact h1) h2
              have HJ9 : Hid (j + 1 ≤ 17) := by have := hL16; have := HJ.out.2.2; rw [Hid]; omega
              generalize numC (K.take j) = xs at HOW HPU
              clear hne
              go_wp2_with (at_builtin; refine list_lies_wide _ rfl _ _ 22 rfl w2.heap.size 2 i0 _ 1 8 Try.underlying22 hi hz0 hz1 hz2 rfl (by decide) _ _ _ rfl (HOW.out.alloc _) ⟨wr.heap.size, 0, none⟩ 1 1 [.int .i64 c] rfl rfl (World.news_of_block (cs := #[.int .i64 c]) (t := 2) (fr := (0, 0)) (heap_alloc_new _ _)) (by intro u hu; simp at hu; subst hu; rfl) (by decide) (by have := HJ9.out; unfold maxLen; omega) (by have := HJ9.out; omega) (by simp; omega) _ rfl ?_)
              intro gg cap' w1 hown1 hgrow _ _
              have hs1 : w1.cell? ⟨w2.heap.size, 1, none⟩ = some (.slice ua j uc) := by rw [hgrow.cell_far _ (by have := HFZ.out.2.2; simp; omega) (Ne.symm HNE.out), World.cell?_alloc_past _ _ _ HFZ.out.2.2]; exact HFZ.out.2.1
              have hs2 : w1.frozen? ⟨w2.heap.size, 1, none⟩ = false := by rw [hgrow.frozen_far _ (by have := HFZ.out.2.2; simp; omega) (Ne.symm HNE.out), World.frozen?_alloc_past _ _ _ HFZ.out.2.2]; exact HFZ.out.1
              have HS : Hid (ShM w2 (w1.setCell ⟨w2.heap.size, 1, none⟩ (.slice (some ⟨gg, 0, none⟩) (j + 1) cap')) w2.heap.size 4 (.slice (some ⟨gg, 0, none⟩) (j + 1) cap') (K.take (j + 1))) := HPU.out _ w1 gg cap' hown1 hgrow
              clear hown1 hgrow HPU
              go_wp2_with fail
              go_roundg (L.length - (j + 1))
              case rel => exact ⟨j + 1, _, rfl, HJ.out.2.2, by first | rfl | rw [HWI.out] | go_num | simp, HS.out, HA2.out⟩
              case measure => have := HJ.out.2.2; omega
            · obtain ⟨k, hk⟩ := pred_ex h0
              obtain ⟨e0, e0n, hkj⟩ := e_pos hk
              obtain ⟨hwm, hwn⟩ := wr_m hk (Nat.le_trans hj (Nat.le_trans hL16 (by decide)))
              have HKJ : Hid (j = k + 1) := hk
              obtain ⟨g, hg⟩ := own_at HOW0.out (Nat.lt_of_le_of_lt (Nat.zero_le k) hkj)
              subst hg
              have HKK : Hid (nth (K.take j) k = nth K k) := by
                rw [Hid, nth_at (by rw [HTL.out]; exact hkj), nth_at (lt_kj hkj HJ.out.1)]
                simp
              have y3 : wr.cell? ⟨g, k, none⟩ = some (.int .i64 (nth K k)) := by
                rw [← HKK.out]
                exact own_cells HOW0.out _ _ (numC_get _ k (by rw [HTL.out]; exact hkj))
              have hgb : g < wr.heap.size := (own_block HOW0.out g rfl).2
              have y4 : wr.cell? ⟨w2.heap.size, 1, none⟩ = some (.slice (some ⟨g, 0, none⟩) j uc) := by rw [cell_at HSM.out.2.1]; rfl
              obtain ⟨p, hp⟩ : ∃ p, nth K k = p := ⟨_, rfl⟩
              rw [hp] at y3
              have HP : Hid (nth K k = p) := hp
              clear hp h0 hk
              by_cases hcp : c ≤ p
              · have e1 : decide (c ≤ p) = true := by simpa using hcp
                have HV : Hid (o = none) := by rw [Hid, ← HO3.out]; exact if_neg (not_up HKJ.out HJ.out.1 (by rw [HP.out, HJ.out.2.1]; exact hcp))
                clear hcp
                go_wp2_with fail
                refine (HKC.out _).mono ?_
                rintro e w3 ⟨rfl, hw3⟩
                obtain rfl := hw3.symm
                clear hw3
                have hrow : wr.heap[w.heap.size]? = some sh0 := HRS.out
                have hst := store_sh (P := Try.prog) hrow rfl (shC_size 0 (.slice none 0 0) (.slice none 0 0)) (shC_one 0 _ (World.ownsRow_nil wr 0 _ _))
                have HG : Hid (wr.heap[w.heap.size]? = some sh0) := hrow
                have hpk : #[.int .i64 0, .slice none 0 0, .slice none 0 0] = shC 0 (.slice none 0 0) (.slice none 0 0) := rfl
                have HKS : Hid ((shC 0 (.slice none 0 0) (.slice none 0 0)).size = 3) := rfl
                generalize hcs : shC 0 (.slice none 0 0) (.slice none 0 0) = cs at hst hpk HKS
                have HCS : Hid (shC 0 (.slice none 0 0) (.slice none 0 0) = cs) := hcs
                clear hrow hcs
                go_wp2_with fail
                refine ret_sh rfl rfl (setRow_heap _ _ _ _ _ _ HG.out) HKS.out rfl ?_
                rw [HV.out]
                exact ⟨_, by rw [← HCS.out]; rfl, World.ownsRow_nil _ _ _ _, below_row HBW.out _ (Nat.le_refl _) _⟩
              · have e1 : decide (c ≤ p) = false := by simpa using hcp
                have HA2 : Hid (∀ i, i + 1 < j + 1 → nth K i < nth K (i + 1)) := up_s HKJ.out HA.out (by rw [HP.out, HJ.out.2.1]; exact Int.lt_of_not_ge hcp)
                have HS5 : Hid (ShM w2 wr w2.heap.size 4 (.slice (some ⟨g, 0, none⟩) j uc) (K.take j)) := HSM.out
                have hB : w2.heap.size < wr.heap.size := heap_lt HS5.out.2.1
                clear hcp HOW0 HSM
                go_wp2_with fail
                refine (HKC.out _).mono ?_
                rintro e w3 ⟨rfl, hw3⟩
                obtain rfl := hw3.symm
                clear hw3
                have HOW : Hid (wr.ownsRow w2.heap.size 2 1 (.slice (some ⟨g, 0, none⟩) j uc) j (numC (K.take j))) := by have := HS5.out.2.2.1; rw [HTL.out] at this; exact this
                have hc1 : wr.cell? ⟨w2.heap.size, 1, none⟩ = some (.slice (some ⟨g, 0, none⟩) j uc) := by rw [cell_at HS5.out.2.1]; rfl
                have hne : (.slice (some ⟨g, 0, none⟩) j uc : Value).ownBlock ≠ some w2.heap.size := own_ne HS5.out.2.2.1 HS5.out.2.1 (by decide)
                have HFZ : Hid (wr.frozen? ⟨w2.heap.size, 1, none⟩ = false ∧ wr.cell? ⟨w2.heap.size, 1, none⟩ = some (.slice (some ⟨g, 0, none⟩) j uc) ∧ w2.heap.size < wr.heap.size) := ⟨frozen_at HS5.out.2.1 1, hc1, hB⟩
                have HNE : Hid ((.slice (some ⟨g, 0, none⟩) j uc : Value).ownBlock ≠ some w2.heap.size) := hne
                have HPU : Hid (∀ (o : Obj) (w1 : World) (g0 cap : Nat), w1.ownsRow w2.heap.size 2 1 (.slice (some ⟨g0, 0, none⟩) (j + 1) cap) (j + 1) (numC (K.take j) ++ [.int .i64 c]) → (wr.alloc o).grownBy w1 (.slice (some ⟨g, 0, none⟩) j uc : Value).ownBlock → ShM w2 (w1.setCell ⟨w2.heap.size, 1, none⟩ (.slice (some ⟨g0, 0, none⟩) (j + 1) cap)) w2.heap.size 4 (.slice (some ⟨g0, 0, none⟩) (j + 1) cap) (K.take (j + 1))) := fun o w1 g0 cap h1 h2 => HS5.out.push0 HJ.out.1 (by rw [HJ.out.2.1]; exact h1) h2
                have HJ9 : Hid (j + 1 ≤ 17) := by have := hL16; have := HJ.out.2.2; rw [Hid]; omega
                generalize numC (K.take j) = xs at HOW HPU
                clear hne
                go_wp2_with (at_builtin; refine list_lies_wide _ rfl _ _ 22 rfl w2.heap.size 2 i0 _ 1 8 Try.underlying22 hi hz0 hz1 hz2 rfl (by decide) _ _ _ rfl (HOW.out.alloc _) ⟨wr.heap.size, 0, none⟩ 1 1 [.int .i64 c] rfl rfl (World.news_of_block (cs := #[.int .i64 c]) (t := 2) (fr := (0, 0)) (heap_alloc_new _ _)) (by intro u hu; simp at hu; subst hu; rfl) (by decide) (by have := HJ9.out; unfold maxLen; omega) (by have := HJ9.out; omega) (by simp; omega) _ rfl ?_)
                intro gg cap' w1 hown1 hgrow _ _
                have hs1 : w1.cell? ⟨w2.heap.size, 1, none⟩ = some (.slice (some ⟨g, 0, none⟩) j uc) := by rw [hgrow.cell_far _ (by have := HFZ.out.2.2; simp; omega) (Ne.symm HNE.out), World.cell?_alloc_past _ _ _ HFZ.out.2.2]; exact HFZ.out.2.1
                have hs2 : w1.frozen? ⟨w2.heap.size, 1, none⟩ = false := by rw [hgrow.frozen_far _ (by have := HFZ.out.2.2; simp; omega) (Ne.symm HNE.out), World.frozen?_alloc_past _ _ _ HFZ.out.2.2]; exact HFZ.out.1
                have HS : Hid (ShM w2 (w1.setCell ⟨w2.heap.size, 1, none⟩ (.slice (some ⟨gg, 0, none⟩) (j + 1) cap')) w2.heap.size 4 (.slice (some ⟨gg, 0, none⟩) (j + 1) cap') (K.take (j + 1))) := HPU.out _ w1 gg cap' hown1 hgrow
                clear hown1 hgrow HPU
                go_wp2_with fail
                go_roundg (L.length - (j + 1))
                case rel => exact ⟨j + 1, _, rfl, HJ.out.2.2, by first | rfl | rw [HWI.out] | go_num | simp, HS.out, HA2.out⟩
                case measure => have := HJ.out.2.2; omega
          · obtain ⟨dl, dln⟩ := no_lt hlt
            have hjl : j = L.length := Nat.le_antisymm hj (Nat.le_of_not_lt hlt)
            subst hjl
            have HV : Hid (o = some L) := by rw [Hid, ← HO3.out]; exact if_pos (rise_of HKL.out.1 HA.out)
            have hKT : K.take L.length = K := by rw [← HKL.out.1]; exact List.take_length
            rw [hKT] at HOW0 HSM
            have b0 : wr.cell? ⟨w2.heap.size, 0, none⟩ = some (.int .i64 4) := by rw [cell_at HSM.out.2.1]; rfl
            have b1 : wr.cell? ⟨w2.heap.size, 1, none⟩ = some (.slice ua L.length uc) := by rw [cell_at HSM.out.2.1]; rfl
            have b2 : wr.cell? ⟨w2.heap.size, 2, none⟩ = some (.slice none 0 0) := by rw [cell_at HSM.out.2.1]; rfl
            have hbl : w2.heap.size < wr.heap.size := heap_lt HSM.out.2.1
            have hst := store_sh (P := Try.prog) HRS.out rfl (shC_size 4 (.slice ua L.length uc) (.slice none 0 0)) (shC_one 4 (.slice ua L.length uc) HOW0.out)
            have HKS : Hid ((shC 4 (.slice ua L.length uc) (.slice none 0 0)).size = 3) := rfl
            have hpk : #[.int .i64 4, .slice ua L.length uc, .slice none 0 0] = shC 4 (.slice ua L.length uc) (.slice none 0 0) := rfl
            have hz3 : (shC 4 (.slice ua L.length uc) (.slice none 0 0)).size = 3 := rfl
            generalize hcs : shC 4 (.slice ua L.length uc) (.slice none 0 0) = cs at hst hpk hz3 HKS
            have HCS : Hid (shC 4 (.slice ua L.length uc) (.slice none 0 0) = cs) := hcs
            clear hcs hKT HTL hj hlt
            go_wp2_with fail
            refine ret_sh rfl rfl (setRow_heap _ _ _ _ _ _ HRS.out) HKS.out rfl ?_
            rw [HV.out]
            refine ⟨_, by rw [← HCS.out]; rfl, ?_, below_row HBW.out _ (Nat.le_refl _) _⟩
            show World.ownsRow _ _ _ _ _ (kys C L).length (numC (kys C L))
            rw [HK.out, HKL.out.1]
            exact own_low (own_keep HOW0.out (Keep.row wr w.heap.size cs) (fun b hb => by simp; exact fun e => own_ne HOW0.out HRS.out (by decide) (by rw [hb, e]))) HF2.out.bel.size
      · have d3 : ((L.length : Int) + (Fr.length : Int) == (u : Int)) = false := by simp; omega
        have d3n : (L.length + Fr.length == u) = false := by simp; omega
        have HV : Hid (o = none) := by have := HO2.out; rw [if_neg h1] at this; exact this.symm
        clear h1 HO2
        have hrow : w2.heap[w.heap.size]? = some sh0 := HF2.out.res
        have hst := store_sh (P := Try.prog) hrow rfl (shC_size 0 (.slice none 0 0) (.slice none 0 0)) (shC_one 0 _ (World.ownsRow_nil w2 0 _ _))
        have HG : Hid (w2.heap[w.heap.size]? = some sh0) := hrow
        have hpk : #[.int .i64 0, .slice none 0 0, .slice none 0 0] = shC 0 (.slice none 0 0) (.slice none 0 0) := rfl
        have HKS : Hid ((shC 0 (.slice none 0 0) (.slice none 0 0)).size = 3) := rfl
        generalize hcs : shC 0 (.slice none 0 0) (.slice none 0 0) = cs at hst hpk HKS
        have HCS : Hid (shC 0 (.slice none 0 0) (.slice none 0 0) = cs) := hcs
        clear hrow hcs
        go_wp2_with fail
        refine ret_sh rfl rfl (setRow_heap _ _ _ _ _ _ HG.out) HKS.out rfl ?_
        rw [HV.out]
        exact ⟨_, by rw [← HCS.out]; rfl, World.ownsRow_nil _ _ _ _, below_row HF2.out.bel _ (Nat.le_refl _) _⟩
theorem rshape_any {w : World} (m : Int) {v : Value} {C : List Int} (hv : Nl w v C) : Calls Try.prog 9 #[.int .i64 m, v] w (ShE w (outS m C)) := by
  unfold outS
  split
  · rename_i hq
    obtain ⟨n, rfl, hn, hC⟩ := okS_of hq
    split
    · rename_i hr
      exact rshape_range n hv hn hC hr
    · rename_i hr
      rw [hp_hd]
      exact rshape_used n (nth C 2).toNat hv hn hC (by omega) (by omega)
  · rename_i hq
    exact rshape_arg m hv (by simpa using hq)
end Go.Proofs.Ytaffkcliepfcmaa.Ch
