/- New, Shapes, Copy: the program's. -/
import Derived.Test.YtgbmnngmfcneaaaPlT
import Derived.Test.YtgbmnngmfcneaaaPcC
import Derived.Test.YtgbmnngmfcneaaaCoH
namespace Go.Proofs.Ytgbmnngmfcneaaa.Pl
open Go.ChangeShapes Go.WideShapes Go.ChangeAt Go.RowKit
attribute [local go_sem ↓] Go.wp_at_zero Go.wp_at_succ

/-- A collection that is empty. -/
def empC (x : Pc.Rg) : Co := ⟨x.1, x.2, if x.1 = 1 then List.replicate x.2.toNat 0 else [], []⟩
theorem empC_ok {x : Pc.Rg} (h : Pc.okR x = true) : CoOk (empC x) := by
  simp only [Pc.okR, Bool.and_eq_true, decide_eq_true_eq] at h
  obtain ⟨⟨⟨h1, h2⟩, h3⟩, h4⟩ := h
  unfold empC
  refine ⟨h1, h2, h3, h4, fun _ => rfl, fun e => ?_, fun e => ?_, ?_, ?_, fun _ => ?_, fun e => ?_, ?_, fun x hx => by simp at hx⟩
  · simp only at e ⊢
    rw [if_neg (by omega)]
  · simp only at e ⊢
    rw [if_pos e, List.length_replicate]
    omega
  · simp only
    split
    · rw [List.length_replicate]; omega
    · simpa using h3
  · simpa using h3
  · intro i j _ hj
    simp [keysP] at hj
  · simp only at e ⊢
    rw [if_neg (by omega)]
    intro i j _ hj
    simp at hj
  · intro z hz
    simp only at hz
    split at hz
    · rw [(List.mem_replicate.1 hz).2]
      exact ⟨by decide, by decide⟩
    · simp at hz
def colA (c : Co) (v p : Value) : Array Value := #[.int .i64 c.kd, .int .i64 c.cap, v, p]
theorem ret_coll {fn : Func} {p : Tmp} {R : Ending → World → Prop} {a : Act} {w : World} {g : Nat} {cs : Array Value} (h : fn.results = #[.cell p 70]) (hp : a.tmps.getD p undef = .pointer (some ⟨g, 0, none⟩))
    (hg : w.heap[g]? = some (.cells cs 70 (0, 0))) (hz : cs.size = 4) (hd : a.defers = []) (hR : R (.returned (.agg cs)) w) : bodyPost Try.prog fn R .ret a w := by
  refine bodyPost_ret (v := .agg cs) ?_ hd hR
  have hp' : a.tmps[p]?.getD undef = .pointer (some ⟨g, 0, none⟩) := by simpa using hp
  have hl := run_loadVar_row (P := Try.prog) w g 70 70 cs (0, 0) _ hg Try.underlying70 rfl (by rw [hz]; kernel_rfl)
  simp [results, h, hp', asAddr, hl]
theorem heap3_1 (w : World) (a b c : Obj) : (((w.alloc a).alloc b).alloc c).heap[w.heap.size + 1]? = some b := by
  rw [Below.heap_alloc _ _ _ (by simp)]
  exact heap_alloc_2 _ _ _
theorem heap4_1 (w : World) (a b c d : Obj) : ((((w.alloc a).alloc b).alloc c).alloc d).heap[w.heap.size + 1]? = some b := by
  rw [Below.heap_alloc _ _ _ (by simp)]
  exact heap3_1 _ _ _ _
theorem heap4_3 (w : World) (a b c d : Obj) : ((((w.alloc a).alloc b).alloc c).alloc d).heap[w.heap.size + 1 + 1 + 1]? = some d := by
  have := heap_alloc_new (((w.alloc a).alloc b).alloc c) d
  simpa using this
set_option maxRecDepth 10000 in
theorem empty_any (w : World) (x : Pc.Rg) (h : Pc.okR x = true) : Calls Try.prog 39 #[Pc.regV x] w fun e w' => ∃ v, e = .returned (.agg (colA (empC x) v (.slice none 0 0))) ∧ w'.ownsRow w.heap.size 2 1 v (empC x).vs.length (numC (empC x).vs) ∧ Below w.heap.size w w' := by
  obtain ⟨k, m⟩ := x
  simp only [Pc.okR, Bool.and_eq_true, decide_eq_true_eq] at h
  obtain ⟨⟨⟨h1, h2⟩, h3⟩, h4⟩ := h
  obtain ⟨n, rfl⟩ : ∃ n : Nat, m = (n : Int) := ⟨m.toNat, by omega⟩
  unfold Pc.regV empC colA
  dsimp only
  by_cases e : k = 1
  · subst e
    rw [if_pos rfl]
    rw [show ((n : Int)).toNat = n from rfl]
    obtain ⟨i0, hi, hz0, hz1, hz2⟩ := info_parts info_i64
    have hmk := fun ww : World => make_row ww n 1 8 Try.underlying36 hi hz0 hz1 hz2 (by omega) (by omega)
    have hms : (madeCells (Value.cells (.int .i64 0)) (n * 1)).toList = numC (List.replicate n 0) := by rw [Nat.mul_one]; exact made_nums n
    have hmz : (madeCells (Value.cells (.int .i64 0)) (n * 1)).size = n := by simp [size_madeCells]
    generalize madeCells (Value.cells (.int .i64 0)) (n * 1) = cur at *
    clear hi hz0 hz1 hz2 i0
    go_enter Try.func39, Try.ntmps39
    go_wp2_with fail
    exact ret_coll (g := w.heap.size + 1) rfl rfl (heap4_1 _ _ _ _ _) rfl rfl ⟨_, rfl, ⟨by rw [numC_len, List.length_replicate, Nat.mul_one], Or.inr ⟨w.heap.size + 1 + 1 + 1, n, cur, by rw [List.length_replicate], by omega, heap4_3 _ _ _ _ _, by rw [List.length_replicate]; exact Nat.le_refl _, by unfold maxLen; omega, by rw [Nat.mul_one]; exact hmz, by rw [hms, Nat.mul_one]; exact List.take_of_length_le (by rw [numC_len]; exact Nat.le_refl _)⟩⟩, below_alloc (below_alloc (below_alloc (below_a1 _ _) _) _) _⟩
  · rw [if_neg e]
    have hd : (k == 1) = false := by simpa using e
    clear e
    go_enter Try.func39, Try.ntmps39
    go_wp2_with fail
    exact ret_coll (g := w.heap.size + 1) rfl rfl (heap3_1 _ _ _ _) rfl rfl ⟨_, rfl, World.ownsRow_nil _ _ _ _, below_alloc (below_alloc (below_a1 _ _) _) _⟩
theorem nthC_snoc (cs : List Co) (c : Co) (i : Nat) (hi : i < cs.length + 1) : nthC (cs ++ [c]) i = if i = cs.length then c else nthC cs i := by
  unfold nthC
  simp only [List.getD_eq_getElem?_getD]
  by_cases e : i = cs.length
  · subst e; simp
  · rw [if_neg e, List.getElem?_append_left (by omega)]
/-- One more collection, in memory of its own. -/
theorem Rows.snoc {w w' : World} {B : Nat} {F : List Nat} {cs : List Co} {V P : Nat → Value} (h : Rows w B F cs V P) {c : Co} {v p : Value} {G : List Nat} (hk : Keep G w w') (hG : ∀ b ∈ F, b ∉ G ∨ ∀ i, i < cs.length → (V i).ownBlock ≠ some b ∧ (P i).ownBlock ≠ some b) (hv : w'.ownsRow B 2 1 v c.vs.length (numC c.vs)) (hp : w'.ownsRow B 52 2 p c.ps.length (prC c.ps))
    (hfv : ∀ b, v.ownBlock = some b → w.heap.size ≤ b) (hfp : ∀ b, p.ownBlock = some b → w.heap.size ≤ b) (hok : CoOk c) : Rows w' B (F ++ (v.ownBlock.toList ++ p.ownBlock.toList)) (cs ++ [c]) (Pl.upd V cs.length v) (Pl.upd P cs.length p) := by
  have hvl : ∀ j, j < cs.length → ∀ b, (V j).ownBlock = some b → b < w.heap.size := fun j hj b hb => (own_block (h.vs j hj) b hb).2
  have hpl : ∀ j, j < cs.length → ∀ b, (P j).ownBlock = some b → b < w.heap.size := fun j hj b hb => (own_block (h.ps j hj) b hb).2
  have hl : (cs ++ [c]).length = cs.length + 1 := by simp
  refine ⟨?_, ?_, ?_, ?_, ?_, ?_, ?_⟩
  · intro j hj
    rw [hl] at hj
    rw [nthC_snoc _ _ _ hj]
    by_cases e : j = cs.length
    · rw [if_pos e, e, upd_at]; exact hv
    · rw [if_neg e, upd_ne _ _ e]
      exact own_keep (h.vs j (by omega)) hk (fun b hb => by
        rcases hG b (h.iv j (by omega) b hb) with h1 | h1
        · exact h1
        · exact absurd hb (h1 j (by omega)).1)
  · intro j hj
    rw [hl] at hj
    rw [nthC_snoc _ _ _ hj]
    by_cases e : j = cs.length
    · rw [if_pos e, e, upd_at]; exact hp
    · rw [if_neg e, upd_ne _ _ e]
      exact own_keep (h.ps j (by omega)) hk (fun b hb => by
        rcases hG b (h.ip j (by omega) b hb) with h1 | h1
        · exact h1
        · exact absurd hb (h1 j (by omega)).2)
  · intro j hj b hb
    rw [hl] at hj
    by_cases e : j = cs.length
    · rw [e, upd_at] at hb; simp [hb]
    · rw [upd_ne _ _ e] at hb; simp [h.iv j (by omega) b hb]
  · intro j hj b hb
    rw [hl] at hj
    by_cases e : j = cs.length
    · rw [e, upd_at] at hb; simp [hb]
    · rw [upd_ne _ _ e] at hb; simp [h.ip j (by omega) b hb]
  · intro j l hj hll hjl b hb hb2
    rw [hl] at hj hll
    by_cases e : j = cs.length
    · rw [e, upd_at] at hb
      rw [upd_ne _ _ (by omega)] at hb2
      have := hvl l (by omega) b hb2
      have := hfv b hb
      omega
    · rw [upd_ne _ _ e] at hb
      by_cases e2 : l = cs.length
      · rw [e2, upd_at] at hb2
        have := hvl j (by omega) b hb
        have := hfv b hb2
        omega
      · rw [upd_ne _ _ e2] at hb2
        exact h.vv j l (by omega) (by omega) hjl b hb hb2
  · intro j l hj hll hjl b hb hb2
    rw [hl] at hj hll
    by_cases e : j = cs.length
    · rw [e, upd_at] at hb
      rw [upd_ne _ _ (by omega)] at hb2
      have := hpl l (by omega) b hb2
      have := hfp b hb
      omega
    · rw [upd_ne _ _ e] at hb
      by_cases e2 : l = cs.length
      · rw [e2, upd_at] at hb2
        have := hpl j (by omega) b hb
        have := hfp b hb2
        omega
      · rw [upd_ne _ _ e2] at hb2
        exact h.pp j l (by omega) (by omega) hjl b hb hb2
  · intro j hj
    rw [hl] at hj
    rw [nthC_snoc _ _ _ hj]
    split
    · exact hok
    · exact h.ok j (by omega)
theorem colF_snoc (cs : List Co) (c : Co) (V P : Nat → Value) (v p : Value) : rowC (colF (cs ++ [c]) (upd V cs.length v) (upd P cs.length p)) (cs.length + 1) = rowC (colF cs V P) cs.length ++ [.int .i64 c.kd, .int .i64 c.cap, v, p] := by
  rw [rowC_snoc]
  congr 1
  · apply rowC_congr
    intro i hi
    unfold colF
    rw [nthC_snoc _ _ _ (by omega), if_neg (by omega), upd_ne _ _ (by omega), upd_ne _ _ (by omega)]
  · unfold colF
    rw [nthC_snoc _ _ _ (by omega), if_pos rfl, upd_at, upd_at]
/-- A state is given one more collection. -/
theorem StR.snoc {w w1 w2 : World} {B X : Nat} {F : List Nat} {raw : List Int} {cs : List Co} {rv cv : Value} {V P : Nat → Value} (h : StR w B X F raw cs rv cv V P) {c : Co} {v p : Value} {gg cap : Nat} (hb1 : Below w.heap.size w w1)
    (hv : w1.ownsRow w.heap.size 2 1 v c.vs.length (numC c.vs)) (hp : w1.ownsRow w.heap.size 52 2 p c.ps.length (prC c.ps)) (hok : CoOk c) (hc8 : cs.length + 1 ≤ 8) (hB : B ≤ w.heap.size)
    (hown : w2.ownsRow B 70 4 (.slice (some ⟨gg, 0, none⟩) (cs.length + 1) cap) (cs.length + 1) (rowC (colF cs V P) cs.length ++ [.int .i64 c.kd, .int .i64 c.cap, v, p])) (hk : Keep cv.ownBlock.toList w1 w2) (hat : cv.ownBlock = some gg ∨ w1.heap.size ≤ gg) :
    ∃ F', StR (w2.setCell ⟨X, 1, none⟩ (.slice (some ⟨gg, 0, none⟩) (cs.length + 1) cap)) B X F' raw (cs ++ [c]) rv (.slice (some ⟨gg, 0, none⟩) (cs.length + 1) cap) (upd V cs.length v) (upd P cs.length p) ∧ Next F F' w (w2.setCell ⟨X, 1, none⟩ (.slice (some ⟨gg, 0, none⟩) (cs.length + 1) cap)) := by
  have hcvI : ∀ b, cv.ownBlock = some b → b ∈ F := h.cF
  have hvb : ∀ b, v.ownBlock = some b → w.heap.size ≤ b ∧ b < w1.heap.size := fun b hb => own_block hv b hb
  have hpb : ∀ b, p.ownBlock = some b → w.heap.size ≤ b ∧ b < w1.heap.size := fun b hb => own_block hp b hb
  have hcl : ∀ b, cv.ownBlock = some b → b < w.heap.size := fun b hb => (own_block h.cr b hb).2
  have hXl := heap_lt h.hX
  have hk02 : Keep cv.ownBlock.toList w w2 := (Keep.of_below hb1 _).trans hk (fun b hb => Or.inl hb)
  have hX2 : w2.heap[X]? = some (.cells #[rv, cv] 67 (0, 0)) := by
    rw [hk02.block _ hXl (fun e => by simp at e; exact own_ne h.cr h.hX state_types.2.2 e)]
    exact h.hX
  have hk3 : Keep [X] w2 (w2.setCell ⟨X, 1, none⟩ (.slice (some ⟨gg, 0, none⟩) (cs.length + 1) cap)) := Keep.setCell (Keep.refl _ _) _ _ (Or.inl (by simp))
  have hk03 : Keep (X :: cv.ownBlock.toList) w (w2.setCell ⟨X, 1, none⟩ (.slice (some ⟨gg, 0, none⟩) (cs.length + 1) cap)) := (hk02.mono (fun b hb => List.mem_cons_of_mem _ hb)).trans hk3 (fun b hb => Or.inl (by simp at hb; simp [hb]))
  have hggX : gg ≠ X := fun e => by
    have := own_ne hown hX2 state_types.2.2
    simp [Value.ownBlock] at this
    exact this e
  have hvX : ∀ b, v.ownBlock = some b → b ≠ X := fun b hb e => by have := hvb b hb; omega
  have hpX : ∀ b, p.ownBlock = some b → b ≠ X := fun b hb e => by have := hpb b hb; omega
  have hv3 : World.ownsRow (w2.setCell ⟨X, 1, none⟩ (.slice (some ⟨gg, 0, none⟩) (cs.length + 1) cap)) B 2 1 v c.vs.length (numC c.vs) := own_base (own_keep (own_keep hv hk (fun b hb e => by
    simp at e
    have := hcl b e
    have := hvb b hb
    omega)) hk3 (fun b hb => by simpa using hvX b hb)) hB
  have hp3 : World.ownsRow (w2.setCell ⟨X, 1, none⟩ (.slice (some ⟨gg, 0, none⟩) (cs.length + 1) cap)) B 52 2 p c.ps.length (prC c.ps) := own_base (own_keep (own_keep hp hk (fun b hb e => by
    simp at e
    have := hcl b e
    have := hpb b hb
    omega)) hk3 (fun b hb => by simpa using hpX b hb)) hB
  have hnot : ∀ b ∈ F, b ∉ (X :: cv.ownBlock.toList) ∨ ∀ i, i < cs.length → (V i).ownBlock ≠ some b ∧ (P i).ownBlock ≠ some b := fun b hb => by
    by_cases hm : b ∈ (X :: cv.ownBlock.toList)
    · right
      intro i hi
      simp only [List.mem_cons, Option.mem_toList] at hm
      rcases hm with h1 | h1
      · subst h1
        exact ⟨own_ne (h.rows.vs i hi) h.hX state_types.1, own_ne (h.rows.ps i hi) h.hX state_types.2.1⟩
      · exact ⟨rows_apart h.cr (h.rows.vs i hi) i64_coll b h1, rows_apart h.cr (h.rows.ps i hi) pair_coll b h1⟩
    · exact Or.inl hm
  have hrows := h.rows.snoc hk03 hnot hv3 hp3 (fun b hb => (hvb b hb).1) (fun b hb => (hpb b hb).1) hok
  have hgl : gg < w2.heap.size := (own_block hown gg rfl).2
  refine ⟨gg :: (F ++ (v.ownBlock.toList ++ p.ownBlock.toList)), ⟨?_, by simp [h.XF], own_keep h.rr hk03 (fun b hb e => ?_), fun b hb => by simp [h.rF b hb], ?_, ?_, fun b hb => ?_, ?_, h.r1, h.r64, h.rs, by simpa using hc8, ?_⟩, hk03.mono (fun b hb => ?_), ?_⟩
  · rw [heap_set hX2]
    simp
  · simp only [List.mem_cons, Option.mem_toList] at e
    rcases e with h1 | h1
    · exact own_ne h.rr h.hX state_types.1 (h1 ▸ hb)
    · exact rows_apart h.cr h.rr i64_coll b h1 hb
  · intro i hi b hb
    have hi' : i < cs.length + 1 := by simpa using hi
    by_cases e : i = cs.length
    · rw [e, upd_at]
      intro hb2
      have := (own_block h.rr b hb).2
      have := (hvb b hb2).1
      omega
    · rw [upd_ne _ _ e]
      exact h.rV i (by omega) b hb
  · rw [show (cs ++ [c]).length = cs.length + 1 by simp, colF_snoc]
    exact own_keep hown hk3 (fun b hb => by simp [Value.ownBlock] at hb; subst hb; simpa using hggX)
  · simp [Value.ownBlock] at hb
    simp [hb]
  · exact ⟨hrows.vs, hrows.ps, fun i hi b hb => List.mem_cons_of_mem _ (hrows.iv i hi b hb), fun i hi b hb => List.mem_cons_of_mem _ (hrows.ip i hi b hb), hrows.vv, hrows.pp, hrows.ok⟩
  · intro b hb
    have hs3 : w2.heap.size ≤ (w2.setCell ⟨X, 1, none⟩ (.slice (some ⟨gg, 0, none⟩) (cs.length + 1) cap)).heap.size := hk3.size
    simp only [List.mem_cons, List.mem_append, Option.mem_toList] at hb
    rcases hb with h1 | h1 | h1 | h1
    · subst h1
      exact ⟨(own_block hown b rfl).1, Nat.lt_of_lt_of_le hgl hs3⟩
    · have := h.lo b h1
      exact ⟨this.1, Nat.lt_of_lt_of_le this.2 hk03.size⟩
    · exact own_block hv3 b h1
    · exact own_block hp3 b h1
  · simp only [List.mem_cons, Option.mem_toList] at hb
    rcases hb with h1 | h1
    · rw [h1]; exact h.XF
    · exact hcvI b h1
  · intro b hb
    simp only [List.mem_cons, List.mem_append, Option.mem_toList] at hb
    rcases hb with h1 | h1 | h1 | h1
    · subst h1
      rcases hat with h2 | h2
      · exact Or.inl (hcvI _ h2)
      · exact Or.inr (Nat.le_trans hb1.size h2)
    · exact Or.inl h1
    · exact Or.inr (hvb b h1).1
    · exact Or.inr (hpb b h1).1
end Go.Proofs.Ytgbmnngmfcneaaa.Pl
