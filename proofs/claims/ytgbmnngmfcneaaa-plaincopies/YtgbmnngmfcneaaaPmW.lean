/- New: the document's. -/
import Derived.Test.YtgbmnngmfcneaaaPmV
import Derived.Test.YtgbmnngmfcneaaaPcE
import Derived.Test.YtgbmnngmfcneaaaPlV
namespace Go.Proofs.Ytgbmnngmfcneaaa.Pl
open Go.ChangeShapes Go.WideShapes Go.ChangeAt Go.RowKit
attribute [local go_sem ↓] Go.wp_at_zero Go.wp_at_succ

theorem info_shp : (Try.prog.info? 50).map (fun i => (i.zero, i.size, i.bytes)) = some (some (.agg #[.int .i64 0, .slice none 0 0, .slice none 0 0]), 3, 56) := by kernel_rfl
theorem reg_types : (73 : TypeId) ≠ 77 ∧ (2 : TypeId) ≠ 77 := by decide
theorem DtR.first {w : World} {B X P n : Nat} {C : Pc.Cf} {vr : Value} {cur : Array Value} {raw : List Int} (hX : w.heap[X]? = some (.cells (dtC C vr (.slice (some ⟨P, 0, none⟩) n n) (.slice none 0 0)) 73 (0, 0))) (hP : w.heap[P]? = some (.cells cur 2 (0, 0)))
    (hr : w.ownsRow B 77 2 vr C.R.length (prC C.R)) (h8 : C.R.length ≤ 8) (hBX : B ≤ X) (hBP : B ≤ P) (hz : cur.size = n) (hc : cur.toList = numC raw) (hn : raw.length = n) (h1 : 1 ≤ n) (h64 : n ≤ 64) (hs : ∀ x ∈ raw, Sx x) :
    DtR w B X [X, P] vr.ownBlock.toList raw [] C vr (.slice (some ⟨P, 0, none⟩) n n) (.slice none 0 0) nils nils := by
  subst hn
  refine ⟨hX, by simp, ⟨by rw [numC_len, Nat.mul_one], Or.inr ⟨P, raw.length, cur, rfl, hBP, hP, Nat.le_refl _, by unfold maxLen; omega, by rw [Nat.mul_one]; exact hz, by rw [hc, Nat.mul_one]; exact List.take_of_length_le (by rw [numC_len]; exact Nat.le_refl _)⟩⟩, fun b hb => ?_, fun i hi => by simp at hi, World.ownsRow_nil _ _ _ _, fun b hb => by simp [Value.ownBlock] at hb, ⟨fun i hi => by simp at hi, fun i hi => by simp at hi, fun i hi => by simp at hi, fun i hi => by simp at hi, fun i j hi => by simp at hi, fun i j hi => by simp at hi, fun i hi => by simp at hi⟩, h1, h64, hs, by simp, fun b hb => ?_, rl_of_own hr h8, fun a m c e => ?_, fun b hb => ?_, fun b hb => ?_, by simp, by simp⟩
  · simp [Value.ownBlock] at hb
    simp [hb]
  · simp at hb
    rcases hb with rfl | rfl
    · exact ⟨hBX, heap_lt hX⟩
    · exact ⟨hBP, heap_lt hP⟩
  · subst e
    simp [Value.ownBlock]
  · simp only [Option.mem_toList] at hb
    simp only [List.mem_cons, List.not_mem_nil, or_false, not_or]
    exact ⟨fun e => own_ne hr hX reg_types.1 (e ▸ hb), fun e => own_ne hr hP reg_types.2 (e ▸ hb)⟩
  · simp only [Option.mem_toList] at hb
    exact own_block hr b hb
theorem shpF_snoc (cs : List Co) (c : Co) (V P : Nat → Value) (v p : Value) : rowC (shpF (cs ++ [c]) (upd V cs.length v) (upd P cs.length p)) (cs.length + 1) = rowC (shpF cs V P) cs.length ++ [.int .i64 c.kd, v, p] := by
  rw [rowC_snoc]
  congr 1
  · apply rowC_congr
    intro i hi
    unfold shpF
    rw [nthC_snoc _ _ _ (by omega), if_neg (by omega), upd_ne _ _ (by omega), upd_ne _ _ (by omega)]
  · unfold shpF
    rw [nthC_snoc _ _ _ (by omega), if_pos rfl, upd_at, upd_at]
/-- A state is given one more collection. -/
theorem DtR.snoc {w w1 w2 : World} {B X : Nat} {F Z : List Nat} {raw : List Int} {cs : List Co} {C : Pc.Cf} {vr rv cv : Value} {V P : Nat → Value} (h : DtR w B X F Z raw cs C vr rv cv V P) {c : Co} {v p : Value} {gg cap : Nat} (hb1 : Below w.heap.size w w1)
    (hv : w1.ownsRow w.heap.size 2 1 v c.vs.length (numC c.vs)) (hp : w1.ownsRow w.heap.size 52 2 p c.ps.length (prC c.ps)) (hok : CoOk c) (hc8 : cs.length + 1 ≤ 8) (hB : B ≤ w.heap.size) (hkc : C.R.take (cs.length + 1) = cs.map kcOf ++ [kcOf c]) (hkl : cs.length + 1 ≤ C.R.length)
    (hown : w2.ownsRow B 50 3 (.slice (some ⟨gg, 0, none⟩) (cs.length + 1) cap) (cs.length + 1) (rowC (shpF cs V P) cs.length ++ [.int .i64 c.kd, v, p])) (hk : Keep cv.ownBlock.toList w1 w2) (hat : cv.ownBlock = some gg ∨ w1.heap.size ≤ gg) :
    ∃ F', DtR (w2.setCell ⟨X, 8, none⟩ (.slice (some ⟨gg, 0, none⟩) (cs.length + 1) cap)) B X F' Z raw (cs ++ [c]) C vr rv (.slice (some ⟨gg, 0, none⟩) (cs.length + 1) cap) (upd V cs.length v) (upd P cs.length p) ∧ Next F F' w (w2.setCell ⟨X, 8, none⟩ (.slice (some ⟨gg, 0, none⟩) (cs.length + 1) cap)) := by
  have hcvI : ∀ b, cv.ownBlock = some b → b ∈ F := h.cF
  have hvb : ∀ b, v.ownBlock = some b → w.heap.size ≤ b ∧ b < w1.heap.size := fun b hb => own_block hv b hb
  have hpb : ∀ b, p.ownBlock = some b → w.heap.size ≤ b ∧ b < w1.heap.size := fun b hb => own_block hp b hb
  have hcl : ∀ b, cv.ownBlock = some b → b < w.heap.size := fun b hb => (own_block h.cr b hb).2
  have hXl := heap_lt h.hX
  have hk02 : Keep cv.ownBlock.toList w w2 := (Keep.of_below hb1 _).trans hk (fun b hb => Or.inl hb)
  have hX2 : w2.heap[X]? = some (.cells (dtC C vr rv cv) 73 (0, 0)) := by
    rw [hk02.block _ hXl (fun e => by simp at e; exact own_ne h.cr h.hX dstate_types.2.2 e)]
    exact h.hX
  have hk3 : Keep [X] w2 (w2.setCell ⟨X, 8, none⟩ (.slice (some ⟨gg, 0, none⟩) (cs.length + 1) cap)) := Keep.setCell (Keep.refl _ _) _ _ (Or.inl (by simp))
  have hk03 : Keep (X :: cv.ownBlock.toList) w (w2.setCell ⟨X, 8, none⟩ (.slice (some ⟨gg, 0, none⟩) (cs.length + 1) cap)) := (hk02.mono (fun b hb => List.mem_cons_of_mem _ hb)).trans hk3 (fun b hb => Or.inl (by simp at hb; simp [hb]))
  have hggX : gg ≠ X := fun e => by
    have := own_ne hown hX2 dstate_types.2.2
    simp [Value.ownBlock] at this
    exact this e
  have hvX : ∀ b, v.ownBlock = some b → b ≠ X := fun b hb e => by have := hvb b hb; omega
  have hpX : ∀ b, p.ownBlock = some b → b ≠ X := fun b hb e => by have := hpb b hb; omega
  have hv3 : World.ownsRow (w2.setCell ⟨X, 8, none⟩ (.slice (some ⟨gg, 0, none⟩) (cs.length + 1) cap)) B 2 1 v c.vs.length (numC c.vs) := own_base (own_keep (own_keep hv hk (fun b hb e => by
    simp at e
    have := hcl b e
    have := hvb b hb
    omega)) hk3 (fun b hb => by simpa using hvX b hb)) hB
  have hp3 : World.ownsRow (w2.setCell ⟨X, 8, none⟩ (.slice (some ⟨gg, 0, none⟩) (cs.length + 1) cap)) B 52 2 p c.ps.length (prC c.ps) := own_base (own_keep (own_keep hp hk (fun b hb e => by
    simp at e
    have := hcl b e
    have := hpb b hb
    omega)) hk3 (fun b hb => by simpa using hpX b hb)) hB
  have hnot : ∀ b ∈ F, b ∉ (X :: cv.ownBlock.toList) ∨ ∀ i, i < cs.length → (V i).ownBlock ≠ some b ∧ (P i).ownBlock ≠ some b := fun b hb => by
    by_cases hm : b ∈ (X :: cv.ownBlock.toList)
    · right
      intro i hi
      simp only [List.mem_cons, Option.mem_toList] at hm
      rcases hm with h1 | h1
      · subst h1
        exact ⟨own_ne (h.rows.vs i hi) h.hX dstate_types.1, own_ne (h.rows.ps i hi) h.hX dstate_types.2.1⟩
      · exact ⟨rows_apart h.cr (h.rows.vs i hi) i64_shp b h1, rows_apart h.cr (h.rows.ps i hi) pair_shp b h1⟩
    · exact Or.inl hm
  have hrows := h.rows.snoc hk03 hnot hv3 hp3 (fun b hb => (hvb b hb).1) (fun b hb => (hpb b hb).1) hok
  have hgl : gg < w2.heap.size := (own_block hown gg rfl).2
  refine ⟨gg :: (F ++ (v.ownBlock.toList ++ p.ownBlock.toList)), ⟨?_, by simp [h.XF], own_keep h.rr hk03 (fun b hb e => ?_), fun b hb => by simp [h.rF b hb], ?_, ?_, fun b hb => ?_, ?_, h.r1, h.r64, h.rs, by simpa using hc8, ?_, rl_keep h.rg hk03 (fun a n c e hm => h.zF _ (h.rz a n c e) (by
    simp only [List.mem_cons, Option.mem_toList] at hm
    rcases hm with h1 | h1
    · rw [h1]; exact h.XF
    · exact hcvI _ h1)), h.rz, fun b hb hm => ?_, fun b hb => ⟨(h.zl b hb).1, Nat.lt_of_lt_of_le (h.zl b hb).2 hk03.size⟩, by simpa using hkc, by simpa using hkl⟩, hk03.mono (fun b hb => ?_), ?_⟩
  · rw [heap_set hX2]
    rfl
  · simp only [List.mem_cons, Option.mem_toList] at e
    rcases e with h1 | h1
    · exact own_ne h.rr h.hX dstate_types.1 (h1 ▸ hb)
    · exact rows_apart h.cr h.rr i64_shp b h1 hb
  · intro i hi b hb
    have hi' : i < cs.length + 1 := by simpa using hi
    by_cases e : i = cs.length
    · rw [e, upd_at]
      intro hb2
      have := (own_block h.rr b hb).2
      have := (hvb b hb2).1
      omega
    · rw [upd_ne _ _ e]
      exact h.rV i (by omega) b hb
  · rw [show (cs ++ [c]).length = cs.length + 1 by simp, shpF_snoc]
    exact own_keep hown hk3 (fun b hb => by simp [Value.ownBlock] at hb; subst hb; simpa using hggX)
  · simp [Value.ownBlock] at hb
    simp [hb]
  · exact ⟨hrows.vs, hrows.ps, fun i hi b hb => List.mem_cons_of_mem _ (hrows.iv i hi b hb), fun i hi b hb => List.mem_cons_of_mem _ (hrows.ip i hi b hb), hrows.vv, hrows.pp, hrows.ok⟩
  · intro b hb
    have hs3 : w2.heap.size ≤ (w2.setCell ⟨X, 8, none⟩ (.slice (some ⟨gg, 0, none⟩) (cs.length + 1) cap)).heap.size := hk3.size
    simp only [List.mem_cons, List.mem_append, Option.mem_toList] at hb
    rcases hb with h1 | h1 | h1 | h1
    · subst h1
      exact ⟨(own_block hown b rfl).1, Nat.lt_of_lt_of_le hgl hs3⟩
    · have := h.lo b h1
      exact ⟨this.1, Nat.lt_of_lt_of_le this.2 hk03.size⟩
    · exact own_block hv3 b h1
    · exact own_block hp3 b h1
  · have hzl := (h.zl b hb).2
    simp only [List.mem_cons, List.mem_append, Option.mem_toList] at hm
    rcases hm with h1 | h1 | h1 | h1
    · rcases hat with h2 | h2
      · exact h.zF b hb (h1 ▸ hcvI _ h2)
      · have := hb1.size
        omega
    · exact h.zF b hb h1
    · have := hvb b h1
      omega
    · have := hpb b h1
      omega
  · simp only [List.mem_cons, Option.mem_toList] at hb
    rcases hb with h1 | h1
    · rw [h1]; exact h.XF
    · exact hcvI b h1
  · intro b hb
    simp only [List.mem_cons, List.mem_append, Option.mem_toList] at hb
    rcases hb with h1 | h1 | h1 | h1
    · subst h1
      rcases hat with h2 | h2
      · exact Or.inl (hcvI _ h2)
      · exact Or.inr (Nat.le_trans hb1.size h2)
    · exact Or.inl h1
    · exact Or.inr (hvb b h1).1
    · exact Or.inr (hpb b h1).1
theorem row_dr {w w3 : World} {o : Obj} (hb : Below (w.alloc o).drew.heap.size (w.alloc o).drew w3) : w3.heap[w.heap.size]? = some o := (hb.block _ (by simp)).trans (heap_alloc_new _ _)
theorem take_snoc {R : List Pc.Rg} {j : Nat} (h : j < R.length) : R.take (j + 1) = R.take j ++ [Pc.nthR R j] := by
  rw [List.take_add_one]
  simp [Pc.nthR, h]
theorem DtR.base {w : World} {B B' X : Nat} {F Z : List Nat} {raw : List Int} {cs : List Co} {C : Pc.Cf} {vr rv cv : Value} {V P : Nat → Value} (h : DtR w B X F Z raw cs C vr rv cv V P) (hB : B' ≤ B) : DtR w B' X F Z raw cs C vr rv cv V P :=
  ⟨h.hX, h.XF, own_base h.rr hB, h.rF, h.rV, own_base h.cr hB, h.cF, ⟨fun i hi => own_base (h.rows.vs i hi) hB, fun i hi => own_base (h.rows.ps i hi) hB, h.rows.iv, h.rows.ip, h.rows.vv, h.rows.pp, h.rows.ok⟩, h.r1, h.r64, h.rs, h.c8, fun b hb => ⟨Nat.le_trans hB (h.lo b hb).1, (h.lo b hb).2⟩, h.rg, h.rz, h.zF, fun b hb => ⟨Nat.le_trans hB (h.zl b hb).1, (h.zl b hb).2⟩, h.kc, h.kl⟩
theorem heap3_alt (w : World) (a b : Obj) : ((w.alloc a).alloc b).heap[w.heap.size]? = some a := heap_alloc2_old w a b
theorem one_three {k : Int} {v : Value} (h : v.oneCell' = true) : ∀ u ∈ [.int .i64 k, v, .slice none 0 0], u.oneCell' = true := by
  intro u hu
  simp only [List.mem_cons, List.not_mem_nil, or_false] at hu
  rcases hu with rfl | rfl | rfl
  · rfl
  · exact h
  · rfl
theorem nw_max {j : Nat} (h : j + 1 ≤ 8) : j + 1 ≤ maxLen := by unfold maxLen; omega
theorem nw_byt {j : Nat} (h : j + 1 ≤ 8) : ((j + 1) + (j + 1) / 4 + 192) * 56 ≤ 281474976710656 := by omega
theorem nw_al {n : Nat} {w : World} {o : Obj} (h : n ≤ w.heap.size) : n ≤ ((w.alloc o).drew).heap.size := by simp; omega
theorem nw_blk {w w4 : World} {o : Obj} {r : Option Nat} (hg : ((w.alloc o).drew).grownBy w4 r) {X : Nat} (hX : X < w.heap.size) (hn : some X ≠ r) : w4.heap[X]? = w.heap[X]? := (hg.block X (by simp; omega) hn).trans (Below.heap_alloc _ _ _ hX)
theorem rnew_no {w : World} {v : Value} {c : Pc.Cf} (h : Pc.CfV w v c) (hn : Pc.okC c = false) : Calls Try.prog 22 #[v] w fun e w' => e = .returned (.tuple #[.pointer none, .int .i64 13]) ∧ Below w.heap.size w w' := by
  have HC : Hid (∀ w' : World, Below w.heap.size w w' → Calls Try.prog 40 #[v] w' fun e w'' => e = .returned (.int .i64 13) ∧ Below w'.heap.size w' w'') := fun w' hb => by
    have := Pc.rcheck_any (h.later hb (Nat.le_refl _))
    unfold Pc.chkV at this
    rw [hn] at this
    exact this
  obtain ⟨vr, rfl, hR⟩ := h
  clear hR hn
  obtain ⟨a, b, d, s, mu, t, R⟩ := c
  unfold Pc.cfA at *
  dsimp only at *
  go_enter Try.func22, Try.ntmps22
  go_wp2_with fail
  refine (HC.out _ (below_a1 _ _)).mono ?_
  rintro e w1 ⟨rfl, hb⟩
  go_wp2_with fail
  go_ret2
  exact ⟨rfl, below_then (below_a1 _ _) hb⟩
set_option maxHeartbeats 4000000 in
theorem rnew_yes {w : World} {v : Value} {c : Pc.Cf} (h : Pc.CfV w v c) (hy : Pc.okC c = true) : Calls Try.prog 22 #[v] w fun e w' => ∃ X F Z, e = .returned (.tuple #[.pointer (some ⟨X, 0, none⟩), .int .i64 0]) ∧ DtAt w' w.heap.size X F Z (newRaw c) (newCs c) ∧ Below w.heap.size w w' := by
  have HC : Hid (∀ w' : World, Below w.heap.size w w' → Calls Try.prog 40 #[v] w' fun e w'' => e = .returned (.int .i64 0) ∧ Below w'.heap.size w' w'') := fun w' hb => by
    have := Pc.rcheck_any (h.later hb (Nat.le_refl _))
    unfold Pc.chkV at this
    rw [hy] at this
    exact this
  obtain ⟨hr1, hr64, hR8⟩ := Pc.okC_raw hy
  have HG : Hid (∀ w' : World, Below w.heap.size w w' → Calls Try.prog 41 #[v] w' fun e w'' => ∃ u, e = .returned (.agg (Pc.cfA c u)) ∧ w''.ownsRow w'.heap.size 77 2 u c.R.length (prC c.R) ∧ Below w'.heap.size w' w'') := fun w' hb => config_any (h.later hb (Nat.le_refl _)) hR8
  obtain ⟨vr, rfl, hR⟩ := h
  have HOK : Hid (∀ j, j < c.R.length → Pc.okR (Pc.nthR c.R j) = true) := fun j hj => by
    simp only [Pc.okC, Pc.okL, Bool.and_eq_true, List.all_eq_true] at hy
    exact hy.2.2 _ (Pc.nthR_mem hj)
  obtain ⟨ar, cap, rfl, hlen, hcap, hcs, hl⟩ := hR
  have HL : Hid (Pc.Rl w (.slice ar c.R.length cap) c.R) := ⟨ar, cap, rfl, hlen, hcap, hcs, hl⟩
  clear hl hcap hcs hy hlen
  obtain ⟨rw0, b, d, s, mu, t, R⟩ := c
  unfold Pc.cfA newRaw newCs at *
  dsimp only at *
  obtain ⟨n, rfl⟩ : ∃ n : Nat, rw0 = (n : Int) := ⟨rw0.toNat, by omega⟩
  rw [show ((n : Int)).toNat = n from rfl]
  obtain ⟨i0, hi, hz0, hz1, hz2⟩ := info_parts info_i64
  have hmk := fun ww : World => make_row ww n 1 8 Try.underlying36 hi hz0 hz1 hz2 (by omega) (by omega)
  have hms : (madeCells (Value.cells (.int .i64 0)) (n * 1)).toList = numC (List.replicate n 0) := by rw [Nat.mul_one]; exact made_nums n
  have hmz : (madeCells (Value.cells (.int .i64 0)) (n * 1)).size = n := by simp [size_madeCells]
  generalize madeCells (Value.cells (.int .i64 0)) (n * 1) = cur at *
  clear hi hz0 hz1 hz2 i0
  go_enter Try.func22, Try.ntmps22
  go_wp2_with fail
  refine (HC.out _ (below_a1 _ _)).mono ?_
  rintro e w1 ⟨rfl, hb⟩
  have hr := Pc.row_nx hb
  have k0 : w1.cell? ⟨w.heap.size, 0, none⟩ = some (.int .i64 (n : Int)) := (cell_at hr 0).trans rfl
  have k1 : w1.cell? ⟨w.heap.size, 1, none⟩ = some (.int .i64 b) := (cell_at hr 1).trans rfl
  have k2 : w1.cell? ⟨w.heap.size, 2, none⟩ = some (.int .i64 d) := (cell_at hr 2).trans rfl
  have k3 : w1.cell? ⟨w.heap.size, 3, none⟩ = some (.int .i64 s) := (cell_at hr 3).trans rfl
  have k4 : w1.cell? ⟨w.heap.size, 4, none⟩ = some (.bool mu) := (cell_at hr 4).trans rfl
  have k5 : w1.cell? ⟨w.heap.size, 5, none⟩ = some (.int .i64 t) := (cell_at hr 5).trans rfl
  have k6 : w1.cell? ⟨w.heap.size, 6, none⟩ = some (.slice ar R.length cap) := (cell_at hr 6).trans rfl
  have HB : Hid (Below w.heap.size w w1) := below_then (below_a1 _ _) hb
  have hl1 : w.heap.size < w1.heap.size := heap_lt hr
  clear hb hr HC
  go_wp2_with fail
  have HK1 : Hid (Below w.heap.size w w1 → Below w.heap.size w w1) := fun h => h
  have H8 : Hid (R.length ≤ 8) := hR8
  have HN : Hid (1 ≤ n ∧ n ≤ 64) := ⟨by omega, by omega⟩
  clear HK1 hR8 hr1 hr64
  go_cut [5] (fun sv wc => ∃ (X : Nat) (F Z : List Nat) (vr rv : Value), sv = .pointer (some ⟨X, 0, none⟩) ∧ DtR wc w1.heap.size X F Z (List.replicate n 0) [] ⟨(n : Int), b, d, s, mu, t, R⟩ vr rv (.slice none 0 0) nils nils ∧ Below w1.heap.size w1 wc)
  case first =>
    go_region_with ((go_at_call 41; refine (HG.out _ (by first | exact below_drawn HB.out 1 | exact below_alloc (below_drawn HB.out 1) _)).mono ?_; rintro e w3 ⟨u, rfl, hown, hb3⟩; have hbw : Below w1.heap.size w1 w3 := (by first | exact below_then (below_drawn (Below.refl _ _) 1) hb3 | exact below_then (below_alloc (below_drawn (Below.refl _ _) 1) _) hb3); have kk0 : w3.cell? ⟨w.heap.size, 0, none⟩ = some (.int .i64 (n : Int)) := cell_later hbw (a := ⟨w.heap.size, 0, none⟩) hl1 k0))
    all_goals
      have hs3 : w1.heap.size ≤ w3.heap.size := hbw.size
      have ow3 : w3.ownsRow w1.heap.size 77 2 u R.length (prC R) := own_base hown (by first | exact Nat.le_refl _ | simp)
      have hsx : ∀ x ∈ List.replicate n (0 : Int), Sx x := fun x hx => by rw [(List.mem_replicate.1 hx).2]; exact ⟨by decide, by decide⟩
      go_wp2_with fail
      go_meet
      first
        | exact ⟨w3.heap.size + 1, _, _, u, _, rfl, DtR.first (C := ⟨(n : Int), b, d, s, mu, t, R⟩) (cur := cur) (heap_alloc_2 _ _ _) (heap_alloc2_old _ _ _) ((ow3.alloc _).alloc _) H8.out (Nat.le_succ_of_le hs3) hs3 hmz hms (by simp) HN.out.1 HN.out.2 hsx, below_alloc (below_alloc hbw _) _⟩
        | exact ⟨w3.heap.size, _, _, u, _, rfl, DtR.first (C := ⟨(n : Int), b, d, s, mu, t, R⟩) (cur := cur) (heap_alloc_new _ _) ((Below.heap_alloc _ _ _ (heap_lt (row_dr hb3))).trans (row_dr hb3)) (ow3.alloc _) H8.out hs3 (Nat.le_refl _) hmz hms (by simp) HN.out.1 HN.out.2 hsx, below_alloc hbw _⟩
  case rest =>
    obtain ⟨X, F, Z, vr, rv, rfl, hdt, hbw⟩ := hcut
    have HD0 : Hid (DtR wc w1.heap.size X F Z (List.replicate n 0) [] ⟨(n : Int), b, d, s, mu, t, R⟩ vr rv (.slice none 0 0) nils nils) := hdt
    have HB1 : Hid (Below w1.heap.size w1 wc) := hbw
    clear hdt hbw HG
    go_wp2_with fail
    go_loopw [6] (fun iv wr => ∃ (j : Nat) (F : List Nat) (cv : Value) (V : Nat → Value), j ≤ R.length ∧ iv = .int .i64 (j : Int) ∧ Hid (DtR wr w1.heap.size X F Z (List.replicate n 0) ((R.take j).map empC) ⟨(n : Int), b, d, s, mu, t, R⟩ vr rv cv V nils) ∧ Below w1.heap.size w1 wr) (fun iv _ => R.length - (intOf iv).toNat)
    case atStart => exact ⟨0, _, _, _, Nat.zero_le _, rfl, by simpa [Hid] using HD0.out, HB1.out⟩
    case round =>
      obtain ⟨j, F, cv, V, hj, rfl, HS, hbel⟩ := hrel
      have HBW : Hid (Below w1.heap.size w1 wr) := hbel
      have r6 : wr.cell? ⟨w.heap.size, 6, none⟩ = some (.slice ar R.length cap) := cell_later hbel (a := ⟨w.heap.size, 6, none⟩) hl1 k6
      by_cases hlt : j < R.length
      · have hjd : decide ((j : Int) < (R.length : Int)) = true := by simpa using hlt
        obtain ⟨x, rfl, z1, z2⟩ : ∃ x, ar = some x ∧ wr.cell? (x.add (j * 2)) = some (.int .i64 (Pc.nthR R j).1) ∧ wr.cell? ⟨(x.add (j * 2)).block, (x.add (j * 2)).off + 1, none⟩ = some (.int .i64 (Pc.nthR R j).2) := by
          obtain ⟨a', cap', hv, _, _, _, hl⟩ := (HL.out.later HB.out (Nat.le_refl _)).later hbel (Nat.le_refl _)
          injection hv with h1 h2 h3
          subst h1
          obtain ⟨x, hx, _, hc⟩ := hl.resolve_left (by omega)
          exact ⟨x, hx, hc j hlt⟩
        have hlx : x.block < wr.heap.size := by
          have := World.block_lt_of_cell? _ _ z2
          rwa [add_block] at this
        have z2a : ∀ o : Obj, (wr.alloc o).cell? ⟨(x.add (j * 2)).block, (x.add (j * 2)).off + 1, none⟩ = some (.int .i64 (Pc.nthR R j).2) := fun o => (World.cell?_of_block (Below.heap_alloc _ _ _ (World.block_lt_of_cell? _ _ z2))).trans z2
        have hokj := HOK.out j hlt
        have HOKJ : Hid (CoOk (empC (Pc.nthR R j))) := empC_ok hokj
        have hlj : ((R.take j).map empC).length = j := by simp; omega
        have HLJ : Hid (((R.take j).map empC).length = j) := hlj
        have HKC : Hid ((⟨(n : Int), b, d, s, mu, t, R⟩ : Pc.Cf).R.take (((R.take j).map empC).length + 1) = ((R.take j).map empC).map kcOf ++ [kcOf (empC (Pc.nthR R j))]) := by
          rw [Hid, hlj]
          show R.take (j + 1) = _
          rw [take_snoc hlt, List.map_map]
          have e : ∀ l : List Pc.Rg, l.map (kcOf ∘ empC) = l := fun l => by
            induction l with
            | nil => rfl
            | cons a l ih => rw [List.map_cons, ih]; rfl
          rw [e]
          rfl
        have HT : Hid ((R.take (j + 1)).map empC = (R.take j).map empC ++ [empC (Pc.nthR R j)]) := by rw [Hid, take_snoc hlt, List.map_append]; rfl
        have c8 := HS.out.cells.2.2
        have hXl := heap_lt HS.out.hX
        have HX0 : Hid (wr.heap[X]? = some (.cells (dtC ⟨(n : Int), b, d, s, mu, t, R⟩ vr rv cv) 73 (0, 0))) := HS.out.hX
        have HOW : Hid (wr.ownsRow w1.heap.size 50 3 cv j (rowC (shpF ((R.take j).map empC) V nils) j)) := by
          have := HS.out.cr
          rw [hlj] at this
          exact this
        have HSZ : Hid (w1.heap.size ≤ wr.heap.size) := hbel.size
        have HM : Hid (wrap64 ((j : Int) + 1) = (j : Int) + 1) := Pc.wz hlt (by have := H8.out; omega)
        have HJ8 : Hid (j + 1 ≤ 8) := Nat.le_trans hlt H8.out
        have hcj : (Pc.nthR R j).2.toNat = (Pc.nthR R j).2.toNat := rfl
        have hlw : w.heap.size < wr.heap.size := Nat.lt_of_lt_of_le hl1 hbel.size
        clear hbel hcj hmk hms hmz
        generalize Pc.nthR R j = rg at *
        obtain ⟨r1, r2⟩ := rg
        dsimp only at *
        simp only [Pc.okR, Bool.and_eq_true, decide_eq_true_eq] at hokj
        obtain ⟨⟨⟨o1, o2⟩, o3⟩, o4⟩ := hokj
        obtain ⟨m, rfl⟩ : ∃ m : Nat, r2 = (m : Int) := ⟨r2.toNat, by omega⟩
        have hm16 : m ≤ 16 := by omega
        obtain ⟨i0, hi, hz0, hz1, hz2⟩ := info_parts info_i64
        have hmk := fun ww : World => make_row ww m 1 8 Try.underlying36 hi hz0 hz1 hz2 (by omega) (by omega)
        have HMS : Hid ((madeCells (Value.cells (.int .i64 0)) (m * 1)).toList = numC (List.replicate m 0)) := by rw [Hid, Nat.mul_one]; exact made_nums m
        have HMZ : Hid ((madeCells (Value.cells (.int .i64 0)) (m * 1)).size = m) := by simp [Hid, size_madeCells]
        generalize madeCells (Value.cells (.int .i64 0)) (m * 1) = curm at *
        clear hi hz0 hz1 hz2 i0
        have H16 : Hid (m ≤ 16) := hm16
        clear o1 o2 o3 o4 hm16
        obtain ⟨i1, hi1, hy0, hy1, hy2⟩ := info_parts info_shp
        have HI1 : Hid (Try.prog.info? 50 = some i1 ∧ i1.zero = some (.agg #[.int .i64 0, .slice none 0 0, .slice none 0 0]) ∧ i1.size = 3 ∧ i1.bytes = 56) := ⟨hi1, hy0, hy1, hy2⟩
        obtain ⟨a1, k1, rfl⟩ := own_slice HOW.out
        have hnX : Value.ownBlock (.slice a1 j k1) ≠ some X := own_ne HOW.out HS.out.hX dstate_types.2.2
        obtain ⟨xs, hxs⟩ : ∃ xs, rowC (shpF ((R.take j).map empC) V nils) j = xs := ⟨_, rfl⟩
        rw [hxs] at HOW
        have HXS : Hid (rowC (shpF ((R.take j).map empC) V nils) j = xs) := hxs
        clear hi1 hy0 hy1 hy2 hxs hlj
        by_cases e1 : r1 = 1
        · subst e1
          go_wp2_with fail
          have gY := heap3_alt wr (.cells #[.int .i64 1, .slice (some ⟨wr.heap.size + 1, 0, none⟩) m m, .slice none 0 0] 50) (.cells curm 2)
          have hbz : Below wr.heap.size wr ((wr.alloc (.cells #[.int .i64 1, .slice (some ⟨wr.heap.size + 1, 0, none⟩) m m, .slice none 0 0] 50)).alloc (.cells curm 2)) := below_alloc (below_a1 _ _) _
          have HOV : Hid (((wr.alloc (.cells #[.int .i64 1, .slice (some ⟨wr.heap.size + 1, 0, none⟩) m m, .slice none 0 0] 50)).alloc (.cells curm 2)).ownsRow wr.heap.size 2 1 (.slice (some ⟨wr.heap.size + 1, 0, none⟩) m m) (empC (1, (m : Int))).vs.length (numC (empC (1, (m : Int))).vs)) := by
            have hv : (empC (1, (m : Int))).vs = List.replicate m 0 := rfl
            rw [hv, List.length_replicate]
            have := H16.out
            exact ⟨by rw [numC_len, List.length_replicate, Nat.mul_one], Or.inr ⟨wr.heap.size + 1, m, curm, rfl, by omega, heap_alloc_2 _ _ _, Nat.le_refl _, by unfold maxLen; omega, by rw [Nat.mul_one]; exact HMZ.out, by rw [HMS.out, Nat.mul_one]; exact List.take_of_length_le (by rw [numC_len, List.length_replicate]; exact Nat.le_refl _)⟩⟩
          have hone : (Value.slice (some ⟨wr.heap.size + 1, 0, none⟩) m m).oneCell' = true := rfl
          generalize ((wr.alloc (.cells #[.int .i64 1, .slice (some ⟨wr.heap.size + 1, 0, none⟩) m m, .slice none 0 0] 50)).alloc (.cells curm 2)) = wz at *
          have hYl := heap_lt gY
          have y0 : wz.cell? ⟨wr.heap.size, 0, none⟩ = some (.int .i64 1) := (cell_at gY 0).trans rfl
          have y1 : wz.cell? ⟨wr.heap.size, 1, none⟩ = some (.slice (some ⟨wr.heap.size + 1, 0, none⟩) m m) := (cell_at gY 1).trans rfl
          have y2 : wz.cell? ⟨wr.heap.size, 2, none⟩ = some (.slice none 0 0) := (cell_at gY 2).trans rfl
          have gX : wz.heap[X]? = some (.cells (dtC ⟨(n : Int), b, d, s, mu, t, R⟩ vr rv (.slice a1 j k1)) 73 (0, 0)) := (hbz.block _ hXl).trans HX0.out
          have x8 : wz.cell? ⟨X, 8, none⟩ = some (.slice a1 j k1) := (cell_at gX 8).trans rfl
          have hXz := heap_lt gX
          have HGX : Hid (wz.heap[X]? = some (.cells (dtC ⟨(n : Int), b, d, s, mu, t, R⟩ vr rv (.slice a1 j k1)) 73 (0, 0))) := gX
          have HBZ : Hid (Below wr.heap.size wr wz) := hbz
          have HOZ : Hid (wz.ownsRow w1.heap.size 50 3 (.slice a1 j k1) j xs) := own_keep HOW.out (Keep.of_below hbz []) (by simp)
          have HWZ : Hid (w1.heap.size ≤ wz.heap.size) := Nat.le_trans HSZ.out hbz.size
          clear gX gY hbz r6 z1 z2 z2a hlw hlx hjd hmk hl1
          go_region_law
            ((refine step_lies_wide _ (by rfl) _ _ _ (by rfl) w1.heap.size 50 i1 _ 3 56 Try.underlying46 HI1.out.1 HI1.out.2.1 HI1.out.2.2.1 HI1.out.2.2.2 rfl (by decide) (.slice a1 j k1) j xs (by rfl) ((HOZ.out.alloc _).drew) ⟨wz.heap.size, 0, none⟩ 1 1 [.int .i64 1, (.slice (some ⟨wr.heap.size + 1, 0, none⟩) m m), .slice none 0 0] (by rfl) (by rfl) (World.news_of_block (cs := #[.int .i64 1, (.slice (some ⟨wr.heap.size + 1, 0, none⟩) m m), .slice none 0 0]) (t := 50) (fr := (0, 0)) (heap_alloc_new wz _)) (one_three hone) (by decide) (nw_max HJ8.out) (nw_byt HJ8.out) (nw_al HWZ.out) (wz.heap.size + 1) (by simp) ?_; intro gg cap' w4 hown4 hgrow hat hlt4; have hx4 : w4.heap[X]? = some (.cells (dtC ⟨(n : Int), b, d, s, mu, t, R⟩ vr rv (.slice a1 j k1)) 73 (0, 0)) := (nw_blk hgrow hXz (Ne.symm hnX)).trans HGX.out; have s2 : w4.cell? ⟨X, 8, none⟩ = some (.slice a1 j k1) := (cell_at hx4 8).trans rfl; have s3 : w4.frozen? ⟨X, 8, none⟩ = false := frozen_at hx4 8))
          all_goals
            have HF : Hid (∃ F', DtR (w4.setCell ⟨X, 8, none⟩ (.slice (some ⟨gg, 0, none⟩) (j + 1) cap')) w1.heap.size X F' Z (List.replicate n 0) ((R.take (j + 1)).map empC) ⟨(n : Int), b, d, s, mu, t, R⟩ vr rv (.slice (some ⟨gg, 0, none⟩) (j + 1) cap') (upd V j (.slice (some ⟨wr.heap.size + 1, 0, none⟩) m m)) nils ∧ Below w1.heap.size w1 (w4.setCell ⟨X, 8, none⟩ (.slice (some ⟨gg, 0, none⟩) (j + 1) cap'))) := by
              have hlj := HLJ.out
              obtain ⟨F', hst, hnx⟩ := DtR.snoc (c := empC (1, (m : Int))) (v := (.slice (some ⟨wr.heap.size + 1, 0, none⟩) m m)) (p := .slice none 0 0) (gg := gg) (cap := cap') HS.out HBZ.out HOV.out (World.ownsRow_nil _ _ _ _) HOKJ.out (by rw [hlj]; exact HJ8.out) HSZ.out HKC.out (by rw [hlj]; exact hlt) (by rw [hlj, HXS.out]; exact hown4) (Keep.grown (Keep.drewN (Keep.alloc (Keep.refl _ _) _) 1) hgrow (fun b hb => Or.inl (by simpa using hb))) (by
                rcases hat with h1 | h1
                · exact Or.inl h1
                · right; omega)
              rw [hlj] at hst hnx
              rw [HT.out]
              have e : upd nils j (.slice none 0 0) = nils := by
                funext q
                unfold upd nils
                split <;> rfl
              rw [e] at hst
              refine ⟨F', hst, ?_⟩
              have hk := hnx.1
              exact HBW.out.trans (hk.below HBW.out.size (fun b hb => (HS.out.lo b hb).1))
            clear hown4 hgrow hat hlt4 hx4 s2 s3
            have hw := HM.out
            go_wp2_with fail
            go_roundw
            case rel =>
              obtain ⟨F', h1, h2⟩ := HF.out
              exact ⟨j + 1, F', _, _, hlt, by go_num, h1, h2⟩
            case measure =>
              try rw [HM.out]
              exact msb hlt
        · have e1' : (r1 == 1) = false := beq_eq_false_iff_ne.2 e1
          go_wp2_with fail
          have gY := heap_alloc_new wr (.cells #[.int .i64 r1, .slice none 0 0, .slice none 0 0] 50)
          have hbz : Below wr.heap.size wr (wr.alloc (.cells #[.int .i64 r1, .slice none 0 0, .slice none 0 0] 50)) := below_a1 _ _
          have HOV : Hid ((wr.alloc (.cells #[.int .i64 r1, .slice none 0 0, .slice none 0 0] 50)).ownsRow wr.heap.size 2 1 (.slice none 0 0) (empC (r1, (m : Int))).vs.length (numC (empC (r1, (m : Int))).vs)) := by
            have hv : (empC (r1, (m : Int))).vs = [] := if_neg e1
            rw [hv]
            exact World.ownsRow_nil _ _ _ _
          have hone : (Value.slice none 0 0).oneCell' = true := rfl
          generalize (wr.alloc (.cells #[.int .i64 r1, .slice none 0 0, .slice none 0 0] 50)) = wz at *
          clear e1 e1'
          have hYl := heap_lt gY
          have y0 : wz.cell? ⟨wr.heap.size, 0, none⟩ = some (.int .i64 r1) := (cell_at gY 0).trans rfl
          have y1 : wz.cell? ⟨wr.heap.size, 1, none⟩ = some (.slice none 0 0) := (cell_at gY 1).trans rfl
          have y2 : wz.cell? ⟨wr.heap.size, 2, none⟩ = some (.slice none 0 0) := (cell_at gY 2).trans rfl
          have gX : wz.heap[X]? = some (.cells (dtC ⟨(n : Int), b, d, s, mu, t, R⟩ vr rv (.slice a1 j k1)) 73 (0, 0)) := (hbz.block _ hXl).trans HX0.out
          have x8 : wz.cell? ⟨X, 8, none⟩ = some (.slice a1 j k1) := (cell_at gX 8).trans rfl
          have hXz := heap_lt gX
          have HGX : Hid (wz.heap[X]? = some (.cells (dtC ⟨(n : Int), b, d, s, mu, t, R⟩ vr rv (.slice a1 j k1)) 73 (0, 0))) := gX
          have HBZ : Hid (Below wr.heap.size wr wz) := hbz
          have HOZ : Hid (wz.ownsRow w1.heap.size 50 3 (.slice a1 j k1) j xs) := own_keep HOW.out (Keep.of_below hbz []) (by simp)
          have HWZ : Hid (w1.heap.size ≤ wz.heap.size) := Nat.le_trans HSZ.out hbz.size
          clear gX gY hbz r6 z1 z2 z2a hlw hlx hjd hmk hl1
          go_region_law
            ((refine step_lies_wide _ (by rfl) _ _ _ (by rfl) w1.heap.size 50 i1 _ 3 56 Try.underlying46 HI1.out.1 HI1.out.2.1 HI1.out.2.2.1 HI1.out.2.2.2 rfl (by decide) (.slice a1 j k1) j xs (by rfl) ((HOZ.out.alloc _).drew) ⟨wz.heap.size, 0, none⟩ 1 1 [.int .i64 r1, (.slice none 0 0), .slice none 0 0] (by rfl) (by rfl) (World.news_of_block (cs := #[.int .i64 r1, (.slice none 0 0), .slice none 0 0]) (t := 50) (fr := (0, 0)) (heap_alloc_new wz _)) (one_three hone) (by decide) (nw_max HJ8.out) (nw_byt HJ8.out) (nw_al HWZ.out) (wz.heap.size + 1) (by simp) ?_; intro gg cap' w4 hown4 hgrow hat hlt4; have hx4 : w4.heap[X]? = some (.cells (dtC ⟨(n : Int), b, d, s, mu, t, R⟩ vr rv (.slice a1 j k1)) 73 (0, 0)) := (nw_blk hgrow hXz (Ne.symm hnX)).trans HGX.out; have s2 : w4.cell? ⟨X, 8, none⟩ = some (.slice a1 j k1) := (cell_at hx4 8).trans rfl; have s3 : w4.frozen? ⟨X, 8, none⟩ = false := frozen_at hx4 8))
          all_goals
            have HF : Hid (∃ F', DtR (w4.setCell ⟨X, 8, none⟩ (.slice (some ⟨gg, 0, none⟩) (j + 1) cap')) w1.heap.size X F' Z (List.replicate n 0) ((R.take (j + 1)).map empC) ⟨(n : Int), b, d, s, mu, t, R⟩ vr rv (.slice (some ⟨gg, 0, none⟩) (j + 1) cap') (upd V j (.slice none 0 0)) nils ∧ Below w1.heap.size w1 (w4.setCell ⟨X, 8, none⟩ (.slice (some ⟨gg, 0, none⟩) (j + 1) cap'))) := by
              have hlj := HLJ.out
              obtain ⟨F', hst, hnx⟩ := DtR.snoc (c := empC (r1, (m : Int))) (v := (.slice none 0 0)) (p := .slice none 0 0) (gg := gg) (cap := cap') HS.out HBZ.out HOV.out (World.ownsRow_nil _ _ _ _) HOKJ.out (by rw [hlj]; exact HJ8.out) HSZ.out HKC.out (by rw [hlj]; exact hlt) (by rw [hlj, HXS.out]; exact hown4) (Keep.grown (Keep.drewN (Keep.alloc (Keep.refl _ _) _) 1) hgrow (fun b hb => Or.inl (by simpa using hb))) (by
                rcases hat with h1 | h1
                · exact Or.inl h1
                · right; omega)
              rw [hlj] at hst hnx
              rw [HT.out]
              have e : upd nils j (.slice none 0 0) = nils := by
                funext q
                unfold upd nils
                split <;> rfl
              rw [e] at hst
              refine ⟨F', hst, ?_⟩
              have hk := hnx.1
              exact HBW.out.trans (hk.below HBW.out.size (fun b hb => (HS.out.lo b hb).1))
            clear hown4 hgrow hat hlt4 hx4 s2 s3
            have hw := HM.out
            go_wp2_with fail
            go_roundw
            case rel =>
              obtain ⟨F', h1, h2⟩ := HF.out
              exact ⟨j + 1, F', _, _, hlt, by go_num, h1, h2⟩
            case measure =>
              try rw [HM.out]
              exact msb hlt
      · obtain rfl : j = R.length := Nat.le_antisymm hj (Nat.not_lt.1 hlt)
        have HZ : Hid (DtAt wr w.heap.size X F Z (List.replicate n 0) (R.map empC)) := by
          have := HS.out
          rw [List.take_length] at this
          exact ⟨_, _, _, _, _, _, this.base HB.out.size, by simp⟩
        have HBF : Hid (Below w.heap.size w wr) := below_then HB.out hbel
        clear HS HL HOK hbel hmk
        go_wp2_with fail
        go_ret2
        exact ⟨X, F, Z, rfl, HZ.out, HBF.out⟩
end Go.Proofs.Ytgbmnngmfcneaaa.Pl
