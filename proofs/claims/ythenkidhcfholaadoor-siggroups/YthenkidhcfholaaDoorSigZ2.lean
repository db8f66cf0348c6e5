/- A list of signatures made and copied; lists of lists that are written. -/
import Derived.Test.YthenkidhcfholaaDoorSigZ1
import Derived.Laws.CopyOwn
namespace Go.Proofs.YthenkidhcfholaaDoor
open Go.ChangeShapes Go.WideShapes Go.ChangeAt Go.RowKit

/-- A copy of elements of several cells each. -/
theorem run_copy_wide {P : Program} (w : World) (dT sT ty elem : TypeId) (g dLen dCap : Nat) (a : Addr) (sLen sCap : Nat) (cur : Array Value) (t : TypeId) (cs : List Value) (k : Nat)
    (hu : P.underlying dT = some (.slice elem)) (hs : (P.info? elem).map (·.size) = some k)
    (hg : w.heap[g]? = some (.cells cur t (0, 0))) (hn : cs.length = Nat.min sLen dLen * k)
    (hsrc : ∀ j v, cs[j]? = some v → w.cell? (a.add j) = some v) (hfit : cs.length = cur.size) (h1 : ∀ v ∈ cs, v.oneCell' = true) :
    (Builtin.copy_ #[dT, sT] ty #[.slice (some ⟨g, 0, none⟩) dLen dCap, .slice (some a) sLen sCap]).run P w =
      .ok (goInt (Nat.min sLen dLen)) (w.setRow g cs.toArray) := by
  have hl := run_loadCells_list (P := P) w a cs hsrc
  have hst := run_storeCells_at P g 0 t cs 0 cur w hg (by omega) h1
  have hd : (cur.toList.drop (0 + 0 + cs.length)) = [] := by apply List.drop_eq_nil_of_le; simp; omega
  rw [hd] at hst
  cases hq : P.info? elem with
  | none => simp [hq] at hs
  | some i =>
    have hi : i.size = k := by simpa [hq] using hs
    simp only [List.append_nil, Nat.add_zero, List.take_zero, List.nil_append] at hst
    simp [Builtin.copy_, run_underlying hu, Builtin.lenOf, Builtin.firstCells, sizeOf, typeInfo, hq, hi, ← hn, hl, hst]
theorem run_copy_none_wide {P : Program} (w : World) (dT sT ty elem : TypeId) (d a : Option Addr) (dLen dCap sLen sCap : Nat) (hu : P.underlying dT = some (.slice elem)) (hs : ((P.info? elem).map (·.size)).isSome = true) (hn : Nat.min sLen dLen = 0) :
    (Builtin.copy_ #[dT, sT] ty #[.slice d dLen dCap, .slice a sLen sCap]).run P w = .ok (goInt 0) w := by
  cases hq : P.info? elem with
  | none => simp [hq] at hs
  | some i =>
    have hl : ∀ (x : Addr), (loadCells x 0).run P w = .ok #[] w := fun x => by simpa using run_loadCells_list (P := P) w x [] (by simp)
    cases d <;> cases a <;> simp [Builtin.copy_, run_underlying hu, Builtin.lenOf, Builtin.firstCells, sizeOf, typeInfo, hq, hn, storeCells, hl]

theorem info_sig : (Tryd.prog.info? 25).map (fun i => (i.zero, i.size, i.bytes)) = some (some (.agg #[.int .u64 0, .int .u64 0, .int .u64 0, .int .u64 0, .int .u64 0, .int .u64 0, .int .u64 0, .int .u64 0]), 8, 64) := by kernel_rfl
/-- What a list of n signatures is made of. -/
def fresh8 (n : Nat) : Obj := .cells (madeCells (Value.cells (.agg #[.int .u64 0, .int .u64 0, .int .u64 0, .int .u64 0, .int .u64 0, .int .u64 0, .int .u64 0, .int .u64 0])) (n * 8)) 25
theorem make_sigs (w : World) (n : Nat) (hn : n ≤ 2199023255552) :
    (Instr.makeSlice 44 (.int .i64 (n : Int)) (.int .i64 (n : Int))).run Tryd.prog w = .ok (.slice (some ⟨w.heap.size, 0, none⟩) n n) (w.alloc (fresh8 n)) := by
  obtain ⟨i0, hi, hz0, hz1, hz2⟩ := info_parts info_sig
  have := run_make (P := Tryd.prog) w 44 25 i0 _ Tryd.underlying44 hi hz0 .i64 .i64 (n : Int) (n : Int) (by omega) (by omega) (by rw [hz2]; omega) (by omega)
  rw [this]
  simp [fresh8, hz1]

def flat (S : List (List Nat)) : List Value := S.flatMap fun s => (sc s).toList
theorem flat_len {S : List (List Nat)} (h : ∀ s ∈ S, Ok s) : (flat S).length = S.length * 8 := by
  induction S with
  | nil => rfl
  | cons s r ih =>
    have h1 := (h s (by simp)).1
    have h2 := ih (fun t ht => h t (by simp [ht]))
    have h3 := sc_size s
    simp only [flat, List.flatMap_cons, List.length_append, Array.length_toList, List.length_cons] at h2 ⊢
    omega
theorem flat_get {S : List (List Nat)} (h : ∀ s ∈ S, Ok s) (i j : Nat) (hi : i < S.length) (hj : j < 8) : (flat S)[i * 8 + j]? = (sc (S.getD i []))[j]? := by
  induction S generalizing i with
  | nil => simp at hi
  | cons s r ih =>
    have h1 := (h s (by simp)).1
    have h3 : (sc s).toList.length = 8 := by rw [Array.length_toList, sc_size]; exact h1
    show ((sc s).toList ++ flat r)[i * 8 + j]? = _
    cases i with
    | zero => rw [List.getElem?_append_left (by omega)]; simp
    | succ i =>
      rw [List.getElem?_append_right (by omega), h3, show (i + 1) * 8 + j - 8 = i * 8 + j by omega, ih (fun t ht => h t (by simp [ht])) i (by simpa using hi)]
      simp
theorem add_add' (x : Addr) (a b : Nat) : (x.add a).add b = x.add (a + b) := by
  unfold Addr.add
  split <;> split <;> split <;> simp_all <;> omega
theorem copy_sigs (w : World) (S : List (List Nat)) (a : Option Addr) (cap : Nat) (ty : TypeId) (hv : SLst w (.slice a S.length cap) S) :
    ∃ w2, (Builtin.copy_ #[44, 44] ty #[.slice (some ⟨w.heap.size, 0, none⟩) S.length S.length, .slice a S.length cap]).run Tryd.prog (w.alloc (fresh8 S.length)) = .ok (goInt S.length) w2 ∧
      SLst w2 (.slice (some ⟨w.heap.size, 0, none⟩) S.length S.length) S ∧ Below w.heap.size w w2 ∧ w2.heap.size = w.heap.size + 1 := by
  obtain ⟨i0, hi, hz0, hz1, hz2⟩ := info_parts info_sig
  have hinfo : (Tryd.prog.info? 25).map (·.size) = some 8 := by rw [hi]; simp [hz1]
  have hv2 := hv.later (below_a1 w (fresh8 S.length))
  obtain ⟨a', cap', he, hm, hok, hl⟩ := hv2
  simp at he
  obtain ⟨rfl, rfl⟩ := he
  by_cases h0 : S.length = 0
  · have e : goInt (S.length : Int) = goInt 0 := by rw [h0]; rfl
    rw [e]
    exact ⟨_, run_copy_none_wide _ _ _ _ _ _ _ _ _ _ _ Tryd.underlying44 (by rw [hinfo]; rfl) (by rw [h0]; rfl), ⟨_, _, rfl, hm, hok, Or.inl (List.eq_nil_of_length_eq_zero h0)⟩, below_a1 _ _, by simp⟩
  · rcases hl with rfl | ⟨x, rfl, hc⟩
    · exact absurd rfl h0
    have hmin : Nat.min S.length S.length = S.length := Nat.min_self _
    have hrun := run_copy_wide (P := Tryd.prog) (w.alloc (fresh8 S.length)) 44 44 ty 25 w.heap.size S.length S.length x S.length cap _ 25 (flat S) 8 Tryd.underlying44 hinfo (heap_alloc_new _ _) (by rw [flat_len hok, hmin])
      (fun j v hj => by
        have hlt : j < S.length * 8 := by rw [← flat_len hok]; exact (List.getElem?_eq_some_iff.1 hj).1
        have := hc (j / 8) (by omega) (j % 8) (by omega)
        rw [add_add', show j / 8 * 8 + j % 8 = j by omega] at this
        rw [this, ← flat_get hok (j / 8) (j % 8) (by omega) (by omega), show j / 8 * 8 + j % 8 = j by omega]
        exact hj)
      (by rw [flat_len hok, size_madeCells])
      (fun v hv => by
        simp only [flat, List.mem_flatMap] at hv
        obtain ⟨s, _, hs⟩ := hv
        exact (Array.all_eq_true_iff_forall_mem.1 (sc_one s)) v (by simpa using hs))
    rw [hmin] at hrun
    refine ⟨_, hrun, ⟨_, _, rfl, hm, hok, Or.inr ⟨_, rfl, fun i hi j hj => ?_⟩⟩, _root_.Go.below_setRow (below_a1 _ _) (Nat.le_refl _) _, by simp [World.setRow]⟩
    rw [add_add', add_at, ← flat_get hok i j hi hj]
    have hh := setRow_heap (w.alloc (fresh8 S.length)) w.heap.size _ (flat S).toArray 25 (0, 0) (heap_alloc_new w _)
    have hc2 := cell_of_row _ w.heap.size (i * 8 + j) _ 25 (0, 0) hh
    simpa using hc2

/-! ### a list of lists that is written -/
def VGrp (w : World) (base : Nat) (v : Value) (X : List (List Value)) (vs : List Value) : Prop := w.ownsRow base 22 1 v X.length vs ∧ vs.length = X.length ∧
  (∀ i, i < X.length → w.ownsRow base 3 1 (vs.getD i undef) (X.getD i []).length (X.getD i [])) ∧
  ∀ i j, i < X.length → j < X.length → i ≠ j → (vs.getD i undef).ownBlock = none ∨ (vs.getD i undef).ownBlock ≠ (vs.getD j undef).ownBlock
theorem Grp.values {w : World} {base : Nat} {v : Value} {G : List (List Nat)} {vs : List Value} (h : Grp w base v G vs) : VGrp w base v (G.map iv) vs := by
  have hX : ∀ i, i < G.length → (G.map iv).getD i [] = iv (G.getD i []) := fun i hi => by simp [hi]
  have hl : ∀ g : List Nat, (iv g).length = g.length := fun g => by simp [iv]
  refine ⟨by rw [List.length_map]; exact h.1, by rw [List.length_map]; exact h.2.1, fun i hi => ?_, fun i j hi hj => ?_⟩
  · rw [List.length_map] at hi
    rw [hX i hi, hl]
    exact h.2.2.1 i hi
  · rw [List.length_map] at hi hj
    exact h.2.2.2 i j hi hj
theorem VGrp.kept {w w' : World} {base : Nat} {v : Value} {X : List (List Value)} {vs : List Value} {row : Option Nat} (h : VGrp w base v X vs) (hg : w.grownBy w' row) (hv : v.ownBlock = none ∨ v.ownBlock ≠ row) (hr : ∀ i, i < X.length → (vs.getD i undef).ownBlock = none ∨ (vs.getD i undef).ownBlock ≠ row) : VGrp w' base v X vs :=
  ⟨h.1.kept hg hv, h.2.1, fun i hi => (h.2.2.1 i hi).kept hg (hr i hi), h.2.2.2⟩
theorem VGrp.later {w w' : World} {base : Nat} {v : Value} {X : List (List Value)} {vs : List Value} (h : VGrp w base v X vs) (hb : Below w.heap.size w w') : VGrp w' base v X vs :=
  h.kept (below_grown hb) (by cases v.ownBlock <;> simp) (fun i _ => by cases (vs.getD i undef).ownBlock <;> simp)
/-- A cell of one of the lists is written. -/
theorem VGrp.write {w : World} {base i k g n c : Nat} {v : Value} {X : List (List Value)} {vs : List Value} (h : VGrp w base v X vs) (hi : i < X.length) (hu : vs.getD i undef = .slice (some ⟨g, 0, none⟩) n c) (z : Value) :
    VGrp (w.setCell ⟨g, k, none⟩ z) base v (X.set i ((X.getD i []).set k z)) vs ∧ w.grownBy (w.setCell ⟨g, k, none⟩ z) (some g) := by
  have hrow := h.2.2.1 i hi
  rw [hu] at hrow
  have hn : n = (X.getD i []).length := by
    rcases hrow.2 with ⟨e, h0⟩ | ⟨g', c', cur, e, _⟩
    · simp at e
    · simp at e; exact e.2.1
  subst hn
  have hs := hrow.stored k z
  refine ⟨⟨?_, by simp [h.2.1], fun j hj => ?_, fun a b ha hb => h.2.2.2 a b (by simpa using ha) (by simpa using hb)⟩, hs.2⟩
  · rw [List.length_set]
    refine h.1.kept hs.2 ?_
    have := own_ne h.1 hrow (by decide)
    exact this
  · rw [List.length_set] at hj
    rw [getD_set' _ _ _ _ _ hi]
    split
    · next e =>
      subst e
      rw [List.length_set, hu]
      exact hs.1
    · next e =>
      refine (h.2.2.1 j hj).kept hs.2 ?_
      have := h.2.2.2 j i hj hi (fun e' => e e'.symm)
      rw [hu] at this
      exact this
/-- One of the lists is another. -/
theorem VGrp.put {w w2 : World} {base k : Nat} {v : Value} {X : List (List Value)} {vs : List Value} (h : VGrp w base v X vs) (hk : k < X.length) {u' : Value} {x' : List Value} (hown : w2.ownsRow base 3 1 u' x'.length x')
    (hg : w.grownBy w2 (vs.getD k undef).ownBlock) (hat : u'.ownBlock = (vs.getD k undef).ownBlock ∨ u'.ownBlock = some w.heap.size) {gb cap : Nat} (hv : v = .slice (some ⟨gb, 0, none⟩) X.length cap) :
    VGrp (w2.setCell ⟨gb, k, none⟩ u') base v (X.set k x') (vs.set k u') := by
  have hvl : k < vs.length := by rw [h.2.1]; exact hk
  have hrow : w2.ownsRow base 22 1 v X.length vs := h.1.kept hg (own_ne h.1 (h.2.2.1 k hk) (by decide))
  have hst := hrow
  rw [hv] at hst
  have hs2 := hst.stored k u'
  rw [← hv] at hs2
  have keep2 : ∀ {b n : Nat} {u : Value} {xs : List Value}, w2.ownsRow b 3 1 u n xs → (w2.setCell ⟨gb, k, none⟩ u').ownsRow b 3 1 u n xs := fun hu => hu.kept hs2.2 (by
    have := own_ne hu hrow (by decide)
    rw [hv] at this
    exact this)
  have keep1 : ∀ i, i < X.length → i ≠ k → w2.ownsRow base 3 1 (vs.getD i undef) (X.getD i []).length (X.getD i []) := fun i hi hne => (h.2.2.1 i hi).kept hg (h.2.2.2 i k hi hk hne)
  have fresh : ∀ j, j < X.length → j ≠ k → (u'.ownBlock = none ∨ u'.ownBlock ≠ (vs.getD j undef).ownBlock) ∧ ((vs.getD j undef).ownBlock = none ∨ (vs.getD j undef).ownBlock ≠ u'.ownBlock) := fun j hj hne => by
    rcases hat with e | e
    · rw [e]; exact ⟨h.2.2.2 k j hk hj (fun e' => hne e'.symm), h.2.2.2 j k hj hk hne⟩
    · rw [e]
      cases hq : (vs.getD j undef).ownBlock with
      | none => exact ⟨Or.inr (by simp), Or.inl rfl⟩
      | some q =>
        have := ((h.2.2.1 j hj).lt q hq).2
        exact ⟨Or.inr (by simp; omega), Or.inr (by simp; omega)⟩
  refine ⟨by simpa using hs2.1, by simp [h.2.1], fun i hi => ?_, fun i j hi hj hne => ?_⟩
  · have hi' : i < X.length := by simpa using hi
    rw [getD_set' _ _ _ _ _ hvl, getD_set' _ _ _ _ _ hk]
    split
    · next e => exact keep2 hown
    · next e => exact keep2 (keep1 i hi' (fun e' => e e'.symm))
  · have hi' : i < X.length := by simpa using hi
    have hj' : j < X.length := by simpa using hj
    rw [getD_set' _ _ _ _ _ hvl, getD_set' _ _ _ _ _ hvl]
    split
    · next e =>
      split
      · next e2 => exact absurd (e.symm.trans e2) hne
      · next e2 => exact (fresh j hj' (fun e' => e2 e'.symm)).1
    · next e =>
      split
      · next e2 => exact (fresh i hi' (fun e' => e e'.symm)).2
      · next e2 => exact h.2.2.2 i j hi' hj' hne
theorem VGrp.form {w : World} {base : Nat} {v : Value} {X : List (List Value)} {vs : List Value} (h : VGrp w base v X vs) (hn : 0 < X.length) : ∃ g cap, v = .slice (some ⟨g, 0, none⟩) X.length cap ∧ base ≤ g := by
  rcases h.1.2 with ⟨_, h0⟩ | ⟨g, cap, cur, hv, hg, _⟩
  · omega
  · exact ⟨g, cap, hv, hg⟩
theorem VGrp.cell {w : World} {base : Nat} {X : List (List Value)} {vs : List Value} {g cap : Nat} (h : VGrp w base (.slice (some ⟨g, 0, none⟩) X.length cap) X vs) (i : Nat) (hi : i < X.length) : w.cell? ⟨g, i, none⟩ = some (vs.getD i undef) := by
  have h1 := h.1
  have : i < vs.length := by rw [h.2.1]; exact hi
  rw [h1.cellAt i (by omega)]
  simp [this]

/-- Blocks outside of a stretch. -/
def Out (lo hi : Nat) (u : Value) : Prop := ∀ g, u.ownBlock = some g → g < lo ∨ hi ≤ g
/-- A list of lists in a stretch of the memory is as it was behind a write outside of it. -/
theorem Grp.outside {w0 w w' : World} {base : Nat} {v : Value} {G : List (List Nat)} {vs : List Value} {row : Option Nat} (h0 : Grp w0 base v G vs) (h : Grp w base v G vs) (hg : w.grownBy w' row) (hr : ∀ g, row = some g → g < base ∨ w0.heap.size ≤ g) : Grp w' base v G vs := by
  have key : ∀ {e : TypeId} {n : Nat} {u : Value} {xs : List Value}, w0.ownsRow base e 1 u n xs → u.ownBlock = none ∨ u.ownBlock ≠ row := fun {e n u xs} hu => by
    cases hq : u.ownBlock with
    | none => exact Or.inl rfl
    | some q =>
      right
      intro e
      have h1 := own_block hu q hq
      have h2 := (hu.lt q hq).2
      rcases hr q e.symm with h3 | h3 <;> omega
  exact ⟨h.1.kept hg (key h0.1), h.2.kept hg (fun i hi => key (h0.2.2.1 i hi))⟩
/-- What is written over a list of the lists. -/
def over (q m : Nat) : List Value := (List.range m).map fun (k : Nat) => Value.int .i64 (-1000 * (q : Int) - (k : Int))
def overAll (q m : Nat) : List Value := over q m ++ [Value.int .i64 (-1000 * (q : Int) - 500)]
theorem over_len (q m : Nat) : (over q m).length = m := by simp [over]
theorem over_succ (q m : Nat) : over q (m + 1) = over q m ++ [Value.int .i64 (-1000 * (q : Int) - (m : Int))] := by simp [over, List.range_succ]
theorem set_mid (a : List Value) (b : List Value) (z : Value) (k : Nat) (h : a.length = k) (hk : k < b.length) : (a ++ b.drop k).set k z = (a ++ [z]) ++ b.drop (k + 1) := by
  subst h
  rw [List.set_append_right _ _ (Nat.le_refl _), Nat.sub_self, List.drop_eq_getElem_cons hk, List.set_cons_zero]
  simp only [List.append_assoc, List.singleton_append]
/-- What is so while the lists are written over. -/
structure Wst (G : List (List Nat)) (lo : Nat) (w2 w4 : World) (va vb : Value) (us : List Value) (i k : Nat) (wr : World) (vs : List Value) (X : List (List Value)) : Prop where
  grp : VGrp wr w2.heap.size va X vs
  len : X.length = G.length
  done : ∀ q, q < i → X.getD q [] = overAll q (G.getD q []).length
  now : i < G.length → X.getD i [] = over i k ++ (iv (G.getD i [])).drop k
  rest : ∀ q, i < q → q < G.length → X.getD q [] = iv (G.getD q [])
  out : ∀ q, q < G.length → Out lo w4.heap.size (vs.getD q undef)
  outv : Out lo w4.heap.size va
  b : Grp wr lo vb G us
  b4 : Grp w4 lo vb G us
  bel : Below w2.heap.size w2 wr
  size : w4.heap.size ≤ wr.heap.size
theorem wst_start {G : List (List Nat)} {lo : Nat} {w2 w4 wr : World} {va vb : Value} {us vs : List Value} (h : Grp wr w2.heap.size va G vs) (hout : ∀ q, q < G.length → Out lo w4.heap.size (vs.getD q undef)) (hv : Out lo w4.heap.size va) (hb : Grp wr lo vb G us) (hb4 : Grp w4 lo vb G us) (hbel : Below w2.heap.size w2 wr) (hs : w4.heap.size ≤ wr.heap.size) :
    Wst G lo w2 w4 va vb us 0 0 wr vs (G.map iv) :=
  ⟨h.values, by simp, fun q hq => absurd hq (by omega), fun h0 => by simp [over, h0], fun q _ hq => by simp [hq], hout, hv, hb, hb4, hbel, hs⟩
theorem Wst.later {G : List (List Nat)} {lo : Nat} {w2 w4 wr wr' : World} {va vb : Value} {us vs : List Value} {i k : Nat} {X : List (List Value)} (h : Wst G lo w2 w4 va vb us i k wr vs X) (hb : Below wr.heap.size wr wr') : Wst G lo w2 w4 va vb us i k wr' vs X :=
  ⟨h.grp.later hb, h.len, h.done, h.now, h.rest, h.out, h.outv, h.b.later hb, h.b4, below_then h.bel hb, Nat.le_trans h.size hb.size⟩
theorem Wst.step {G : List (List Nat)} {lo : Nat} {w2 w4 wr : World} {va vb : Value} {us vs : List Value} {i k g m c : Nat} {X : List (List Value)} (h : Wst G lo w2 w4 va vb us i k wr vs X) (hi : i < G.length) (hk : k < (G.getD i []).length) (hu : vs.getD i undef = .slice (some ⟨g, 0, none⟩) m c) :
    ∃ X', Wst G lo w2 w4 va vb us i (k + 1) (wr.setCell ⟨g, k, none⟩ (.int .i64 (-1000 * (i : Int) - (k : Int)))) vs X' := by
  have hi' : i < X.length := by rw [h.len]; exact hi
  obtain ⟨h1, h2⟩ := h.grp.write (k := k) hi' hu (.int .i64 (-1000 * (i : Int) - (k : Int)))
  have hg : w2.heap.size ≤ g := by
    have := h.grp.2.2.1 i hi'
    rw [hu] at this
    exact own_block this g rfl
  refine ⟨_, h1, by rw [List.length_set]; exact h.len, fun q hq => ?_, fun _ => ?_, fun q hq hq2 => ?_, h.out, h.outv, h.b4.outside h.b h2 (fun q e => by cases e; exact h.out i hi g (by rw [hu]; rfl)), h.b4, h.bel.setCell hg _, by simpa using h.size⟩
  · rw [getD_set' _ _ _ _ _ hi', if_neg (by omega)]; exact h.done q hq
  · rw [getD_set' _ _ _ _ _ hi', if_pos rfl, h.now hi, set_mid _ _ _ _ (over_len _ _) (by simpa [iv] using hk), over_succ]
  · rw [getD_set' _ _ _ _ _ hi', if_neg (by omega)]; exact h.rest q hq hq2
theorem Wst.row {G : List (List Nat)} {lo : Nat} {w2 w4 wr : World} {va vb : Value} {us vs : List Value} {i k : Nat} {X : List (List Value)} (h : Wst G lo w2 w4 va vb us i k wr vs X) (hi : i < G.length) (hk : k ≤ (G.getD i []).length) :
    wr.ownsRow w2.heap.size 3 1 (vs.getD i undef) (G.getD i []).length (over i k ++ (iv (G.getD i [])).drop k) := by
  have := h.grp.2.2.1 i (by rw [h.len]; exact hi)
  rw [h.now hi] at this
  have e : (over i k ++ (iv (G.getD i [])).drop k).length = (G.getD i []).length := by
    have e2 : (iv (G.getD i [])).length = (G.getD i []).length := by simp [iv]
    rw [List.length_append, over_len, List.length_drop, e2]; omega
  rw [e] at this
  exact this
theorem Wst.next {G : List (List Nat)} {lo : Nat} {w2 w4 wr w5 : World} {va vb u' : Value} {us vs : List Value} {i gb cap : Nat} {X : List (List Value)} (h : Wst G lo w2 w4 va vb us i (G.getD i []).length wr vs X) (hi : i < G.length)
    (hown : w5.ownsRow w2.heap.size 3 1 u' (overAll i (G.getD i []).length).length (overAll i (G.getD i []).length)) (hg : wr.grownBy w5 (vs.getD i undef).ownBlock) (hat : u'.ownBlock = (vs.getD i undef).ownBlock ∨ u'.ownBlock = some wr.heap.size) (hv : va = .slice (some ⟨gb, 0, none⟩) G.length cap) :
    ∃ X', Wst G lo w2 w4 va vb us (i + 1) 0 (w5.setCell ⟨gb, i, none⟩ u') (vs.set i u') X' := by
  have hi' : i < X.length := by rw [h.len]; exact hi
  have hvl : i < vs.length := by rw [h.grp.2.1]; exact hi'
  have h1 := h.grp.put hi' hown hg hat (by rw [h.len]; exact hv)
  have hgb : w2.heap.size ≤ gb := own_block h.grp.1 gb (by rw [hv]; rfl)
  have hst : w5.grownBy (w5.setCell ⟨gb, i, none⟩ u') (some gb) := by
    have hrow := h.grp.1.kept hg (own_ne h.grp.1 (h.grp.2.2.1 i hi') (by decide))
    rw [hv] at hrow
    rw [h.len] at hrow
    exact (hrow.stored i u').2
  have hb5 : Grp w5 lo vb G us := h.b4.outside h.b hg (fun q e => h.out i hi q e)
  have hbel5 : Below w2.heap.size w2 w5 := h.bel.grown hg h.bel.size (fun b hb => own_block (h.grp.2.2.1 i hi') b hb)
  have hsz : wr.heap.size ≤ w5.heap.size := hg.size
  refine ⟨_, h1, by rw [List.length_set]; exact h.len, fun q hq => ?_, fun hi2 => ?_, fun q hq hq2 => ?_, fun q hq g hqg => ?_, h.outv, h.b4.outside hb5 hst (fun q e => by cases e; exact h.outv gb (by rw [hv]; rfl)), h.b4, hbel5.setCell hgb _, by have := h.size; simp; omega⟩
  · rw [getD_set' _ _ _ _ _ hi']
    split
    · next e => rw [e]
    · next e => exact h.done q (by omega)
  · rw [getD_set' _ _ _ _ _ hi', if_neg (by omega), h.rest (i + 1) (by omega) hi2]
    simp [over]
  · rw [getD_set' _ _ _ _ _ hi', if_neg (by omega)]; exact h.rest q (by omega) hq2
  · rw [getD_set' _ _ _ _ _ hvl] at hqg
    split at hqg
    · rcases hat with e | e
      · exact h.out i hi g (by rw [← e]; exact hqg)
      · rw [e] at hqg
        cases hqg
        exact Or.inr h.size
    · exact h.out q hq g hqg
theorem wst_cells {G : List (List Nat)} {lo n ca : Nat} {w2 w4 wr : World} {aa : Option Addr} {vb : Value} {us vs : List Value} {X : List (List Value)} (h : Wst G lo w2 w4 (.slice aa n ca) vb us n 0 wr vs X) (hn : G.length = n) :
    ∀ q, q < n → ∃ g gi cq, aa = some ⟨g, 0, none⟩ ∧ wr.cell? ⟨g, q, none⟩ = some (.slice (some ⟨gi, 0, none⟩) ((G.getD q []).length + 1) cq) ∧ wr.cell? ⟨gi, (G.getD q []).length, none⟩ = some (.int .i64 (-1000 * (q : Int) - 500)) ∧ ∀ k, k < (G.getD q []).length → wr.cell? ⟨gi, k, none⟩ = some (.int .i64 (-1000 * (q : Int) - (k : Int))) := by
  intro q hq
  have hx : X.length = n := by rw [h.len, hn]
  have hq' : q < X.length := by omega
  have hgrp := h.grp
  obtain ⟨g, cap, hfm, _⟩ := hgrp.form (by omega)
  obtain ⟨rfl, _, _⟩ : aa = some ⟨g, 0, none⟩ ∧ n = X.length ∧ ca = cap := by simpa using hfm
  have hrow := hgrp.2.2.1 q hq'
  rw [h.done q hq] at hrow
  have hol : (overAll q (G.getD q []).length).length = (G.getD q []).length + 1 := by simp [overAll, over]
  rw [hol] at hrow
  obtain ⟨gi, cq, hu⟩ : ∃ gi cq, vs.getD q undef = .slice (some ⟨gi, 0, none⟩) ((G.getD q []).length + 1) cq := by
    rcases hrow.2 with ⟨e, h0⟩ | ⟨gi, c', cur, e, _⟩
    · omega
    · exact ⟨gi, c', e⟩
  rw [hu] at hrow
  refine ⟨g, gi, cq, rfl, ?_, ?_, fun k hk => ?_⟩
  · rw [← hu]
    subst hx
    exact hgrp.cell q hq'
  · rw [hrow.cellAt _ (by omega)]
    unfold overAll
    rw [List.getElem?_append_right (by rw [over_len]; omega), over_len]
    simp
  · rw [hrow.cellAt _ (by omega)]
    unfold overAll
    rw [List.getElem?_append_left (by rw [over_len]; omega)]
    have : k < (over q (G.getD q []).length).length := by rw [over_len]; exact hk
    rw [List.getElem?_eq_getElem this]
    simp [over]
end Go.Proofs.YthenkidhcfholaaDoor
