/- A state as it lies: the rows of its collections, and the state of the program's. -/
import Derived.Test.YtgbmnngmfcneaaaPlI
namespace Go.Proofs.Ytgbmnngmfcneaaa.Pl
open Go.ChangeShapes Go.WideShapes Go.ChangeAt Go.RowKit

/-! ### rows of elements of several cells -/
def rowC (f : Nat → List Value) (n : Nat) : List Value := (List.range n).flatMap f
theorem rowC_snoc (f : Nat → List Value) (n : Nat) : rowC f (n + 1) = rowC f n ++ f n := by simp [rowC, List.range_succ]
theorem rowC_len {f : Nat → List Value} {k : Nat} (hf : ∀ i, (f i).length = k) (n : Nat) : (rowC f n).length = n * k := by
  induction n with
  | zero => simp [rowC]
  | succ n ih => rw [rowC_snoc, List.length_append, ih, hf, Nat.add_mul, Nat.one_mul]
theorem rowC_get {f : Nat → List Value} {k : Nat} (hf : ∀ i, (f i).length = k) {n i j : Nat} (hi : i < n) (hj : j < k) : (rowC f n)[i * k + j]? = (f i)[j]? := by
  induction n with
  | zero => omega
  | succ n ih =>
    rw [rowC_snoc]
    have hl := rowC_len hf n
    by_cases e : i = n
    · subst e
      rw [List.getElem?_append_right (by omega), hl]
      congr 1
      omega
    · have hin : i < n := by omega
      have h1 : i * k + k ≤ n * k := by
        have : (i + 1) * k ≤ n * k := Nat.mul_le_mul_right _ hin
        rwa [Nat.add_mul, Nat.one_mul] at this
      rw [List.getElem?_append_left (by omega)]
      exact ih hin
theorem rowC_congr {f h : Nat → List Value} {n : Nat} (e : ∀ i, i < n → f i = h i) : rowC f n = rowC h n := by
  induction n with
  | zero => rfl
  | succ n ih => rw [rowC_snoc, rowC_snoc, ih (fun i hi => e i (by omega)), e n (by omega)]
theorem rowC_set {f : Nat → List Value} {k : Nat} (hf : ∀ i, (f i).length = k) {n i j : Nat} (hi : i < n) (hj : j < k) (v : Value) : (rowC f n).set (i * k + j) v = rowC (fun x => if x = i then (f i).set j v else f x) n := by
  induction n with
  | zero => omega
  | succ n ih =>
    rw [rowC_snoc, rowC_snoc]
    have hl := rowC_len hf n
    by_cases e : i = n
    · subst e
      rw [List.set_append_right _ _ (by omega), hl, if_pos rfl, show i * k + j - i * k = j by omega]
      congr 1
      apply rowC_congr
      intro x hx
      rw [if_neg (by omega)]
    · have hin : i < n := by omega
      have h1 : i * k + k ≤ n * k := by
        have : (i + 1) * k ≤ n * k := Nat.mul_le_mul_right _ hin
        rwa [Nat.add_mul, Nat.one_mul] at this
      rw [List.set_append_left _ _ (by omega), ih hin, if_neg (fun e' => e e'.symm)]
def nthC (cs : List Co) (i : Nat) : Co := cs.getD i ⟨0, 0, [], []⟩
theorem nthC_at {cs : List Co} {i : Nat} {c : Co} (h : cs[i]? = some c) : nthC cs i = c := by simp [nthC, h]
theorem at_nthC {cs : List Co} {i : Nat} (h : i < cs.length) : cs[i]? = some (nthC cs i) := by simp [nthC, h]
theorem nthC_set {cs : List Co} {i j : Nat} {c : Co} (h : i < cs.length) : nthC (cs.set i c) j = if j = i then c else nthC cs j := by
  unfold nthC
  simp only [List.getD_eq_getElem?_getD, List.getElem?_set]
  by_cases e : i = j
  · subst e; simp [h]
  · rw [if_neg e, if_neg (fun e' => e e'.symm)]
def upd (V : Nat → Value) (i : Nat) (v : Value) : Nat → Value := fun j => if j = i then v else V j
theorem upd_at (V : Nat → Value) (i : Nat) (v : Value) : upd V i v i = v := if_pos rfl
theorem upd_ne (V : Nat → Value) {i j : Nat} (v : Value) (h : j ≠ i) : upd V i v j = V j := if_neg h

/-- The rows of collections, each in memory of its own. -/
structure Rows (w : World) (B : Nat) (F : List Nat) (cs : List Co) (V P : Nat → Value) : Prop where
  vs : ∀ i, i < cs.length → w.ownsRow B 2 1 (V i) (nthC cs i).vs.length (numC (nthC cs i).vs)
  ps : ∀ i, i < cs.length → w.ownsRow B 52 2 (P i) (nthC cs i).ps.length (prC (nthC cs i).ps)
  iv : ∀ i, i < cs.length → ∀ b, (V i).ownBlock = some b → b ∈ F
  ip : ∀ i, i < cs.length → ∀ b, (P i).ownBlock = some b → b ∈ F
  vv : ∀ i j, i < cs.length → j < cs.length → i ≠ j → ∀ b, (V i).ownBlock = some b → (V j).ownBlock ≠ some b
  pp : ∀ i j, i < cs.length → j < cs.length → i ≠ j → ∀ b, (P i).ownBlock = some b → (P j).ownBlock ≠ some b
  ok : ∀ i, i < cs.length → CoOk (nthC cs i)
theorem Rows.keep {w w' : World} {B : Nat} {F G : List Nat} {cs : List Co} {V P : Nat → Value} (h : Rows w B F cs V P) (hk : Keep G w w') (hd : ∀ b ∈ F, b ∉ G) : Rows w' B F cs V P :=
  ⟨fun i hi => own_keep (h.vs i hi) hk (fun b hb => hd b (h.iv i hi b hb)), fun i hi => own_keep (h.ps i hi) hk (fun b hb => hd b (h.ip i hi b hb)), h.iv, h.ip, h.vv, h.pp, h.ok⟩
theorem Rows.later {w w' : World} {B : Nat} {F : List Nat} {cs : List Co} {V P : Nat → Value} (h : Rows w B F cs V P) (hb : Below w.heap.size w w') : Rows w' B F cs V P := h.keep (Keep.of_below hb []) (fun _ _ => by simp)
/-- A row of numbers is none of pairs. -/
theorem rows_apart {w : World} {B k1 k2 n1 n2 : Nat} {e1 e2 : TypeId} {v p : Value} {xs ys : List Value} (hv : w.ownsRow B e1 k1 v n1 xs) (hp : w.ownsRow B e2 k2 p n2 ys) (ht : e1 ≠ e2) (b : Nat) (hb : v.ownBlock = some b) : p.ownBlock ≠ some b := by
  rcases hv.2 with ⟨rfl, _⟩ | ⟨g2, _, cur, rfl, _, hg2, _⟩
  · simp [Value.ownBlock] at hb
  · simp [Value.ownBlock] at hb
    subst hb
    exact own_ne hp hg2 ht
theorem Rows.upd {w w' : World} {B : Nat} {F : List Nat} {cs : List Co} {V P : Nat → Value} (h : Rows w B F cs V P) {i : Nat} (hi : i < cs.length) {c' : Co} {g : Nat} {t : TypeId} {L : Array Value} {v' p' : Value} (hg : w.heap[g]? = some (.cells L t (0, 0))) (ht1 : t ≠ 2) (ht2 : t ≠ 52)
    (hk : Keep (g :: ((V i).ownBlock.toList ++ (P i).ownBlock.toList)) w w') (hv : w'.ownsRow B 2 1 v' c'.vs.length (numC c'.vs)) (hp : w'.ownsRow B 52 2 p' c'.ps.length (prC c'.ps)) (hfv : Fr w (V i) v') (hfp : Fr w (P i) p') (hok : CoOk c') :
    Rows w' B (F ++ (v'.ownBlock.toList ++ p'.ownBlock.toList)) (cs.set i c') (Pl.upd V i v') (Pl.upd P i p') := by
  have hgv : ∀ j, j < cs.length → ∀ b, (V j).ownBlock = some b → b ≠ g := fun j hj b hb e => own_ne (h.vs j hj) hg ht1 (e ▸ hb)
  have hgp : ∀ j, j < cs.length → ∀ b, (P j).ownBlock = some b → b ≠ g := fun j hj b hb e => own_ne (h.ps j hj) hg ht2 (e ▸ hb)
  have hvk : ∀ j, j < cs.length → j ≠ i → ∀ b, (V j).ownBlock = some b → b ∉ (g :: ((V i).ownBlock.toList ++ (P i).ownBlock.toList)) := fun j hj hji b hb hm => by
    simp only [List.mem_cons, List.mem_append, Option.mem_toList] at hm
    rcases hm with h1 | h1 | h1
    · exact hgv j hj b hb h1
    · exact h.vv j i hj hi hji b hb h1
    · exact rows_apart (h.vs j hj) (h.ps i hi) i64_pair b hb h1
  have hpk : ∀ j, j < cs.length → j ≠ i → ∀ b, (P j).ownBlock = some b → b ∉ (g :: ((V i).ownBlock.toList ++ (P i).ownBlock.toList)) := fun j hj hji b hb hm => by
    simp only [List.mem_cons, List.mem_append, Option.mem_toList] at hm
    rcases hm with h1 | h1 | h1
    · exact hgp j hj b hb h1
    · exact rows_apart (h.vs i hi) (h.ps j hj) i64_pair b h1 hb
    · exact h.pp j i hj hi hji b hb h1
  have hvl : ∀ j, j < cs.length → ∀ b, (V j).ownBlock = some b → b < w.heap.size := fun j hj b hb => (own_block (h.vs j hj) b hb).2
  have hpl : ∀ j, j < cs.length → ∀ b, (P j).ownBlock = some b → b < w.heap.size := fun j hj b hb => (own_block (h.ps j hj) b hb).2
  refine ⟨?_, ?_, ?_, ?_, ?_, ?_, ?_⟩
  · intro j hj
    rw [List.length_set] at hj
    rw [nthC_set hi]
    by_cases e : j = i
    · subst e
      rw [if_pos rfl, upd_at]
      exact hv
    · rw [if_neg e, upd_ne _ _ e]
      exact own_keep (h.vs j hj) hk (hvk j hj e)
  · intro j hj
    rw [List.length_set] at hj
    rw [nthC_set hi]
    by_cases e : j = i
    · subst e
      rw [if_pos rfl, upd_at]
      exact hp
    · rw [if_neg e, upd_ne _ _ e]
      exact own_keep (h.ps j hj) hk (hpk j hj e)
  · intro j hj b hb
    rw [List.length_set] at hj
    by_cases e : j = i
    · subst e
      rw [upd_at] at hb
      simp [hb]
    · rw [upd_ne _ _ e] at hb
      simp [h.iv j hj b hb]
  · intro j hj b hb
    rw [List.length_set] at hj
    by_cases e : j = i
    · subst e
      rw [upd_at] at hb
      simp [hb]
    · rw [upd_ne _ _ e] at hb
      simp [h.ip j hj b hb]
  · intro j l hj hl hjl b hb hb2
    rw [List.length_set] at hj hl
    by_cases e : j = i
    · subst e
      rw [upd_at] at hb
      rw [upd_ne _ _ (fun e => hjl e.symm)] at hb2
      rcases hfv b hb with h1 | h1
      · exact h.vv j l hj hl hjl b h1 hb2
      · have := hvl l hl b hb2
        omega
    · rw [upd_ne _ _ e] at hb
      by_cases e2 : l = i
      · subst e2
        rw [upd_at] at hb2
        rcases hfv b hb2 with h1 | h1
        · exact h.vv j l hj hl hjl b hb h1
        · have := hvl j hj b hb
          omega
      · rw [upd_ne _ _ e2] at hb2
        exact h.vv j l hj hl hjl b hb hb2
  · intro j l hj hl hjl b hb hb2
    rw [List.length_set] at hj hl
    by_cases e : j = i
    · subst e
      rw [upd_at] at hb
      rw [upd_ne _ _ (fun e => hjl e.symm)] at hb2
      rcases hfp b hb with h1 | h1
      · exact h.pp j l hj hl hjl b h1 hb2
      · have := hpl l hl b hb2
        omega
    · rw [upd_ne _ _ e] at hb
      by_cases e2 : l = i
      · subst e2
        rw [upd_at] at hb2
        rcases hfp b hb2 with h1 | h1
        · exact h.pp j l hj hl hjl b hb h1
        · have := hpl j hj b hb
          omega
      · rw [upd_ne _ _ e2] at hb2
        exact h.pp j l hj hl hjl b hb hb2
  · intro j hj
    rw [List.length_set] at hj
    rw [nthC_set hi]
    split
    · exact hok
    · exact h.ok j hj

/-! ### the program's state -/
def colF (cs : List Co) (V P : Nat → Value) (i : Nat) : List Value := [.int .i64 (nthC cs i).kd, .int .i64 (nthC cs i).cap, V i, P i]
structure StR (w : World) (B X : Nat) (F : List Nat) (raw : List Int) (cs : List Co) (rv cv : Value) (V P : Nat → Value) : Prop where
  hX : w.heap[X]? = some (.cells #[rv, cv] 67 (0, 0))
  XF : X ∈ F
  rr : w.ownsRow B 2 1 rv raw.length (numC raw)
  rF : ∀ b, rv.ownBlock = some b → b ∈ F
  rV : ∀ i, i < cs.length → ∀ b, rv.ownBlock = some b → (V i).ownBlock ≠ some b
  cr : w.ownsRow B 70 4 cv cs.length (rowC (colF cs V P) cs.length)
  cF : ∀ b, cv.ownBlock = some b → b ∈ F
  rows : Rows w B F cs V P
  r1 : 1 ≤ raw.length
  r64 : raw.length ≤ 64
  rs : ∀ x ∈ raw, Sx x
  c8 : cs.length ≤ 8
  lo : ∀ b ∈ F, B ≤ b ∧ b < w.heap.size
def StAt (w : World) (B X : Nat) (F : List Nat) (raw : List Int) (cs : List Co) : Prop := ∃ rv cv V P, StR w B X F raw cs rv cv V P
theorem StR.keep {w w' : World} {B X : Nat} {F G : List Nat} {raw : List Int} {cs : List Co} {rv cv : Value} {V P : Nat → Value} (h : StR w B X F raw cs rv cv V P) (hk : Keep G w w') (hd : ∀ b ∈ F, b ∉ G) : StR w' B X F raw cs rv cv V P :=
  ⟨by rw [hk.block _ (h.lo X h.XF).2 (hd X h.XF)]; exact h.hX, h.XF, own_keep h.rr hk (fun b hb => hd b (h.rF b hb)), h.rF, h.rV, own_keep h.cr hk (fun b hb => hd b (h.cF b hb)), h.cF, h.rows.keep hk hd, h.r1, h.r64, h.rs, h.c8, fun b hb => ⟨(h.lo b hb).1, Nat.lt_of_lt_of_le (h.lo b hb).2 hk.size⟩⟩
theorem StAt.keep {w w' : World} {B X : Nat} {F G : List Nat} {raw : List Int} {cs : List Co} (h : StAt w B X F raw cs) (hk : Keep G w w') (hd : ∀ b ∈ F, b ∉ G) : StAt w' B X F raw cs := by
  obtain ⟨rv, cv, V, P, hs⟩ := h
  exact ⟨rv, cv, V, P, hs.keep hk hd⟩
theorem StAt.later {w w' : World} {B X : Nat} {F : List Nat} {raw : List Int} {cs : List Co} (h : StAt w B X F raw cs) (hb : Below w.heap.size w w') : StAt w' B X F raw cs := h.keep (Keep.of_below hb []) (fun _ _ => by simp)
theorem state_types : (67 : TypeId) ≠ 2 ∧ (67 : TypeId) ≠ 52 ∧ (67 : TypeId) ≠ 70 := by decide
theorem colF_len (cs : List Co) (V P : Nat → Value) (i : Nat) : (colF cs V P i).length = 4 := rfl
/-- A state's collection. -/
theorem StR.col {w : World} {B X : Nat} {F : List Nat} {raw : List Int} {cs : List Co} {rv cv : Value} {V P : Nat → Value} (h : StR w B X F raw cs rv cv V P) {i : Nat} (hi : i < cs.length) :
    ∃ g cap L, cv = .slice (some ⟨g, 0, none⟩) cs.length cap ∧ ColAt w B g (i * 4) L (nthC cs i) (V i) (P i) ∧ ∀ (w' : World) (c' : Co) (v' p' : Value), c'.kd = (nthC cs i).kd → c'.cap = (nthC cs i).cap → w'.heap[g]? = some (.cells ((L.set (i * 4 + 2) v').set (i * 4 + 3) p').toArray 70 (0, 0)) → w'.ownsRow B 70 4 cv cs.length (rowC (colF (cs.set i c') (upd V i v') (upd P i p')) cs.length) := by
  have hcr := h.cr
  rcases hcr.2 with ⟨_, h0⟩ | ⟨g, cap, cur, rfl, hb, hg, h1, h2, h3, h4⟩
  · omega
  · have hlen : cur.toList.length = cap * 4 := by simpa using h3
    have hci : ∀ j, j < 4 → cur.toList[i * 4 + j]? = (colF cs V P i)[j]? := fun j hj => by
      rw [← rowC_get (colF_len cs V P) hi hj, ← h4, List.getElem?_take, if_pos (by omega)]
    refine ⟨g, cap, cur.toList, rfl, ⟨by simpa using hg, hb, (hci 0 (by omega)).trans rfl, (hci 1 (by omega)).trans rfl, (hci 2 (by omega)).trans rfl, (hci 3 (by omega)).trans rfl, h.rows.vs i hi, h.rows.ps i hi, h.rows.ok i hi⟩, ?_⟩
    intro w' c' v' p' hk hcp hg'
    have hfl : ∀ x, (if x = i then (colF cs V P i).set 2 v' else colF cs V P x).length = 4 := fun x => by split <;> rfl
    have e : ((cur.toList.set (i * 4 + 2) v').set (i * 4 + 3) p').take (cs.length * 4) = rowC (colF (cs.set i c') (upd V i v') (upd P i p')) cs.length := by
      rw [List.take_set, List.take_set, h4, rowC_set (colF_len cs V P) hi (by omega), rowC_set hfl hi (by omega)]
      apply rowC_congr
      intro x hx
      by_cases ex : x = i
      · subst ex
        rw [if_pos rfl, if_pos rfl]
        unfold colF
        rw [nthC_set hi, if_pos rfl, upd_at, upd_at, hk, hcp]
        rfl
      · rw [if_neg ex, if_neg ex]
        unfold colF
        rw [nthC_set hi, if_neg ex, upd_ne _ _ ex, upd_ne _ _ ex]
    refine ⟨by rw [rowC_len (colF_len _ _ _)], Or.inr ⟨g, cap, _, rfl, hb, hg', h1, h2, ?_, ?_⟩⟩
    · simpa using hlen
    · exact e
/-- A collection has become another. -/
theorem StR.did {w w' : World} {B X : Nat} {F : List Nat} {raw : List Int} {cs : List Co} {rv cv : Value} {V P : Nat → Value} (h : StR w B X F raw cs rv cv V P) {i g cap : Nat} (hi : i < cs.length) {L : List Value} {c' : Co} {v' p' : Value} (hcv : cv = .slice (some ⟨g, 0, none⟩) cs.length cap)
    (hg : w.heap[g]? = some (.cells L.toArray 70 (0, 0))) (hc : ColAt w' B g (i * 4) ((L.set (i * 4 + 2) v').set (i * 4 + 3) p') c' v' p') (hcol : w'.ownsRow B 70 4 cv cs.length (rowC (colF (cs.set i c') (upd V i v') (upd P i p')) cs.length))
    (hk : Keep (g :: ((V i).ownBlock.toList ++ (P i).ownBlock.toList)) w w') (hfv : Fr w (V i) v') (hfp : Fr w (P i) p') :
    StR w' B X (F ++ (v'.ownBlock.toList ++ p'.ownBlock.toList)) raw (cs.set i c') rv cv (upd V i v') (upd P i p') ∧ Next F (F ++ (v'.ownBlock.toList ++ p'.ownBlock.toList)) w w' := by
  have hgF : g ∈ F := h.cF g (by rw [hcv]; rfl)
  have hGF : ∀ b ∈ (g :: ((V i).ownBlock.toList ++ (P i).ownBlock.toList)), b ∈ F := fun b hb => by
    simp only [List.mem_cons, List.mem_append, Option.mem_toList] at hb
    rcases hb with h1 | h1 | h1
    · rw [h1]; exact hgF
    · exact h.rows.iv i hi b h1
    · exact h.rows.ip i hi b h1
  have hX : X ∉ (g :: ((V i).ownBlock.toList ++ (P i).ownBlock.toList)) := fun hb => by
    simp only [List.mem_cons, List.mem_append, Option.mem_toList] at hb
    rcases hb with h1 | h1 | h1
    · exact ne_of_type h.hX hg state_types.2.2 h1
    · exact own_ne (h.rows.vs i hi) h.hX state_types.1 h1
    · exact own_ne (h.rows.ps i hi) h.hX state_types.2.1 h1
  have hr : ∀ b, rv.ownBlock = some b → b ∉ (g :: ((V i).ownBlock.toList ++ (P i).ownBlock.toList)) := fun b hb hm => by
    simp only [List.mem_cons, List.mem_append, Option.mem_toList] at hm
    rcases hm with h1 | h1 | h1
    · exact own_ne h.rr hg i64_coll (h1 ▸ hb)
    · exact h.rV i hi b hb h1
    · exact rows_apart h.rr (h.rows.ps i hi) i64_pair b hb h1
  refine ⟨⟨?_, by simp [h.XF], own_keep h.rr hk hr, fun b hb => by simp [h.rF b hb], ?_, by rw [List.length_set]; exact hcol, fun b hb => by simp [h.cF b hb], h.rows.upd hi hg i64_coll pair_coll hk hc.hv hc.hp hfv hfp hc.ok, h.r1, h.r64, h.rs, by rw [List.length_set]; exact h.c8, ?_⟩, hk.mono hGF, ?_⟩
  · rw [hk.block _ (heap_lt h.hX) hX]; exact h.hX
  · intro j hj b hb hb2
    rw [List.length_set] at hj
    by_cases e : j = i
    · subst e
      rw [upd_at] at hb2
      rcases hfv b hb2 with h1 | h1
      · exact h.rV j hj b hb h1
      · have := (own_block h.rr b hb).2
        omega
    · rw [upd_ne _ _ e] at hb2
      exact h.rV j hj b hb hb2
  · intro b hb
    simp only [List.mem_append, Option.mem_toList] at hb
    rcases hb with h1 | h1 | h1
    · exact ⟨(h.lo b h1).1, Nat.lt_of_lt_of_le (h.lo b h1).2 hk.size⟩
    · exact own_block hc.hv b h1
    · exact own_block hc.hp b h1
  · intro b hb
    simp only [List.mem_append, Option.mem_toList] at hb
    rcases hb with h1 | h1 | h1
    · exact Or.inl h1
    · rcases hfv b h1 with h2 | h2
      · exact Or.inl (h.rows.iv i hi b h2)
      · exact Or.inr h2
    · rcases hfp b h1 with h2 | h2
      · exact Or.inl (h.rows.ip i hi b h2)
      · exact Or.inr h2
end Go.Proofs.Ytgbmnngmfcneaaa.Pl
