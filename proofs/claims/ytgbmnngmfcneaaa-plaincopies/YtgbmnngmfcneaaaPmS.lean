/- The document's state as it lies. -/
import Derived.Test.YtgbmnngmfcneaaaPmD
import Derived.Test.YtgbmnngmfcneaaaPlS
import Derived.Test.YtgbmnngmfcneaaaPcM
namespace Go.Proofs.Ytgbmnngmfcneaaa.Pl
open Go.ChangeShapes Go.WideShapes Go.ChangeAt Go.RowKit

def shpF (cs : List Co) (V P : Nat → Value) (i : Nat) : List Value := [.int .i64 (nthC cs i).kd, V i, P i]
def kcOf (c : Co) : Pc.Rg := (c.kd, c.cap)
def dtC (C : Pc.Cf) (vr rv cv : Value) : Array Value := #[.int .i64 C.raw, .int .i64 C.ring, .int .i64 C.wrs, .int .i64 C.st, .bool C.multi, .int .i64 C.tries, vr, rv, cv]
structure DtR (w : World) (B X : Nat) (F Z : List Nat) (raw : List Int) (cs : List Co) (C : Pc.Cf) (vr rv cv : Value) (V P : Nat → Value) : Prop where
  hX : w.heap[X]? = some (.cells (dtC C vr rv cv) 73 (0, 0))
  XF : X ∈ F
  rr : w.ownsRow B 2 1 rv raw.length (numC raw)
  rF : ∀ b, rv.ownBlock = some b → b ∈ F
  rV : ∀ i, i < cs.length → ∀ b, rv.ownBlock = some b → (V i).ownBlock ≠ some b
  cr : w.ownsRow B 50 3 cv cs.length (rowC (shpF cs V P) cs.length)
  cF : ∀ b, cv.ownBlock = some b → b ∈ F
  rows : Rows w B F cs V P
  r1 : 1 ≤ raw.length
  r64 : raw.length ≤ 64
  rs : ∀ x ∈ raw, Sx x
  c8 : cs.length ≤ 8
  lo : ∀ b ∈ F, B ≤ b ∧ b < w.heap.size
  rg : Pc.Rl w vr C.R
  rz : ∀ a n c, vr = .slice (some a) n c → a.block ∈ Z
  zF : ∀ b ∈ Z, b ∉ F
  zl : ∀ b ∈ Z, B ≤ b ∧ b < w.heap.size
  kc : C.R.take cs.length = cs.map kcOf
  kl : cs.length ≤ C.R.length
/-- The document's state, all of its regions laid. -/
def DtAt (w : World) (B X : Nat) (F Z : List Nat) (raw : List Int) (cs : List Co) : Prop := ∃ C vr rv cv V P, DtR w B X F Z raw cs C vr rv cv V P ∧ C.R.length = cs.length
theorem rl_keep {w w' : World} {G : List Nat} {v : Value} {R : List Pc.Rg} (h : Pc.Rl w v R) (hk : Keep G w w') (hG : ∀ a n c, v = .slice (some a) n c → a.block ∉ G) : Pc.Rl w' v R := by
  obtain ⟨a, cap, rfl, h1, h2, h3, h4⟩ := h
  refine ⟨a, cap, rfl, h1, h2, h3, ?_⟩
  rcases h4 with h4 | ⟨x, rfl, hx, hc⟩
  · exact Or.inl h4
  · have hb := hk.block _ hx (hG x _ _ rfl)
    refine Or.inr ⟨x, rfl, Nat.lt_of_lt_of_le hx hk.size, fun i hi => ?_⟩
    obtain ⟨c1, c2⟩ := hc i hi
    refine ⟨(World.cell?_of_block (by rw [add_block]; exact hb)).trans c1, (World.cell?_of_block (by rw [add_block]; exact hb)).trans c2⟩
theorem DtR.keep {w w' : World} {B X : Nat} {F Z G : List Nat} {raw : List Int} {cs : List Co} {C : Pc.Cf} {vr rv cv : Value} {V P : Nat → Value} (h : DtR w B X F Z raw cs C vr rv cv V P) (hk : Keep G w w') (hd : ∀ b ∈ F, b ∉ G) (hz : ∀ b ∈ Z, b ∉ G) : DtR w' B X F Z raw cs C vr rv cv V P :=
  ⟨by rw [hk.block _ (h.lo X h.XF).2 (hd X h.XF)]; exact h.hX, h.XF, own_keep h.rr hk (fun b hb => hd b (h.rF b hb)), h.rF, h.rV, own_keep h.cr hk (fun b hb => hd b (h.cF b hb)), h.cF, h.rows.keep hk hd, h.r1, h.r64, h.rs, h.c8, fun b hb => ⟨(h.lo b hb).1, Nat.lt_of_lt_of_le (h.lo b hb).2 hk.size⟩,
    rl_keep h.rg hk (fun a n c e => hz _ (h.rz a n c e)), h.rz, h.zF, fun b hb => ⟨(h.zl b hb).1, Nat.lt_of_lt_of_le (h.zl b hb).2 hk.size⟩, h.kc, h.kl⟩
theorem DtAt.keep {w w' : World} {B X : Nat} {F Z G : List Nat} {raw : List Int} {cs : List Co} (h : DtAt w B X F Z raw cs) (hk : Keep G w w') (hd : ∀ b ∈ F, b ∉ G) (hz : ∀ b ∈ Z, b ∉ G) : DtAt w' B X F Z raw cs := by
  obtain ⟨C, vr, rv, cv, V, P, h, hl⟩ := h
  exact ⟨C, vr, rv, cv, V, P, h.keep hk hd hz, hl⟩
theorem DtAt.later {w w' : World} {B X : Nat} {F Z : List Nat} {raw : List Int} {cs : List Co} (h : DtAt w B X F Z raw cs) (hb : Below w.heap.size w w') : DtAt w' B X F Z raw cs :=
  h.keep (G := []) (Keep.of_below hb []) (by simp) (by simp)
theorem dstate_types : (73 : TypeId) ≠ 2 ∧ (73 : TypeId) ≠ 52 ∧ (73 : TypeId) ≠ 50 := by decide
theorem shpF_len (cs : List Co) (V P : Nat → Value) (i : Nat) : (shpF cs V P i).length = 3 := rfl
theorem DtR.cells {w : World} {B X : Nat} {F Z : List Nat} {raw : List Int} {cs : List Co} {C : Pc.Cf} {vr rv cv : Value} {V P : Nat → Value} (h : DtR w B X F Z raw cs C vr rv cv V P) : w.cell? ⟨X, 6, none⟩ = some vr ∧ w.cell? ⟨X, 7, none⟩ = some rv ∧ w.cell? ⟨X, 8, none⟩ = some cv :=
  ⟨(cell_at h.hX 6).trans rfl, (cell_at h.hX 7).trans rfl, (cell_at h.hX 8).trans rfl⟩
/-- A state's collection. -/
theorem DtR.col {w : World} {B X : Nat} {F Z : List Nat} {raw : List Int} {cs : List Co} {C : Pc.Cf} {vr rv cv : Value} {V P : Nat → Value} (h : DtR w B X F Z raw cs C vr rv cv V P) {i : Nat} (hi : i < cs.length) :
    ∃ g cap L, cv = .slice (some ⟨g, 0, none⟩) cs.length cap ∧ ShAt w B g (i * 3) L (nthC cs i) (V i) (P i) ∧ ∀ (w' : World) (c' : Co) (v' p' : Value), c'.kd = (nthC cs i).kd → w'.heap[g]? = some (.cells ((L.set (i * 3 + 1) v').set (i * 3 + 2) p').toArray 50 (0, 0)) → w'.ownsRow B 50 3 cv cs.length (rowC (shpF (cs.set i c') (upd V i v') (upd P i p')) cs.length) := by
  have hcr := h.cr
  rcases hcr.2 with ⟨_, h0⟩ | ⟨g, cap, cur, rfl, hb, hg, h1, h2, h3, h4⟩
  · omega
  · have hlen : cur.toList.length = cap * 3 := by simpa using h3
    have hci : ∀ j, j < 3 → cur.toList[i * 3 + j]? = (shpF cs V P i)[j]? := fun j hj => by
      rw [← rowC_get (shpF_len cs V P) hi hj, ← h4, List.getElem?_take, if_pos (by omega)]
    refine ⟨g, cap, cur.toList, rfl, ⟨by simpa using hg, hb, (hci 0 (by omega)).trans rfl, (hci 1 (by omega)).trans rfl, (hci 2 (by omega)).trans rfl, h.rows.vs i hi, h.rows.ps i hi, h.rows.ok i hi⟩, ?_⟩
    intro w' c' v' p' hk hg'
    have hfl : ∀ x, (if x = i then (shpF cs V P i).set 1 v' else shpF cs V P x).length = 3 := fun x => by split <;> rfl
    have e : ((cur.toList.set (i * 3 + 1) v').set (i * 3 + 2) p').take (cs.length * 3) = rowC (shpF (cs.set i c') (upd V i v') (upd P i p')) cs.length := by
      rw [List.take_set, List.take_set, h4, rowC_set (shpF_len cs V P) hi (by omega), rowC_set hfl hi (by omega)]
      apply rowC_congr
      intro x hx
      by_cases ex : x = i
      · subst ex
        rw [if_pos rfl, if_pos rfl]
        unfold shpF
        rw [nthC_set hi, if_pos rfl, upd_at, upd_at, hk]
        rfl
      · rw [if_neg ex, if_neg ex]
        unfold shpF
        rw [nthC_set hi, if_neg ex, upd_ne _ _ ex, upd_ne _ _ ex]
    refine ⟨by rw [rowC_len (shpF_len _ _ _)], Or.inr ⟨g, cap, _, rfl, hb, hg', h1, h2, ?_, ?_⟩⟩
    · simpa using hlen
    · exact e
theorem kc_set {cs : List Co} {i : Nat} {c' : Co} (hi : i < cs.length) (h1 : c'.kd = (nthC cs i).kd) (h2 : c'.cap = (nthC cs i).cap) : (cs.set i c').map kcOf = cs.map kcOf := by
  rw [List.map_set]
  apply List.ext_getElem?
  intro j
  rw [List.getElem?_set]
  split
  · rename_i e
    subst e
    have := at_nthC hi
    simp [hi, kcOf, h1, h2, nthC]
  · rfl
/-- A collection has become another. -/
theorem DtR.did {w w' : World} {B X : Nat} {F Z : List Nat} {raw : List Int} {cs : List Co} {C : Pc.Cf} {vr rv cv : Value} {V P : Nat → Value} (h : DtR w B X F Z raw cs C vr rv cv V P) {i g cap : Nat} (hi : i < cs.length) {L : List Value} {c' : Co} {v' p' : Value} (hcv : cv = .slice (some ⟨g, 0, none⟩) cs.length cap)
    (hg : w.heap[g]? = some (.cells L.toArray 50 (0, 0))) (hc : ShAt w' B g (i * 3) ((L.set (i * 3 + 1) v').set (i * 3 + 2) p') c' v' p') (hcol : w'.ownsRow B 50 3 cv cs.length (rowC (shpF (cs.set i c') (upd V i v') (upd P i p')) cs.length))
    (hk : Keep (g :: ((V i).ownBlock.toList ++ (P i).ownBlock.toList)) w w') (hfv : Fr w (V i) v') (hfp : Fr w (P i) p') (hk1 : c'.kd = (nthC cs i).kd) (hk2 : c'.cap = (nthC cs i).cap) :
    DtR w' B X (F ++ (v'.ownBlock.toList ++ p'.ownBlock.toList)) Z raw (cs.set i c') C vr rv cv (upd V i v') (upd P i p') ∧ Next F (F ++ (v'.ownBlock.toList ++ p'.ownBlock.toList)) w w' := by
  have hgF : g ∈ F := h.cF g (by rw [hcv]; rfl)
  have hGF : ∀ b ∈ (g :: ((V i).ownBlock.toList ++ (P i).ownBlock.toList)), b ∈ F := fun b hb => by
    simp only [List.mem_cons, List.mem_append, Option.mem_toList] at hb
    rcases hb with h1 | h1 | h1
    · rw [h1]; exact hgF
    · exact h.rows.iv i hi b h1
    · exact h.rows.ip i hi b h1
  have hX : X ∉ (g :: ((V i).ownBlock.toList ++ (P i).ownBlock.toList)) := fun hb => by
    simp only [List.mem_cons, List.mem_append, Option.mem_toList] at hb
    rcases hb with h1 | h1 | h1
    · exact ne_of_type h.hX hg dstate_types.2.2 h1
    · exact own_ne (h.rows.vs i hi) h.hX dstate_types.1 h1
    · exact own_ne (h.rows.ps i hi) h.hX dstate_types.2.1 h1
  have hr : ∀ b, rv.ownBlock = some b → b ∉ (g :: ((V i).ownBlock.toList ++ (P i).ownBlock.toList)) := fun b hb hm => by
    simp only [List.mem_cons, List.mem_append, Option.mem_toList] at hm
    rcases hm with h1 | h1 | h1
    · exact own_ne h.rr hg i64_shp (h1 ▸ hb)
    · exact h.rV i hi b hb h1
    · exact rows_apart h.rr (h.rows.ps i hi) i64_pair b hb h1
  have hF' : ∀ b ∈ F ++ (v'.ownBlock.toList ++ p'.ownBlock.toList), b ∈ F ∨ w.heap.size ≤ b := fun b hb => by
    simp only [List.mem_append, Option.mem_toList] at hb
    rcases hb with h1 | h1 | h1
    · exact Or.inl h1
    · rcases hfv b h1 with h2 | h2
      · exact Or.inl (h.rows.iv i hi b h2)
      · exact Or.inr h2
    · rcases hfp b h1 with h2 | h2
      · exact Or.inl (h.rows.ip i hi b h2)
      · exact Or.inr h2
  refine ⟨⟨?_, by simp [h.XF], own_keep h.rr hk hr, fun b hb => by simp [h.rF b hb], ?_, by rw [List.length_set]; exact hcol, fun b hb => by simp [h.cF b hb], h.rows.upd hi hg i64_shp pair_shp hk hc.hv hc.hp hfv hfp hc.ok, h.r1, h.r64, h.rs, by rw [List.length_set]; exact h.c8, ?_, rl_keep h.rg hk (fun a n c e hm => h.zF _ (h.rz a n c e) (hGF _ hm)), h.rz, ?_, fun b hb => ⟨(h.zl b hb).1, Nat.lt_of_lt_of_le (h.zl b hb).2 hk.size⟩, by rw [List.length_set, kc_set hi hk1 hk2]; exact h.kc, by rw [List.length_set]; exact h.kl⟩, hk.mono hGF, hF'⟩
  · rw [hk.block _ (heap_lt h.hX) hX]; exact h.hX
  · intro j hj b hb hb2
    rw [List.length_set] at hj
    by_cases e : j = i
    · subst e
      rw [upd_at] at hb2
      rcases hfv b hb2 with h1 | h1
      · exact h.rV j hj b hb h1
      · have := (own_block h.rr b hb).2
        omega
    · rw [upd_ne _ _ e] at hb2
      exact h.rV j hj b hb hb2
  · intro b hb
    simp only [List.mem_append, Option.mem_toList] at hb
    rcases hb with h1 | h1 | h1
    · exact ⟨(h.lo b h1).1, Nat.lt_of_lt_of_le (h.lo b h1).2 hk.size⟩
    · exact own_block hc.hv b h1
    · exact own_block hc.hp b h1
  · intro b hb hm
    rcases hF' b hm with h1 | h1
    · exact h.zF b hb h1
    · have := (h.zl b hb).2
      omega
theorem DtR.put {w : World} {B X : Nat} {F Z : List Nat} {raw : List Int} {cs : List Co} {C : Pc.Cf} {vr cv : Value} {V P : Nat → Value} {g cap : Nat} (h : DtR w B X F Z raw cs C vr (.slice (some ⟨g, 0, none⟩) raw.length cap) cv V P) (i : Nat) (z : Int) (hz : Sx z) :
    DtR (w.setCell ⟨g, i, none⟩ (.int .i64 z)) B X F Z (raw.set i z) cs C vr (.slice (some ⟨g, 0, none⟩) raw.length cap) cv V P ∧ Keep F w (w.setCell ⟨g, i, none⟩ (.int .i64 z)) := by
  have hgF : g ∈ F := h.rF g rfl
  have hk : Keep [g] w (w.setCell ⟨g, i, none⟩ (.int .i64 z)) := Keep.setCell (Keep.refl _ _) _ _ (Or.inl (by simp))
  have hrow := own_set2 h.rr i (.int .i64 z)
  rw [numC_set] at hrow
  refine ⟨⟨?_, h.XF, by rw [List.length_set]; exact hrow, h.rF, h.rV, own_keep h.cr hk (fun b hb e => ?_), h.cF, ⟨fun j hj => own_keep (h.rows.vs j hj) hk (fun b hb e => ?_), fun j hj => own_keep (h.rows.ps j hj) hk (fun b hb e => ?_), h.rows.iv, h.rows.ip, h.rows.vv, h.rows.pp, h.rows.ok⟩, by rw [List.length_set]; exact h.r1, by rw [List.length_set]; exact h.r64, fun x hx => ?_, h.c8, fun b hb => ⟨(h.lo b hb).1, Nat.lt_of_lt_of_le (h.lo b hb).2 hk.size⟩, rl_keep h.rg hk (fun a n c e hm => h.zF _ (h.rz a n c e) (by simp at hm; rw [hm]; exact hgF)), h.rz, h.zF, fun b hb => ⟨(h.zl b hb).1, Nat.lt_of_lt_of_le (h.zl b hb).2 hk.size⟩, h.kc, h.kl⟩, hk.mono (fun b hb => by simp at hb; rw [hb]; exact hgF)⟩
  · rw [hk.block _ (heap_lt h.hX) (fun e => by
      simp at e
      exact own_ne h.rr h.hX dstate_types.1 (by rw [e]; rfl))]
    exact h.hX
  · simp at e
    subst e
    exact rows_apart h.rr h.cr (fun e => i64_shp e.symm) b rfl hb
  · simp at e
    subst e
    exact h.rV j hj b rfl hb
  · simp at e
    subst e
    exact rows_apart h.rr (h.rows.ps j hj) i64_pair b rfl hb
  · rcases List.mem_or_eq_of_mem_set hx with h1 | h1
    · exact h.rs x h1
    · rw [h1]; exact hz
theorem DtR.drewN {w : World} {B X : Nat} {F Z : List Nat} {raw : List Int} {cs : List Co} {C : Pc.Cf} {vr rv cv : Value} {V P : Nat → Value} (h : DtR w B X F Z raw cs C vr rv cv V P) (n : Nat) : DtR (w.drewN n) B X F Z raw cs C vr rv cv V P := h.keep (G := []) (Keep.drewN (Keep.refl _ _) n) (by simp) (by simp)
end Go.Proofs.Ytgbmnngmfcneaaa.Pl
