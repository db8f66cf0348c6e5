/- The document's Print. -/
import Derived.Test.YtbjopdmchmekpaaDoorAsE
import Derived.Test.YtbjopdmchmekpaaDoorAsD
import Derived.Deep.CutBlock
import Derived.Deep.RegionWith
import Derived.Deep.DeepCutAuto
namespace Go.Proofs.YtbjopdmchmekpaaDoor
open Go.ChangeShapes Go.WideShapes Go.ChangeAt Go.RowKit

def wordsC : List Value := wordT.map fun b => Value.string (S b)
set_option maxRecDepth 100000 in
theorem words_any (w : World) : Calls Tryd.prog 51 #[] w fun e w' => ∃ v, e = .returned v ∧ w'.ownsRow w.heap.size 9 1 v 41 wordsC ∧ Below w.heap.size w w' := by
  go_enter Tryd.func51, Tryd.ntmps51
  go_wp2
  go_ret
  exact ⟨_, rfl, ⟨rfl, Or.inr ⟨_, _, _, rfl, Nat.le_refl _, heap_alloc_new _ _, Nat.le_refl _, by decide, rfl, rfl⟩⟩, below_a1 _ _⟩
theorem own_apart {w : World} {b1 b2 : Nat} {e1 e2 : TypeId} {s1 s2 n1 n2 : Nat} {v1 v2 : Value} {x1 x2 : List Value} (h1 : w.ownsRow b1 e1 s1 v1 n1 x1) (h2 : w.ownsRow b2 e2 s2 v2 n2 x2) (ht : e1 ≠ e2) : ∀ b, v1.ownBlock = some b → v2.ownBlock ≠ some b := fun b hb => by
  rcases h1.2 with ⟨e, _⟩ | ⟨g, cap, cur, e, _, hg, _⟩
  · rw [e] at hb; cases hb
  · rw [e] at hb
    obtain rfl : g = b := by simpa [Value.ownBlock] using hb
    exact own_ne h2 hg ht
/-- The document's list of instructions and of places under way. -/
structure DL (w0 : World) (l : List (Int × Int)) (vl : Value) (n : Nat) (vp : Value) (wx : World) : Prop where
  ol : wx.ownsRow w0.heap.size 53 2 vl l.length (opsC l)
  op : wx.ownsRow w0.heap.size 3 1 vp n (plcC l n)
  bel : Below w0.heap.size w0 wx
theorem DL.later {w0 : World} {l : List (Int × Int)} {vl : Value} {n : Nat} {vp : Value} {wx wy : World} (h : DL w0 l vl n vp wx) (hb : Below wx.heap.size wx wy) : DL w0 l vl n vp wy :=
  ⟨own_keep h.ol (Keep.of_below hb []) (by simp), own_keep h.op (Keep.of_below hb []) (by simp), below_then h.bel hb⟩
theorem DL.cells {w0 : World} {l : List (Int × Int)} {vl : Value} {n : Nat} {vp : Value} {wx : World} (h : DL w0 l vl n vp wx) (i : Nat) (hi : i < l.length) {s : ByteArray} (hp : Prg s l) :
    ∃ g cap, vl = .slice (some ⟨g, 0, none⟩) l.length cap ∧ wx.cell? ⟨g, i * 2, none⟩ = some (.int .i64 (cd l i : Int)) ∧ wx.cell? ⟨g, i * 2 + 1, none⟩ = some (.int .i64 (opd l i)) := by
  obtain ⟨g, cap, rfl⟩ := own_at h.ol (by omega)
  obtain ⟨h1, h2⟩ := opsC_get l i hi
  refine ⟨g, cap, rfl, ?_, own_cells h.ol _ _ h2⟩
  rw [own_cells h.ol _ _ h1]
  have := (hp.cd_ok i hi).2.1
  unfold ops at this
  rw [this]
theorem info_intD : (Tryd.prog.info? 3).map (fun i => (i.zero, i.size, i.bytes)) = some (some (.int .i64 0), 1, 8) := by kernel_rfl
theorem DL.grow {w0 : World} {l : List (Int × Int)} {vl : Value} {n : Nat} {vp v' : Value} {wx wy : World} (h : DL w0 l vl n vp wx) (h1 : wy.ownsRow w0.heap.size 3 1 v' (n + 1) (plcC l n ++ [.int .i64 (pos l n : Int)])) (h2 : wx.grownBy wy vp.ownBlock) : DL w0 l vl (n + 1) v' wy :=
  ⟨h.ol.kept h2 (by
      cases e : vl.ownBlock with
      | none => exact Or.inl rfl
      | some b => exact Or.inr fun e2 => own_apart h.ol h.op (by decide) b e (by rw [← e2])),
    by rw [plcC_succ]; exact h1, h.bel.grown h2 h.bel.size (fun b hb => (own_block h.op b hb).1)⟩
def mkC (f : Nat → Bool) (n : Nat) : List Value := (List.range n).map fun j => .bool (f j)
theorem mkC_len (f : Nat → Bool) (n : Nat) : (mkC f n).length = n := by simp [mkC]
theorem mkC_get (f : Nat → Bool) (n j : Nat) (h : j < n) : (mkC f n)[j]? = some (.bool (f j)) := by simp [mkC, h]
theorem mkC_set (f : Nat → Bool) (n k : Nat) (h : k < n) : (mkC f n).set k (.bool true) = mkC (fun j => if j = k then true else f j) n := by
  apply List.ext_getElem?
  intro j
  rw [List.getElem?_set]
  by_cases hj : j < n
  · by_cases e : k = j
    · subst e; simp [mkC, h]
    · simp [mkC, hj, e, show ¬ j = k from fun x => e x.symm]
  · rw [if_neg (by omega)]
    simp [mkC, hj]
theorem mkC_congr {f g : Nat → Bool} {n : Nat} (h : ∀ j, j < n → f j = g j) : mkC f n = mkC g n := by
  unfold mkC
  apply List.map_congr_left
  intro j hj
  rw [h j (by simpa using hj)]
theorem info_boolD : (Tryd.prog.info? 4).map (fun i => (i.zero, i.size, i.bytes)) = some (some (.bool false), 1, 1) := by kernel_rfl
/-- And what is marked. -/
structure DM (w0 : World) (l : List (Int × Int)) (vl vp vm : Value) (f : Nat → Bool) (n : Nat) (wx : World) : Prop where
  dl : DL w0 l vl l.length vp wx
  om : wx.ownsRow w0.heap.size 4 1 vm n (mkC f n)
theorem DM.later {w0 : World} {l : List (Int × Int)} {vl vp vm : Value} {f : Nat → Bool} {n : Nat} {wx wy : World} (h : DM w0 l vl vp vm f n wx) (hb : Below wx.heap.size wx wy) : DM w0 l vl vp vm f n wy :=
  ⟨h.dl.later hb, own_keep h.om (Keep.of_below hb []) (by simp)⟩
theorem own_stored {w : World} {base g n cap s : Nat} {e : TypeId} {xs : List Value} (h : w.ownsRow base e s (.slice (some ⟨g, 0, none⟩) n cap) n xs) (o : Nat) (v : Value) : (w.setCell ⟨g, o, none⟩ v).ownsRow base e s (.slice (some ⟨g, 0, none⟩) n cap) n (xs.set o v) := by
  refine ⟨by rw [List.length_set]; exact h.1, ?_⟩
  rcases h.2 with ⟨e, _⟩ | ⟨g', cap', cur, e, hb, hg, h1, h2, h3, h4⟩
  · cases e
  · simp at e
    obtain ⟨rfl, rfl⟩ := e
    refine Or.inr ⟨g, cap, cur.setIfInBounds o v, rfl, hb, heap_set hg o v, h1, h2, by simpa using h3, ?_⟩
    rw [← h4, Array.toList_setIfInBounds, List.take_set]
theorem DM.store {w0 : World} {l : List (Int × Int)} {vl vp : Value} {gm cap : Nat} {f : Nat → Bool} {n : Nat} {wx : World} (h : DM w0 l vl vp (.slice (some ⟨gm, 0, none⟩) n cap) f n wx) (k : Nat) (hk : k < n) :
    DM w0 l vl vp (.slice (some ⟨gm, 0, none⟩) n cap) (fun j => if j = k then true else f j) n (wx.setCell ⟨gm, k, none⟩ (.bool true)) := by
  have hK : Keep [gm] wx (wx.setCell ⟨gm, k, none⟩ (.bool true)) := (Keep.refl _ _).setCell _ _ (Or.inl (by simp))
  have hne : ∀ {e : TypeId} {sz m : Nat} {v : Value} {xs : List Value}, wx.ownsRow w0.heap.size e sz v m xs → e ≠ 4 → ∀ b, v.ownBlock = some b → b ∉ [gm] := fun ho ht b hb hm => by
    have hbm : b = gm := by simpa using hm
    rw [hbm] at hb
    exact own_apart ho h.om ht gm hb rfl
  refine ⟨⟨own_keep h.dl.ol hK (hne h.dl.ol (by decide)), own_keep h.dl.op hK (hne h.dl.op (by decide)), h.dl.bel.setCell (p := ⟨gm, k, none⟩) (own_block h.om gm rfl).1 _⟩, ?_⟩
  rw [← mkC_set _ _ _ hk]
  exact own_stored h.om k _