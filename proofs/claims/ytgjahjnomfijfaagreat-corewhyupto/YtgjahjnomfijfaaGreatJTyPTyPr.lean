/- An event as one row; a game whose lists grow. -/
import Derived.Test.YtgjahjnomfijfaaGreatJTyVTyX
import Derived.Deep.MidRow
namespace Go.Proofs.YtgjahjnomfijfaaGreat
open Go.ChangeShapes Go.WideShapes Go.ChangeAt Go.RowKit
set_option linter.unusedVariables false
theorem info_wrs2 : (Tryz.prog.info? 47).map (fun i => (i.zero, i.size, i.bytes)) = some (some (.slice none 0 0), 1, 24) := by kernel_rfl
theorem info_sig2 : (Tryz.prog.info? 51).map (fun i => (i.zero, i.size, i.bytes)) = some (some (.agg #[.int .u64 0, .int .u64 0, .int .u64 0, .int .u64 0, .int .u64 0, .int .u64 0, .int .u64 0, .int .u64 0]), 8, 64) := by kernel_rfl
theorem ev_at {ea : Array Value} {e : Ev} (h : ea.toList = evC e) (i : Nat) : ea[i]? = (evC e)[i]? := by rw [← h]; simp
theorem ev_one {ea : Array Value} {e : Ev} (h : ea.toList = evC e) : ea.all (·.oneCell') = true := by
 rw [← Array.all_toList, h]
 simp [evC, swV, Value.oneCell']
theorem ev_row {w : World} {base gg cap : Nat} {l : List Ev} (h : w.ownsRow base 58 19 (.slice (some ⟨gg, 0, none⟩) l.length cap) l.length (evsC l)) {i : Nat} (hi : i < l.length) {e : Ev} (he : l[i] = e) : ∃ ea : Array Value, Hid (ea.toList = evC e) ∧ Hid (w.rangeAt gg (i * 19) ea.toList) ∧ Hid ((Tryz.prog.info? 58).map (·.size) = some ea.toList.length) ∧ ea.size = 19 := by
 have hl : (evC e).length = 19 := rfl
 refine ⟨(evC e).toArray, by simp [Hid], fun j v hv => ?_, ?_, by simp [hl]⟩
 ·have hv' : (evC e)[j]? = some v := by simpa using hv
  have hj : j < 19 := by have := (List.getElem?_eq_some_iff.1 hv').1; omega
  rw [ev_cell h hi hj, he]
  exact hv'
 ·have hz : (Tryz.prog.info? 58).map (·.size) = some 19 := by kernel_rfl
  rw [Hid, hz]
  simp [hl]
theorem new_ev {P : Program} {w : World} {cs : Array Value} (hc : cs.size = 19) (h1 : cs.all (·.oneCell') = true) : ∃ w', (storeCells ⟨w.heap.size, 0, none⟩ cs.toList 0).run P (w.alloc (.cells #[.int .i64 0, .int .i64 0, .int .i64 0, .int .i64 0, .int .i64 0, .int .i64 0, .bool false, .int .i64 0, .int .i64 0, .int .i64 0, .int .u64 0, .int .u64 0, .int .u64 0, .int .u64 0, .int .u64 0, .int .u64 0, .int .u64 0, .int .u64 0, .int .i64 0] 58)) = .ok () w' ∧ Hid (w'.heap[w.heap.size]? = some (.cells cs 58 (0, 0))) ∧ Hid (Below w.heap.size w w') ∧ w'.heap.size = w.heap.size + 1 := by
 have := run_storeCells_from (P := P) w.heap.size 58 cs.toList 0 #[.int .i64 0, .int .i64 0, .int .i64 0, .int .i64 0, .int .i64 0, .int .i64 0, .bool false, .int .i64 0, .int .i64 0, .int .i64 0, .int .u64 0, .int .u64 0, .int .u64 0, .int .u64 0, .int .u64 0, .int .u64 0, .int .u64 0, .int .u64 0, .int .i64 0] (w.alloc (.cells #[.int .i64 0, .int .i64 0, .int .i64 0, .int .i64 0, .int .i64 0, .int .i64 0, .bool false, .int .i64 0, .int .i64 0, .int .i64 0, .int .u64 0, .int .u64 0, .int .u64 0, .int .u64 0, .int .u64 0, .int .u64 0, .int .u64 0, .int .u64 0, .int .i64 0] 58)) (heap_alloc_new _ _) (by simp [hc]) (fun v hv => (Array.all_eq_true_iff_forall_mem.1 h1) v (by simpa using hv))
 refine ⟨_, by simpa using this, ?_, ?_, ?_⟩
 ·exact setRow_heap _ _ _ _ _ _ (heap_alloc_new w _)
 ·first | exact below_row (below_a1 _ _) _ (Nat.le_refl _) _ | exact Tl.below_row (below_a1 _ _) _ (Nat.le_refl _) _
 ·rw [setRow_size]; simp
theorem own_bt {w : World} {base n s : Nat} {e : TypeId} {v : Value} {xs : List Value} {b : Nat} (h : w.ownsRow base e s v n xs) (hb : v.ownBlock = some b) : ∃ cur, w.heap[b]? = some (.cells cur e (0, 0)) := by
 rcases h.2 with ⟨rfl, _⟩ | ⟨g, cap, cur, rfl, _, hg, _⟩
 ·simp [Value.ownBlock] at hb
 ·simp [Value.ownBlock] at hb
  subst hb
  exact ⟨cur, hg⟩
theorem ev_sig8 {w : World} {P : Nat} {ea : Array Value} {e : Ev} (h : w.heap[P]? = some (.cells ea 58 (0, 0))) (he : ea.toList = evC e) : ∃ n0 n1 n2 n3 n4 n5 n6 n7 : Nat, Hid ([.int .u64 ((n0 : Nat) : Int), .int .u64 ((n1 : Nat) : Int), .int .u64 ((n2 : Nat) : Int), .int .u64 ((n3 : Nat) : Int), .int .u64 ((n4 : Nat) : Int), .int .u64 ((n5 : Nat) : Int), .int .u64 ((n6 : Nat) : Int), .int .u64 ((n7 : Nat) : Int)] = sg8 e.sig) ∧
  w.cell? ⟨P, 10, none⟩ = some (.int .u64 ((n0 : Nat) : Int)) ∧ w.cell? ⟨P, 11, none⟩ = some (.int .u64 ((n1 : Nat) : Int)) ∧ w.cell? ⟨P, 12, none⟩ = some (.int .u64 ((n2 : Nat) : Int)) ∧ w.cell? ⟨P, 13, none⟩ = some (.int .u64 ((n3 : Nat) : Int)) ∧ w.cell? ⟨P, 14, none⟩ = some (.int .u64 ((n4 : Nat) : Int)) ∧ w.cell? ⟨P, 15, none⟩ = some (.int .u64 ((n5 : Nat) : Int)) ∧ w.cell? ⟨P, 16, none⟩ = some (.int .u64 ((n6 : Nat) : Int)) ∧ w.cell? ⟨P, 17, none⟩ = some (.int .u64 ((n7 : Nat) : Int)) :=
 ⟨_, _, _, _, _, _, _, _, rfl, by rw [cell_at h, ev_at he]; rfl, by rw [cell_at h, ev_at he]; rfl, by rw [cell_at h, ev_at he]; rfl, by rw [cell_at h, ev_at he]; rfl, by rw [cell_at h, ev_at he]; rfl, by rw [cell_at h, ev_at he]; rfl, by rw [cell_at h, ev_at he]; rfl, by rw [cell_at h, ev_at he]; rfl⟩
theorem gm_keepB {z z1 : World} {base B n : Nat} {e : TypeId} {sz : Nat} {p tv sv wv rv v : Value} {xs : List Value} (gm : z.heap[B]? = some (gmO p tv sv wv rv)) (ho : z.ownsRow base e sz v n xs) (he : 44 ≠ e) (k0 : Keep v.ownBlock.toList z z1) : z1.heap[B]? = some (gmO p tv sv wv rv) :=
 keep_row k0 gm (fun hm => own_ne ho (by unfold gmO at gm; exact gm) he (by simpa using hm))
theorem add_w {w z X z1 : World} {base s m : Nat} {N : Int} {p : Value} {Tp : Nat → Nat} {B Xb cap : Nat} {cur : Array Value} {sv wv rv : Value} {q : Nat} {L : List Ac} {g : Rg} {T : Nat → Tx} {R : Nat → List (Int × Int)} {A : List Nat} {S : List (List Nat)} {ws : List Value} {n g1 c1 : Nat} {u : Value} (mi : MI w z base s m N p Tp B Xb cap cur sv wv rv q L g T R A) (sw : SW z base sv wv A S ws n) (hB : w.heap.size ≤ B) (kX : Keep [] z X)
  (hown : z1.ownsRow base 47 1 (.slice (some ⟨g1, 0, none⟩) (n + 1) c1) (n + 1) (ws ++ [u])) (hgrow : X.grownBy z1 wv.ownBlock) (hat : wv.ownBlock = some g1 ∨ z.heap.size ≤ g1) :
  MI w (z1.setCell ⟨B, 3, none⟩ (.slice (some ⟨g1, 0, none⟩) (n + 1) c1)) base s m N p Tp B Xb cap cur sv (.slice (some ⟨g1, 0, none⟩) (n + 1) c1) rv q L g T R A ∧ (z1.setCell ⟨B, 3, none⟩ (.slice (some ⟨g1, 0, none⟩) (n + 1) c1)).ownsRow base 51 8 sv n (sgsC S) ∧ (z1.setCell ⟨B, 3, none⟩ (.slice (some ⟨g1, 0, none⟩) (n + 1) c1)).ownsRow base 47 1 (.slice (some ⟨g1, 0, none⟩) (n + 1) c1) (n + 1) (ws ++ [u]) ∧ g1 ∉ A ∧ Keep (B :: wv.ownBlock.toList) z (z1.setCell ⟨B, 3, none⟩ (.slice (some ⟨g1, 0, none⟩) (n + 1) c1)) ∧ z1.heap[B]? = some (gmO p (.slice (some ⟨Xb, 0, none⟩) 4 cap) sv wv rv) := by
 have k0 : Keep wv.ownBlock.toList z z1 := (kX.mono (fun b hb => by simp at hb)).grown hgrow (fun b hb => Or.inl (by rw [hb]; simp))
 have gm := mi.gb.gm
 have hm1 := gm_keepB gm sw.ww (by decide) k0
 have kset : Keep [B] z1 (z1.setCell ⟨B, 3, none⟩ (.slice (some ⟨g1, 0, none⟩) (n + 1) c1)) := (Keep.refl _ _).setCell _ _ (Or.inl (by simp))
 have K : Keep (B :: wv.ownBlock.toList) z (z1.setCell ⟨B, 3, none⟩ (.slice (some ⟨g1, 0, none⟩) (n + 1) c1)) := (k0.mono (fun b hb => by simp at hb ⊢; exact Or.inr hb)).trans kset (fun b hb => by simp at hb; subst hb; exact Or.inl (by simp))
 have hBw : ∀ b, b ∈ wv.ownBlock.toList → wv.ownBlock = some b := fun b hb => by simpa using hb
 have gmw : z.heap[B]? = some (.cells #[p, .slice (some ⟨Xb, 0, none⟩) 4 cap, sv, wv, rv] 44 (0, 0)) := gm
 refine ⟨mi.refield K (fun y hy => ?_) (fun hy => ?_) ?_, own_keep sw.sg K (fun b hb hm => ?_), own_keep hown kset (fun b hb hm => ?_), ?_, K, hm1⟩
 ·rcases List.mem_cons.1 hy with rfl | hy
  ·exact ⟨hB, mi.gb.bA⟩
  ·exact ⟨Nat.le_trans mi.lo (own_block sw.ww _ (hBw _ hy)).1, sw.wA _ (hBw _ hy)⟩
 ·rcases List.mem_cons.1 hy with e | hy
  ·have h2 := mi.gb.tx
   rw [e, gmw] at h2
   unfold txsO at h2
   simp at h2
  ·have h2 := mi.gb.tx
   unfold txsO at h2
   exact own_ne sw.ww h2 (by decide) (hBw _ hy)
 ·unfold gmO at hm1 ⊢
  rw [heap_set hm1]
  rfl
 ·rcases List.mem_cons.1 hm with rfl | hm
  ·exact own_ne sw.sg gmw (by decide) hb
  ·have h1 := hBw _ hm
   obtain ⟨cur1, h2⟩ := own_bt sw.ww h1
   exact own_ne sw.sg h2 (by decide) hb
 ·simp at hm
  subst hm
  unfold gmO at hm1
  exact own_ne hown hm1 (by decide) hb
 ·rcases hat with h1 | h1
  ·exact sw.wA _ h1
  ·exact fun hm => by have := (mi.gb.gg.lt _ hm).2; omega
theorem add_s {w z X z1 : World} {base s m : Nat} {N : Int} {p : Value} {Tp : Nat → Nat} {B Xb cap : Nat} {cur : Array Value} {sv wv rv : Value} {q : Nat} {L : List Ac} {g : Rg} {T : Nat → Tx} {R : Nat → List (Int × Int)} {A : List Nat} {n nw g1 c1 : Nat} {xs us ws : List Value} (mi : MI w z base s m N p Tp B Xb cap cur sv wv rv q L g T R A) (sg : z.ownsRow base 51 8 sv n xs) (sA : ∀ y, sv.ownBlock = some y → y ∉ A) (ww : z.ownsRow base 47 1 wv nw ws) (hB : w.heap.size ≤ B) (kX : Keep [] z X)
  (hown : z1.ownsRow base 51 8 (.slice (some ⟨g1, 0, none⟩) (n + 1) c1) (n + 1) us) (hgrow : X.grownBy z1 sv.ownBlock) (hat : sv.ownBlock = some g1 ∨ z.heap.size ≤ g1) :
  MI w (z1.setCell ⟨B, 2, none⟩ (.slice (some ⟨g1, 0, none⟩) (n + 1) c1)) base s m N p Tp B Xb cap cur (.slice (some ⟨g1, 0, none⟩) (n + 1) c1) wv rv q L g T R A ∧ (z1.setCell ⟨B, 2, none⟩ (.slice (some ⟨g1, 0, none⟩) (n + 1) c1)).ownsRow base 47 1 wv nw ws ∧ (z1.setCell ⟨B, 2, none⟩ (.slice (some ⟨g1, 0, none⟩) (n + 1) c1)).ownsRow base 51 8 (.slice (some ⟨g1, 0, none⟩) (n + 1) c1) (n + 1) us ∧ g1 ∉ A ∧ Keep (B :: sv.ownBlock.toList) z (z1.setCell ⟨B, 2, none⟩ (.slice (some ⟨g1, 0, none⟩) (n + 1) c1)) ∧ z1.heap[B]? = some (gmO p (.slice (some ⟨Xb, 0, none⟩) 4 cap) sv wv rv) := by
 have k0 : Keep sv.ownBlock.toList z z1 := (kX.mono (fun b hb => by simp at hb)).grown hgrow (fun b hb => Or.inl (by rw [hb]; simp))
 have gm := mi.gb.gm
 have hm1 := gm_keepB gm sg (by decide) k0
 have kset : Keep [B] z1 (z1.setCell ⟨B, 2, none⟩ (.slice (some ⟨g1, 0, none⟩) (n + 1) c1)) := (Keep.refl _ _).setCell _ _ (Or.inl (by simp))
 have K : Keep (B :: sv.ownBlock.toList) z (z1.setCell ⟨B, 2, none⟩ (.slice (some ⟨g1, 0, none⟩) (n + 1) c1)) := (k0.mono (fun b hb => by simp at hb ⊢; exact Or.inr hb)).trans kset (fun b hb => by simp at hb; subst hb; exact Or.inl (by simp))
 have hBw : ∀ b, b ∈ sv.ownBlock.toList → sv.ownBlock = some b := fun b hb => by simpa using hb
 have gmw : z.heap[B]? = some (.cells #[p, .slice (some ⟨Xb, 0, none⟩) 4 cap, sv, wv, rv] 44 (0, 0)) := gm
 refine ⟨mi.refield K (fun y hy => ?_) (fun hy => ?_) ?_, own_keep ww K (fun b hb hm => ?_), own_keep hown kset (fun b hb hm => ?_), ?_, K, hm1⟩
 ·rcases List.mem_cons.1 hy with rfl | hy
  ·exact ⟨hB, mi.gb.bA⟩
  ·exact ⟨Nat.le_trans mi.lo (own_block sg _ (hBw _ hy)).1, sA _ (hBw _ hy)⟩
 ·rcases List.mem_cons.1 hy with e | hy
  ·have h2 := mi.gb.tx
   rw [e, gmw] at h2
   unfold txsO at h2
   simp at h2
  ·have h2 := mi.gb.tx
   unfold txsO at h2
   exact own_ne sg h2 (by decide) (hBw _ hy)
 ·unfold gmO at hm1 ⊢
  rw [heap_set hm1]
  rfl
 ·rcases List.mem_cons.1 hm with rfl | hm
  ·exact own_ne ww gmw (by decide) hb
  ·have h1 := hBw _ hm
   obtain ⟨cur1, h2⟩ := own_bt sg h1
   exact own_ne ww h2 (by decide) hb
 ·simp at hm
  subst hm
  unfold gmO at hm1
  exact own_ne hown hm1 (by decide) hb
 ·rcases hat with h1 | h1
  ·exact sA _ h1
  ·exact fun hm => by have := (mi.gb.gg.lt _ hm).2; omega
def PubR (w : World) (base s m : Nat) (N : Int) (p : Value) (Tp : Nat → Nat) (B Xb cap : Nat) (cur : Array Value) (wv rv : Value) (q : Nat) (L : List Ac) (g : Rg) (T : Nat → Tx) (R : Nat → List (Int × Int)) (A : List Nat) (S : List (List Nat)) (ws : List Value) (n D : Nat) (dO : Obj) (b7 : Nat) (tv : Value) (nd : Nat) (xs : List Value) (Pe : Nat) (ea : Array Value) (wx : World) : Prop :=
 ∃ sv, MI w wx base s m N p Tp B Xb cap cur sv wv rv q L g T R A ∧ SW wx base sv wv A S ws n ∧ wx.heap[D]? = some dO ∧ wx.ownsRow b7 58 19 tv nd xs ∧ wx.heap[Pe]? = some (.cells ea 58 (0, 0))
theorem pub_fin {w z X z1 : World} {base s m : Nat} {N : Int} {p : Value} {Tp : Nat → Nat} {B Xb cap : Nat} {cur : Array Value} {sv wv rv : Value} {q : Nat} {L : List Ac} {g : Rg} {T : Nat → Tx} {R : Nat → List (Int × Int)} {A : List Nat} {n g1 c1 : Nat} {S : List (List Nat)} {sg : List Nat} {us ws : List Value} {D b7 nd : Nat} {dO : Obj} {dcs ea : Array Value} {Pe : Nat} {tv : Value} {xs : List Value} (mi : MI w z base s m N p Tp B Xb cap cur sv wv rv q L g T R A) (hsg : z.ownsRow base 51 8 sv n (sgsC S)) (sl : S.length = n) (sA : ∀ y, sv.ownBlock = some y → y ∉ A) (ww : z.ownsRow base 47 1 wv (n + 1) ws) (wA : ∀ y, wv.ownBlock = some y → y ∉ A) (hB : w.heap.size ≤ B)
  (hD : z.heap[D]? = some dO) (hdO : dO = .cells dcs 24 (0, 0)) (hO : z.ownsRow b7 58 19 tv nd xs) (hE : z.heap[Pe]? = some (.cells ea 58 (0, 0))) (hus : us = sg8 sg) (kX : Keep [] z X)
  (hown : z1.ownsRow base 51 8 (.slice (some ⟨g1, 0, none⟩) (n + 1) c1) (n + 1) (sgsC S ++ us)) (hgrow : X.grownBy z1 sv.ownBlock) (hat : sv.ownBlock = some g1 ∨ z.heap.size ≤ g1) :
  PubR w base s m N p Tp B Xb cap cur wv rv q L g T R A (S ++ [sg]) ws (n + 1) D dO b7 tv nd xs Pe ea (z1.setCell ⟨B, 2, none⟩ (.slice (some ⟨g1, 0, none⟩) (n + 1) c1)) := by
 obtain ⟨mi2, ww2, sg2, hgA, K, _⟩ := add_s mi hsg sA ww hB kX hown hgrow hat
 have gmw : z.heap[B]? = some (.cells #[p, .slice (some ⟨Xb, 0, none⟩) 4 cap, sv, wv, rv] 44 (0, 0)) := mi.gb.gm
 have hK : ∀ b, b ∈ B :: sv.ownBlock.toList → b = B ∨ sv.ownBlock = some b := fun b hb => by
  rcases List.mem_cons.1 hb with e | e
  ·exact Or.inl e
  ·exact Or.inr (by simpa using e)
 refine ⟨_, mi2, ⟨?_, by simp [sl], ww2, fun y hy => ?_, wA⟩, keep_row K hD (fun hm => ?_), own_keep hO K (fun b hb hm => ?_), keep_row K hE (fun hm => ?_)⟩
 ·rw [hus, ← sgsC_snoc] at sg2
  exact sg2
 ·simp [Value.ownBlock] at hy
  subst hy
  exact hgA
 ·rw [hdO] at hD
  rcases hK _ hm with e | e
  ·exact ne_of_type hD gmw (by decide) e
  ·exact own_ne hsg hD (by decide) e
 ·rcases hK _ hm with e | e
  ·subst e
   exact own_ne hO gmw (by decide) hb
  ·obtain ⟨cur1, h2⟩ := own_bt hsg e
   exact own_ne hO h2 (by decide) hb
 ·rcases hK _ hm with e | e
  ·exact ne_of_type hE gmw (by decide) e
  ·exact own_ne hsg hE (by decide) e
theorem ad_base {w : World} {b : Nat} (h : b ≤ w.heap.size) (o : Obj) : b ≤ (World.drew (w.alloc o)).heap.size := by
 show b ≤ (w.alloc o).heap.size
 simp
 omega
theorem ad_lt {w : World} {b i : Nat} (h : b < w.heap.size) (o : Obj) : (⟨b, i, none⟩ : Addr).block < (World.drew (w.alloc o)).heap.size := by
 show b < (w.alloc o).heap.size
 simp
 omega
theorem ad_size (w : World) (o : Obj) : (World.drew (w.alloc o)).heap.size = w.heap.size + 1 := by
 show (w.alloc o).heap.size = _
 simp
theorem ad_cell {w : World} {b i : Nat} {v : Value} (h : b < w.heap.size) (hc : w.cell? ⟨b, i, none⟩ = some v) (o : Obj) : (World.drew (w.alloc o)).cell? ⟨b, i, none⟩ = some v := by
 show (w.alloc o).cell? ⟨b, i, none⟩ = some v
 simp [h, World.cell?_alloc_past, hc]
theorem ad_frozen {w : World} {b i : Nat} (h : b < w.heap.size) (hc : w.frozen? ⟨b, i, none⟩ = false) (o : Obj) : (World.drew (w.alloc o)).frozen? ⟨b, i, none⟩ = false := by
 show (w.alloc o).frozen? ⟨b, i, none⟩ = false
 rw [World.frozen?_alloc_past _ _ _ h]
 exact hc
theorem nn_len {n : Nat} (h : n ≤ 1099511627776) : n + 1 ≤ maxLen := by unfold maxLen; omega
theorem nn_64 {n : Nat} (h : n ≤ 1099511627776) : ((n + 1) + (n + 1) / 4 + 192) * 64 ≤ 281474976710656 := by omega
theorem at_or {v : Value} {g n : Nat} (h : v.ownBlock = some g ∨ g = n + 1) : v.ownBlock = some g ∨ n ≤ g := by
 rcases h with h | h
 ·exact Or.inl h
 ·exact Or.inr (by omega)
theorem step_lies_any {P : Program} (w : World) {ops : Array Oper} {tm : Array Value} {o : Oper} {a : Act} {K : Act → World → Prop} {Q : Exit → Act → World → Prop} {E : Prop} (hgd : o.guard = none) (s x : Operand) (t : TypeId)
  (ho : o.op = .call { callee := .builtin .append, args := #[s, x], argTypes := #[t, t] })
  (base : Nat) (e : TypeId) (i : TypeInfo) (z : Value) (size bytes : Nat) (ht : P.underlying t = some (.slice e)) (hi : P.info? e = some i) (hz : i.zero = some z)
  (hsize : i.size = size) (hby : i.bytes = bytes) (hzs : z.cells.size = size) (hsz : 0 < size)
  (v : Value) (n : Nat) (xs : List Value) (hs : a.eval s = v) (hown : w.ownsRow base e size v n xs)
  (ad : Addr) (m c : Nat) (news : List Value) (hx : a.eval x = .slice (some ad) m c) (hl : news.length = m * size) (hnews : ∀ j u, news[j]? = some u → w.cell? (ad.add j) = some u) (h1 : ∀ u ∈ news, u.oneCell' = true)
  (hm : 0 < m) (h63 : n + m ≤ maxLen) (hbytes : ((n + m) + (n + m) / 4 + 192) * bytes ≤ 281474976710656) (hbase : base ≤ w.heap.size) (H : Nat) (hH : w.heap.size = H)
  (h : ∀ g cap w', w'.ownsRow base e size (.slice (some ⟨g, 0, none⟩) (n + m) cap) (n + m) (xs ++ news) → w.grownBy w' v.ownBlock → (v.ownBlock = some g ∨ g = H) → g < w'.heap.size → K (a.put o.dst (.slice (some ⟨g, 0, none⟩) (n + m) cap)) w') :
  if Region.wanted o (yielded ops tm) = true then Oper.wp P o a w K Q else E := by
 have hw : Region.wanted o (yielded ops tm) = true := by simp [Region.wanted, hgd]
 rw [if_pos hw]
 exact wp_lies_wide w s x t ho base e i z size bytes ht hi hz hsize hby hzs hsz v n xs hs hown ad m c news hx hl hnews h1 hm h63 hbytes hbase H hH h
theorem go_sig {x : Tx} (h : Sg.Ok x.rd) (a : Ms) : ∃ E, (goOn x a).x.ev = x.ev ++ E ∧ ∀ e ∈ E, e.kind = 6 → Sg.Ok e.sig := by
 have hfin : ∀ y : Wy, ∃ E, (finX x a.v y).1.ev = x.ev ++ E ∧ ∀ e ∈ E, e.kind = 6 → Sg.Ok e.sig := fun y => by
  cases y with
  | no => exact ⟨[], by simp [finX], by simp⟩
  | bg b => exact ⟨[_], rfl, fun e he hk => by simp at he; subst he; simp at hk⟩
  | rd P b => exact ⟨[_], rfl, fun e he hk => by simp at he; subst he; simp at hk⟩
  | cm P b u => exact ⟨[_], rfl, fun e he hk => by simp at he; subst he; simp at hk⟩
  | wr P b => exact ⟨[_], rfl, fun e he hk => by simp at he; subst he; simp at hk⟩
 unfold goOn
 split
 ·exact ⟨[x.ended a.e], rfl, fun e he _ => by simp at he; subst he; exact h⟩
 ·split
  ·split
   ·exact hfin _
   ·exact hfin _
  ·exact ⟨[], by simp, by simp⟩
theorem do_sig {c r : Nat} {x : Tx} (h : XOk x) (hc : c ≤ 1024) (L : List Ac) (t : Int) (a : Wa) : ∃ E, (doX c r x L t a).x.ev = x.ev ++ E ∧ ∀ e ∈ E, e.kind = 6 → Sg.Ok e.sig := by
 unfold doX
 split
 ·next hT =>
  split
  ·obtain ⟨E, h1, h2⟩ := go_sig (x := openX x) h.rd (stepM c r (openX x) L t)
   refine ⟨{ kind := 7 } :: E, ?_, fun e he hk => ?_⟩
   ·show (goOn (openX x) (stepM c r (openX x) L t)).x.ev = _
    rw [h1]
    simp [openX]
   ·rcases List.mem_cons.1 he with rfl | he
    ·simp at hk
    ·exact h2 e he hk
  ·split
   ·next h2 =>
    split
    ·exact ⟨[ownE x a.cell], rfl, fun e he hk => by simp at he; subst he; simp [ownE] at hk⟩
    ·have hk := hT
     unfold takesX at hk
     rw [h2] at hk
     simp at hk
     have hro : Sg.Ok (readX x a.cell).rd := (xok_read h hk.2.1.1 hk.2.1.2 (by omega)).rd
     exact go_sig (x := readX x a.cell) hro _
   ·split
    ·split
     ·exact ⟨[x.ended 5], rfl, fun e he _ => by simp at he; subst he; exact h.rd⟩
     ·exact ⟨[_], rfl, fun e he hk => by simp at he; subst he; simp at hk⟩
    ·split
     ·split
      ·exact ⟨[x.ended 0], rfl, fun e he _ => by simp at he; subst he; exact h.rd⟩
      ·exact go_sig (x := commX x) h.rd _
     ·exact ⟨[x.ended a.code], rfl, fun e he _ => by simp at he; subst he; exact h.rd⟩
 ·exact ⟨[], by simp, by simp⟩
theorem act_sig {c r : Nat} {x : Tx} (h : XOk x) (hc : c ≤ 1024) (L : List Ac) (t : Int) (a : Option Wa) {D : List Ev} (hD : (actX c r x L t a).x.ev = x.ev ++ D) : ∀ e ∈ D, e.kind = 6 → Sg.Ok e.sig := by
 have : ∃ E, (actX c r x L t a).x.ev = x.ev ++ E ∧ ∀ e ∈ E, e.kind = 6 → Sg.Ok e.sig := by
  cases a with
  | none => exact go_sig h.rd _
  | some a => exact do_sig h hc L t a
 obtain ⟨E, h1, h2⟩ := this
 rw [h1] at hD
 have := List.append_cancel_left hD
 subst this
 exact h2
theorem why_cases {N : Int} {m : Nat} {g : Rg} {x : Tx} {a : At} {e : Ev} (h : Why N m g x (wantA a) e) (hr : Sg.Ok e.sig) (hz : 0 ≤ x.z) :
  (e.err = 3 ∧ shAny (sgL g) x.z e.sig = true) ∨ (e.err = 4 ∧ x.z + (g.s : Int) < (g.n : Int)) ∨ (e.err = 6 ∧ (g.n : Int) = N) ∨ (e.err = 5 ∧ x.tb.R.length = m) ∨ (e.err = 7 ∧ a.kind = 1 ∧ a.w.code = 7) ∨ (e.err = 8 ∧ a.kind = 1 ∧ a.w.code = 8) ∨ (e.err = 0 ∧ x.tb.R.length = 0) := by
 rcases h with (⟨h1, t, h2, h3, h4⟩ | h1 | h1) | h1 | ⟨h1, w, h2, h3⟩ | ⟨h1, h2, _⟩
 ·exact Or.inl ⟨h1, clash_sh hr hz h2 h3 h4⟩
 ·exact Or.inr (Or.inl h1)
 ·exact Or.inr (Or.inr (Or.inl h1))
 ·exact Or.inr (Or.inr (Or.inr (Or.inl h1)))
 ·have hw : a.kind = 1 ∧ w.code = a.w.code := by
   unfold wantA at h2
   split at h2
   ·next hk => cases h2; exact ⟨hk, rfl⟩
   ·cases h2
  rcases h1 with h1 | h1
  ·exact Or.inr (Or.inr (Or.inr (Or.inr (Or.inl ⟨h1, hw.1, by rw [← hw.2, h3, h1]⟩))))
  ·exact Or.inr (Or.inr (Or.inr (Or.inr (Or.inr (Or.inl ⟨h1, hw.1, by rw [← hw.2, h3, h1]⟩)))))
 ·exact Or.inr (Or.inr (Or.inr (Or.inr (Or.inr (Or.inr ⟨h1, by rw [h2]; rfl⟩)))))
end Go.Proofs.YtgjahjnomfijfaaGreat
/- CoreWhy's append of a signature: a region of its own. -/
namespace Go.Proofs.YtgjahjnomfijfaaGreat
open Go.ChangeShapes Go.WideShapes Go.ChangeAt Go.RowKit
attribute [local go_sem ↓] Go.wp_at_zero Go.wp_at_succ
set_option linter.unusedVariables false
def findReg (n : Nat) : Code → Option Code
 | .region k ops d => if k = n then some (.region k ops d) else none
 | .seq a b => match findReg n a with
  | some c => some c
  | none => findReg n b
 | .block _ c => findReg n c
 | .scope c => findReg n c
 | .loop c => findReg n c
 | .cond _ a b => match findReg n a with
  | some c => some c
  | none => findReg n b
 | _ => none
noncomputable def reg30 : Code := ((Tryz.f4.body.bind (findReg 30)).getD .skip)
set_option maxRecDepth 1000000 in
set_option maxHeartbeats 4000000 in
theorem pub_reg {base B Pe nn n0 n1 n2 n3 n4 n5 n6 n7 : Nat} {z : World} {sa : Option Addr} {sc : Nat} {xs : List Value} {Rz : World → Prop} {K : Act → World → Prop} (u0 u1 u2 u3 u4 u5 u6 u8 u9 u10 u11 u12 u13 u14 u15 u16 u17 u18 u19 u20 u21 u22 u24 u25 u26 u27 u28 u29 u30 u31 u32 u33 u34 u35 u36 u37 u38 u39 u40 u41 u42 u43 u44 u45 u46 u47 u48 u49 u50 u51 u52 u53 u54 u55 u56 u57 u58 u59 u60 u61 u62 u63 u64 u65 u66 u67 u68 u69 u70 u71 u72 u73 u74 u75 u76 u77 u78 u79 u80 u81 u82 u83 u84 u85 u86 u87 u88 u89 u90 u91 u92 u93 u94 u95 u96 u97 u98 u99 u100 u101 u102 u103 u104 u105 u106 u107 u108 u109 u110 u111 u112 u113 u114 u115 u116 u117 u118 u119 u120 u121 u122 u123 u124 u125 u126 u127 u128 u129 u130 u131 u132 u133 u134 u135 u136 u137 u138 u139 u140 u141 u142 u143 u144 u145 u146 u147 u148 u149 u150 u151 u152 u153 u154 u155 u156 u157 u158 u159 u160 u161 u162 u163 u164 u165 u166 u167 u168 u169 u170 u171 u172 u173 u174 u175 u176 u177 u178 u179 u180 u181 u182 u183 u184 u185 u186 u187 u188 u189 u190 u191 u192 u193 u194 u195 u196 u197 u198 u199 u200 u201 u202 u203 u204 u205 u206 u207 u208 u209 u210 u211 u212 u213 u214 u215 u216 u217 u218 u219 u220 u221 u222 u223 u224 u225 u226 u227 u228 u229 u230 u231 u232 u233 u234 u235 u236 u237 u238 : Value)
  (HSG : Hid (z.ownsRow base 51 8 (.slice sa nn sc) nn xs)) (HVB : Hid ((Value.slice sa nn sc).ownBlock ≠ some B)) (HNN : Hid (nn ≤ 1099511627776)) (HBB : Hid (base ≤ z.heap.size))
  (s2 : z.cell? ⟨B, 2, none⟩ = some (.slice sa nn sc)) (f2 : z.frozen? ⟨B, 2, none⟩ = false) (hB12 : B < z.heap.size) (hP12 : Pe < z.heap.size)
  (t0 : z.cell? ⟨Pe, 10, none⟩ = some (.int .u64 ((n0 : Nat) : Int))) (t1 : z.cell? ⟨Pe, 11, none⟩ = some (.int .u64 ((n1 : Nat) : Int))) (t2 : z.cell? ⟨Pe, 12, none⟩ = some (.int .u64 ((n2 : Nat) : Int))) (t3 : z.cell? ⟨Pe, 13, none⟩ = some (.int .u64 ((n3 : Nat) : Int))) (t4 : z.cell? ⟨Pe, 14, none⟩ = some (.int .u64 ((n4 : Nat) : Int))) (t5 : z.cell? ⟨Pe, 15, none⟩ = some (.int .u64 ((n5 : Nat) : Int))) (t6 : z.cell? ⟨Pe, 16, none⟩ = some (.int .u64 ((n6 : Nat) : Int))) (t7 : z.cell? ⟨Pe, 17, none⟩ = some (.int .u64 ((n7 : Nat) : Int)))
  (HPF : Hid (∀ (Xw z13 : World) (g2 c2 : Nat), Keep [] z Xw → z13.ownsRow base 51 8 (.slice (some ⟨g2, 0, none⟩) (nn + 1) c2) (nn + 1) (xs ++ [.int .u64 ((n0 : Nat) : Int), .int .u64 ((n1 : Nat) : Int), .int .u64 ((n2 : Nat) : Int), .int .u64 ((n3 : Nat) : Int), .int .u64 ((n4 : Nat) : Int), .int .u64 ((n5 : Nat) : Int), .int .u64 ((n6 : Nat) : Int), .int .u64 ((n7 : Nat) : Int)]) → Xw.grownBy z13 (Value.slice sa nn sc).ownBlock → ((Value.slice sa nn sc).ownBlock = some g2 ∨ z.heap.size ≤ g2) → Rz (z13.setCell ⟨B, 2, none⟩ (.slice (some ⟨g2, 0, none⟩) (nn + 1) c2))))
  (HJ : Hid (∀ (v158 v159 v160 v161 v162 v163 v164 v165 v166 v167 v168 : Value) (w' : World), Rz w' → K ⟨#[u0, u1, u2, u3, u4, u5, u6, .pointer (some ⟨B, 0, none⟩), u8, u9, u10, u11, u12, u13, u14, u15, u16, u17, u18, u19, u20, u21, u22, .pointer (some ⟨Pe, 0, none⟩), u24, u25, u26, u27, u28, u29, u30, u31, u32, u33, u34, u35, u36, u37, u38, u39, u40, u41, u42, u43, u44, u45, u46, u47, u48, u49, u50, u51, u52, u53, u54, u55, u56, u57, u58, u59, u60, u61, u62, u63, u64, u65, u66, u67, u68, u69, u70, u71, u72, u73, u74, u75, u76, u77, u78, u79, u80, u81, u82, u83, u84, u85, u86, u87, u88, u89, u90, u91, u92, u93, u94, u95, u96, u97, u98, u99, u100, u101, u102, u103, u104, u105, u106, u107, u108, u109, u110, u111, u112, u113, u114, u115, u116, u117, u118, u119, u120, u121, u122, u123, u124, u125, u126, u127, u128, u129, u130, u131, u132, u133, u134, u135, u136, u137, u138, u139, u140, u141, u142, u143, u144, u145, u146, u147, u148, u149, u150, u151, u152, u153, u154, u155, u156, u157, v158, v159, v160, v161, v162, v163, v164, v165, v166, v167, v168, u169, u170, u171, u172, u173, u174, u175, u176, u177, u178, u179, u180, u181, u182, u183, u184, u185, u186, u187, u188, u189, u190, u191, u192, u193, u194, u195, u196, u197, u198, u199, u200, u201, u202, u203, u204, u205, u206, u207, u208, u209, u210, u211, u212, u213, u214, u215, u216, u217, u218, u219, u220, u221, u222, u223, u224, u225, u226, u227, u228, u229, u230, u231, u232, u233, u234, u235, u236, u237, u238], []⟩ w')) :
  Code.wp Tryz.prog reg30 (Exit.then K (fun _ _ _ => False)) ⟨#[u0, u1, u2, u3, u4, u5, u6, .pointer (some ⟨B, 0, none⟩), u8, u9, u10, u11, u12, u13, u14, u15, u16, u17, u18, u19, u20, u21, u22, .pointer (some ⟨Pe, 0, none⟩), u24, u25, u26, u27, u28, u29, u30, u31, u32, u33, u34, u35, u36, u37, u38, u39, u40, u41, u42, u43, u44, u45, u46, u47, u48, u49, u50, u51, u52, u53, u54, u55, u56, u57, u58, u59, u60, u61, u62, u63, u64, u65, u66, u67, u68, u69, u70, u71, u72, u73, u74, u75, u76, u77, u78, u79, u80, u81, u82, u83, u84, u85, u86, u87, u88, u89, u90, u91, u92, u93, u94, u95, u96, u97, u98, u99, u100, u101, u102, u103, u104, u105, u106, u107, u108, u109, u110, u111, u112, u113, u114, u115, u116, u117, u118, u119, u120, u121, u122, u123, u124, u125, u126, u127, u128, u129, u130, u131, u132, u133, u134, u135, u136, u137, u138, u139, u140, u141, u142, u143, u144, u145, u146, u147, u148, u149, u150, u151, u152, u153, u154, u155, u156, u157, u158, u159, u160, u161, u162, u163, u164, u165, u166, u167, u168, u169, u170, u171, u172, u173, u174, u175, u176, u177, u178, u179, u180, u181, u182, u183, u184, u185, u186, u187, u188, u189, u190, u191, u192, u193, u194, u195, u196, u197, u198, u199, u200, u201, u202, u203, u204, u205, u206, u207, u208, u209, u210, u211, u212, u213, u214, u215, u216, u217, u218, u219, u220, u221, u222, u223, u224, u225, u226, u227, u228, u229, u230, u231, u232, u233, u234, u235, u236, u237, u238], []⟩ z := by
 have HS2 : Hid (z.cell? ⟨B, 2, none⟩ = some (.slice sa nn sc) ∧ z.frozen? ⟨B, 2, none⟩ = false ∧ B < z.heap.size) := ⟨s2, f2, hB12⟩
 obtain ⟨isg, hisg, sz0, sz1, sz2⟩ := info_parts info_sig2
 conv => arg 2; whnf
 go_region_law ((refine step_lies_any _ (by rfl) _ _ _ (by rfl) base 51 isg _ 8 64 Tryz.underlying40 hisg sz0 sz1 sz2 rfl (by decide) (.slice sa nn sc) nn xs (by rfl) ((HSG.out.alloc _).drew) ⟨z.heap.size, 0, none⟩ 1 1 [.int .u64 ((n0 : Nat) : Int), .int .u64 ((n1 : Nat) : Int), .int .u64 ((n2 : Nat) : Int), .int .u64 ((n3 : Nat) : Int), .int .u64 ((n4 : Nat) : Int), .int .u64 ((n5 : Nat) : Int), .int .u64 ((n6 : Nat) : Int), .int .u64 ((n7 : Nat) : Int)] (by rfl) (by rfl) (World.news_of_block (cs := #[.int .u64 ((n0 : Nat) : Int), .int .u64 ((n1 : Nat) : Int), .int .u64 ((n2 : Nat) : Int), .int .u64 ((n3 : Nat) : Int), .int .u64 ((n4 : Nat) : Int), .int .u64 ((n5 : Nat) : Int), .int .u64 ((n6 : Nat) : Int), .int .u64 ((n7 : Nat) : Int)]) (t := 51) (fr := (0, 0)) (heap_alloc_new z _)) (by simp [Value.oneCell']) (by decide) (nn_len HNN.out) (nn_64 HNN.out) (ad_base HBB.out _) (z.heap.size + 1) (ad_size _ _) ?_; intro g2 c2 z13 hown13 hgrow13 hat13 hlt13; have hs1 : z13.cell? ⟨B, 2, none⟩ = some (.slice sa nn sc) := (hgrow13.cell_far _ (ad_lt HS2.out.2.2 _) (Ne.symm HVB.out)).trans (ad_cell HS2.out.2.2 HS2.out.1 _); have hs2 : z13.frozen? ⟨B, 2, none⟩ = false := (hgrow13.frozen_far _ (ad_lt HS2.out.2.2 _) (Ne.symm HVB.out)).trans (ad_frozen HS2.out.2.2 HS2.out.2.1 _)))
 all_goals exact HJ.out _ _ _ _ _ _ _ _ _ _ _ _ (HPF.out _ _ _ _ (((Keep.refl [] z).alloc _).drewN 1) hown13 hgrow13 (at_or hat13))
--<PR2
def g9 (xs : Array Value) (i : Nat) : Value := xs.getD i undef
theorem list239 (f : Nat → Value) : (List.range 239).map f = [f 0, f 1, f 2, f 3, f 4, f 5, f 6, f 7, f 8, f 9, f 10, f 11, f 12, f 13, f 14, f 15, f 16, f 17, f 18, f 19, f 20, f 21, f 22, f 23, f 24, f 25, f 26, f 27, f 28, f 29, f 30, f 31, f 32, f 33, f 34, f 35, f 36, f 37, f 38, f 39, f 40, f 41, f 42, f 43, f 44, f 45, f 46, f 47, f 48, f 49, f 50, f 51, f 52, f 53, f 54, f 55, f 56, f 57, f 58, f 59, f 60, f 61, f 62, f 63, f 64, f 65, f 66, f 67, f 68, f 69, f 70, f 71, f 72, f 73, f 74, f 75, f 76, f 77, f 78, f 79, f 80, f 81, f 82, f 83, f 84, f 85, f 86, f 87, f 88, f 89, f 90, f 91, f 92, f 93, f 94, f 95, f 96, f 97, f 98, f 99, f 100, f 101, f 102, f 103, f 104, f 105, f 106, f 107, f 108, f 109, f 110, f 111, f 112, f 113, f 114, f 115, f 116, f 117, f 118, f 119, f 120, f 121, f 122, f 123, f 124, f 125, f 126, f 127, f 128, f 129, f 130, f 131, f 132, f 133, f 134, f 135, f 136, f 137, f 138, f 139, f 140, f 141, f 142, f 143, f 144, f 145, f 146, f 147, f 148, f 149, f 150, f 151, f 152, f 153, f 154, f 155, f 156, f 157, f 158, f 159, f 160, f 161, f 162, f 163, f 164, f 165, f 166, f 167, f 168, f 169, f 170, f 171, f 172, f 173, f 174, f 175, f 176, f 177, f 178, f 179, f 180, f 181, f 182, f 183, f 184, f 185, f 186, f 187, f 188, f 189, f 190, f 191, f 192, f 193, f 194, f 195, f 196, f 197, f 198, f 199, f 200, f 201, f 202, f 203, f 204, f 205, f 206, f 207, f 208, f 209, f 210, f 211, f 212, f 213, f 214, f 215, f 216, f 217, f 218, f 219, f 220, f 221, f 222, f 223, f 224, f 225, f 226, f 227, f 228, f 229, f 230, f 231, f 232, f 233, f 234, f 235, f 236, f 237, f 238] := by kernel_rfl
theorem arr239 (xs : Array Value) (hs : xs.size = 239) : xs = #[g9 xs 0, g9 xs 1, g9 xs 2, g9 xs 3, g9 xs 4, g9 xs 5, g9 xs 6, g9 xs 7, g9 xs 8, g9 xs 9, g9 xs 10, g9 xs 11, g9 xs 12, g9 xs 13, g9 xs 14, g9 xs 15, g9 xs 16, g9 xs 17, g9 xs 18, g9 xs 19, g9 xs 20, g9 xs 21, g9 xs 22, g9 xs 23, g9 xs 24, g9 xs 25, g9 xs 26, g9 xs 27, g9 xs 28, g9 xs 29, g9 xs 30, g9 xs 31, g9 xs 32, g9 xs 33, g9 xs 34, g9 xs 35, g9 xs 36, g9 xs 37, g9 xs 38, g9 xs 39, g9 xs 40, g9 xs 41, g9 xs 42, g9 xs 43, g9 xs 44, g9 xs 45, g9 xs 46, g9 xs 47, g9 xs 48, g9 xs 49, g9 xs 50, g9 xs 51, g9 xs 52, g9 xs 53, g9 xs 54, g9 xs 55, g9 xs 56, g9 xs 57, g9 xs 58, g9 xs 59, g9 xs 60, g9 xs 61, g9 xs 62, g9 xs 63, g9 xs 64, g9 xs 65, g9 xs 66, g9 xs 67, g9 xs 68, g9 xs 69, g9 xs 70, g9 xs 71, g9 xs 72, g9 xs 73, g9 xs 74, g9 xs 75, g9 xs 76, g9 xs 77, g9 xs 78, g9 xs 79, g9 xs 80, g9 xs 81, g9 xs 82, g9 xs 83, g9 xs 84, g9 xs 85, g9 xs 86, g9 xs 87, g9 xs 88, g9 xs 89, g9 xs 90, g9 xs 91, g9 xs 92, g9 xs 93, g9 xs 94, g9 xs 95, g9 xs 96, g9 xs 97, g9 xs 98, g9 xs 99, g9 xs 100, g9 xs 101, g9 xs 102, g9 xs 103, g9 xs 104, g9 xs 105, g9 xs 106, g9 xs 107, g9 xs 108, g9 xs 109, g9 xs 110, g9 xs 111, g9 xs 112, g9 xs 113, g9 xs 114, g9 xs 115, g9 xs 116, g9 xs 117, g9 xs 118, g9 xs 119, g9 xs 120, g9 xs 121, g9 xs 122, g9 xs 123, g9 xs 124, g9 xs 125, g9 xs 126, g9 xs 127, g9 xs 128, g9 xs 129, g9 xs 130, g9 xs 131, g9 xs 132, g9 xs 133, g9 xs 134, g9 xs 135, g9 xs 136, g9 xs 137, g9 xs 138, g9 xs 139, g9 xs 140, g9 xs 141, g9 xs 142, g9 xs 143, g9 xs 144, g9 xs 145, g9 xs 146, g9 xs 147, g9 xs 148, g9 xs 149, g9 xs 150, g9 xs 151, g9 xs 152, g9 xs 153, g9 xs 154, g9 xs 155, g9 xs 156, g9 xs 157, g9 xs 158, g9 xs 159, g9 xs 160, g9 xs 161, g9 xs 162, g9 xs 163, g9 xs 164, g9 xs 165, g9 xs 166, g9 xs 167, g9 xs 168, g9 xs 169, g9 xs 170, g9 xs 171, g9 xs 172, g9 xs 173, g9 xs 174, g9 xs 175, g9 xs 176, g9 xs 177, g9 xs 178, g9 xs 179, g9 xs 180, g9 xs 181, g9 xs 182, g9 xs 183, g9 xs 184, g9 xs 185, g9 xs 186, g9 xs 187, g9 xs 188, g9 xs 189, g9 xs 190, g9 xs 191, g9 xs 192, g9 xs 193, g9 xs 194, g9 xs 195, g9 xs 196, g9 xs 197, g9 xs 198, g9 xs 199, g9 xs 200, g9 xs 201, g9 xs 202, g9 xs 203, g9 xs 204, g9 xs 205, g9 xs 206, g9 xs 207, g9 xs 208, g9 xs 209, g9 xs 210, g9 xs 211, g9 xs 212, g9 xs 213, g9 xs 214, g9 xs 215, g9 xs 216, g9 xs 217, g9 xs 218, g9 xs 219, g9 xs 220, g9 xs 221, g9 xs 222, g9 xs 223, g9 xs 224, g9 xs 225, g9 xs 226, g9 xs 227, g9 xs 228, g9 xs 229, g9 xs 230, g9 xs 231, g9 xs 232, g9 xs 233, g9 xs 234, g9 xs 235, g9 xs 236, g9 xs 237, g9 xs 238] := by
 have h1 : xs.toList = (List.range 239).map (g9 xs) := by
  apply List.ext_getElem
  ·simp [hs]
  ·intro i h1 h2
   have h3 : i < xs.size := by simpa using h1
   simp [g9, Array.getD, h3]
 have h2 := h1.trans (list239 (g9 xs))
 exact (Array.toArray_toList (xs := xs)).symm.trans (congrArg List.toArray h2)
theorem sets239 (u0 u1 u2 u3 u4 u5 u6 u7 u8 u9 u10 u11 u12 u13 u14 u15 u16 u17 u18 u19 u20 u21 u22 u23 u24 u25 u26 u27 u28 u29 u30 u31 u32 u33 u34 u35 u36 u37 u38 u39 u40 u41 u42 u43 u44 u45 u46 u47 u48 u49 u50 u51 u52 u53 u54 u55 u56 u57 u58 u59 u60 u61 u62 u63 u64 u65 u66 u67 u68 u69 u70 u71 u72 u73 u74 u75 u76 u77 u78 u79 u80 u81 u82 u83 u84 u85 u86 u87 u88 u89 u90 u91 u92 u93 u94 u95 u96 u97 u98 u99 u100 u101 u102 u103 u104 u105 u106 u107 u108 u109 u110 u111 u112 u113 u114 u115 u116 u117 u118 u119 u120 u121 u122 u123 u124 u125 u126 u127 u128 u129 u130 u131 u132 u133 u134 u135 u136 u137 u138 u139 u140 u141 u142 u143 u144 u145 u146 u147 u148 u149 u150 u151 u152 u153 u154 u155 u156 u157 u158 u159 u160 u161 u162 u163 u164 u165 u166 u167 u168 u169 u170 u171 u172 u173 u174 u175 u176 u177 u178 u179 u180 u181 u182 u183 u184 u185 u186 u187 u188 u189 u190 u191 u192 u193 u194 u195 u196 u197 u198 u199 u200 u201 u202 u203 u204 u205 u206 u207 u208 u209 u210 u211 u212 u213 u214 u215 u216 u217 u218 u219 u220 u221 u222 u223 u224 u225 u226 u227 u228 u229 u230 u231 u232 u233 u234 u235 u236 u237 u238 : Value) (v158 v159 v160 v161 v162 v163 v164 v165 v166 v167 v168 : Value) : ((((((((((((#[u0, u1, u2, u3, u4, u5, u6, u7, u8, u9, u10, u11, u12, u13, u14, u15, u16, u17, u18, u19, u20, u21, u22, u23, u24, u25, u26, u27, u28, u29, u30, u31, u32, u33, u34, u35, u36, u37, u38, u39, u40, u41, u42, u43, u44, u45, u46, u47, u48, u49, u50, u51, u52, u53, u54, u55, u56, u57, u58, u59, u60, u61, u62, u63, u64, u65, u66, u67, u68, u69, u70, u71, u72, u73, u74, u75, u76, u77, u78, u79, u80, u81, u82, u83, u84, u85, u86, u87, u88, u89, u90, u91, u92, u93, u94, u95, u96, u97, u98, u99, u100, u101, u102, u103, u104, u105, u106, u107, u108, u109, u110, u111, u112, u113, u114, u115, u116, u117, u118, u119, u120, u121, u122, u123, u124, u125, u126, u127, u128, u129, u130, u131, u132, u133, u134, u135, u136, u137, u138, u139, u140, u141, u142, u143, u144, u145, u146, u147, u148, u149, u150, u151, u152, u153, u154, u155, u156, u157, u158, u159, u160, u161, u162, u163, u164, u165, u166, u167, u168, u169, u170, u171, u172, u173, u174, u175, u176, u177, u178, u179, u180, u181, u182, u183, u184, u185, u186, u187, u188, u189, u190, u191, u192, u193, u194, u195, u196, u197, u198, u199, u200, u201, u202, u203, u204, u205, u206, u207, u208, u209, u210, u211, u212, u213, u214, u215, u216, u217, u218, u219, u220, u221, u222, u223, u224, u225, u226, u227, u228, u229, u230, u231, u232, u233, u234, u235, u236, u237, u238] : Array Value).setIfInBounds 158 v158).setIfInBounds 159 v159).setIfInBounds 160 v160).setIfInBounds 161 v161).setIfInBounds 162 v162).setIfInBounds 163 v163).setIfInBounds 164 v164).setIfInBounds 165 v165).setIfInBounds 166 v166).setIfInBounds 167 v167).setIfInBounds 168 v168) = #[u0, u1, u2, u3, u4, u5, u6, u7, u8, u9, u10, u11, u12, u13, u14, u15, u16, u17, u18, u19, u20, u21, u22, u23, u24, u25, u26, u27, u28, u29, u30, u31, u32, u33, u34, u35, u36, u37, u38, u39, u40, u41, u42, u43, u44, u45, u46, u47, u48, u49, u50, u51, u52, u53, u54, u55, u56, u57, u58, u59, u60, u61, u62, u63, u64, u65, u66, u67, u68, u69, u70, u71, u72, u73, u74, u75, u76, u77, u78, u79, u80, u81, u82, u83, u84, u85, u86, u87, u88, u89, u90, u91, u92, u93, u94, u95, u96, u97, u98, u99, u100, u101, u102, u103, u104, u105, u106, u107, u108, u109, u110, u111, u112, u113, u114, u115, u116, u117, u118, u119, u120, u121, u122, u123, u124, u125, u126, u127, u128, u129, u130, u131, u132, u133, u134, u135, u136, u137, u138, u139, u140, u141, u142, u143, u144, u145, u146, u147, u148, u149, u150, u151, u152, u153, u154, u155, u156, u157, v158, v159, v160, v161, v162, v163, v164, v165, v166, v167, v168, u169, u170, u171, u172, u173, u174, u175, u176, u177, u178, u179, u180, u181, u182, u183, u184, u185, u186, u187, u188, u189, u190, u191, u192, u193, u194, u195, u196, u197, u198, u199, u200, u201, u202, u203, u204, u205, u206, u207, u208, u209, u210, u211, u212, u213, u214, u215, u216, u217, u218, u219, u220, u221, u222, u223, u224, u225, u226, u227, u228, u229, u230, u231, u232, u233, u234, u235, u236, u237, u238] := by kernel_rfl
set_option maxRecDepth 1000000 in
set_option maxHeartbeats 4000000 in
theorem pub_reg2 {base B Pe nn n0 n1 n2 n3 n4 n5 n6 n7 : Nat} {z : World} {sa : Option Addr} {sc : Nat} {xs : List Value} {Rz : World → Prop} {K : Act → World → Prop} (a : Act) (hsz : a.tmps.size = 239) (hd : a.defers = []) (h7 : g9 a.tmps 7 = .pointer (some ⟨B, 0, none⟩)) (h23 : g9 a.tmps 23 = .pointer (some ⟨Pe, 0, none⟩))
  (HSG : Hid (z.ownsRow base 51 8 (.slice sa nn sc) nn xs)) (HVB : Hid ((Value.slice sa nn sc).ownBlock ≠ some B)) (HNN : Hid (nn ≤ 1099511627776)) (HBB : Hid (base ≤ z.heap.size))
  (s2 : z.cell? ⟨B, 2, none⟩ = some (.slice sa nn sc)) (f2 : z.frozen? ⟨B, 2, none⟩ = false) (hB12 : B < z.heap.size) (hP12 : Pe < z.heap.size)
  (t0 : z.cell? ⟨Pe, 10, none⟩ = some (.int .u64 ((n0 : Nat) : Int))) (t1 : z.cell? ⟨Pe, 11, none⟩ = some (.int .u64 ((n1 : Nat) : Int))) (t2 : z.cell? ⟨Pe, 12, none⟩ = some (.int .u64 ((n2 : Nat) : Int))) (t3 : z.cell? ⟨Pe, 13, none⟩ = some (.int .u64 ((n3 : Nat) : Int))) (t4 : z.cell? ⟨Pe, 14, none⟩ = some (.int .u64 ((n4 : Nat) : Int))) (t5 : z.cell? ⟨Pe, 15, none⟩ = some (.int .u64 ((n5 : Nat) : Int))) (t6 : z.cell? ⟨Pe, 16, none⟩ = some (.int .u64 ((n6 : Nat) : Int))) (t7 : z.cell? ⟨Pe, 17, none⟩ = some (.int .u64 ((n7 : Nat) : Int)))
  (HPF : Hid (∀ (Xw z13 : World) (g2 c2 : Nat), Keep [] z Xw → z13.ownsRow base 51 8 (.slice (some ⟨g2, 0, none⟩) (nn + 1) c2) (nn + 1) (xs ++ [.int .u64 ((n0 : Nat) : Int), .int .u64 ((n1 : Nat) : Int), .int .u64 ((n2 : Nat) : Int), .int .u64 ((n3 : Nat) : Int), .int .u64 ((n4 : Nat) : Int), .int .u64 ((n5 : Nat) : Int), .int .u64 ((n6 : Nat) : Int), .int .u64 ((n7 : Nat) : Int)]) → Xw.grownBy z13 (Value.slice sa nn sc).ownBlock → ((Value.slice sa nn sc).ownBlock = some g2 ∨ z.heap.size ≤ g2) → Rz (z13.setCell ⟨B, 2, none⟩ (.slice (some ⟨g2, 0, none⟩) (nn + 1) c2))))
  (HJ : Hid (∀ (v158 v159 v160 v161 v162 v163 v164 v165 v166 v167 v168 : Value) (w' : World), Rz w' → K ⟨(((((((((((a.tmps.setIfInBounds 158 v158).setIfInBounds 159 v159).setIfInBounds 160 v160).setIfInBounds 161 v161).setIfInBounds 162 v162).setIfInBounds 163 v163).setIfInBounds 164 v164).setIfInBounds 165 v165).setIfInBounds 166 v166).setIfInBounds 167 v167).setIfInBounds 168 v168), []⟩ w')) :
  Code.wp Tryz.prog reg30 (Exit.then K (fun _ _ _ => False)) a z := by
 obtain ⟨t, df⟩ := a
 dsimp only at hsz hd h7 h23
 subst hd
 replace HJ := HJ.out
 dsimp only at HJ
 have e := arr239 t hsz
 rw [h7, h23] at e
 refine Eq.mpr (congrArg (fun x => Code.wp Tryz.prog reg30 (Exit.then K (fun _ _ _ => False)) ⟨x, []⟩ z) e) ?_
 refine pub_reg (g9 t 0) (g9 t 1) (g9 t 2) (g9 t 3) (g9 t 4) (g9 t 5) (g9 t 6) (g9 t 8) (g9 t 9) (g9 t 10) (g9 t 11) (g9 t 12) (g9 t 13) (g9 t 14) (g9 t 15) (g9 t 16) (g9 t 17) (g9 t 18) (g9 t 19) (g9 t 20) (g9 t 21) (g9 t 22) (g9 t 24) (g9 t 25) (g9 t 26) (g9 t 27) (g9 t 28) (g9 t 29) (g9 t 30) (g9 t 31) (g9 t 32) (g9 t 33) (g9 t 34) (g9 t 35) (g9 t 36) (g9 t 37) (g9 t 38) (g9 t 39) (g9 t 40) (g9 t 41) (g9 t 42) (g9 t 43) (g9 t 44) (g9 t 45) (g9 t 46) (g9 t 47) (g9 t 48) (g9 t 49) (g9 t 50) (g9 t 51) (g9 t 52) (g9 t 53) (g9 t 54) (g9 t 55) (g9 t 56) (g9 t 57) (g9 t 58) (g9 t 59) (g9 t 60) (g9 t 61) (g9 t 62) (g9 t 63) (g9 t 64) (g9 t 65) (g9 t 66) (g9 t 67) (g9 t 68) (g9 t 69) (g9 t 70) (g9 t 71) (g9 t 72) (g9 t 73) (g9 t 74) (g9 t 75) (g9 t 76) (g9 t 77) (g9 t 78) (g9 t 79) (g9 t 80) (g9 t 81) (g9 t 82) (g9 t 83) (g9 t 84) (g9 t 85) (g9 t 86) (g9 t 87) (g9 t 88) (g9 t 89) (g9 t 90) (g9 t 91) (g9 t 92) (g9 t 93) (g9 t 94) (g9 t 95) (g9 t 96) (g9 t 97) (g9 t 98) (g9 t 99) (g9 t 100) (g9 t 101) (g9 t 102) (g9 t 103) (g9 t 104) (g9 t 105) (g9 t 106) (g9 t 107) (g9 t 108) (g9 t 109) (g9 t 110) (g9 t 111) (g9 t 112) (g9 t 113) (g9 t 114) (g9 t 115) (g9 t 116) (g9 t 117) (g9 t 118) (g9 t 119) (g9 t 120) (g9 t 121) (g9 t 122) (g9 t 123) (g9 t 124) (g9 t 125) (g9 t 126) (g9 t 127) (g9 t 128) (g9 t 129) (g9 t 130) (g9 t 131) (g9 t 132) (g9 t 133) (g9 t 134) (g9 t 135) (g9 t 136) (g9 t 137) (g9 t 138) (g9 t 139) (g9 t 140) (g9 t 141) (g9 t 142) (g9 t 143) (g9 t 144) (g9 t 145) (g9 t 146) (g9 t 147) (g9 t 148) (g9 t 149) (g9 t 150) (g9 t 151) (g9 t 152) (g9 t 153) (g9 t 154) (g9 t 155) (g9 t 156) (g9 t 157) (g9 t 158) (g9 t 159) (g9 t 160) (g9 t 161) (g9 t 162) (g9 t 163) (g9 t 164) (g9 t 165) (g9 t 166) (g9 t 167) (g9 t 168) (g9 t 169) (g9 t 170) (g9 t 171) (g9 t 172) (g9 t 173) (g9 t 174) (g9 t 175) (g9 t 176) (g9 t 177) (g9 t 178) (g9 t 179) (g9 t 180) (g9 t 181) (g9 t 182) (g9 t 183) (g9 t 184) (g9 t 185) (g9 t 186) (g9 t 187) (g9 t 188) (g9 t 189) (g9 t 190) (g9 t 191) (g9 t 192) (g9 t 193) (g9 t 194) (g9 t 195) (g9 t 196) (g9 t 197) (g9 t 198) (g9 t 199) (g9 t 200) (g9 t 201) (g9 t 202) (g9 t 203) (g9 t 204) (g9 t 205) (g9 t 206) (g9 t 207) (g9 t 208) (g9 t 209) (g9 t 210) (g9 t 211) (g9 t 212) (g9 t 213) (g9 t 214) (g9 t 215) (g9 t 216) (g9 t 217) (g9 t 218) (g9 t 219) (g9 t 220) (g9 t 221) (g9 t 222) (g9 t 223) (g9 t 224) (g9 t 225) (g9 t 226) (g9 t 227) (g9 t 228) (g9 t 229) (g9 t 230) (g9 t 231) (g9 t 232) (g9 t 233) (g9 t 234) (g9 t 235) (g9 t 236) (g9 t 237) (g9 t 238) HSG HVB HNN HBB s2 f2 hB12 hP12 t0 t1 t2 t3 t4 t5 t6 t7 HPF ?_
 intro v158 v159 v160 v161 v162 v163 v164 v165 v166 v167 v168 w' hR
 have h9 := HJ v158 v159 v160 v161 v162 v163 v164 v165 v166 v167 v168 w' hR
 have e9 := (congrArg (fun x : Array Value => (((((((((((x.setIfInBounds 158 v158).setIfInBounds 159 v159).setIfInBounds 160 v160).setIfInBounds 161 v161).setIfInBounds 162 v162).setIfInBounds 163 v163).setIfInBounds 164 v164).setIfInBounds 165 v165).setIfInBounds 166 v166).setIfInBounds 167 v167).setIfInBounds 168 v168)) e).trans (sets239 (g9 t 0) (g9 t 1) (g9 t 2) (g9 t 3) (g9 t 4) (g9 t 5) (g9 t 6) (.pointer (some ⟨B, 0, none⟩)) (g9 t 8) (g9 t 9) (g9 t 10) (g9 t 11) (g9 t 12) (g9 t 13) (g9 t 14) (g9 t 15) (g9 t 16) (g9 t 17) (g9 t 18) (g9 t 19) (g9 t 20) (g9 t 21) (g9 t 22) (.pointer (some ⟨Pe, 0, none⟩)) (g9 t 24) (g9 t 25) (g9 t 26) (g9 t 27) (g9 t 28) (g9 t 29) (g9 t 30) (g9 t 31) (g9 t 32) (g9 t 33) (g9 t 34) (g9 t 35) (g9 t 36) (g9 t 37) (g9 t 38) (g9 t 39) (g9 t 40) (g9 t 41) (g9 t 42) (g9 t 43) (g9 t 44) (g9 t 45) (g9 t 46) (g9 t 47) (g9 t 48) (g9 t 49) (g9 t 50) (g9 t 51) (g9 t 52) (g9 t 53) (g9 t 54) (g9 t 55) (g9 t 56) (g9 t 57) (g9 t 58) (g9 t 59) (g9 t 60) (g9 t 61) (g9 t 62) (g9 t 63) (g9 t 64) (g9 t 65) (g9 t 66) (g9 t 67) (g9 t 68) (g9 t 69) (g9 t 70) (g9 t 71) (g9 t 72) (g9 t 73) (g9 t 74) (g9 t 75) (g9 t 76) (g9 t 77) (g9 t 78) (g9 t 79) (g9 t 80) (g9 t 81) (g9 t 82) (g9 t 83) (g9 t 84) (g9 t 85) (g9 t 86) (g9 t 87) (g9 t 88) (g9 t 89) (g9 t 90) (g9 t 91) (g9 t 92) (g9 t 93) (g9 t 94) (g9 t 95) (g9 t 96) (g9 t 97) (g9 t 98) (g9 t 99) (g9 t 100) (g9 t 101) (g9 t 102) (g9 t 103) (g9 t 104) (g9 t 105) (g9 t 106) (g9 t 107) (g9 t 108) (g9 t 109) (g9 t 110) (g9 t 111) (g9 t 112) (g9 t 113) (g9 t 114) (g9 t 115) (g9 t 116) (g9 t 117) (g9 t 118) (g9 t 119) (g9 t 120) (g9 t 121) (g9 t 122) (g9 t 123) (g9 t 124) (g9 t 125) (g9 t 126) (g9 t 127) (g9 t 128) (g9 t 129) (g9 t 130) (g9 t 131) (g9 t 132) (g9 t 133) (g9 t 134) (g9 t 135) (g9 t 136) (g9 t 137) (g9 t 138) (g9 t 139) (g9 t 140) (g9 t 141) (g9 t 142) (g9 t 143) (g9 t 144) (g9 t 145) (g9 t 146) (g9 t 147) (g9 t 148) (g9 t 149) (g9 t 150) (g9 t 151) (g9 t 152) (g9 t 153) (g9 t 154) (g9 t 155) (g9 t 156) (g9 t 157) (g9 t 158) (g9 t 159) (g9 t 160) (g9 t 161) (g9 t 162) (g9 t 163) (g9 t 164) (g9 t 165) (g9 t 166) (g9 t 167) (g9 t 168) (g9 t 169) (g9 t 170) (g9 t 171) (g9 t 172) (g9 t 173) (g9 t 174) (g9 t 175) (g9 t 176) (g9 t 177) (g9 t 178) (g9 t 179) (g9 t 180) (g9 t 181) (g9 t 182) (g9 t 183) (g9 t 184) (g9 t 185) (g9 t 186) (g9 t 187) (g9 t 188) (g9 t 189) (g9 t 190) (g9 t 191) (g9 t 192) (g9 t 193) (g9 t 194) (g9 t 195) (g9 t 196) (g9 t 197) (g9 t 198) (g9 t 199) (g9 t 200) (g9 t 201) (g9 t 202) (g9 t 203) (g9 t 204) (g9 t 205) (g9 t 206) (g9 t 207) (g9 t 208) (g9 t 209) (g9 t 210) (g9 t 211) (g9 t 212) (g9 t 213) (g9 t 214) (g9 t 215) (g9 t 216) (g9 t 217) (g9 t 218) (g9 t 219) (g9 t 220) (g9 t 221) (g9 t 222) (g9 t 223) (g9 t 224) (g9 t 225) (g9 t 226) (g9 t 227) (g9 t 228) (g9 t 229) (g9 t 230) (g9 t 231) (g9 t 232) (g9 t 233) (g9 t 234) (g9 t 235) (g9 t 236) (g9 t 237) (g9 t 238) v158 v159 v160 v161 v162 v163 v164 v165 v166 v167 v168)
 exact Eq.mp (congrArg (fun x => K ⟨x, []⟩ w') e9) h9
theorem wp_code {P : Program} {c c' : Code} {Q : Exit → Act → World → Prop} {a : Act} {w : World} (h : c = c') (hw : Code.wp P c' Q a w) : Code.wp P c Q a w := h ▸ hw
end Go.Proofs.YtgjahjnomfijfaaGreat
