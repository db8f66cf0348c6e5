/- carouselgrow: lay. -/
import Derived.Test.YtfbbcjlbelnfaaaGroB
import Derived.BigRegion
namespace Go.Proofs.Ytfbbcjlbelnfaaa
open Go.ChangeShapes Go.WideShapes Go.ChangeAt Go.RowKit
attribute [local go_sem ↓] Go.wp_at_zero Go.wp_at_succ

def layOk (g : GR) : Bool := decide (g.laid < g.l.length)
def nextE (g : GR) : GE := g.l.getD g.laid noGE
def layG (g : GR) : GR := if layOk g then ⟨g.size, g.l, g.laid + 1, g.done⟩ else g
/-- The log behind j words of a signature. -/
def sigL (c r : Nat) (L : List Ac) (k : Int) (s : List Nat) : Nat → List Ac
  | 0 => L
  | j + 1 => storeL c r (sigL c r L k s j) (-1) ⟨3, k, (j : Int)⟩ (wrap64 ((s.getD j 0 : Nat) : Int))
theorem sigL_len (c r : Nat) (L : List Ac) (k : Int) (s : List Nat) (j : Nat) : (sigL c r L k s j).length ≤ L.length + j := by
  induction j with
  | zero => simp [sigL]
  | succ j ih =>
    unfold sigL storeL
    split
    · simp; omega
    · omega
def layL (c : Nat) (g : GR) (L : List Ac) : List Ac := if layOk g then storeL c g.size (sigL c g.size L (((g.laid : Int) + 1) % (g.size : Int)) (nextE g).s 8) (-1) ⟨2, ((g.laid : Int) + 1) % (g.size : Int), 0⟩ (2 * ((g.laid : Int) + 1)) else L
theorem lay_set {w : World} {base Gk : Nat} {g : GR} {P : List Nat} {v : Value} {us : List Value} (h : GAt' w base Gk g P v us) (d : Nat) :
    GAt' (w.setCell ⟨Gk, 2, none⟩ (.int .i64 (d : Int))) base Gk ⟨g.size, g.l, d, g.done⟩ P v us ∧ Next P P w (w.setCell ⟨Gk, 2, none⟩ (.int .i64 (d : Int))) := by
  have k : Keep [Gk] w (w.setCell ⟨Gk, 2, none⟩ (.int .i64 (d : Int))) := (Keep.refl _ _).setCell _ _ (Or.inl (by simp))
  have hm : (w.setCell ⟨Gk, 2, none⟩ (.int .i64 (d : Int))).heap[Gk]? = some (.cells #[.int .i64 (g.size : Int), v, .int .i64 (d : Int), .int .i64 (g.done : Int)] 71 (0, 0)) := by rw [heap_set h.m]; rfl
  refine ⟨⟨hm, own_keep h.own k (fun b hb e => ?_), h.ulen, fun i hi => own_keep (h.ws i hi) k (fun b hb e => ?_), h.P, h.lo, h.ok⟩, k.mono (fun b hb => by simp at hb; subst hb; rw [h.P]; simp), fun b hb => Or.inl hb⟩
  · simp at e; subst e; exact own_ne h.own h.m (by decide) hb
  · simp at e; subst e; exact own_ne (h.ws i hi) h.m (by decide) hb
/-- The ten cells of an entry. -/
theorem GAt'.ten {w : World} {base Gk : Nat} {g : GR} {P : List Nat} {v : Value} {us : List Value} (h : GAt' w base Gk g P v us) (i : Nat) (hi : i < g.l.length) :
    ∃ gb cap ua ucap, v = .slice (some ⟨gb, 0, none⟩) g.l.length cap ∧ gb < w.heap.size ∧ w.cell? ⟨gb, i * 10, none⟩ = some (.slice ua (g.l.getD i noGE).w.length ucap) ∧
      (w.cell? ⟨gb, i * 10 + 1, none⟩ = some (.int .u64 (((g.l.getD i noGE).s.getD 0 0 : Nat) : Int)) ∧ w.cell? ⟨gb, i * 10 + 2, none⟩ = some (.int .u64 (((g.l.getD i noGE).s.getD 1 0 : Nat) : Int)) ∧ w.cell? ⟨gb, i * 10 + 3, none⟩ = some (.int .u64 (((g.l.getD i noGE).s.getD 2 0 : Nat) : Int)) ∧ w.cell? ⟨gb, i * 10 + 4, none⟩ = some (.int .u64 (((g.l.getD i noGE).s.getD 3 0 : Nat) : Int)) ∧
       w.cell? ⟨gb, i * 10 + 5, none⟩ = some (.int .u64 (((g.l.getD i noGE).s.getD 4 0 : Nat) : Int)) ∧ w.cell? ⟨gb, i * 10 + 6, none⟩ = some (.int .u64 (((g.l.getD i noGE).s.getD 5 0 : Nat) : Int)) ∧ w.cell? ⟨gb, i * 10 + 7, none⟩ = some (.int .u64 (((g.l.getD i noGE).s.getD 6 0 : Nat) : Int)) ∧ w.cell? ⟨gb, i * 10 + 8, none⟩ = some (.int .u64 (((g.l.getD i noGE).s.getD 7 0 : Nat) : Int))) ∧
      w.cell? ⟨gb, i * 10 + 9, none⟩ = some (.int .i64 ((g.l.getD i noGE).b : Int)) := by
  obtain ⟨gb, cap, rfl, _, hgbl, hcell, hfr⟩ := h.entry i hi
  obtain ⟨ua, ucap, hu⟩ := own_slice (h.ws i hi)
  have hO : Sg.Ok (g.l.getD i noGE).s := h.okS _ (by rw [List.getD_eq_getElem?_getD, List.getElem?_eq_getElem hi]; exact List.getElem_mem _)
  have hle : (Sg.sc (g.l.getD i noGE).s).toList.length = 8 := by rw [Array.length_toList, Sg.sc_size, hO.1]
  have hs : ∀ j, j < 8 → w.cell? ⟨gb, i * 10 + (j + 1), none⟩ = some (.int .u64 (((g.l.getD i noGE).s.getD j 0 : Nat) : Int)) := fun j hj => by
    rw [hcell (j + 1) (by omega)]
    unfold geC
    rw [List.getElem?_cons_succ, List.getElem?_append_left (by omega), Array.getElem?_toList]
    exact Sg.sc_get _ j (by rw [hO.1]; exact hj)
  refine ⟨gb, cap, ua, ucap, rfl, hgbl, ?_, ⟨hs 0 (by decide), hs 1 (by decide), hs 2 (by decide), hs 3 (by decide), hs 4 (by decide), hs 5 (by decide), hs 6 (by decide), hs 7 (by decide)⟩, ?_⟩
  · have := hcell 0 (by decide)
    rw [hu] at this
    simpa [geC] using this
  · rw [hcell 9 (by decide)]
    unfold geC
    rw [List.getElem?_cons_succ, List.getElem?_append_right (by omega), hle]
    rfl

set_option maxRecDepth 10000 in
set_option maxHeartbeats 3200000 in
theorem glay_any {w : World} {base : Nat} {p : Value} {c : Nat} {L : List Ac} {F : List Nat} {Gk : Nat} {g : GR} {P : List Nat} (h : GM w base p c L F Gk g P) (hb : base ≤ w.heap.size) (hL : L.length < 3298534883000) (hk : GOk g) :
    Calls Try.prog 42 #[.pointer (some ⟨Gk, 0, none⟩), p] w fun e w' => e = .returned (.tuple #[]) ∧ ∃ F' P', GM w' base p c (layL c g L) F' Gk (layG g) P' ∧ Next (F ++ P) (F' ++ P') w w' := by
  obtain ⟨v, us, hg⟩ := h.gr
  obtain ⟨⟨k0, k1, k2, k3⟩, z1, z2, z3⟩ := hg.cells
  have hGk : Gk < w.heap.size := heap_lt hg.m
  have HH : Hid (GM w base p c L F Gk g P) := h
  have HG : Hid (GAt' w base Gk g P v us) := hg
  have hs1 := hk.s1
  have hs16 := hk.s16
  have han := hk.an
  have hlen := hk.len
  obtain ⟨M, rfl⟩ := h.mem.ptr
  clear h
  by_cases hd : g.laid < g.l.length
  · have d1 : ((g.laid : Int) == (g.l.length : Int)) = false := by simp; omega
    have hok : layOk g = true := by simp [layOk, hd]
    unfold layL layG
    rw [if_pos hok, if_pos hok]
    obtain ⟨gb, cap, ua, ucap, rfl, hgbl, e0, ⟨e1, e2, e3, e4, e5, e6, e7, e8⟩, e9⟩ := hg.ten g.laid hd
    change w.cell? ⟨gb, g.laid * 10, none⟩ = some (.slice ua (nextE g).w.length ucap) at e0
    have hO : Sg.Ok (nextE g).s := hg.okS _ (by unfold nextE; rw [List.getD_eq_getElem?_getD, List.getElem?_eq_getElem hd]; exact List.getElem_mem _)
    have hx1 : (g.laid : Int) < (g.l.length : Int) := by omega
    clear hg
    change w.cell? ⟨gb, g.laid * 10 + 1, none⟩ = some (.int .u64 (((nextE g).s.getD 0 0 : Nat) : Int)) at e1
    change w.cell? ⟨gb, g.laid * 10 + 2, none⟩ = some (.int .u64 (((nextE g).s.getD 1 0 : Nat) : Int)) at e2
    change w.cell? ⟨gb, g.laid * 10 + 3, none⟩ = some (.int .u64 (((nextE g).s.getD 2 0 : Nat) : Int)) at e3
    change w.cell? ⟨gb, g.laid * 10 + 4, none⟩ = some (.int .u64 (((nextE g).s.getD 3 0 : Nat) : Int)) at e4
    change w.cell? ⟨gb, g.laid * 10 + 5, none⟩ = some (.int .u64 (((nextE g).s.getD 4 0 : Nat) : Int)) at e5
    change w.cell? ⟨gb, g.laid * 10 + 6, none⟩ = some (.int .u64 (((nextE g).s.getD 5 0 : Nat) : Int)) at e6
    change w.cell? ⟨gb, g.laid * 10 + 7, none⟩ = some (.int .u64 (((nextE g).s.getD 6 0 : Nat) : Int)) at e7
    change w.cell? ⟨gb, g.laid * 10 + 8, none⟩ = some (.int .u64 (((nextE g).s.getD 7 0 : Nat) : Int)) at e8
    change w.cell? ⟨gb, g.laid * 10 + 9, none⟩ = some (.int .i64 ((nextE g).b : Int)) at e9
    obtain ⟨sf, hsf⟩ : ∃ sf : Nat → Nat, ∀ j, (nextE g).s.getD j 0 = sf j := ⟨_, fun _ => rfl⟩
    rw [hsf] at e1 e2 e3 e4 e5 e6 e7 e8
    have HSF : Hid (∀ j, (nextE g).s.getD j 0 = sf j) := hsf
    clear hsf
    generalize hsg : (nextE g).s = sg at *
    clear hsg
    generalize (nextE g).w.length = nw at *
    generalize (nextE g).b = nb at *
    go_enter Try.func42, Try.ntmps42
    go_wp2
    go_quiet (fail)
    go_wp2_with fail
    have HHy : Hid (GM (w.drewN nq) base (.pointer (some ⟨M, 0, none⟩)) c L F Gk g P) := HH.out.below (below_drawn (Below.refl _ _) nq)
    have HNy : Hid (Next (F ++ P) (F ++ P) w (w.drewN nq)) := Next.of_below (below_drawn (Below.refl _ _) nq) _
    have HGy : Hid (GAt' (w.drewN nq) base Gk g P (.slice (some ⟨gb, 0, none⟩) g.l.length cap) us) := GAt'_drawn HG.out nq
    replace k1 : (w.drewN nq).cell? ⟨Gk, 1, none⟩ = some (.slice (some ⟨gb, 0, none⟩) g.l.length cap) := k1
    replace k2 : (w.drewN nq).cell? ⟨Gk, 2, none⟩ = some (.int .i64 (g.laid : Int)) := k2
    replace e0 : (w.drewN nq).cell? ⟨gb, g.laid * 10, none⟩ = some (.slice ua nw ucap) := e0
    replace e1 : (w.drewN nq).cell? ⟨gb, g.laid * 10 + 1, none⟩ = some (.int .u64 ((sf 0 : Nat) : Int)) := e1
    replace e2 : (w.drewN nq).cell? ⟨gb, g.laid * 10 + 2, none⟩ = some (.int .u64 ((sf 1 : Nat) : Int)) := e2
    replace e3 : (w.drewN nq).cell? ⟨gb, g.laid * 10 + 3, none⟩ = some (.int .u64 ((sf 2 : Nat) : Int)) := e3
    replace e4 : (w.drewN nq).cell? ⟨gb, g.laid * 10 + 4, none⟩ = some (.int .u64 ((sf 3 : Nat) : Int)) := e4
    replace e5 : (w.drewN nq).cell? ⟨gb, g.laid * 10 + 5, none⟩ = some (.int .u64 ((sf 4 : Nat) : Int)) := e5
    replace e6 : (w.drewN nq).cell? ⟨gb, g.laid * 10 + 6, none⟩ = some (.int .u64 ((sf 5 : Nat) : Int)) := e6
    replace e7 : (w.drewN nq).cell? ⟨gb, g.laid * 10 + 7, none⟩ = some (.int .u64 ((sf 6 : Nat) : Int)) := e7
    replace e8 : (w.drewN nq).cell? ⟨gb, g.laid * 10 + 8, none⟩ = some (.int .u64 ((sf 7 : Nat) : Int)) := e8
    replace e9 : (w.drewN nq).cell? ⟨gb, g.laid * 10 + 9, none⟩ = some (.int .i64 (nb : Int)) := e9
    replace hGk : Gk < (w.drewN nq).heap.size := hGk
    replace hgbl : gb < (w.drewN nq).heap.size := hgbl
    replace hb : base ≤ (w.drewN nq).heap.size := hb
    clear k0 k3 z1 z2 z3 HG HH
    generalize w.drewN nq = y at *
    go_region
    have bl : Below y.heap.size y (y.alloc (.cells #[.slice ua nw ucap, .int .u64 ((sf 0 : Nat) : Int), .int .u64 ((sf 1 : Nat) : Int), .int .u64 ((sf 2 : Nat) : Int), .int .u64 ((sf 3 : Nat) : Int), .int .u64 ((sf 4 : Nat) : Int), .int .u64 ((sf 5 : Nat) : Int), .int .u64 ((sf 6 : Nat) : Int), .int .u64 ((sf 7 : Nat) : Int), .int .i64 (nb : Int)] 114)).drew := below_drawn (below_a1 _ _) 1
    have HH2 : Hid (GM (y.alloc (.cells #[.slice ua nw ucap, .int .u64 ((sf 0 : Nat) : Int), .int .u64 ((sf 1 : Nat) : Int), .int .u64 ((sf 2 : Nat) : Int), .int .u64 ((sf 3 : Nat) : Int), .int .u64 ((sf 4 : Nat) : Int), .int .u64 ((sf 5 : Nat) : Int), .int .u64 ((sf 6 : Nat) : Int), .int .u64 ((sf 7 : Nat) : Int), .int .i64 (nb : Int)] 114)).drew base (.pointer (some ⟨M, 0, none⟩)) c L F Gk g P) := HHy.out.below bl
    have HN2 : Hid (Next (F ++ P) (F ++ P) w (y.alloc (.cells #[.slice ua nw ucap, .int .u64 ((sf 0 : Nat) : Int), .int .u64 ((sf 1 : Nat) : Int), .int .u64 ((sf 2 : Nat) : Int), .int .u64 ((sf 3 : Nat) : Int), .int .u64 ((sf 4 : Nat) : Int), .int .u64 ((sf 5 : Nat) : Int), .int .u64 ((sf 6 : Nat) : Int), .int .u64 ((sf 7 : Nat) : Int), .int .i64 (nb : Int)] 114)).drew) := HNy.out.trans (Next.of_below bl _)
    obtain ⟨v2, us2, hg2⟩ := HH2.out.gr
    obtain ⟨⟨j0, j1, j2, j3⟩, _, z2, _⟩ := hg2.cells
    have HR : Hid ((y.alloc (.cells #[.slice ua nw ucap, .int .u64 ((sf 0 : Nat) : Int), .int .u64 ((sf 1 : Nat) : Int), .int .u64 ((sf 2 : Nat) : Int), .int .u64 ((sf 3 : Nat) : Int), .int .u64 ((sf 4 : Nat) : Int), .int .u64 ((sf 5 : Nat) : Int), .int .u64 ((sf 6 : Nat) : Int), .int .u64 ((sf 7 : Nat) : Int), .int .i64 (nb : Int)] 114)).drew.heap[y.heap.size]? = some (.cells #[.slice ua nw ucap, .int .u64 ((sf 0 : Nat) : Int), .int .u64 ((sf 1 : Nat) : Int), .int .u64 ((sf 2 : Nat) : Int), .int .u64 ((sf 3 : Nat) : Int), .int .u64 ((sf 4 : Nat) : Int), .int .u64 ((sf 5 : Nat) : Int), .int .u64 ((sf 6 : Nat) : Int), .int .u64 ((sf 7 : Nat) : Int), .int .i64 (nb : Int)] 114 (0, 0))) := heap_alloc_new y _
    have hb2 : base ≤ (y.alloc (.cells #[.slice ua nw ucap, .int .u64 ((sf 0 : Nat) : Int), .int .u64 ((sf 1 : Nat) : Int), .int .u64 ((sf 2 : Nat) : Int), .int .u64 ((sf 3 : Nat) : Int), .int .u64 ((sf 4 : Nat) : Int), .int .u64 ((sf 5 : Nat) : Int), .int .u64 ((sf 6 : Nat) : Int), .int .u64 ((sf 7 : Nat) : Int), .int .i64 (nb : Int)] 114)).drew.heap.size := Nat.le_trans hb bl.size
    have hGk2 : Gk < (y.alloc (.cells #[.slice ua nw ucap, .int .u64 ((sf 0 : Nat) : Int), .int .u64 ((sf 1 : Nat) : Int), .int .u64 ((sf 2 : Nat) : Int), .int .u64 ((sf 3 : Nat) : Int), .int .u64 ((sf 4 : Nat) : Int), .int .u64 ((sf 5 : Nat) : Int), .int .u64 ((sf 6 : Nat) : Int), .int .u64 ((sf 7 : Nat) : Int), .int .i64 (nb : Int)] 114)).drew.heap.size := heap_lt hg2.m
    have HG2 : Hid (GAt' (y.alloc (.cells #[.slice ua nw ucap, .int .u64 ((sf 0 : Nat) : Int), .int .u64 ((sf 1 : Nat) : Int), .int .u64 ((sf 2 : Nat) : Int), .int .u64 ((sf 3 : Nat) : Int), .int .u64 ((sf 4 : Nat) : Int), .int .u64 ((sf 5 : Nat) : Int), .int .u64 ((sf 6 : Nat) : Int), .int .u64 ((sf 7 : Nat) : Int), .int .i64 (nb : Int)] 114)).drew base Gk g P v2 us2) := hg2
    have hBF : y.heap.size ∉ F ++ P := fun e => by
      rcases List.mem_append.1 e with h1 | h1
      · have := (HHy.out.mem.lt _ h1).2; omega
      · have := (HHy.out.gr.lt _ h1).2; omega
    clear bl k1 k2 e0 e1 e2 e3 e4 e5 e6 e7 e8 e9 hg2 HGy
    generalize (y.alloc (.cells #[.slice ua nw ucap, .int .u64 ((sf 0 : Nat) : Int), .int .u64 ((sf 1 : Nat) : Int), .int .u64 ((sf 2 : Nat) : Int), .int .u64 ((sf 3 : Nat) : Int), .int .u64 ((sf 4 : Nat) : Int), .int .u64 ((sf 5 : Nat) : Int), .int .u64 ((sf 6 : Nat) : Int), .int .u64 ((sf 7 : Nat) : Int), .int .i64 (nb : Int)] 114)).drew = y2 at *
    go_wp2_with fail
    obtain ⟨hg3, hn3⟩ := lay_set HG2.out (g.laid + 1)
    rw [show ((g.laid + 1 : Nat) : Int) = (g.laid : Int) + 1 by omega] at hg3 hn3
    have HM3 : Hid (GM (y2.setCell ⟨Gk, 2, none⟩ (.int .i64 ((g.laid : Int) + 1))) base (.pointer (some ⟨M, 0, none⟩)) c L F Gk ⟨g.size, g.l, g.laid + 1, g.done⟩ P) := HH2.out.onGr rfl ⟨_, _, hg3⟩ hn3
    have HN3 : Hid (Next (F ++ P) (F ++ P) w (y2.setCell ⟨Gk, 2, none⟩ (.int .i64 ((g.laid : Int) + 1)))) := HN2.out.trans hn3.right
    obtain ⟨⟨q0, q1, q2, q3⟩, _⟩ := hg3.cells
    simp only at q0 q2
    rw [show ((g.laid + 1 : Nat) : Int) = (g.laid : Int) + 1 by omega] at q2
    have HR3 : Hid ((y2.setCell ⟨Gk, 2, none⟩ (.int .i64 ((g.laid : Int) + 1))).heap[y.heap.size]? = some (.cells #[.slice ua nw ucap, .int .u64 ((sf 0 : Nat) : Int), .int .u64 ((sf 1 : Nat) : Int), .int .u64 ((sf 2 : Nat) : Int), .int .u64 ((sf 3 : Nat) : Int), .int .u64 ((sf 4 : Nat) : Int), .int .u64 ((sf 5 : Nat) : Int), .int .u64 ((sf 6 : Nat) : Int), .int .u64 ((sf 7 : Nat) : Int), .int .i64 (nb : Int)] 114 (0, 0))) := hn3.row HR.out (fun e => hBF (List.mem_append_right _ e))
    have hb3 : base ≤ (y2.setCell ⟨Gk, 2, none⟩ (.int .i64 ((g.laid : Int) + 1))).heap.size := Nat.le_trans hb2 hn3.1.size
    have htm : ((g.laid : Int) + 1).tmod (g.size : Int) = ((g.laid : Int) + 1) % (g.size : Int) := Int.tmod_eq_emod_of_nonneg (by omega)
    have hz : ¬ (g.size : Int) = 0 := by omega
    clear hg3 hn3 j0 j1 j2 j3 z2 HG2 HH2 HN2 HR
    generalize y2.setCell ⟨Gk, 2, none⟩ (.int .i64 ((g.laid : Int) + 1)) = y3 at *
    go_quiet (fail)
    have HSG : Hid (∀ j, sigL c g.size L (((g.laid : Int) + 1) % (g.size : Int)) sg (j + 1) = storeL c g.size (sigL c g.size L (((g.laid : Int) + 1) % (g.size : Int)) sg j) (-1) ⟨3, (((g.laid : Int) + 1) % (g.size : Int)), (j : Int)⟩ (wrap64 ((sf j : Nat) : Int))) := fun j => by rw [← HSF.out j]; rfl
    have HEC : Hid (∀ (x : World) (j : Nat), j < 8 → x.heap[y.heap.size]? = some (.cells #[.slice ua nw ucap, .int .u64 ((sf 0 : Nat) : Int), .int .u64 ((sf 1 : Nat) : Int), .int .u64 ((sf 2 : Nat) : Int), .int .u64 ((sf 3 : Nat) : Int), .int .u64 ((sf 4 : Nat) : Int), .int .u64 ((sf 5 : Nat) : Int), .int .u64 ((sf 6 : Nat) : Int), .int .u64 ((sf 7 : Nat) : Int), .int .i64 (nb : Int)] 114 (0, 0)) → x.cell? ⟨y.heap.size, 1 + j, none⟩ = some (.int .u64 ((sf j : Nat) : Int))) := fun x j hj hr => by
      rw [cell_at hr]
      rcases j with _ | _ | _ | _ | _ | _ | _ | _ | j
      all_goals first | rfl | omega
    have HSLN : Hid (∀ j, (sigL c g.size L (((g.laid : Int) + 1) % (g.size : Int)) sg j).length ≤ L.length + j) := fun j => sigL_len c g.size L _ sg j
    go_wp2
    go_loopw [6] (fun iv wr => ∃ j : Nat, j ≤ 8 ∧ iv = .int .i64 j ∧ ∃ F', GM wr base (.pointer (some ⟨M, 0, none⟩)) c (sigL c g.size L (((g.laid : Int) + 1) % (g.size : Int)) sg j) F' Gk ⟨g.size, g.l, g.laid + 1, g.done⟩ P ∧ Next (F ++ P) (F' ++ P) w wr ∧ wr.heap[y.heap.size]? = some (.cells #[.slice ua nw ucap, .int .u64 ((sf 0 : Nat) : Int), .int .u64 ((sf 1 : Nat) : Int), .int .u64 ((sf 2 : Nat) : Int), .int .u64 ((sf 3 : Nat) : Int), .int .u64 ((sf 4 : Nat) : Int), .int .u64 ((sf 5 : Nat) : Int), .int .u64 ((sf 6 : Nat) : Int), .int .u64 ((sf 7 : Nat) : Int), .int .i64 (nb : Int)] 114 (0, 0)) ∧ y.heap.size ∉ F' ++ P ∧ base ≤ wr.heap.size) (fun iv _ => 8 - (intOf iv).toNat)
    case atStart => exact ⟨0, by omega, rfl, F, HM3.out.below (below_drawn (Below.refl _ _) _), HN3.out.trans (Next.of_below (below_drawn (Below.refl _ _) _) _), HR3.out, hBF, hb3⟩
    case round =>
      obtain ⟨j, hj, rfl, F', hm, hn, hr, hB, hbr⟩ := hrel
      have HM : Hid (GM wr base (.pointer (some ⟨M, 0, none⟩)) c (sigL c g.size L (((g.laid : Int) + 1) % (g.size : Int)) sg j) F' Gk ⟨g.size, g.l, g.laid + 1, g.done⟩ P) := hm
      have HN : Hid (Next (F ++ P) (F' ++ P) w wr) := hn
      have HRW : Hid (wr.heap[y.heap.size]? = some (.cells #[.slice ua nw ucap, .int .u64 ((sf 0 : Nat) : Int), .int .u64 ((sf 1 : Nat) : Int), .int .u64 ((sf 2 : Nat) : Int), .int .u64 ((sf 3 : Nat) : Int), .int .u64 ((sf 4 : Nat) : Int), .int .u64 ((sf 5 : Nat) : Int), .int .u64 ((sf 6 : Nat) : Int), .int .u64 ((sf 7 : Nat) : Int), .int .i64 (nb : Int)] 114 (0, 0))) := hr
      have hLj : (sigL c g.size L (((g.laid : Int) + 1) % (g.size : Int)) sg j).length < 3298534883328 := by have := HSLN.out j; omega
      obtain ⟨v4, us4, hg4⟩ := hm.gr
      obtain ⟨⟨q0, q1, q2, q3⟩, _⟩ := hg4.cells
      simp only at q0 q2
      rw [show ((g.laid + 1 : Nat) : Int) = (g.laid : Int) + 1 by omega] at q2
      clear hm hn hg4 q1 q3
      by_cases hlt : j < 8
      · have d2 : decide ((j : Int) < 8) = true := by simp; omega
        have hx2 : (j : Int) < 8 := by omega
        have hcj := HEC.out wr j hlt hr
        have HST : Hid (Calls Try.prog 13 #[(.pointer (some ⟨M, 0, none⟩)), .int .i64 (-1), .agg #[.int .i64 3, .int .i64 (((g.laid : Int) + 1) % (g.size : Int)), .int .i64 (j : Int)], .int .i64 (wrap64 ((sf j : Nat) : Int))] wr fun e w' => e = .returned (.int .i64 (if isAd c g.size ⟨3, (((g.laid : Int) + 1) % (g.size : Int)), (j : Int)⟩ then 0 else 1)) ∧ ∃ F'', GM w' base (.pointer (some ⟨M, 0, none⟩)) c (sigL c g.size L (((g.laid : Int) + 1) % (g.size : Int)) sg (j + 1)) F'' Gk ⟨g.size, g.l, g.laid + 1, g.done⟩ P ∧ Next (F' ++ P) (F'' ++ P) wr w') := by
          rw [Hid, HSG.out j]
          exact gm_store HM.out hbr hLj (-1) ⟨3, (((g.laid : Int) + 1) % (g.size : Int)), (j : Int)⟩ (wrap64 ((sf j : Nat) : Int))
        generalize (if isAd c g.size ⟨3, (((g.laid : Int) + 1) % (g.size : Int)), (j : Int)⟩ = true then (0 : Int) else 1) = ea at *
        clear hr
        go_wp2_with fail
        refine HST.out.mono ?_
        rintro e y5 ⟨rfl, F5, hm5, hn5⟩
        have HM5 : Hid (GM y5 base (.pointer (some ⟨M, 0, none⟩)) c (sigL c g.size L (((g.laid : Int) + 1) % (g.size : Int)) sg (j + 1)) F5 Gk ⟨g.size, g.l, g.laid + 1, g.done⟩ P) := hm5
        have HN5 : Hid (Next (F ++ P) (F5 ++ P) w y5) := HN.out.trans hn5
        have HR5 := hn5.row HRW.out hB
        have HR5' : Hid (y5.heap[y.heap.size]? = _) := HR5
        have hB5 : y.heap.size ∉ F5 ++ P := fun e => by
          rcases hn5.2 _ e with h1 | h1
          · exact hB h1
          · have := heap_lt HRW.out; omega
        have hb5 : base ≤ y5.heap.size := Nat.le_trans hbr hn5.1.size
        clear hm5 hn5 HR5 hcj q0 q2
        go_wp2
        go_roundw
        case rel => exact ⟨j + 1, by omega, by go_num, F5, HM5.out, HN5.out, HR5'.out, hB5, hb5⟩
        case measure => simp [intOf]; omega
      · obtain rfl : j = 8 := by omega
        have d2 : decide (((8 : Nat) : Int) < 8) = false := by simp
        have HST : Hid (Calls Try.prog 13 #[(.pointer (some ⟨M, 0, none⟩)), .int .i64 (-1), .agg #[.int .i64 2, .int .i64 (((g.laid : Int) + 1) % (g.size : Int)), .int .i64 0], .int .i64 (2 * ((g.laid : Int) + 1))] wr fun e w' => e = .returned (.int .i64 (if isAd c g.size ⟨2, (((g.laid : Int) + 1) % (g.size : Int)), 0⟩ then 0 else 1)) ∧ ∃ F'', GM w' base (.pointer (some ⟨M, 0, none⟩)) c (storeL c g.size (sigL c g.size L (((g.laid : Int) + 1) % (g.size : Int)) sg 8) (-1) ⟨2, (((g.laid : Int) + 1) % (g.size : Int)), 0⟩ (2 * ((g.laid : Int) + 1))) F'' Gk ⟨g.size, g.l, g.laid + 1, g.done⟩ P ∧ Next (F' ++ P) (F'' ++ P) wr w') := gm_store HM.out hbr hLj (-1) ⟨2, (((g.laid : Int) + 1) % (g.size : Int)), 0⟩ (2 * ((g.laid : Int) + 1))
        generalize (if isAd c g.size ⟨2, (((g.laid : Int) + 1) % (g.size : Int)), 0⟩ = true then (0 : Int) else 1) = ea at *
        clear hr
        go_wp2_with fail
        refine HST.out.mono ?_
        rintro e y5 ⟨rfl, F5, hm5, hn5⟩
        have HE : Hid (∃ F' P', GM y5 base (.pointer (some ⟨M, 0, none⟩)) c (storeL c g.size (sigL c g.size L (((g.laid : Int) + 1) % (g.size : Int)) sg 8) (-1) ⟨2, (((g.laid : Int) + 1) % (g.size : Int)), 0⟩ (2 * ((g.laid : Int) + 1))) F' Gk ⟨g.size, g.l, g.laid + 1, g.done⟩ P' ∧ Next (F ++ P) (F' ++ P') w y5) := ⟨F5, P, hm5, HN.out.trans hn5⟩
        clear hm5 hn5 q0 q2
        go_wp2
        refine bodyPost_end (results_none rfl _ _ _) rfl ?_
        exact ⟨rfl, HE.out⟩
  · have d1 : ((g.laid : Int) == (g.l.length : Int)) = true := by simp; omega
    have hok : layOk g = false := by simp [layOk]; omega
    unfold layL layG
    rw [if_neg (by simp [hok]), if_neg (by simp [hok])]
    obtain ⟨a, cap, rfl⟩ := own_slice hg.own
    clear hg
    go_enter Try.func42, Try.ntmps42
    go_wp2
    go_quiet (fail)
    go_wp2
    refine bodyPost_ret (results_none rfl _ _ _) rfl ?_
    exact ⟨rfl, F, P, HH.out.below (below_drawn (Below.refl _ _) _), Next.of_below (below_drawn (Below.refl _ _) _) _⟩
end Go.Proofs.Ytfbbcjlbelnfaaa
