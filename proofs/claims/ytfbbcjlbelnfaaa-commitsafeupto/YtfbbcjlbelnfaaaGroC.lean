/- carouselgrow: back. -/
import Derived.Test.YtfbbcjlbelnfaaaGroB
import Derived.BigRegion
import Derived.Deep.Cut
import Derived.Deep.CutRange
import Derived.Deep.DeepCutAuto
import Derived.Deep.CutBlock
namespace Go.Proofs.Ytfbbcjlbelnfaaa
open Go.ChangeShapes Go.WideShapes Go.ChangeAt Go.RowKit
attribute [local go_sem ↓] Go.wp_at_zero Go.wp_at_succ

def backOk (g : GR) : Bool := decide (g.done < g.laid) && decide ((curE g).b < (curE g).w.length)
def backG (g : GR) : GR := if backOk g then ⟨g.size, bump g.l g.done, g.laid, g.done⟩ else g
def curW (g : GR) : Wt := (curE g).w.getD (curE g).b noWt
def backL (c : Nat) (g : GR) (L : List Ac) : List Ac := if backOk g then storeL c g.size L (-1) ⟨4, (curW g).c, 0⟩ (curW g).v else L
theorem bump_len (l : List GE) (i : Nat) : (bump l i).length = l.length := by simp [bump]
theorem bump_get (l : List GE) (i j : Nat) (hj : j < l.length) : ((bump l i).getD j noGE).w = (l.getD j noGE).w ∧ ((bump l i).getD j noGE).s = (l.getD j noGE).s := by
  unfold bump
  by_cases e : i = j
  · subst e
    simp [List.getD_eq_getElem?_getD, hj]
  · simp [List.getD_eq_getElem?_getD, List.getElem?_set_ne e]
theorem gown_put {w : World} {base g n cap s : Nat} {e : TypeId} {xs : List Value} (h : w.ownsRow base e s (.slice (some ⟨g, 0, none⟩) n cap) n xs) (o : Nat) (v : Value) : (w.setCell ⟨g, o, none⟩ v).ownsRow base e s (.slice (some ⟨g, 0, none⟩) n cap) n (xs.set o v) := by
  refine ⟨by rw [List.length_set]; exact h.1, ?_⟩
  rcases h.2 with ⟨e, _⟩ | ⟨g', cap', cur, e, hb, hg, h1, h2, h3, h4⟩
  · cases e
  · simp at e
    obtain ⟨rfl, rfl⟩ := e
    refine Or.inr ⟨g, cap, cur.setIfInBounds o v, rfl, hb, heap_set hg o v, h1, h2, by simpa using h3, ?_⟩
    rw [← h4, Array.toList_setIfInBounds, List.take_set]
theorem own_block_type {w : World} {base n s : Nat} {e : TypeId} {v : Value} {xs : List Value} {b : Nat} (h : w.ownsRow base e s v n xs) (hb : v.ownBlock = some b) : ∃ cur, w.heap[b]? = some (.cells cur e (0, 0)) := by
  rcases h.2 with ⟨rfl, _⟩ | ⟨g, cap, cur, rfl, _, hg, _⟩
  · simp [Value.ownBlock] at hb
  · simp [Value.ownBlock] at hb
    subst hb
    exact ⟨cur, hg⟩
theorem back_set {w : World} {base Gk : Nat} {g : GR} {P : List Nat} {us : List Value} {gb cap : Nat} (h : GAt' w base Gk g P (.slice (some ⟨gb, 0, none⟩) g.l.length cap) us) (i : Nat) (hi : i < g.l.length) (hb : (g.l.getD i noGE).b < (g.l.getD i noGE).w.length) :
    GAt (w.setCell ⟨gb, i * 10 + 9, none⟩ (.int .i64 (((g.l.getD i noGE).b : Int) + 1))) base Gk ⟨g.size, bump g.l i, g.laid, g.done⟩ P ∧ Next P P w (w.setCell ⟨gb, i * 10 + 9, none⟩ (.int .i64 (((g.l.getD i noGE).b : Int) + 1))) := by
  have k : Keep [gb] w (w.setCell ⟨gb, i * 10 + 9, none⟩ (.int .i64 (((g.l.getD i noGE).b : Int) + 1))) := (Keep.refl _ _).setCell _ _ (Or.inl (by simp))
  obtain ⟨cur, hcur⟩ := own_block_type h.own (b := gb) rfl
  have hne : Gk ≠ gb := fun e => own_ne h.own h.m (by decide) (by rw [e]; rfl)
  refine ⟨⟨_, us, ?_, ?_, by rw [h.ulen, bump_len], fun j hj => ?_, h.P, h.lo, fun e he => ?_⟩, k.mono (fun b hb => by simp at hb; subst hb; rw [h.P]; simp [Value.ownBlock]), fun b hb => Or.inl hb⟩
  · rw [k.block _ (heap_lt h.m) (by simpa using hne)]; exact h.m
  · rw [bump_len, ← gesC_bump us g.l h.ulen h.okS i hi]
    exact gown_put h.own _ _
  · have hj' : j < g.l.length := by rw [bump_len] at hj; exact hj
    rw [(bump_get g.l i j hj').1]
    exact own_keep (h.ws j hj') k (fun b hb e => by
      simp at e; subst e
      exact own_ne (h.ws j hj') hcur (by decide) hb)
  · obtain ⟨j, hj, rfl⟩ := List.getElem_of_mem he
    have hj' : j < g.l.length := by simpa [bump_len] using hj
    have he0 : (bump g.l i)[j] = if i = j then ⟨(g.l.getD i noGE).w, (g.l.getD i noGE).s, (g.l.getD i noGE).b + 1⟩ else g.l[j] := by simp [bump, List.getElem_set]
    show Sg.Ok (bump g.l i)[j].s ∧ (bump g.l i)[j].b ≤ (bump g.l i)[j].w.length ∧ (bump g.l i)[j].w.length ≤ 4
    rw [he0]
    have hmem : g.l.getD i noGE ∈ g.l := by
      have : g.l.getD i noGE = g.l[i] := by simp [List.getD_eq_getElem?_getD, hi]
      rw [this]; exact List.getElem_mem hi
    split
    · obtain ⟨o1, o2, o3⟩ := h.ok _ hmem
      exact ⟨o1, by simp only; omega, o3⟩
    · exact h.ok _ (List.getElem_mem hj')
/-- What is read of an entry: its writes' slice, and how many are written back. -/
theorem GAt'.head {w : World} {base Gk : Nat} {g : GR} {P : List Nat} {v : Value} {us : List Value} (h : GAt' w base Gk g P v us) (i : Nat) (hi : i < g.l.length) :
    ∃ gb cap ua ucap, v = .slice (some ⟨gb, 0, none⟩) g.l.length cap ∧ w.cell? ⟨gb, i * 10, none⟩ = some (.slice ua (g.l.getD i noGE).w.length ucap) ∧ w.cell? ⟨gb, i * 10 + 9, none⟩ = some (.int .i64 ((g.l.getD i noGE).b : Int)) ∧ w.frozen? ⟨gb, i * 10 + 9, none⟩ = false ∧ gb < w.heap.size ∧ us.getD i nilS = .slice ua (g.l.getD i noGE).w.length ucap := by
  obtain ⟨gb, cap, rfl, _, hgbl, hcell, hfr⟩ := h.entry i hi
  obtain ⟨ua, ucap, hu⟩ := own_slice (h.ws i hi)
  have hle : (Sg.sc (g.l.getD i noGE).s).toList.length = 8 := by
    have hO : Sg.Ok (g.l.getD i noGE).s := h.okS _ (by rw [List.getD_eq_getElem?_getD, List.getElem?_eq_getElem hi]; exact List.getElem_mem _)
    rw [Array.length_toList, Sg.sc_size, hO.1]
  refine ⟨gb, cap, ua, ucap, rfl, ?_, ?_, hfr _, hgbl, hu⟩
  · have := hcell 0 (by decide)
    rw [hu] at this
    simpa [geC] using this
  · rw [hcell 9 (by decide)]
    unfold geC
    rw [List.getElem?_cons_succ, List.getElem?_append_right (by omega), hle]
    rfl

set_option maxRecDepth 10000 in
set_option maxHeartbeats 3200000 in
theorem gback_any {w : World} {base : Nat} {p : Value} {c : Nat} {L : List Ac} {F : List Nat} {Gk : Nat} {g : GR} {P : List Nat} (h : GM w base p c L F Gk g P) (hb : base ≤ w.heap.size) (hL : L.length < 3298534883328) (hk : GOk g) :
    Calls Try.prog 43 #[.pointer (some ⟨Gk, 0, none⟩), p] w fun e w' => e = .returned (.tuple #[]) ∧ ∃ F' P', GM w' base p c (backL c g L) F' Gk (backG g) P' ∧ Next (F ++ P) (F' ++ P') w w' := by
  obtain ⟨v, us, hg⟩ := h.gr
  obtain ⟨⟨k0, k1, k2, k3⟩, z1, z2, z3⟩ := hg.cells
  have hGk : Gk < w.heap.size := heap_lt hg.m
  have HH : Hid (GM w base p c L F Gk g P) := h
  have HG : Hid (GAt' w base Gk g P v us) := hg
  have hda := hk.da
  have han := hk.an
  have hlen := hk.len
  obtain ⟨M, rfl⟩ := h.mem.ptr
  clear h
  by_cases hd : g.done < g.laid
  · have d1 : decide ((g.done : Int) < (g.laid : Int)) = true := by simp; omega
    obtain ⟨gb, cap, ua, ucap, rfl, e0, e9, f9, hgbl, hu⟩ := hg.head g.done (by omega)
    change w.cell? ⟨gb, g.done * 10, none⟩ = some (.slice ua (curE g).w.length ucap) at e0
    change w.cell? ⟨gb, g.done * 10 + 9, none⟩ = some (.int .i64 ((curE g).b : Int)) at e9
    have hw := hg.ws g.done (by omega)
    have ho4 : (curE g).w.length ≤ 4 := (hg.ok _ (by unfold curE; rw [List.getD_eq_getElem?_getD, List.getElem?_eq_getElem (by omega)]; exact List.getElem_mem _)).2.2
    rw [hu] at hw
    change w.ownsRow base 117 2 (.slice ua (curE g).w.length ucap) (curE g).w.length (wtC (curE g).w) at hw
    clear hg hu
    have hx1 : (g.done : Int) < (g.l.length : Int) := by omega
    by_cases hbw : (curE g).b < (curE g).w.length
    · have d2 : decide (((curE g).b : Int) < ((curE g).w.length : Int)) = true := by simp; omega
      have hok : backOk g = true := by simp [backOk, hd, hbw]
      unfold backL backG
      rw [if_pos hok, if_pos hok]
      obtain ⟨ub, ucap', hform, hub, hubl⟩ := hw.form (by omega)
      obtain ⟨rfl, rfl⟩ : ua = some ⟨ub, 0, none⟩ ∧ ucap = ucap' := by simpa using hform
      obtain ⟨t0, t1⟩ := wtC_get (curE g).w (curE g).b hbw
      have u0 := own_cells hw _ _ t0
      have u1 := own_cells hw _ _ t1
      change w.cell? ⟨ub, (curE g).b * 2, none⟩ = some (.int .i64 (curW g).c) at u0
      change w.cell? ⟨ub, (curE g).b * 2 + 1, none⟩ = some (.int .i64 (curW g).v) at u1
      have hx2 : ((curE g).b : Int) < ((curE g).w.length : Int) := by omega
      have hwl : (curE g).b < 1000 := by omega
      clear hform t0 t1 hw
      go_enter Try.func43, Try.ntmps43
      go_wp2
      go_quiet (fail)
      go_wp2_with fail
      have HHy : Hid (GM (w.drewN nq) base (.pointer (some ⟨M, 0, none⟩)) c L F Gk g P) := HH.out.below (below_drawn (Below.refl _ _) nq)
      have HNy : Hid (Next (F ++ P) (F ++ P) w (w.drewN nq)) := Next.of_below (below_drawn (Below.refl _ _) nq) _
      replace k1 : (w.drewN nq).cell? ⟨Gk, 1, none⟩ = some (.slice (some ⟨gb, 0, none⟩) g.l.length cap) := k1
      replace k3 : (w.drewN nq).cell? ⟨Gk, 3, none⟩ = some (.int .i64 (g.done : Int)) := k3
      replace e0 : (w.drewN nq).cell? ⟨gb, g.done * 10, none⟩ = some (.slice (some ⟨ub, 0, none⟩) (curE g).w.length ucap) := e0
      replace e9 : (w.drewN nq).cell? ⟨gb, g.done * 10 + 9, none⟩ = some (.int .i64 ((curE g).b : Int)) := e9
      replace u0 : (w.drewN nq).cell? ⟨ub, (curE g).b * 2, none⟩ = some (.int .i64 (curW g).c) := u0
      replace u1 : (w.drewN nq).cell? ⟨ub, (curE g).b * 2 + 1, none⟩ = some (.int .i64 (curW g).v) := u1
      replace hGk : Gk < (w.drewN nq).heap.size := hGk
      replace hgbl : gb < (w.drewN nq).heap.size := hgbl
      replace hubl : ub < (w.drewN nq).heap.size := hubl
      replace hb : base ≤ (w.drewN nq).heap.size := hb
      clear k0 k2 z1 z2 z3 f9 HG
      generalize w.drewN nq = y at *
      go_cut [4] (fun s4 wx => s4 = .pointer (some ⟨y.heap.size, 0, none⟩) ∧ wx = (y.alloc (.cells #[.int .i64 (curW g).c, .int .i64 (curW g).v] 117)).drew)
      case first =>
        go_region
        go_wp2_with fail
        go_meet
        exact ⟨rfl, rfl⟩
      case rest =>
      obtain ⟨rfl, rfl⟩ := hcut
      have bl : Below y.heap.size y (y.alloc (.cells #[.int .i64 (curW g).c, .int .i64 (curW g).v] 117)).drew := below_drawn (below_a1 _ _) 1
      have HH2 : Hid (GM (y.alloc (.cells #[.int .i64 (curW g).c, .int .i64 (curW g).v] 117)).drew base (.pointer (some ⟨M, 0, none⟩)) c L F Gk g P) := HHy.out.below bl
      have HN2 : Hid (Next (F ++ P) (F ++ P) w (y.alloc (.cells #[.int .i64 (curW g).c, .int .i64 (curW g).v] 117)).drew) := HNy.out.trans (Next.of_below bl _)
      have hrow : (y.alloc (.cells #[.int .i64 (curW g).c, .int .i64 (curW g).v] 117)).drew.heap[y.heap.size]? = some (.cells #[.int .i64 (curW g).c, .int .i64 (curW g).v] 117 (0, 0)) := heap_alloc_new y _
      have b0 : (y.alloc (.cells #[.int .i64 (curW g).c, .int .i64 (curW g).v] 117)).drew.cell? ⟨y.heap.size, 0, none⟩ = some (.int .i64 (curW g).c) := by rw [cell_at hrow]; rfl
      have b1 : (y.alloc (.cells #[.int .i64 (curW g).c, .int .i64 (curW g).v] 117)).drew.cell? ⟨y.heap.size, 1, none⟩ = some (.int .i64 (curW g).v) := by rw [cell_at hrow]; rfl
      have hb2 : base ≤ (y.alloc (.cells #[.int .i64 (curW g).c, .int .i64 (curW g).v] 117)).drew.heap.size := Nat.le_trans hb bl.size
      clear bl hrow k1 k3 e0 e9 u0 u1
      generalize (y.alloc (.cells #[.int .i64 (curW g).c, .int .i64 (curW g).v] 117)).drew = y2 at *
      have HST : Hid (Calls Try.prog 13 #[.pointer (some ⟨M, 0, none⟩), .int .i64 (-1), .agg #[.int .i64 4, .int .i64 (curW g).c, .int .i64 0], .int .i64 (curW g).v] y2 fun e w' => e = .returned (.int .i64 (if isAd c g.size ⟨4, (curW g).c, 0⟩ then 0 else 1)) ∧ ∃ F', GM w' base (.pointer (some ⟨M, 0, none⟩)) c (storeL c g.size L (-1) ⟨4, (curW g).c, 0⟩ (curW g).v) F' Gk g P ∧ Next (F ++ P) (F' ++ P) y2 w') := gm_store HH2.out hb2 hL (-1) ⟨4, (curW g).c, 0⟩ (curW g).v
      generalize (if isAd c g.size ⟨4, (curW g).c, 0⟩ = true then (0 : Int) else 1) = ea at *
      go_wp2_with fail
      refine HST.out.mono ?_
      rintro e y3 ⟨rfl, F3, hm3, hn3⟩
      have HM3 : Hid (GM y3 base (.pointer (some ⟨M, 0, none⟩)) c (storeL c g.size L (-1) ⟨4, (curW g).c, 0⟩ (curW g).v) F3 Gk g P) := hm3
      have HN3 : Hid (Next (F ++ P) (F3 ++ P) w y3) := HN2.out.trans hn3
      obtain ⟨v3, us3, hg3⟩ := hm3.gr
      obtain ⟨⟨j0, j1, j2, j3⟩, _⟩ := hg3.cells
      obtain ⟨gb3, cap3, ua3, ucap3, rfl, _, e39, f39, hgb3, _⟩ := hg3.head g.done (by omega)
      change y3.cell? ⟨gb3, g.done * 10 + 9, none⟩ = some (.int .i64 ((curE g).b : Int)) at e39
      have hGk3 : Gk < y3.heap.size := heap_lt hg3.m
      have HG3 : Hid (GAt' y3 base Gk g P (.slice (some ⟨gb3, 0, none⟩) g.l.length cap3) us3) := hg3
      have hwr : IntKind.i64.wrap (((curE g).b : Int) + 1) = ((curE g).b : Int) + 1 := by rw [IntKind.wrap_i64]; omega
      clear hm3 hn3 hg3 b0 b1 j0 j2
      go_wp2_with fail
      go_region
      obtain ⟨hg4, hn4⟩ := back_set HG3.out g.done (by omega) hbw
      change GAt (y3.setCell ⟨gb3, g.done * 10 + 9, none⟩ (.int .i64 (((curE g).b : Int) + 1))) base Gk ⟨g.size, bump g.l g.done, g.laid, g.done⟩ P at hg4
      have HM4 := HM3.out.onGr (g' := ⟨g.size, bump g.l g.done, g.laid, g.done⟩) rfl hg4 hn4
      have HE : Hid (∃ F' P', GM (y3.setCell ⟨gb3, g.done * 10 + 9, none⟩ (.int .i64 (((curE g).b : Int) + 1))).drew base (.pointer (some ⟨M, 0, none⟩)) c (storeL c g.size L (-1) ⟨4, (curW g).c, 0⟩ (curW g).v) F' Gk ⟨g.size, bump g.l g.done, g.laid, g.done⟩ P' ∧ Next (F ++ P) (F' ++ P') w (y3.setCell ⟨gb3, g.done * 10 + 9, none⟩ (.int .i64 (((curE g).b : Int) + 1))).drew) :=
        ⟨F3, P, HM4.below (below_drawn (Below.refl _ _) 1), (HN3.out.trans hn4.right).trans (Next.of_below (below_drawn (Below.refl _ _) 1) _)⟩
      clear HM4 hg4 hn4
      go_wp2
      refine bodyPost_end (results_none rfl _ _ _) rfl ?_
      exact ⟨rfl, HE.out⟩
    · have d2 : decide (((curE g).b : Int) < ((curE g).w.length : Int)) = false := by simp; omega
      have hok : backOk g = false := by simp [backOk, hbw]
      unfold backL backG
      rw [if_neg (by simp [hok]), if_neg (by simp [hok])]
      go_enter Try.func43, Try.ntmps43
      go_wp2
      go_quiet (fail)
      go_wp2
      refine bodyPost_end (results_none rfl _ _ _) rfl ?_
      exact ⟨rfl, F, P, HH.out.below (below_drawn (Below.refl _ _) _), Next.of_below (below_drawn (Below.refl _ _) _) _⟩
  · have d1 : decide ((g.done : Int) < (g.laid : Int)) = false := by simp; omega
    have hok : backOk g = false := by simp [backOk, hd]
    unfold backL backG
    rw [if_neg (by simp [hok]), if_neg (by simp [hok])]
    go_enter Try.func43, Try.ntmps43
    go_wp2
    go_quiet (fail)
    go_wp2
    refine bodyPost_end (results_none rfl _ _ _) rfl ?_
    exact ⟨rfl, F, P, HH.out.below (below_drawn (Below.refl _ _) _), Next.of_below (below_drawn (Below.refl _ _) _) _⟩
end Go.Proofs.Ytfbbcjlbelnfaaa
