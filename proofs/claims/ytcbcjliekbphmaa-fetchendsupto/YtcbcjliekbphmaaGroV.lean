/- carouselgrow's Value: what the entries up to a stamp made of a cell. -/
import Derived.Test.YtcbcjliekbphmaaGroC
import Derived.RegionTactic
namespace Go.Proofs.Ytcbcjliekbphmaa
open Go.ChangeShapes Go.WideShapes Go.ChangeAt Go.RowKit
attribute [local go_sem ↓] Go.wp_at_zero Go.wp_at_succ

def wrV (cell v : Int) (W : List Wt) : Int := W.foldl (fun v x => if x.c = cell then x.v else v) v
def valV (cell : Int) (l : List GE) : Int := l.foldl (fun v e => wrV cell v e.w) 0
def valueV (g : GR) (cell stamp : Int) : Int := valV cell (g.l.take stamp.toNat)
theorem take_one {α : Type} (l : List α) (d : α) (k : Nat) (h : k < l.length) : l.take (k + 1) = l.take k ++ [l.getD k d] := by
  rw [List.take_add_one, List.getElem?_eq_getElem h, List.getD_eq_getElem?_getD, List.getElem?_eq_getElem h]
  rfl
theorem wrV_one (cell v : Int) (W : List Wt) (k : Nat) (h : k < W.length) : wrV cell v (W.take (k + 1)) = if (W.getD k noWt).c = cell then (W.getD k noWt).v else wrV cell v (W.take k) := by
  unfold wrV
  rw [take_one W noWt k h, List.foldl_append]
  rfl
theorem valV_one (cell : Int) (l : List GE) (k : Nat) (h : k < l.length) : valV cell (l.take (k + 1)) = wrV cell (valV cell (l.take k)) (l.getD k noGE).w := by
  unfold valV
  rw [take_one l noGE k h, List.foldl_append]
  rfl
theorem valV_stop (g : GR) (cell stamp : Int) (q : Nat) (hq : q ≤ g.l.length) (hs : q ≤ stamp.toNat) (h : ¬ (q < g.l.length ∧ (q : Int) < stamp)) : valV cell (g.l.take q) = valueV g cell stamp := by
  unfold valueV
  by_cases e : q = g.l.length
  · rw [List.take_of_length_le (by omega), List.take_of_length_le (by omega)]
  · rw [show stamp.toNat = q by omega]
/-- A write of an entry. -/
theorem GAt'.write {w : World} {base Gk : Nat} {g : GR} {P : List Nat} {v : Value} {us : List Value} (h : GAt' w base Gk g P v us) (i : Nat) (hi : i < g.l.length) :
    ∃ gb cap ua ucap, v = .slice (some ⟨gb, 0, none⟩) g.l.length cap ∧ gb < w.heap.size ∧ w.cell? ⟨gb, i * 10, none⟩ = some (.slice ua (g.l.getD i noGE).w.length ucap) ∧ (g.l.getD i noGE).w.length ≤ 4 ∧
      ∀ k, k < (g.l.getD i noGE).w.length → ∃ ub, ua = some ⟨ub, 0, none⟩ ∧ ub < w.heap.size ∧ w.cell? ⟨ub, k * 2, none⟩ = some (.int .i64 ((g.l.getD i noGE).w.getD k noWt).c) ∧ w.cell? ⟨ub, k * 2 + 1, none⟩ = some (.int .i64 ((g.l.getD i noGE).w.getD k noWt).v) := by
  obtain ⟨gb, cap, ua, ucap, rfl, e0, _, _, hgb, hu⟩ := h.head i hi
  have hw := h.ws i hi
  rw [hu] at hw
  have ho4 : (g.l.getD i noGE).w.length ≤ 4 := (h.ok _ (by rw [List.getD_eq_getElem?_getD, List.getElem?_eq_getElem hi]; exact List.getElem_mem _)).2.2
  refine ⟨gb, cap, ua, ucap, rfl, hgb, e0, ho4, fun k hk => ?_⟩
  obtain ⟨ub, ucap', hform, hub, hubl⟩ := hw.form (by omega)
  obtain ⟨rfl, rfl⟩ : ua = some ⟨ub, 0, none⟩ ∧ ucap = ucap' := by simpa using hform
  obtain ⟨t0, t1⟩ := wtC_get (g.l.getD i noGE).w k hk
  exact ⟨ub, rfl, hubl, own_cells hw _ _ t0, own_cells hw _ _ t1⟩
theorem v_meas {q n : Nat} (h : q < n) : n - (q + 1) < n - q := by omega
theorem v_wrap {q n : Nat} (h : q < n) (hn : n ≤ 1073741824) : wrap64 ((q : Int) + 1) = (q : Int) + 1 := by unfold wrap64; omega
set_option maxRecDepth 10000 in
set_option maxHeartbeats 3200000 in
theorem value_any {w : World} {base Gk : Nat} {g : GR} {P : List Nat} (h : GAt w base Gk g P) (hk : GOk g) (cell stamp : Int) :
    Calls Try.prog 22 #[.pointer (some ⟨Gk, 0, none⟩), .int .i64 cell, .int .i64 stamp] w fun e w' => e = .returned (.int .i64 (valueV g cell stamp)) ∧ Below w.heap.size w w' := by
  obtain ⟨v, us, hg⟩ := h
  obtain ⟨va, vcap, rfl⟩ := own_slice hg.own
  have HG : Hid (∀ w', Below w.heap.size w w' → GAt' w' base Gk g P (.slice va g.l.length vcap) us) := fun w' hb => by
    have hm := row_on hg.m hb
    exact ⟨hm, own_keep hg.own (Keep.of_below hb []) (fun _ _ => by simp), hg.ulen, fun i hi => own_keep (hg.ws i hi) (Keep.of_below hb []) (fun _ _ => by simp), hg.P, hg.lo, hg.ok⟩
  have hlen := hk.len
  have HST : Hid (∀ q, q ≤ g.l.length → q ≤ stamp.toNat → ¬ (q < g.l.length ∧ (q : Int) < stamp) → valV cell (g.l.take q) = valueV g cell stamp) := fun q h1 h2 h3 => valV_stop g cell stamp q h1 h2 h3
  have HV1 : Hid (∀ q, q < g.l.length → valV cell (g.l.take (q + 1)) = wrV cell (valV cell (g.l.take q)) (g.l.getD q noGE).w) := fun q h => valV_one cell g.l q h
  generalize valueV g cell stamp = res at *
  obtain ⟨n, hn⟩ : ∃ n, g.l.length = n := ⟨_, rfl⟩
  clear hg hk
  rw [hn] at hlen
  have HLN : Hid (n ≤ 1073741824) := hlen
  clear hlen
  go_enter Try.func22, Try.ntmps22
  go_wp2
  go_loopw [7, 8] (fun vv iv wr => ∃ q : Nat, q ≤ n ∧ q ≤ stamp.toNat ∧ iv = .int .i64 q ∧ vv = .int .i64 (valV cell (g.l.take q)) ∧ Below w.heap.size w wr) (fun _ iv _ => n - (intOf iv).toNat)
  case atStart => exact ⟨0, Nat.zero_le _, Nat.zero_le _, rfl, rfl, Below.refl _ _⟩
  case round =>
    obtain ⟨q, hq, hqs, rfl, rfl, hb⟩ := hrel
    have HB : Hid (Below w.heap.size w wr) := hb
    have hg := HG.out wr hb
    have hg1 := hg.cells.1.2.1
    rw [hn] at hg1
    have hGr : Gk < wr.heap.size := heap_lt hg.m
    by_cases hlt : q < n
    · have d1 : decide ((q : Int) < (n : Int)) = true := decide_eq_true (Int.ofNat_lt.2 hlt)
      have hltI : (q : Int) < (n : Int) := Int.ofNat_lt.2 hlt
      by_cases hst : (q : Int) < stamp
      · have d2 : decide ((q : Int) < stamp) = true := decide_eq_true hst
        have hw1 : wrap64 ((q : Int) + 1) = (q : Int) + 1 := v_wrap hlt HLN.out
        have HQ2 : Hid (q + 1 ≤ stamp.toNat ∧ q + 1 ≤ n) := ⟨by omega, by omega⟩
        have HVQ : Hid (valV cell (g.l.take (q + 1)) = wrV cell (valV cell (g.l.take q)) (g.l.getD q noGE).w) := HV1.out q (by rw [hn]; exact hlt)
        clear hb hg hst
        generalize valV cell (g.l.take q) = v0 at *
        have HWR : Hid (∀ w', Below w.heap.size w w' → ∃ gb cap ua ucap, Value.slice va n vcap = .slice (some ⟨gb, 0, none⟩) n cap ∧ gb < w'.heap.size ∧ w'.cell? ⟨gb, q * 10, none⟩ = some (.slice ua (g.l.getD q noGE).w.length ucap) ∧ (g.l.getD q noGE).w.length ≤ 4 ∧ (∀ k, k < (g.l.getD q noGE).w.length → ∃ ub, ua = some ⟨ub, 0, none⟩ ∧ ub < w'.heap.size ∧ w'.cell? ⟨ub, k * 2, none⟩ = some (.int .i64 ((g.l.getD q noGE).w.getD k noWt).c) ∧ w'.cell? ⟨ub, k * 2 + 1, none⟩ = some (.int .i64 ((g.l.getD q noGE).w.getD k noWt).v)) ∧ w'.cell? ⟨Gk, 1, none⟩ = some (.slice va n vcap) ∧ Gk < w'.heap.size) := fun w' hb => by
          have hg' := HG.out w' hb
          obtain ⟨gb, cap, ua, ucap, h1, h2, h3, h4, h5⟩ := hg'.write q (by rw [hn]; exact hlt)
          rw [hn] at h1
          have h6 := hg'.cells.1.2.1
          rw [hn] at h6
          exact ⟨gb, cap, ua, ucap, h1, h2, h3, h4, h5, h6, heap_lt hg'.m⟩
        generalize (g.l.getD q noGE).w = W at *
        go_wp2
        obtain ⟨wo, rfl⟩ : ∃ wo, wo = wr := ⟨_, rfl⟩
        go_loopw [7, 9] (fun vv kv wr => ∃ k : Nat, k ≤ W.length ∧ kv = .int .i64 k ∧ vv = .int .i64 (wrV cell v0 (W.take k)) ∧ Below w.heap.size w wr) (fun _ kv _ => W.length - (intOf kv).toNat)
        case atStart => exact ⟨0, Nat.zero_le _, rfl, rfl, HB.out⟩
        case round =>
          obtain ⟨k, hk, rfl, rfl, hb2⟩ := hrel
          have HB2 : Hid (Below w.heap.size w wr) := hb2
          obtain ⟨gb, cap, ua, ucap, h1, hgb, e0, h4, h5, h6, hGk2⟩ := HWR.out wr hb2
          simp only [Value.slice.injEq] at h1
          obtain ⟨rfl, _, rfl⟩ := h1
          clear hb2 hg1 hGr HB
          by_cases hkl : k < W.length
          · obtain ⟨ub, rfl, hub, u0, u1⟩ := h5 k hkl
            have HWO : Hid (wrV cell v0 (W.take (k + 1)) = if (W.getD k noWt).c = cell then (W.getD k noWt).v else wrV cell v0 (W.take k)) := wrV_one cell v0 W k hkl
            have d3 : decide ((k : Int) < (W.length : Int)) = true := decide_eq_true (Int.ofNat_lt.2 hkl)
            have hkI : (k : Int) < (W.length : Int) := Int.ofNat_lt.2 hkl
            have hw2 : wrap64 ((k : Int) + 1) = (k : Int) + 1 := v_wrap hkl (by omega)
            have HM : Hid (k + 1 ≤ W.length ∧ W.length - (k + 1) < W.length - k) := ⟨hkl, v_meas hkl⟩
            clear h5 hkl hk h4
            generalize wrV cell v0 (W.take k) = v1 at *
            generalize (W.getD k noWt).c = wc at *
            generalize (W.getD k noWt).v = wv at *
            by_cases hc : wc = cell
            · have dc : (wc == cell) = true := by simpa using hc
              rw [if_pos hc] at HWO
              clear hc
              generalize W.length = lw at *
              go_wp2
              go_roundw
              case rel => exact ⟨k + 1, HM.out.1, by rw [hw2]; go_num, by rw [HWO.out], HB2.out⟩
              case measure => have := HM.out.2; rw [hw2]; simp [intOf]; omega
            · have dc : (wc == cell) = false := by simpa using hc
              rw [if_neg hc] at HWO
              clear hc
              generalize W.length = lw at *
              go_wp2
              go_roundw
              case rel => exact ⟨k + 1, HM.out.1, by rw [hw2]; go_num, by rw [HWO.out], HB2.out⟩
              case measure => have := HM.out.2; rw [hw2]; simp [intOf]; omega
          · obtain rfl : k = W.length := by omega
            have d3 : decide ((W.length : Int) < (W.length : Int)) = false := decide_eq_false (by omega)
            have HWT : Hid (W.take W.length = W) := List.take_length
            clear h5 h4 hkl hk
            go_wp2
            go_roundw
            case rel => exact ⟨q + 1, HQ2.out.2, HQ2.out.1, by rw [hw1]; go_num, by rw [HVQ.out, HWT.out], HB2.out⟩
            case measure => have := v_meas hlt; rw [hw1]; simp [intOf]; omega
      · have d2 : decide ((q : Int) < stamp) = false := decide_eq_false hst
        have HE : Hid (valV cell (g.l.take q) = res) := HST.out q (by omega) hqs (fun h => hst h.2)
        clear hb hg hst
        go_wp2
        go_ret
        exact ⟨by rw [HE.out]; rfl, HB.out⟩
    · obtain rfl : q = n := by omega
      have d1 : decide ((q : Int) < (q : Int)) = false := decide_eq_false (by omega)
      have HE : Hid (valV cell (g.l.take q) = res) := HST.out q (by omega) hqs (fun h => by omega)
      clear hb hg
      go_wp2
      go_ret
      exact ⟨by rw [HE.out]; rfl, HB.out⟩
end Go.Proofs.Ytcbcjliekbphmaa
