/- carouselgrow's Shares: has one of the entries above a stamp, up to another one, a bit that a signature has? -/
import Derived.Test.YtfbbcjlbelnfaaaGroB
import Derived.Test.YtfbbcjlbelnfaaaJSigVSigL
import Derived.Test.YtfbbcjlbelnfaaaJCqSCqE
import Derived.RegionTactic
namespace Go.Proofs.Ytfbbcjlbelnfaaa
open Go.ChangeShapes Go.WideShapes Go.ChangeAt Go.RowKit
attribute [local go_sem ↓] Go.wp_at_zero Go.wp_at_succ

def shareAt (g : GR) (a b : Int) (rd : List Nat) (i : Nat) : Bool := decide (a < (i : Int) + 1) && decide ((i : Int) + 1 ≤ b) && !(Sg.meet (g.l.getD i noGE).s rd == Sg.nought)
def sharesV (g : GR) (a b : Int) (rd : List Nat) : Bool := (List.range g.l.length).any (shareAt g a b rd)
theorem shares_yes {g : GR} {a b : Int} {rd : List Nat} {i : Nat} (hi : i < g.l.length) (h : shareAt g a b rd i = true) : sharesV g a b rd = true := List.any_eq_true.2 ⟨i, by simpa using hi, h⟩
theorem shares_no {g : GR} {a b : Int} {rd : List Nat} (h : ∀ i, i < g.l.length → shareAt g a b rd i = false) : sharesV g a b rd = false := by
  unfold sharesV
  rw [List.any_eq_false]
  intro i hi
  rw [h i (by simpa using hi)]
  simp
theorem entry_sig {w : World} {base Gk : Nat} {g : GR} {P : List Nat} {v : Value} {us : List Value} (h : GAt' w base Gk g P v us) (i : Nat) (hi : i < g.l.length) :
    ∃ gb cap, v = .slice (some ⟨gb, 0, none⟩) g.l.length cap ∧ gb < w.heap.size ∧ ∀ j, j < 8 → w.cell? ⟨gb, i * 10 + (1 + j), none⟩ = some (.int .u64 (((g.l.getD i noGE).s.getD j 0 : Nat) : Int)) := by
  obtain ⟨gb, cap, e, _, hlt, hc, _⟩ := h.entry i hi
  refine ⟨gb, cap, e, hlt, fun j hj => ?_⟩
  have hok : Sg.Ok (g.l.getD i noGE).s := h.okS _ (by
    have : g.l.getD i noGE = g.l[i] := by simp [List.getD_eq_getElem?_getD, hi]
    rw [this]; exact List.getElem_mem hi)
  rw [hc (1 + j) (by omega)]
  unfold geC
  rw [show 1 + j = j + 1 by omega, List.getElem?_cons_succ, List.getElem?_append_left (by rw [Array.length_toList, Sg.sc_size, hok.1]; exact hj)]
  have := Sg.sc_get (g.l.getD i noGE).s j (by rw [hok.1]; exact hj)
  simpa using this
theorem ok_entry {w : World} {base Gk : Nat} {g : GR} {P : List Nat} {v : Value} {us : List Value} (h : GAt' w base Gk g P v us) (i : Nat) (hi : i < g.l.length) : Sg.Ok (g.l.getD i noGE).s := h.okS _ (by
    have : g.l.getD i noGE = g.l[i] := by simp [List.getD_eq_getElem?_getD, hi]
    rw [this]; exact List.getElem_mem hi)
set_option maxRecDepth 10000 in
set_option maxHeartbeats 3200000 in
theorem shares_any {w : World} {base Gk : Nat} {g : GR} {P : List Nat} (h : GAt w base Gk g P) (hk : GOk g) (a b : Int) (rd : List Nat) (hr : Sg.Ok rd) :
    Calls Try.prog 23 #[.pointer (some ⟨Gk, 0, none⟩), .int .i64 a, .int .i64 b, .agg #[rdV rd 0, rdV rd 1, rdV rd 2, rdV rd 3, rdV rd 4, rdV rd 5, rdV rd 6, rdV rd 7]] w fun e w' => e = .returned (.bool (sharesV g a b rd)) ∧ Below w.heap.size w w' := by
  obtain ⟨v, us, hg⟩ := h
  obtain ⟨va, vcap, rfl⟩ := own_slice hg.own
  have HG : Hid (∀ w', Below w.heap.size w w' → GAt' w' base Gk g P (.slice va g.l.length vcap) us) := fun w' hb => by
    have hm := row_on hg.m hb
    exact ⟨hm, own_keep hg.own (Keep.of_below hb []) (fun _ _ => by simp), hg.ulen, fun i hi => own_keep (hg.ws i hi) (Keep.of_below hb []) (fun _ _ => by simp), hg.P, hg.lo, hg.ok⟩
  have HM : Hid (∀ i, i < g.l.length → ∀ w, Calls Try.prog 45 #[.agg #[rdV (g.l.getD i noGE).s 0, rdV (g.l.getD i noGE).s 1, rdV (g.l.getD i noGE).s 2, rdV (g.l.getD i noGE).s 3, rdV (g.l.getD i noGE).s 4, rdV (g.l.getD i noGE).s 5, rdV (g.l.getD i noGE).s 6, rdV (g.l.getD i noGE).s 7], .agg #[rdV rd 0, rdV rd 1, rdV rd 2, rdV rd 3, rdV rd 4, rdV rd 5, rdV rd 6, rdV rd 7]] w fun e w' => e = .returned (.bool (!(Sg.meet (g.l.getD i noGE).s rd == Sg.nought))) ∧ Below w.heap.size w w') := fun i hi w => by
    have ho := ok_entry hg i hi
    rw [rd_cells ho.1, rd_cells hr.1]
    exact Sg.rmeets_any _ _ ho hr w
  have HY : Hid (∀ i, i < g.l.length → shareAt g a b rd i = true → sharesV g a b rd = true) := fun i hi h => shares_yes hi h
  have HNO : Hid ((∀ i, i < g.l.length → shareAt g a b rd i = false) → sharesV g a b rd = false) := shares_no
  have HSA : Hid (∀ i, shareAt g a b rd i = (decide (a < (i : Int) + 1) && decide ((i : Int) + 1 ≤ b) && !(Sg.meet (g.l.getD i noGE).s rd == Sg.nought))) := fun _ => rfl
  have hlen := hk.len
  have hGk : Gk < w.heap.size := heap_lt hg.m
  generalize sharesV g a b rd = sv at *
  obtain ⟨n, hn⟩ : ∃ n, g.l.length = n := ⟨_, rfl⟩
  clear hg hk
  unfold rdV at HM ⊢
  generalize rd.getD 0 0 = n0 at *
  generalize rd.getD 1 0 = n1 at *
  generalize rd.getD 2 0 = n2 at *
  generalize rd.getD 3 0 = n3 at *
  generalize rd.getD 4 0 = n4 at *
  generalize rd.getD 5 0 = n5 at *
  generalize rd.getD 6 0 = n6 at *
  generalize rd.getD 7 0 = n7 at *
  rw [hn] at hlen
  have HLN : Hid (n ≤ 1073741824) := hlen
  clear hlen
  go_enter Try.func23, Try.ntmps23
  go_wp2
  go_loopw [9] (fun iv wr => ∃ q : Nat, q ≤ n ∧ iv = .int .i64 q ∧ (∀ i, i < q → shareAt g a b rd i = false) ∧ wr.heap[w.heap.size]? = some (.cells #[.int .u64 ((n0 : Nat) : Int), .int .u64 ((n1 : Nat) : Int), .int .u64 ((n2 : Nat) : Int), .int .u64 ((n3 : Nat) : Int), .int .u64 ((n4 : Nat) : Int), .int .u64 ((n5 : Nat) : Int), .int .u64 ((n6 : Nat) : Int), .int .u64 ((n7 : Nat) : Int)] 27 (0, 0)) ∧ Below w.heap.size w wr) (fun iv _ => n - (intOf iv).toNat)
  case atStart => exact ⟨0, Nat.zero_le _, rfl, fun i hi => by omega, heap_alloc_new _ _, below_a1 _ _⟩
  case round =>
    obtain ⟨q, hq, rfl, hno, hrow, hb⟩ := hrel
    have HN0 : Hid (∀ i, i < q → shareAt g a b rd i = false) := hno
    have HR : Hid (wr.heap[w.heap.size]? = some (.cells #[.int .u64 ((n0 : Nat) : Int), .int .u64 ((n1 : Nat) : Int), .int .u64 ((n2 : Nat) : Int), .int .u64 ((n3 : Nat) : Int), .int .u64 ((n4 : Nat) : Int), .int .u64 ((n5 : Nat) : Int), .int .u64 ((n6 : Nat) : Int), .int .u64 ((n7 : Nat) : Int)] 27 (0, 0))) := hrow
    have HB : Hid (Below w.heap.size w wr) := hb
    have hg := HG.out wr hb
    have hg1 := hg.cells.1.2.1
    rw [hn] at hg1
    have hGr : Gk < wr.heap.size := heap_lt hg.m
    obtain ⟨r0, r1, r2, r3, r4, r5, r6, r7⟩ := cells8 hrow
    have hwr : w.heap.size < wr.heap.size := heap_lt hrow
    by_cases hlt : q < n
    · have d1 : decide ((q : Int) < (n : Int)) = true := decide_eq_true (Int.ofNat_lt.2 hlt)
      have hltI : (q : Int) < (n : Int) := Int.ofNat_lt.2 hlt
      have hw1 : wrap64 ((q : Int) + 1) = (q : Int) + 1 := by have := HLN.out; unfold wrap64; omega
      obtain ⟨gb, cap', he, hgb, hc⟩ := entry_sig hg q (by rw [hn]; exact hlt)
      rw [hn] at he
      simp at he
      obtain ⟨rfl, rfl⟩ := he
      have HMQ := HM.out q (by rw [hn]; exact hlt)
      have HSQ := HSA.out q
      have e0 := hc 0 (by decide)
      have e1 := hc 1 (by decide)
      have e2 := hc 2 (by decide)
      have e3 := hc 3 (by decide)
      have e4 := hc 4 (by decide)
      have e5 := hc 5 (by decide)
      have e6 := hc 6 (by decide)
      have e7 := hc 7 (by decide)
      have HYQ : Hid (shareAt g a b rd q = true → sv = true) := HY.out q (by rw [hn]; exact hlt)
      clear hc hno hrow hb hg HM HY
      generalize (!(Sg.meet (g.l.getD q noGE).s rd == Sg.nought)) = mt at *
      generalize (g.l.getD q noGE).s.getD 0 0 = m0 at *
      generalize (g.l.getD q noGE).s.getD 1 0 = m1 at *
      generalize (g.l.getD q noGE).s.getD 2 0 = m2 at *
      generalize (g.l.getD q noGE).s.getD 3 0 = m3 at *
      generalize (g.l.getD q noGE).s.getD 4 0 = m4 at *
      generalize (g.l.getD q noGE).s.getD 5 0 = m5 at *
      generalize (g.l.getD q noGE).s.getD 6 0 = m6 at *
      generalize (g.l.getD q noGE).s.getD 7 0 = m7 at *
      have HMR : Hid (∀ w, Calls Try.prog 45 #[.agg #[.int .u64 ((m0 : Nat) : Int), .int .u64 ((m1 : Nat) : Int), .int .u64 ((m2 : Nat) : Int), .int .u64 ((m3 : Nat) : Int), .int .u64 ((m4 : Nat) : Int), .int .u64 ((m5 : Nat) : Int), .int .u64 ((m6 : Nat) : Int), .int .u64 ((m7 : Nat) : Int)], .agg #[.int .u64 ((n0 : Nat) : Int), .int .u64 ((n1 : Nat) : Int), .int .u64 ((n2 : Nat) : Int), .int .u64 ((n3 : Nat) : Int), .int .u64 ((n4 : Nat) : Int), .int .u64 ((n5 : Nat) : Int), .int .u64 ((n6 : Nat) : Int), .int .u64 ((n7 : Nat) : Int)]] w fun e w' => e = .returned (.bool mt) ∧ Below w.heap.size w w') := HMQ
      have HSR : Hid (shareAt g a b rd q = (decide (a < (q : Int) + 1) && decide ((q : Int) + 1 ≤ b) && mt)) := HSQ
      clear HMQ HSQ
      generalize hc1 : decide (a < (q : Int) + 1) = c1 at *
      generalize hc2 : decide ((q : Int) + 1 ≤ b) = c2 at *
      go_wp2_with fail
      go_region_with ((go_at_call 45; refine (HMR.out _).mono ?_; rintro e w1 ⟨rfl, hb1⟩))
      all_goals
        have HR1 : Hid (w1.heap[w.heap.size]? = some (.cells #[.int .u64 ((n0 : Nat) : Int), .int .u64 ((n1 : Nat) : Int), .int .u64 ((n2 : Nat) : Int), .int .u64 ((n3 : Nat) : Int), .int .u64 ((n4 : Nat) : Int), .int .u64 ((n5 : Nat) : Int), .int .u64 ((n6 : Nat) : Int), .int .u64 ((n7 : Nat) : Int)] 27 (0, 0))) := row_on (w := World.drew wr) HR.out hb1
        have HB1 : Hid (Below w.heap.size w w1) := below_then (below_drawn HB.out 1) hb1
        clear hb1 r0 r1 r2 r3 r4 r5 r6 r7 e0 e1 e2 e3 e4 e5 e6 e7 hg1
        cases c1 <;> cases c2 <;> cases mt
        all_goals
          go_wp2
          first
            | (go_ret
               exact ⟨by rw [HYQ.out (by rw [HSR.out]; rfl)]; rfl, HB1.out⟩)
            | (go_roundw
               case rel => exact ⟨q + 1, hlt, by rw [hw1]; go_num, fun i hi => by
                 by_cases ei : i < q
                 · exact HN0.out i ei
                 · obtain rfl : i = q := by omega
                   rw [HSR.out]; rfl, HR1.out, HB1.out⟩
               case measure => rw [hw1]; simp [intOf]; omega)
    · have hqn : q = n := by omega
      have d1 : decide ((q : Int) < (n : Int)) = false := decide_eq_false (by omega)
      have HV : Hid (sv = false) := HNO.out (fun i hi => HN0.out i (by omega))
      clear hno hrow hb hg
      go_wp2
      go_ret
      exact ⟨by rw [HV.out]; rfl, HB.out⟩
end Go.Proofs.Ytfbbcjlbelnfaaa
