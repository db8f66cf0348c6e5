/- The document's Touched. -/
import Derived.Test.YtbfhhignhbamnaaTouF
namespace Go.Proofs.Ytbfhhignhbamnaa
open Go.ChangeShapes Go.WideShapes Go.ChangeAt Go.RowKit
attribute [local go_sem ↓] Go.wp_at_zero Go.wp_at_succ

/-- The state of the document's loop. -/
structure RSt (w wr : World) (L : List Ac) (q : Nat) (v : Value) (T : List To) : Prop where
  tells : Tells (L.take q) T
  rising : Rising T
  len : T.length ≤ q
  row : wr.ownsRow w.heap.size 73 6 v T.length (touC T)
  bel : Below w.heap.size w wr
theorem below_drew {w w' : World} (h : Below w.heap.size w w') : Below w.heap.size w w'.drew := below_drawn h 1

theorem add_zero_off (g j : Nat) : (⟨g, 0, none⟩ : Addr).add j = ⟨g, j, none⟩ := by unfold Addr.add; split <;> simp_all
theorem add_off (g o j : Nat) : (⟨g, o, none⟩ : Addr).add j = ⟨g, o + j, none⟩ := by unfold Addr.add; split <;> simp_all
theorem touC_ones (T : List To) : ∀ u ∈ touC T, u.oneCell' = true := fun u hu => by
  simp only [touC, List.mem_flatMap] at hu
  obtain ⟨t, _, ht⟩ := hu
  exact toC_one t u ht
theorem touC_ins (A B : List To) (a b c : Int) : touC (A ++ to0 ⟨a, b, c⟩ :: B) = touC A ++ [.int .i64 a, .int .i64 b, .int .i64 c, .int .i64 0, .int .i64 0, .int .i64 0] ++ touC B := by
  rw [touC_app, List.append_assoc]; rfl
theorem rst_1 {w w3 : World} {L : List Ac} {q g3 N cap3 t B : Nat} {T3 : List To} (own : w3.ownsRow B 73 6 (.slice (some ⟨g3, 0, none⟩) N cap3) N (touC T3)) (hN : T3.length = N) (ht : t < T3.length) (bel : Below w.heap.size w w3)
    (hT : Tells (L.take (q + 1)) (T3.set t (bump T3[t] 1))) (hR : Rising (T3.set t (bump T3[t] 1))) (hq : N ≤ q + 1 ∧ w.heap.size ≤ B) : RSt w (w3.setCell ⟨g3, t * 6 + 3, none⟩ (.int .i64 (T3[t].l + 1))) L (q + 1) (.slice (some ⟨g3, 0, none⟩) N cap3) (T3.set t (bump T3[t] 1)) := by
  have hb := (own_block own g3 rfl).1
  refine ⟨hT, hR, by rw [List.length_set]; omega, ?_, bel.setCell (by simp; omega) _⟩
  rw [List.length_set, hN, ← touC_set (t' := bump T3[t] 1) (u := .int .i64 (T3[t].l + 1)) (j := 3) ht (by decide) (by simp [bump, toC])]
  exact own_base (own_put own (t * 6 + 3) _ (by omega)) hq.2
theorem rst_2 {w w3 : World} {L : List Ac} {q g3 N cap3 t B : Nat} {T3 : List To} (own : w3.ownsRow B 73 6 (.slice (some ⟨g3, 0, none⟩) N cap3) N (touC T3)) (hN : T3.length = N) (ht : t < T3.length) (bel : Below w.heap.size w w3)
    (hT : Tells (L.take (q + 1)) (T3.set t (bump T3[t] 2))) (hR : Rising (T3.set t (bump T3[t] 2))) (hq : N ≤ q + 1 ∧ w.heap.size ≤ B) : RSt w (w3.setCell ⟨g3, t * 6 + 4, none⟩ (.int .i64 (T3[t].s + 1))) L (q + 1) (.slice (some ⟨g3, 0, none⟩) N cap3) (T3.set t (bump T3[t] 2)) := by
  have hb := (own_block own g3 rfl).1
  refine ⟨hT, hR, by rw [List.length_set]; omega, ?_, bel.setCell (by simp; omega) _⟩
  rw [List.length_set, hN, ← touC_set (t' := bump T3[t] 2) (u := .int .i64 (T3[t].s + 1)) (j := 4) ht (by decide) (by simp [bump, toC])]
  exact own_base (own_put own (t * 6 + 4) _ (by omega)) hq.2
theorem rst_3 {w w3 : World} {L : List Ac} {q g3 N cap3 t B : Nat} {T3 : List To} (own : w3.ownsRow B 73 6 (.slice (some ⟨g3, 0, none⟩) N cap3) N (touC T3)) (hN : T3.length = N) (ht : t < T3.length) (bel : Below w.heap.size w w3)
    (hT : Tells (L.take (q + 1)) (T3.set t (bump T3[t] 3))) (hR : Rising (T3.set t (bump T3[t] 3))) (hq : N ≤ q + 1 ∧ w.heap.size ≤ B) : RSt w (w3.setCell ⟨g3, t * 6 + 5, none⟩ (.int .i64 (T3[t].w + 1))) L (q + 1) (.slice (some ⟨g3, 0, none⟩) N cap3) (T3.set t (bump T3[t] 3)) := by
  have hb := (own_block own g3 rfl).1
  refine ⟨hT, hR, by rw [List.length_set]; omega, ?_, bel.setCell (by simp; omega) _⟩
  rw [List.length_set, hN, ← touC_set (t' := bump T3[t] 3) (u := .int .i64 (T3[t].w + 1)) (j := 5) ht (by decide) (by simp [bump, toC])]
  exact own_base (own_put own (t * 6 + 5) _ (by omega)) hq.2
/-- A word put in at its place. -/
theorem ins_facts {L : List Ac} {T : List To} {x : Ac} {t : Nat} (hT : Tells L T) (hR : Rising T) (hu : Upto T x.a t) (hb : ∀ ht : t < T.length, ahead T[t].a x.a = false ∧ T[t].a ≠ x.a) :
    ∃ T3, T3 = T.take t ++ to0 x.a :: T.drop t ∧ T3.length = T.length + 1 ∧ ∃ ht : t < T3.length, T3[t] = to0 x.a ∧ Tells (L ++ [x]) (T3.set t (bump T3[t] x.k)) ∧ Rising (T3.set t (bump T3[t] x.k)) := by
  have hl := len_insert T t hu.1 (to0 x.a)
  have ht : t < (T.take t ++ to0 x.a :: T.drop t).length := by rw [hl]; have := hu.1; omega
  have hg := get_insert T t hu.1 (to0 x.a) ht
  refine ⟨_, rfl, hl, ht, hg, ?_, ?_⟩
  · rw [hg, set_insert T t hu.1]
    exact tells_insert t hT (nowhere hR hu hb)
  · rw [hg, set_insert T t hu.1]
    have e : (bump (to0 x.a) x.k).a = x.a := bump_a _ _
    exact rising_insert hR (by rw [e]; exact hu) (by rw [e]; exact hb)

set_option maxRecDepth 100000 in
set_option maxHeartbeats 40000000 in
theorem rtouched_any {w : World} {base : Nat} {p : Value} {c r : Nat} {L : List Ac} {F : List Nat} (h : RefAt w base p c r L F) (hL : L.length < 2199023255552) (hG : Good c r L) :
    Calls Try.prog 27 #[p] w fun e w' => ∃ v T, e = .returned v ∧ Tells L T ∧ Rising T ∧ w'.ownsRow w.heap.size 73 6 v T.length (touC T) ∧ Below w.heap.size w w' := by
  obtain ⟨i1, hj0, hy0, hy1, hy2⟩ := info_parts info_touch
  obtain ⟨M, v, h⟩ := h
  obtain rfl := h.p
  have h2 : w.cell? ⟨M, 2, none⟩ = some v := by rw [cell_at h.m]; rfl
  have hM : M < w.heap.size := heap_lt h.m
  have HOWN : Hid (w.ownsRow base 52 8 v L.length (logC L)) := h.own
  obtain ⟨va, vc, rfl⟩ := own_slice h.own
  clear h
  obtain ⟨n, hn⟩ : ∃ n, L.length = n := ⟨_, rfl⟩
  have HN : Hid (L.length = n) := hn
  rw [hn] at h2 hL HOWN
  clear hn
  go_enter Try.func27, Try.ntmps27
  go_wp2
  go_loopw [3, 4] (fun tv iv wr => ∃ q : Nat, q ≤ n ∧ iv = .int .i64 q ∧ ∃ T, RSt w wr L q tv T) (fun _ iv _ => n - (intOf iv).toNat)
  case atStart => exact ⟨0, Nat.zero_le _, rfl, [], tells_nil, List.Pairwise.nil, Nat.le_refl _, World.ownsRow_nil _ _ _ _, Below.refl _ _⟩
  case round =>
    obtain ⟨q, hq, rfl, T, hst⟩ := hrel
    have HS : Hid (RSt w wr L q u3 T) := hst
    have hc2 : wr.cell? ⟨M, 2, none⟩ = some (.slice va n vc) := cell_later hst.bel hM h2
    have hsz := hst.bel.size
    have hMr : M < wr.heap.size := by omega
    clear hst
    by_cases hlt : q < n
    · obtain ⟨g, cap, hform, hg1, hg2⟩ := HOWN.out.form (by omega)
      obtain ⟨rfl, _, rfl⟩ : va = some ⟨g, 0, none⟩ ∧ n = n ∧ vc = cap := by simpa using hform
      clear hform
      have hqL : q < L.length := by rw [HN.out]; exact hlt
      have hrow : Row8 wr ⟨g, q * 8, none⟩ (acC L[q]) := (own_row8 (by rw [HN.out]; exact HOWN.out) q hqL).later rfl HS.out.bel hg2
      have HTK : Hid (L.take (q + 1) = L.take q ++ [L[q]]) := take_snoc L q hqL
      have hkd := (hG q hqL).2.2.2
      have htl : T.length ≤ q := HS.out.len
      have HSM : Hid (∀ k, (hk : k < T.length) → Small T[k] 2199023255552) := tells_small HS.out.tells (by rw [List.length_take]; omega)
      generalize L[q] = y at *
      obtain ⟨yt, yk, ⟨ya, yb, yc⟩, yo, yv, yy⟩ := y
      obtain ⟨d0, d1, d2, d3, d4, d5, d6, d7⟩ := row8_cells hrow rfl
      simp only [acC, List.getElem_toArray, List.getElem_cons_zero, List.getElem_cons_succ] at d0 d1 d2 d3 d4 d5 d6 d7
      simp only at hkd
      clear hrow
      have hd : decide ((q : Int) < (n : Int)) = true := by simp; omega
      have hx1 : (q : Int) < (n : Int) := by omega
      obtain ⟨ta, tc, rfl⟩ := own_slice HS.out.row
      obtain ⟨m, hm⟩ : ∃ m, T.length = m := ⟨_, rfl⟩
      have HMM : Hid (T.length = m) := hm
      rw [hm] at htl ⊢
      have HROW : Hid (wr.ownsRow w.heap.size 73 6 (.slice ta m tc) m (touC T)) := by
        have := HS.out.row
        rw [hm] at this
        exact this
      clear hm
      have HAH : Hid (∀ (a : Ad) (w : World), Calls Try.prog 37 #[.agg #[.int .i64 a.k, .int .i64 a.i, .int .i64 a.j], .agg #[.int .i64 ya, .int .i64 yb, .int .i64 yc]] w fun e w' => e = .returned (.bool (ahead a ⟨ya, yb, yc⟩)) ∧ Below w.heap.size w w') := fun a w => ahead_any a ⟨ya, yb, yc⟩ w
      have HSA : Hid (∀ (a : Ad) (w : World), Calls Try.prog 38 #[.agg #[.int .i64 a.k, .int .i64 a.i, .int .i64 a.j], .agg #[.int .i64 ya, .int .i64 yb, .int .i64 yc]] w fun e w' => e = .returned (.bool (decide (a = ⟨ya, yb, yc⟩))) ∧ Below w.heap.size w w') := fun a w => same_any a ⟨ya, yb, yc⟩ w
      go_wp2
      obtain ⟨x6, rfl⟩ : ∃ x6, x6 = wr := ⟨_, rfl⟩
      go_loopw [6] (fun av wq => ∃ t : Nat, av = .int .i64 t ∧ Upto T ⟨ya, yb, yc⟩ t ∧ Below (x6.alloc (.cells #[.int .i64 yt, .int .i64 yk, .int .i64 ya, .int .i64 yb, .int .i64 yc, .int .i64 yo, .int .i64 yv, .bool yy] 52)).heap.size (x6.alloc (.cells #[.int .i64 yt, .int .i64 yk, .int .i64 ya, .int .i64 yb, .int .i64 yc, .int .i64 yo, .int .i64 yv, .bool yy] 52)) wq) (fun av _ => m - (intOf av).toNat)
      case atStart => exact ⟨0, rfl, ⟨Nat.zero_le _, fun i _ h => absurd h (by omega)⟩, Below.refl _ _⟩
      case round =>
        obtain ⟨t, rfl, hup, hbq⟩ := hrel
        have HUP : Hid (Upto T ⟨ya, yb, yc⟩ t) := hup
        have htm : t ≤ m := by have := hup.1; rw [HMM.out] at this; exact this
        have HBQ : Hid (Below (x6.alloc (.cells #[.int .i64 yt, .int .i64 yk, .int .i64 ya, .int .i64 yb, .int .i64 yc, .int .i64 yo, .int .i64 yv, .bool yy] 52)).heap.size (x6.alloc (.cells #[.int .i64 yt, .int .i64 yk, .int .i64 ya, .int .i64 yb, .int .i64 yc, .int .i64 yo, .int .i64 yv, .bool yy] 52)) wr) := hbq
        have HBX : Hid (Below x6.heap.size x6 wr) := below_then (below_a1 _ _) hbq
        have HACC : Hid (wr.heap[x6.heap.size]? = some (.cells #[.int .i64 yt, .int .i64 yk, .int .i64 ya, .int .i64 yb, .int .i64 yc, .int .i64 yo, .int .i64 yv, .bool yy] 52 (0, 0))) := by
          rw [Hid, hbq.block _ (by simp)]; exact heap_alloc_new _ _
        have a1 : wr.cell? ⟨x6.heap.size, 1, none⟩ = some (.int .i64 yk) := by rw [cell_at HACC.out]; rfl
        have a2 : wr.cell? ⟨x6.heap.size, 2, none⟩ = some (.int .i64 ya) := by rw [cell_at HACC.out]; rfl
        have a3 : wr.cell? ⟨x6.heap.size, 3, none⟩ = some (.int .i64 yb) := by rw [cell_at HACC.out]; rfl
        have a4 : wr.cell? ⟨x6.heap.size, 4, none⟩ = some (.int .i64 yc) := by rw [cell_at HACC.out]; rfl
        have HRQ : Hid (wr.ownsRow w.heap.size 73 6 (.slice ta m tc) m (touC T)) := own_keep HROW.out (Keep.of_below HBX.out []) (fun _ _ => by simp)
        have hszq : x6.heap.size < wr.heap.size := heap_lt HACC.out
        clear hup hbq
        by_cases htl2 : t < m
        · obtain ⟨g2, tc2, hform, hgb, hgl⟩ := HRQ.out.form (by omega)
          obtain ⟨rfl, _, rfl⟩ : ta = some ⟨g2, 0, none⟩ ∧ m = m ∧ tc = tc2 := by simpa using hform
          clear hform
          have htL : t < T.length := by rw [HMM.out]; exact htl2
          obtain ⟨e0, e1, e2, _, _, _⟩ := own_row6 HRQ.out t htL
          have HAT : Hid (Calls Try.prog 37 #[.agg #[.int .i64 T[t].a.k, .int .i64 T[t].a.i, .int .i64 T[t].a.j], .agg #[.int .i64 ya, .int .i64 yb, .int .i64 yc]] wr.drew fun e w' => e = .returned (.bool (ahead T[t].a ⟨ya, yb, yc⟩)) ∧ Below wr.drew.heap.size wr.drew w') := HAH.out T[t].a wr.drew
          have hdt : decide ((t : Int) < (m : Int)) = true := by simp; omega
          have hti : (t : Int) < (m : Int) := by omega
          cases hah : ahead T[t].a ⟨ya, yb, yc⟩ with
          | true =>
            have HUP' : Hid (Upto T ⟨ya, yb, yc⟩ (t + 1)) := ⟨by omega, fun i hi hit => by
              by_cases e : i = t
              · subst e; exact hah
              · exact HUP.out.2 i hi (by omega)⟩
            rw [hah] at HAT
            generalize T[t].a = b at *
            obtain ⟨bk, bi, bj⟩ := b
            clear hah
            go_wp2
            go_region_with ((go_at_call 37; refine HAT.out.mono ?_; rintro e w5 ⟨rfl, hb5⟩))
            all_goals
              have HB5 : Hid (Below (x6.alloc (.cells #[.int .i64 yt, .int .i64 yk, .int .i64 ya, .int .i64 yb, .int .i64 yc, .int .i64 yo, .int .i64 yv, .bool yy] 52)).heap.size (x6.alloc (.cells #[.int .i64 yt, .int .i64 yk, .int .i64 ya, .int .i64 yb, .int .i64 yc, .int .i64 yo, .int .i64 yv, .bool yy] 52)) w5) := below_then (below_drew HBQ.out) hb5
              clear hb5
              go_wp2
              go_roundw
              case rel => exact ⟨t + 1, by go_num, HUP'.out, HB5.out⟩
              case measure => simp [intOf]; omega
          | false =>
            have HBF : Hid (ahead T[t].a ⟨ya, yb, yc⟩ = false) := hah
            rw [hah] at HAT
            have HSS : Hid (∀ w : World, Calls Try.prog 38 #[.agg #[.int .i64 T[t].a.k, .int .i64 T[t].a.i, .int .i64 T[t].a.j], .agg #[.int .i64 ya, .int .i64 yb, .int .i64 yc]] w fun e w' => e = .returned (.bool (decide (T[t].a = ⟨ya, yb, yc⟩))) ∧ Below w.heap.size w w') := HSA.out T[t].a
            obtain ⟨⟨bk, bi, bj⟩, hb⟩ : ∃ b, T[t].a = b := ⟨_, rfl⟩
            have HTB : Hid (T[t].a = ⟨bk, bi, bj⟩) := hb
            rw [hb] at e0 e1 e2 HAT HSS HBF
            clear hb hah
            have HBwr := HBQ
            go_wp2_with fail
            go_region_with ((go_at_call 37; refine HAT.out.mono ?_; rintro e w5 ⟨rfl, hb5⟩))
            all_goals
              have HBw5 : Hid (Below (x6.alloc (.cells #[.int .i64 yt, .int .i64 yk, .int .i64 ya, .int .i64 yb, .int .i64 yc, .int .i64 yo, .int .i64 yv, .bool yy] 52)).heap.size (x6.alloc (.cells #[.int .i64 yt, .int .i64 yk, .int .i64 ya, .int .i64 yb, .int .i64 yc, .int .i64 yo, .int .i64 yv, .bool yy] 52)) w5) := below_then (below_drew HBwr.out) hb5
              have HXw5 : Hid (Below x6.heap.size x6 w5) := below_then (below_a1 _ _) HBw5.out
              have HAw5 : Hid (w5.heap[x6.heap.size]? = some (.cells #[.int .i64 yt, .int .i64 yk, .int .i64 ya, .int .i64 yb, .int .i64 yc, .int .i64 yo, .int .i64 yv, .bool yy] 52 (0, 0))) := by rw [Hid, HBw5.out.block _ (by simp)]; exact heap_alloc_new _ _
              have HRw5 : Hid (w5.ownsRow w.heap.size 73 6 (.slice (some ⟨g2, 0, none⟩) m tc) m (touC T)) := own_keep HROW.out (Keep.of_below HXw5.out []) (fun _ _ => by simp)
              have hsw5 : x6.heap.size < w5.heap.size := heap_lt HAw5.out
              clear hb5
              have r1 : w5.cell? ⟨x6.heap.size, 1, none⟩ = some (.int .i64 yk) := by rw [cell_at HAw5.out]; rfl
              have r2 : w5.cell? ⟨x6.heap.size, 2, none⟩ = some (.int .i64 ya) := by rw [cell_at HAw5.out]; rfl
              have r3 : w5.cell? ⟨x6.heap.size, 3, none⟩ = some (.int .i64 yb) := by rw [cell_at HAw5.out]; rfl
              have r4 : w5.cell? ⟨x6.heap.size, 4, none⟩ = some (.int .i64 yc) := by rw [cell_at HAw5.out]; rfl
              obtain ⟨k0, k1, k2, _, _, _⟩ := own_row6 HRw5.out t htL
              rw [HTB.out] at k0 k1 k2
              clear a1 a2 a3 a4 e0 e1 e2
              by_cases hsm : (⟨bk, bi, bj⟩ : Ad) = ⟨ya, yb, yc⟩
              · have HSS2 : Hid (Calls Try.prog 38 #[.agg #[.int .i64 bk, .int .i64 bi, .int .i64 bj], .agg #[.int .i64 ya, .int .i64 yb, .int .i64 yc]] w5.drew fun e w' => e = .returned (.bool true) ∧ Below w5.drew.heap.size w5.drew w') := by
                  have := HSS.out w5.drew
                  rwa [decide_eq_true hsm] at this
                have HTT : Hid (Tells (L.take (q + 1)) (T.set t (bump T[t] yk))) := by
                  rw [Hid, HTK.out]; exact tells_bump (x := Ac.mk yt yk ⟨ya, yb, yc⟩ yo yv yy) HS.out.tells htL (HTB.out.trans hsm)
                have HRR : Hid (Rising (T.set t (bump T[t] yk))) := rising_set HS.out.rising htL (bump_a _ _)
                have HSM3 : Hid (Small T[t] 2199023255552) := HSM.out t htL
                have HLN : Hid (T.length = m) := HMM.out
                have htN : t < T.length := htL
                clear hsm HSS
                go_wp2_with fail
                go_region_with ((go_at_call 38; refine HSS2.out.mono ?_; rintro e w7 ⟨rfl, hb7⟩))
                all_goals
                  have HBw7 : Hid (Below (x6.alloc (.cells #[.int .i64 yt, .int .i64 yk, .int .i64 ya, .int .i64 yb, .int .i64 yc, .int .i64 yo, .int .i64 yv, .bool yy] 52)).heap.size (x6.alloc (.cells #[.int .i64 yt, .int .i64 yk, .int .i64 ya, .int .i64 yb, .int .i64 yc, .int .i64 yo, .int .i64 yv, .bool yy] 52)) w7) := below_then (below_drew HBw5.out) hb7
                  have HXw7 : Hid (Below x6.heap.size x6 w7) := below_then (below_a1 _ _) HBw7.out
                  have HAw7 : Hid (w7.heap[x6.heap.size]? = some (.cells #[.int .i64 yt, .int .i64 yk, .int .i64 ya, .int .i64 yb, .int .i64 yc, .int .i64 yo, .int .i64 yv, .bool yy] 52 (0, 0))) := by rw [Hid, HBw7.out.block _ (by simp)]; exact heap_alloc_new _ _
                  have HRw7 : Hid (w7.ownsRow w.heap.size 73 6 (.slice (some ⟨g2, 0, none⟩) m tc) m (touC T)) := own_keep HROW.out (Keep.of_below HXw7.out []) (fun _ _ => by simp)
                  have hsw7 : x6.heap.size < w7.heap.size := heap_lt HAw7.out
                  clear hb7
                  have HO3 := HRw7
                  have HB3 : Hid (Below w.heap.size w w7) := HS.out.bel.trans (HXw7.out.mono hsz)
                  have p1 : w7.cell? ⟨x6.heap.size, 1, none⟩ = some (.int .i64 yk) := by rw [cell_at HAw7.out]; rfl
                  clear r1 r2 r3 r4 k0 k1 k2
                  obtain ⟨_, _, _, z3, z4, z5⟩ := own_row6 HO3.out t htN
                  have y3 := (own_some HO3.out (t * 6 + 3) (by omega)).2
                  have y4 := (own_some HO3.out (t * 6 + 4) (by omega)).2
                  have y5 := (own_some HO3.out (t * 6 + 5) (by omega)).2
                  obtain ⟨s1, s2, s3, s4, s5, s6⟩ := HSM3.out
                  obtain ⟨zl, hzl⟩ : ∃ z, T[t].l = z := ⟨_, rfl⟩
                  obtain ⟨zs, hzs⟩ : ∃ z, T[t].s = z := ⟨_, rfl⟩
                  obtain ⟨zw, hzw⟩ : ∃ z, T[t].w = z := ⟨_, rfl⟩
                  have HZL : Hid (T[t].l = zl) := hzl
                  have HZS : Hid (T[t].s = zs) := hzs
                  have HZW : Hid (T[t].w = zw) := hzw
                  rw [hzl] at z3 s1 s2
                  rw [hzs] at z4 s3 s4
                  rw [hzw] at z5 s5 s6
                  clear hzl hzs hzw
                  have htn : (t : Int) < ((m : Nat) : Int) := by omega
                  rcases hkd with rfl | rfl | rfl
                  · go_wp2
                    go_roundw
                    case rel => exact ⟨q + 1, by omega, by go_num, _, by rw [← HZL.out]; exact rst_1 HO3.out HLN.out htN HB3.out HTT.out HRR.out ⟨by omega, by omega⟩⟩
                    case measure => simp [intOf]; omega
                  · go_wp2
                    go_roundw
                    case rel => exact ⟨q + 1, by omega, by go_num, _, by rw [← HZS.out]; exact rst_2 HO3.out HLN.out htN HB3.out HTT.out HRR.out ⟨by omega, by omega⟩⟩
                    case measure => simp [intOf]; omega
                  · go_wp2
                    go_roundw
                    case rel => exact ⟨q + 1, by omega, by go_num, _, by rw [← HZW.out]; exact rst_3 HO3.out HLN.out htN HB3.out HTT.out HRR.out ⟨by omega, by omega⟩⟩
                    case measure => simp [intOf]; omega
              · have HSS2 : Hid (Calls Try.prog 38 #[.agg #[.int .i64 bk, .int .i64 bi, .int .i64 bj], .agg #[.int .i64 ya, .int .i64 yb, .int .i64 yc]] w5.drew fun e w' => e = .returned (.bool false) ∧ Below w5.drew.heap.size w5.drew w') := by
                  have := HSS.out w5.drew
                  rwa [decide_eq_false hsm] at this
                have HINS : Hid (∃ T3, T3 = T.take t ++ to0 ⟨ya, yb, yc⟩ :: T.drop t ∧ T3.length = T.length + 1 ∧ ∃ ht : t < T3.length, T3[t] = to0 ⟨ya, yb, yc⟩ ∧ Tells (L.take q ++ [Ac.mk yt yk ⟨ya, yb, yc⟩ yo yv yy]) (T3.set t (bump T3[t] yk)) ∧ Rising (T3.set t (bump T3[t] yk))) := ins_facts (x := Ac.mk yt yk ⟨ya, yb, yc⟩ yo yv yy) HS.out.tells HS.out.rising HUP.out (fun ht => by rw [HTB.out]; exact ⟨HBF.out, hsm⟩)
                clear hsm HSS
                go_wp2_with fail
                go_region_with ((go_at_call 38; refine HSS2.out.mono ?_; rintro e w7 ⟨rfl, hb7⟩))
                all_goals
                  have HBw7 : Hid (Below (x6.alloc (.cells #[.int .i64 yt, .int .i64 yk, .int .i64 ya, .int .i64 yb, .int .i64 yc, .int .i64 yo, .int .i64 yv, .bool yy] 52)).heap.size (x6.alloc (.cells #[.int .i64 yt, .int .i64 yk, .int .i64 ya, .int .i64 yb, .int .i64 yc, .int .i64 yo, .int .i64 yv, .bool yy] 52)) w7) := below_then (below_drew HBw5.out) hb7
                  have HXw7 : Hid (Below x6.heap.size x6 w7) := below_then (below_a1 _ _) HBw7.out
                  have HAw7 : Hid (w7.heap[x6.heap.size]? = some (.cells #[.int .i64 yt, .int .i64 yk, .int .i64 ya, .int .i64 yb, .int .i64 yc, .int .i64 yo, .int .i64 yv, .bool yy] 52 (0, 0))) := by rw [Hid, HBw7.out.block _ (by simp)]; exact heap_alloc_new _ _
                  have HRw7 : Hid (w7.ownsRow w.heap.size 73 6 (.slice (some ⟨g2, 0, none⟩) m tc) m (touC T)) := own_keep HROW.out (Keep.of_below HXw7.out []) (fun _ _ => by simp)
                  have hsw7 : x6.heap.size < w7.heap.size := heap_lt HAw7.out
                  clear hb7
                  have s1 : w7.cell? ⟨x6.heap.size, 1, none⟩ = some (.int .i64 yk) := by rw [cell_at HAw7.out]; rfl
                  have s2 : w7.cell? ⟨x6.heap.size, 2, none⟩ = some (.int .i64 ya) := by rw [cell_at HAw7.out]; rfl
                  have s3 : w7.cell? ⟨x6.heap.size, 3, none⟩ = some (.int .i64 yb) := by rw [cell_at HAw7.out]; rfl
                  have s4 : w7.cell? ⟨x6.heap.size, 4, none⟩ = some (.int .i64 yc) := by rw [cell_at HAw7.out]; rfl
                  clear r1 r2 r3 r4 k0 k1 k2
                  have HBZ := HXw7
                  have HRZ := HRw7
                  have HAZ := HAw7
                  have HBW : Hid (Below w.heap.size w w7) := HS.out.bel.trans (HBZ.out.mono hsz)
                  have hwW := HBZ.out.size
                  have HCUT : Hid ((touC (T.take t)).length = t * 6 ∧ touC (T.take t) = (touC T).take (t * 6) ∧ (touC (T.drop t)).length = (m - t) * 6 ∧ touC (T.drop t) = (touC T).drop (t * 6)) := by
                    have ht : t ≤ T.length := by rw [HMM.out]; exact htm
                    exact ⟨(touC_cut T t ht).2, touC_take T t ht, by rw [touC_len, List.length_drop, HMM.out], touC_drop T t ht⟩
                  have hcp : m ≤ tc := by
                    rcases HRZ.out.2 with ⟨e, _⟩ | ⟨g', cap', cur, e, _, _, h1, h2, _⟩
                    · cases e
                    · simp at e; rw [e.2]; exact h1
                  have htc : (t : Int) ≤ (tc : Int) := by omega
                  have htm2 : (t : Int) ≤ (m : Int) := by omega
                  have hct : ¬ tc = t := by omega
                  go_wp2_with (at_builtin; refine wpList_append_own _ rfl _ _ 69 rfl w7.heap.size 73 i1 _ 6 48 Try.underlying69 hj0 hy0 hy1 hy2 rfl (by decide) _ 0 [] rfl (World.ownsRow_nil _ _ _ _) ⟨g2, 0, none⟩ t tc (touC (T.take t)) rfl ?c0b ?c1b ?c2b ?c3b ?c4b ?c5b ?_)
                  try (case c0b => exact HCUT.out.1)
                  case c1b => intro j u hu; (try rw [add_zero_off]); exact own_cells HRZ.out j u (by rw [HCUT.out.2.1, List.getElem?_take] at hu; split at hu; exact hu; cases hu)
                  case c2b => exact touC_ones _
                  case c3b => unfold maxLen; omega
                  case c4b => omega
                  try (case c5b => exact Nat.le_refl _)
                  intro v1 w1 hown1 hgrow1 _
                  try simp only [Nat.zero_add, List.nil_append] at hown1
                  have HO1 : Hid (w1.ownsRow w7.heap.size 73 6 v1 t (touC (T.take t))) := hown1
                  have HB1 : Hid (Below w7.heap.size w7 w1) := ⟨hgrow1.os, hgrow1.tape, hgrow1.output, hgrow1.size, fun b hb => hgrow1.block b hb (by simp [Value.ownBlock])⟩
                  clear hown1 hgrow1
                  obtain ⟨l1, lc1, rfl⟩ := own_slice HO1.out
                  have hwz := HB1.out.size
                  have HA1 : Hid (w1.heap[x6.heap.size]? = some (.cells #[.int .i64 yt, .int .i64 yk, .int .i64 ya, .int .i64 yb, .int .i64 yc, .int .i64 yo, .int .i64 yv, .bool yy] 52 (0, 0))) := by rw [Hid, HB1.out.block _ (heap_lt HAZ.out)]; exact HAZ.out
                  have HR1 : Hid (w1.ownsRow w.heap.size 73 6 (.slice (some ⟨g2, 0, none⟩) m tc) m (touC T)) := own_keep HRZ.out (Keep.of_below HB1.out []) (fun _ _ => by simp)
                  have q2 : w1.cell? ⟨x6.heap.size, 2, none⟩ = some (.int .i64 ya) := by rw [cell_at HA1.out]; rfl
                  have q3 : w1.cell? ⟨x6.heap.size, 3, none⟩ = some (.int .i64 yb) := by rw [cell_at HA1.out]; rfl
                  have q4 : w1.cell? ⟨x6.heap.size, 4, none⟩ = some (.int .i64 yc) := by rw [cell_at HA1.out]; rfl
                  go_wp2_with (at_builtin; refine wpList_append_lies _ rfl _ _ 69 rfl w7.heap.size 73 i1 _ 6 48 Try.underlying69 hj0 hy0 hy1 hy2 rfl (by decide) _ _ _ rfl (HO1.out.alloc _) ⟨w1.heap.size, 0, none⟩ 1 1 [.int .i64 ya, .int .i64 yb, .int .i64 yc, .int .i64 0, .int .i64 0, .int .i64 0] rfl rfl ?e1b ?e2b (by decide) ?e3b ?e4b ?e5b _ rfl ?_)
                  try (case e1b => exact World.news_of_block (cs := #[.int .i64 ya, .int .i64 yb, .int .i64 yc, .int .i64 0, .int .i64 0, .int .i64 0]) (t := 73) (fr := (0, 0)) (heap_alloc_new w1 _))
                  case e2b => simp [Value.oneCell']
                  case e3b => unfold maxLen; omega
                  case e4b => omega
                  try (case e5b => first | omega | (simp; omega))
                  intro gg capg w2 hown2 hgrow2 _ _
                  have HO2 : Hid (w2.ownsRow w7.heap.size 73 6 (.slice (some ⟨gg, 0, none⟩) (t + 1) capg) (t + 1) (touC (T.take t) ++ [.int .i64 ya, .int .i64 yb, .int .i64 yc, .int .i64 0, .int .i64 0, .int .i64 0])) := hown2
                  have HB2 : Hid (Below w7.heap.size w7 w2) := (below_alloc HB1.out _).grown hgrow2 (by simp; omega) (fun b hb => (own_block HO1.out b hb).1)
                  have hw2 := HB2.out.size
                  have HR2 : Hid (w2.ownsRow w.heap.size 73 6 (.slice (some ⟨g2, 0, none⟩) m tc) m (touC T)) := own_keep HRZ.out (Keep.of_below HB2.out []) (fun _ _ => by simp)
                  clear hown2 hgrow2 q2 q3 q4
                  go_wp2_with (at_builtin; refine wpList_append_own _ rfl _ _ 69 rfl w7.heap.size 73 i1 _ 6 48 Try.underlying69 hj0 hy0 hy1 hy2 rfl (by decide) _ _ _ rfl HO2.out _ _ _ (touC (T.drop t)) rfl ?f0b ?f1b ?f2b ?f3b ?f4b ?f5b ?_)
                  try (case f0b => first | exact HCUT.out.2.2.1 | simpa using HCUT.out.2.2.1)
                  case f1b => intro j u hu; first | (rw [HDN.out] at hu; simp [touC] at hu; done) | ((try rw [add_off]); exact own_cells HR2.out _ u (by rw [HCUT.out.2.2.2, List.getElem?_drop] at hu; exact hu))
                  case f2b => exact touC_ones _
                  case f3b => unfold maxLen; omega
                  case f4b => omega
                  try (case f5b => exact hw2)
                  intro v3 w3 hown3 hgrow3 _
                  have HB3 : Hid (Below w.heap.size w w3) := ((HBW.out.trans (HB2.out.mono HBW.out.size)).grown hgrow3 (by omega) (fun b hb => by have := (own_block HO2.out b hb).1; omega))
                  have HB23 : Hid (Below w7.heap.size w7 w3) := HB2.out.grown hgrow3 (by omega) (fun b hb => (own_block HO2.out b hb).1)
                  have hNN : t + 1 + (m - t) = m + 1 := by omega
                  have HO3' : Hid (w3.ownsRow w7.heap.size 73 6 v3 (m + 1) (touC (T.take t ++ to0 ⟨ya, yb, yc⟩ :: T.drop t))) := by
                    rw [Hid, touC_app]; first | exact hown3 | (rw [hNN] at hown3; exact hown3)
                  obtain ⟨T3, hT3, hl3, htN, hg3, hTT, hRR⟩ := HINS.out
                  rw [← hT3] at HO3'
                  have HLN : Hid (T3.length = m + 1) := by rw [Hid, hl3, HMM.out]
                  have HTT : Hid (Tells (L.take (q + 1)) (T3.set t (bump T3[t] yk))) := by rw [Hid, HTK.out]; exact hTT
                  have HRR : Hid (Rising (T3.set t (bump T3[t] yk))) := hRR
                  have HSM3 : Hid (Small T3[t] 2199023255552) := by rw [Hid, hg3]; simp [Small, to0]
                  clear hT3 hl3 hg3 hTT hRR
                  obtain ⟨g3, cap3, rfl, _, _⟩ := HO3'.out.form (by omega)
                  have HO3 : Hid (w3.ownsRow w7.heap.size 73 6 (.slice (some ⟨g3, 0, none⟩) (m + 1) cap3) (m + 1) (touC T3)) := HO3'.out
                  have HA3 : Hid (w3.heap[x6.heap.size]? = some (.cells #[.int .i64 yt, .int .i64 yk, .int .i64 ya, .int .i64 yb, .int .i64 yc, .int .i64 yo, .int .i64 yv, .bool yy] 52 (0, 0))) := by rw [Hid, HB23.out.block _ (heap_lt HAZ.out)]; exact HAZ.out
                  have p1 : w3.cell? ⟨x6.heap.size, 1, none⟩ = some (.int .i64 yk) := by rw [cell_at HA3.out]; rfl
                  obtain ⟨_, _, _, z3, z4, z5⟩ := own_row6 HO3.out t htN
                  have y3 := (own_some HO3.out (t * 6 + 3) (by omega)).2
                  have y4 := (own_some HO3.out (t * 6 + 4) (by omega)).2
                  have y5 := (own_some HO3.out (t * 6 + 5) (by omega)).2
                  obtain ⟨s1, s2, s3, s4, s5, s6⟩ := HSM3.out
                  obtain ⟨zl, hzl⟩ : ∃ z, T3[t].l = z := ⟨_, rfl⟩
                  obtain ⟨zs, hzs⟩ : ∃ z, T3[t].s = z := ⟨_, rfl⟩
                  obtain ⟨zw, hzw⟩ : ∃ z, T3[t].w = z := ⟨_, rfl⟩
                  have HZL : Hid (T3[t].l = zl) := hzl
                  have HZS : Hid (T3[t].s = zs) := hzs
                  have HZW : Hid (T3[t].w = zw) := hzw
                  rw [hzl] at z3 s1 s2
                  rw [hzs] at z4 s3 s4
                  rw [hzw] at z5 s5 s6
                  clear hzl hzs hzw
                  have htn : (t : Int) < ((m + 1 : Nat) : Int) := by omega
                  rcases hkd with rfl | rfl | rfl
                  · go_wp2
                    go_roundw
                    case rel => exact ⟨q + 1, by omega, by go_num, _, by rw [← HZL.out]; exact rst_1 HO3.out HLN.out htN HB3.out HTT.out HRR.out ⟨by omega, by omega⟩⟩
                    case measure => simp [intOf]; omega
                  · go_wp2
                    go_roundw
                    case rel => exact ⟨q + 1, by omega, by go_num, _, by rw [← HZS.out]; exact rst_2 HO3.out HLN.out htN HB3.out HTT.out HRR.out ⟨by omega, by omega⟩⟩
                    case measure => simp [intOf]; omega
                  · go_wp2
                    go_roundw
                    case rel => exact ⟨q + 1, by omega, by go_num, _, by rw [← HZW.out]; exact rst_3 HO3.out HLN.out htN HB3.out HTT.out HRR.out ⟨by omega, by omega⟩⟩
                    case measure => simp [intOf]; omega
        · obtain rfl : t = m := by omega
          have HINS : Hid (∃ T3, T3 = T.take t ++ to0 ⟨ya, yb, yc⟩ :: T.drop t ∧ T3.length = T.length + 1 ∧ ∃ ht : t < T3.length, T3[t] = to0 ⟨ya, yb, yc⟩ ∧ Tells (L.take q ++ [Ac.mk yt yk ⟨ya, yb, yc⟩ yo yv yy]) (T3.set t (bump T3[t] yk)) ∧ Rising (T3.set t (bump T3[t] yk))) := ins_facts (x := Ac.mk yt yk ⟨ya, yb, yc⟩ yo yv yy) HS.out.tells HS.out.rising HUP.out (fun ht => by have := HMM.out; omega)
          have HDN : Hid (T.drop t = []) := List.drop_eq_nil_of_le (by rw [HMM.out]; exact Nat.le_refl _)
          rcases HRQ.out.2 with ⟨e0, e1⟩ | ⟨g2, tc2, cur, e0, hrest⟩
          · obtain ⟨rfl, rfl, rfl⟩ : ta = none ∧ t = 0 ∧ tc = 0 := by simpa using e0
            obtain rfl : T = [] := List.length_eq_zero_iff.1 HMM.out
            have HBZ := HBX
            have HRZ := HRQ
            have HAZ := HACC
            have HBW : Hid (Below w.heap.size w wr) := HS.out.bel.trans (HBZ.out.mono hsz)
            have hwW := HBZ.out.size
            have HO1 : Hid (wr.ownsRow wr.heap.size 73 6 (.slice none 0 0) 0 []) := World.ownsRow_nil _ _ _ _
            go_wp2_with (first | (at_builtin; refine wpList_append_own_none rfl _ _ 69 rfl wr.heap.size 73 i1 6 Try.underlying69 hj0 _ 0 [] rfl HO1.out rfl ?_) | (at_builtin; refine wpList_append_lies _ rfl _ _ 69 rfl wr.heap.size 73 i1 _ 6 48 Try.underlying69 hj0 hy0 hy1 hy2 rfl (by decide) _ 0 [] rfl (HO1.out.alloc _) ⟨wr.heap.size, 0, none⟩ 1 1 [.int .i64 ya, .int .i64 yb, .int .i64 yc, .int .i64 0, .int .i64 0, .int .i64 0] rfl rfl ?e1n ?e2n (by decide) ?e3n ?e4n ?e5n _ rfl ?_))
            try (case e1n => exact World.news_of_block (cs := #[.int .i64 ya, .int .i64 yb, .int .i64 yc, .int .i64 0, .int .i64 0, .int .i64 0]) (t := 73) (fr := (0, 0)) (heap_alloc_new wr _))
            try (case e2n => simp [Value.oneCell'])
            try (case e3n => unfold maxLen; omega)
            try (case e4n => omega)
            try (case e5n => first | omega | (simp; omega))
            intro gg capg w2 hown2 hgrow2 _ _
            have HO2 : Hid (w2.ownsRow wr.heap.size 73 6 (.slice (some ⟨gg, 0, none⟩) 1 capg) 1 [.int .i64 ya, .int .i64 yb, .int .i64 yc, .int .i64 0, .int .i64 0, .int .i64 0]) := hown2
            have HB23 : Hid (Below wr.heap.size wr w2) := (below_alloc (Below.refl _ _) _).grown hgrow2 (by simp) (fun b hb => by simp [Value.ownBlock] at hb)
            have HB3 : Hid (Below w.heap.size w w2) := HBW.out.trans (HB23.out.mono HBW.out.size)
            clear hown2 hgrow2
            have hr3 := run_append_owned_none (P := Try.prog) (w := w2) wr.heap.size 69 69 73 i1 6 Try.underlying69 hj0 _ 1 _ HO2.out
            obtain ⟨w3, rfl⟩ : ∃ w3, w3 = w2 := ⟨_, rfl⟩
            have HO3' : Hid (w3.ownsRow wr.heap.size 73 6 (.slice (some ⟨gg, 0, none⟩) 1 capg) 1 (touC (List.take 0 [] ++ to0 ⟨ya, yb, yc⟩ :: List.drop 0 []))) := HO2.out
            obtain ⟨T3, hT3, hl3, htN, hg3, hTT, hRR⟩ := HINS.out
            rw [← hT3] at HO3'
            have HLN : Hid (T3.length = 1) := by rw [Hid, hl3]; rfl
            have HTT : Hid (Tells (L.take (q + 1)) (T3.set 0 (bump T3[0] yk))) := by rw [Hid, HTK.out]; exact hTT
            have HRR : Hid (Rising (T3.set 0 (bump T3[0] yk))) := hRR
            have HSM3 : Hid (Small T3[0] 2199023255552) := by rw [Hid, hg3]; simp [Small, to0]
            clear hT3 hl3 hg3 hTT hRR
            have HO3 : Hid (w3.ownsRow wr.heap.size 73 6 (.slice (some ⟨gg, 0, none⟩) 1 capg) 1 (touC T3)) := HO3'.out
            have HA3 : Hid (w3.heap[x6.heap.size]? = some (.cells #[.int .i64 yt, .int .i64 yk, .int .i64 ya, .int .i64 yb, .int .i64 yc, .int .i64 yo, .int .i64 yv, .bool yy] 52 (0, 0))) := by rw [Hid, HB23.out.block _ (heap_lt HAZ.out)]; exact HAZ.out
            have p1 : w3.cell? ⟨x6.heap.size, 1, none⟩ = some (.int .i64 yk) := by rw [cell_at HA3.out]; rfl
            obtain ⟨_, _, _, z3, z4, z5⟩ := own_row6 HO3.out 0 htN
            have y3 := (own_some HO3.out (0 * 6 + 3) (by omega)).2
            have y4 := (own_some HO3.out (0 * 6 + 4) (by omega)).2
            have y5 := (own_some HO3.out (0 * 6 + 5) (by omega)).2
            obtain ⟨s1, s2, s3, s4, s5, s6⟩ := HSM3.out
            obtain ⟨zl, hzl⟩ : ∃ z, T3[0].l = z := ⟨_, rfl⟩
            obtain ⟨zs, hzs⟩ : ∃ z, T3[0].s = z := ⟨_, rfl⟩
            obtain ⟨zw, hzw⟩ : ∃ z, T3[0].w = z := ⟨_, rfl⟩
            have HZL : Hid (T3[0].l = zl) := hzl
            have HZS : Hid (T3[0].s = zs) := hzs
            have HZW : Hid (T3[0].w = zw) := hzw
            rw [hzl] at z3 s1 s2
            rw [hzs] at z4 s3 s4
            rw [hzw] at z5 s5 s6
            clear hzl hzs hzw
            have htn : ((0 : Nat) : Int) < ((1 : Nat) : Int) := by omega
            rcases hkd with rfl | rfl | rfl
            · go_wp2_with (at_builtin; refine Lib.wpList_append_run_sl _ rfl _ _ 69 rfl _ _ rfl rfl hr3 ?_)
              go_roundw
              case rel => exact ⟨q + 1, by omega, by go_num, _, by rw [← HZL.out]; exact rst_1 HO3.out HLN.out htN HB3.out HTT.out HRR.out ⟨by omega, by omega⟩⟩
              case measure => simp [intOf]; omega
            · go_wp2_with (at_builtin; refine Lib.wpList_append_run_sl _ rfl _ _ 69 rfl _ _ rfl rfl hr3 ?_)
              go_roundw
              case rel => exact ⟨q + 1, by omega, by go_num, _, by rw [← HZS.out]; exact rst_2 HO3.out HLN.out htN HB3.out HTT.out HRR.out ⟨by omega, by omega⟩⟩
              case measure => simp [intOf]; omega
            · go_wp2_with (at_builtin; refine Lib.wpList_append_run_sl _ rfl _ _ 69 rfl _ _ rfl rfl hr3 ?_)
              go_roundw
              case rel => exact ⟨q + 1, by omega, by go_num, _, by rw [← HZW.out]; exact rst_3 HO3.out HLN.out htN HB3.out HTT.out HRR.out ⟨by omega, by omega⟩⟩
              case measure => simp [intOf]; omega
          · obtain ⟨rfl, _, rfl⟩ : ta = some ⟨g2, 0, none⟩ ∧ t = t ∧ tc = tc2 := by simpa using e0
            clear e0 hrest cur
            have HBZ := HBX
            have HRZ := HRQ
            have HAZ := HACC
            have HBW : Hid (Below w.heap.size w wr) := HS.out.bel.trans (HBZ.out.mono hsz)
            have hwW := HBZ.out.size
            have HCUT : Hid ((touC (T.take t)).length = t * 6 ∧ touC (T.take t) = (touC T).take (t * 6) ∧ (touC (T.drop t)).length = (t - t) * 6 ∧ touC (T.drop t) = (touC T).drop (t * 6)) := by
              have ht : t ≤ T.length := by rw [HMM.out]; exact htm
              exact ⟨(touC_cut T t ht).2, touC_take T t ht, by rw [touC_len, List.length_drop, HMM.out], touC_drop T t ht⟩
            have hcp : t ≤ tc := by
              rcases HRZ.out.2 with ⟨e, _⟩ | ⟨g', cap', cur, e, _, _, h1, h2, _⟩
              · cases e
              · simp at e; rw [e.2]; exact h1
            have htc : (t : Int) ≤ (tc : Int) := by omega
            have htm2 : (t : Int) ≤ (t : Int) := by omega
            go_wp2_with (at_builtin; refine wpList_append_own _ rfl _ _ 69 rfl wr.heap.size 73 i1 _ 6 48 Try.underlying69 hj0 hy0 hy1 hy2 rfl (by decide) _ 0 [] rfl (World.ownsRow_nil _ _ _ _) ⟨g2, 0, none⟩ t tc (touC (T.take t)) rfl ?c0 ?c1 ?c2 ?c3 ?c4 ?c5 ?_)
            try (case c0 => exact HCUT.out.1)
            case c1 => intro j u hu; (try rw [add_zero_off]); exact own_cells HRZ.out j u (by rw [HCUT.out.2.1, List.getElem?_take] at hu; split at hu; exact hu; cases hu)
            case c2 => exact touC_ones _
            case c3 => unfold maxLen; omega
            case c4 => omega
            try (case c5 => exact Nat.le_refl _)
            intro v1 w1 hown1 hgrow1 _
            try simp only [Nat.zero_add, List.nil_append] at hown1
            have HO1 : Hid (w1.ownsRow wr.heap.size 73 6 v1 t (touC (T.take t))) := hown1
            have HB1 : Hid (Below wr.heap.size wr w1) := ⟨hgrow1.os, hgrow1.tape, hgrow1.output, hgrow1.size, fun b hb => hgrow1.block b hb (by simp [Value.ownBlock])⟩
            clear hown1 hgrow1
            obtain ⟨l1, lc1, rfl⟩ := own_slice HO1.out
            have hwz := HB1.out.size
            have HA1 : Hid (w1.heap[x6.heap.size]? = some (.cells #[.int .i64 yt, .int .i64 yk, .int .i64 ya, .int .i64 yb, .int .i64 yc, .int .i64 yo, .int .i64 yv, .bool yy] 52 (0, 0))) := by rw [Hid, HB1.out.block _ (heap_lt HAZ.out)]; exact HAZ.out
            have HR1 : Hid (w1.ownsRow w.heap.size 73 6 (.slice (some ⟨g2, 0, none⟩) t tc) t (touC T)) := own_keep HRZ.out (Keep.of_below HB1.out []) (fun _ _ => by simp)
            have q2 : w1.cell? ⟨x6.heap.size, 2, none⟩ = some (.int .i64 ya) := by rw [cell_at HA1.out]; rfl
            have q3 : w1.cell? ⟨x6.heap.size, 3, none⟩ = some (.int .i64 yb) := by rw [cell_at HA1.out]; rfl
            have q4 : w1.cell? ⟨x6.heap.size, 4, none⟩ = some (.int .i64 yc) := by rw [cell_at HA1.out]; rfl
            go_wp2_with (at_builtin; refine wpList_append_lies _ rfl _ _ 69 rfl wr.heap.size 73 i1 _ 6 48 Try.underlying69 hj0 hy0 hy1 hy2 rfl (by decide) _ _ _ rfl (HO1.out.alloc _) ⟨w1.heap.size, 0, none⟩ 1 1 [.int .i64 ya, .int .i64 yb, .int .i64 yc, .int .i64 0, .int .i64 0, .int .i64 0] rfl rfl ?e1 ?e2 (by decide) ?e3 ?e4 ?e5 _ rfl ?_)
            try (case e1 => exact World.news_of_block (cs := #[.int .i64 ya, .int .i64 yb, .int .i64 yc, .int .i64 0, .int .i64 0, .int .i64 0]) (t := 73) (fr := (0, 0)) (heap_alloc_new w1 _))
            case e2 => simp [Value.oneCell']
            case e3 => unfold maxLen; omega
            case e4 => omega
            try (case e5 => first | omega | (simp; omega))
            intro gg capg w2 hown2 hgrow2 _ _
            have HO2 : Hid (w2.ownsRow wr.heap.size 73 6 (.slice (some ⟨gg, 0, none⟩) (t + 1) capg) (t + 1) (touC (T.take t) ++ [.int .i64 ya, .int .i64 yb, .int .i64 yc, .int .i64 0, .int .i64 0, .int .i64 0])) := hown2
            have HB2 : Hid (Below wr.heap.size wr w2) := (below_alloc HB1.out _).grown hgrow2 (by simp; omega) (fun b hb => (own_block HO1.out b hb).1)
            have hw2 := HB2.out.size
            have HR2 : Hid (w2.ownsRow w.heap.size 73 6 (.slice (some ⟨g2, 0, none⟩) t tc) t (touC T)) := own_keep HRZ.out (Keep.of_below HB2.out []) (fun _ _ => by simp)
            clear hown2 hgrow2 q2 q3 q4
            by_cases hct : tc = t
            all_goals
              go_wp2_with (at_builtin; refine wpList_append_own _ rfl _ _ 69 rfl wr.heap.size 73 i1 _ 6 48 Try.underlying69 hj0 hy0 hy1 hy2 rfl (by decide) _ _ _ rfl HO2.out _ _ _ (touC (T.drop t)) rfl ?f0 ?f1 ?f2 ?f3 ?f4 ?f5 ?_)
              try (case f0 => first | exact HCUT.out.2.2.1 | simpa using HCUT.out.2.2.1)
              case f1 => intro j u hu; first | (rw [HDN.out] at hu; simp [touC] at hu; done) | ((try rw [add_off]); exact own_cells HR2.out _ u (by rw [HCUT.out.2.2.2, List.getElem?_drop] at hu; exact hu))
              case f2 => exact touC_ones _
              case f3 => unfold maxLen; omega
              case f4 => omega
              try (case f5 => exact hw2)
              intro v3 w3 hown3 hgrow3 _
              have HB3 : Hid (Below w.heap.size w w3) := ((HBW.out.trans (HB2.out.mono HBW.out.size)).grown hgrow3 (by omega) (fun b hb => by have := (own_block HO2.out b hb).1; omega))
              have HB23 : Hid (Below wr.heap.size wr w3) := HB2.out.grown hgrow3 (by omega) (fun b hb => (own_block HO2.out b hb).1)
              have hNN : t + 1 + (t - t) = t + 1 := by omega
              have HO3' : Hid (w3.ownsRow wr.heap.size 73 6 v3 (t + 1) (touC (T.take t ++ to0 ⟨ya, yb, yc⟩ :: T.drop t))) := by
                rw [Hid, touC_app]; first | exact hown3 | (rw [hNN] at hown3; exact hown3)
              obtain ⟨T3, hT3, hl3, htN, hg3, hTT, hRR⟩ := HINS.out
              rw [← hT3] at HO3'
              have HLN : Hid (T3.length = t + 1) := by rw [Hid, hl3, HMM.out]
              have HTT : Hid (Tells (L.take (q + 1)) (T3.set t (bump T3[t] yk))) := by rw [Hid, HTK.out]; exact hTT
              have HRR : Hid (Rising (T3.set t (bump T3[t] yk))) := hRR
              have HSM3 : Hid (Small T3[t] 2199023255552) := by rw [Hid, hg3]; simp [Small, to0]
              clear hT3 hl3 hg3 hTT hRR
              obtain ⟨g3, cap3, rfl, _, _⟩ := HO3'.out.form (by omega)
              have HO3 : Hid (w3.ownsRow wr.heap.size 73 6 (.slice (some ⟨g3, 0, none⟩) (t + 1) cap3) (t + 1) (touC T3)) := HO3'.out
              have HA3 : Hid (w3.heap[x6.heap.size]? = some (.cells #[.int .i64 yt, .int .i64 yk, .int .i64 ya, .int .i64 yb, .int .i64 yc, .int .i64 yo, .int .i64 yv, .bool yy] 52 (0, 0))) := by rw [Hid, HB23.out.block _ (heap_lt HAZ.out)]; exact HAZ.out
              have p1 : w3.cell? ⟨x6.heap.size, 1, none⟩ = some (.int .i64 yk) := by rw [cell_at HA3.out]; rfl
              obtain ⟨_, _, _, z3, z4, z5⟩ := own_row6 HO3.out t htN
              have y3 := (own_some HO3.out (t * 6 + 3) (by omega)).2
              have y4 := (own_some HO3.out (t * 6 + 4) (by omega)).2
              have y5 := (own_some HO3.out (t * 6 + 5) (by omega)).2
              obtain ⟨s1, s2, s3, s4, s5, s6⟩ := HSM3.out
              obtain ⟨zl, hzl⟩ : ∃ z, T3[t].l = z := ⟨_, rfl⟩
              obtain ⟨zs, hzs⟩ : ∃ z, T3[t].s = z := ⟨_, rfl⟩
              obtain ⟨zw, hzw⟩ : ∃ z, T3[t].w = z := ⟨_, rfl⟩
              have HZL : Hid (T3[t].l = zl) := hzl
              have HZS : Hid (T3[t].s = zs) := hzs
              have HZW : Hid (T3[t].w = zw) := hzw
              rw [hzl] at z3 s1 s2
              rw [hzs] at z4 s3 s4
              rw [hzw] at z5 s5 s6
              clear hzl hzs hzw
              have htn : (t : Int) < ((t + 1 : Nat) : Int) := by omega
              rcases hkd with rfl | rfl | rfl
              · go_wp2
                go_roundw
                case rel => exact ⟨q + 1, by omega, by go_num, _, by rw [← HZL.out]; exact rst_1 HO3.out HLN.out htN HB3.out HTT.out HRR.out ⟨by omega, by omega⟩⟩
                case measure => simp [intOf]; omega
              · go_wp2
                go_roundw
                case rel => exact ⟨q + 1, by omega, by go_num, _, by rw [← HZS.out]; exact rst_2 HO3.out HLN.out htN HB3.out HTT.out HRR.out ⟨by omega, by omega⟩⟩
                case measure => simp [intOf]; omega
              · go_wp2
                go_roundw
                case rel => exact ⟨q + 1, by omega, by go_num, _, by rw [← HZW.out]; exact rst_3 HO3.out HLN.out htN HB3.out HTT.out HRR.out ⟨by omega, by omega⟩⟩
                case measure => simp [intOf]; omega
    · obtain rfl : q = n := by omega
      have HTA : Hid (Tells L T) := by
        have := HS.out.tells
        rwa [← HN.out, List.take_length] at this
      have HRS : Hid (Rising T) := HS.out.rising
      have HBL : Hid (Below w.heap.size w wr) := HS.out.bel
      have HRW : Hid (wr.ownsRow w.heap.size 73 6 u3 T.length (touC T)) := HS.out.row
      obtain ⟨ta, tc, rfl⟩ := own_slice HS.out.row
      clear HS
      obtain ⟨m, hm⟩ : ∃ m, T.length = m := ⟨_, rfl⟩
      have HKM : Hid (T.length = m) := hm
      rw [hm] at HRW ⊢
      clear hm
      go_wp2
      go_ret
      exact ⟨_, T, rfl, HTA.out, HRS.out, by rw [HKM.out]; exact HRW.out, HBL.out⟩
end Go.Proofs.Ytbfhhignhbamnaa
