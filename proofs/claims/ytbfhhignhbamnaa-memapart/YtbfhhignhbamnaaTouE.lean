/- The program's Touched. -/
import Derived.Test.YtbfhhignhbamnaaTouD
namespace Go.Proofs.Ytbfhhignhbamnaa
open Go.ChangeShapes Go.WideShapes Go.ChangeAt Go.RowKit
open Go.Maps (Keyed)
attribute [local go_sem ↓] Go.wp_at_zero Go.wp_at_succ

theorem info_touch : (Try.prog.info? 73).map (fun i => (i.zero, i.size, i.bytes)) = some (some (.agg #[.int .i64 0, .int .i64 0, .int .i64 0, .int .i64 0, .int .i64 0, .int .i64 0]), 6, 48) := by kernel_rfl
theorem zero_int (w : World) : (zeroValue 3).run Try.prog w = .ok (.int .i64 0) w := by kernel_rfl
theorem touC_one (t : To) : touC [t] = toC t := by simp [touC]
theorem small_mono {t : To} {n m : Nat} (h : Small t n) (hm : n ≤ m) : Small t m := by unfold Small at *; omega
theorem tells_small {L : List Ac} {T : List To} (h : Tells L T) {n : Nat} (hn : L.length ≤ n) : ∀ k, (hk : k < T.length) → Small T[k] n := fun k hk => by
  rw [h.each _ (List.getElem_mem hk)]
  exact small_mono (touchOf_small _ _) hn
/-- The state of Touched's loop. -/
structure TSt (w wr : World) (L : List Ac) (q : Nat) (v : Value) (T : List To) (D : DataW Unit) : Prop where
  tells : Tells (L.take q) T
  len : T.length ≤ q
  map : MapT T D
  own : wr.ownsMap Try.prog 35 (plainElem Try.prog 3) w.heap.size q D
  row : wr.ownsRow (w.heap.size + 1) 73 6 v T.length (touC T)
  bel : Below w.heap.size w wr
  size : w.heap.size + 1 ≤ wr.heap.size
theorem TSt.rowAt {w wr : World} {L : List Ac} {q : Nat} {v : Value} {T : List To} {D : DataW Unit} {m : Nat} (h : TSt w wr L q v T D) (hm : T.length = m) : wr.ownsRow (w.heap.size + 1) 73 6 v m (touC T) := by rw [← hm]; exact h.row
theorem own_far {w : World} {base e s n B : Nat} {v : Value} {xs : List Value} (h : w.ownsRow base e s v n xs) (hB : B < base) : v.ownBlock = none ∨ v.ownBlock ≠ some B := by
  cases hv : v.ownBlock with
  | none => exact Or.inl rfl
  | some q => right; intro e; have := (own_block h q hv).1; simp at e; omega
theorem own_base {w : World} {base base' e s n : Nat} {v : Value} {xs : List Value} (h : w.ownsRow base e s v n xs) (hb : base' ≤ base) : w.ownsRow base' e s v n xs := by
  refine ⟨h.1, ?_⟩
  rcases h.2 with h | ⟨g, cap, cur, h1, h2, h3⟩
  · exact Or.inl h
  · exact Or.inr ⟨g, cap, cur, h1, by omega, h3⟩
theorem sorted_rising {L : List Ac} {T : List To} (h : Tells L T) (hs : ∀ i j, (hi : i < j) → (hj : j < T.length) → ahead (T[j]).a (T[i]).a = false) : Rising T := by
  unfold Rising
  rw [List.pairwise_iff_getElem]
  intro i j hi hj hij
  exact ahead_total (hs i j hij hj) (fun e => by have := inj_of_nodup h.nodup hj hi e; omega)
theorem keep_grown {g : Nat} {w w' : World} (h : Keep [g] w w') : w.grownBy w' (some g) := ⟨h.os, h.tape, h.output, h.size, fun b hb hn => h.block b hb (by simpa using hn)⟩
theorem tst_end {w X w5 : World} {L : List Ac} {q g2 m tc : Nat} {T' : List To} {D : DataW Unit} (own : X.ownsMap Try.prog 35 (plainElem Try.prog 3) w.heap.size (q + 1) D) (bel : Below w.heap.size w X) (size : w.heap.size + 1 ≤ X.heap.size)
    (hT : Tells (L.take (q + 1)) T') (hl : T'.length = m) (hm : m ≤ q + 1) (hMT : MapT T' D) (ho5 : w5.ownsRow (w.heap.size + 1) 73 6 (.slice (some ⟨g2, 0, none⟩) m tc) m (touC T')) (hk5 : Keep [g2] X.drew w5) (hgb : w.heap.size + 1 ≤ g2) :
    TSt w w5 L (q + 1) (.slice (some ⟨g2, 0, none⟩) m tc) T' D := by
  have hb := hk5.below (B := w.heap.size) (by have := bel.size; exact this) (fun b hb => by simp at hb; omega)
  have hg := keep_grown hk5
  refine ⟨hT, by omega, hMT, ?_, by rw [hl]; exact ho5, bel.trans ⟨hb.os, hb.tape, hb.output, hb.size, hb.block⟩, Nat.le_trans size hk5.size⟩
  have own' : X.drew.ownsMap Try.prog 35 (plainElem Try.prog 3) w.heap.size (q + 1) D := own
  exact own'.kept hg (by simp; omega)
theorem acc_grown {wr w1 : World} {cs : Array Value} {B : Nat} (hg : (wr.alloc (.cells cs 52)).grownBy w1 (some B)) (hB : B < wr.heap.size) : w1.heap[wr.heap.size]? = some (.cells cs 52 (0, 0)) := by
  rw [hg.block _ (by simp) (by simp; omega)]
  exact heap_alloc_new _ _
theorem fit_ad {c r : Nat} {a : Ad} (h : isAd c r a = true) (hc : c < 1000000) (hr : r < 1000000) : Fit a := by
  rcases isAd_cases h with rfl | ⟨i, hi, rfl⟩ | ⟨i, j, hi, hj, rfl⟩ | ⟨i, hi, rfl⟩
  all_goals (unfold Fit; simp; try omega)

set_option maxRecDepth 100000 in
set_option maxHeartbeats 3200000 in
theorem touched_loop {w : World} {base : Nat} {p : Value} {c r : Nat} {L : List Ac} {F : List Nat} (h : MemAt w base p c r L F) (hL : L.length < 2199023255552) (hG : Good c r L) (hc : c < 1000000) (hr : r < 1000000) :
    Calls Try.prog 26 #[p] w fun e w' => ∃ v T, e = .returned v ∧ Tells L T ∧ Rising T ∧ w'.ownsRow w.heap.size 73 6 v T.length (touC T) ∧ Below w.heap.size w w' := by
  have hmm := @run_makeMap Try.prog
  obtain ⟨i1, hj0, hy0, hy1, hy2⟩ := info_parts info_touch
  obtain ⟨M, H, S, C, v, h⟩ := h
  obtain rfl := h.p
  have h4 : w.cell? ⟨M, 4, none⟩ = some v := by rw [cell_at h.m.m]; rfl
  have hM : M < w.heap.size := heap_lt h.m.m
  have HOWN : Hid (w.ownsRow base 52 8 v L.length (logC L)) := h.own
  obtain ⟨va, vc, rfl⟩ := own_slice h.own
  clear h
  obtain ⟨n, hn⟩ : ∃ n, L.length = n := ⟨_, rfl⟩
  have HN : Hid (L.length = n) := hn
  rw [hn] at h4 hL HOWN
  clear hn
  have hM2 : M < w.heap.size + 1 := by omega
  go_enter Try.func26, Try.ntmps26
  go_wp2
  go_loopw [3, 17] (fun tv iv wr => ∃ q : Nat, q ≤ n ∧ iv = .int .i64 q ∧ ∃ T D, TSt w wr L q tv T D) (fun _ iv _ => n - (intOf iv).toNat)
  case atStart => exact ⟨0, Nat.zero_le _, rfl, [], .map [], tells_nil, Nat.le_refl _, mapT_start, World.ownsMap_made _ _ _ _, World.ownsRow_nil _ _ _ _, below_a1 _ _, by simp⟩
  case round =>
    obtain ⟨q, hq, rfl, T, D, hst⟩ := hrel
    have HS : Hid (TSt w wr L q u3 T D) := hst
    clear hst
    by_cases hlt : q < n
    · obtain ⟨g, cap, hform, hg1, hg2⟩ := HOWN.out.form (by omega)
      obtain ⟨rfl, _, rfl⟩ : va = some ⟨g, 0, none⟩ ∧ n = n ∧ vc = cap := by simpa using hform
      clear hform
      have hqL : q < L.length := by rw [HN.out]; exact hlt
      have hrow : Row8 wr ⟨g, q * 8, none⟩ (acC L[q]) := (own_row8 (by rw [HN.out]; exact HOWN.out) q hqL).later rfl HS.out.bel hg2
      have HTK : Hid (L.take (q + 1) = L.take q ++ [L[q]]) := take_snoc L q hqL
      have hg := hG q hqL
      have hfit : Fit L[q].a := fit_ad hg.1 hc hr
      have hkd := hg.2.2.2
      have hkey := kA_eq L[q].a hfit
      have HHAS := HS.out.map.2 _ hfit
      have HPUT : Hid (whichT T L[q].a = none → MapT (T ++ [to0 L[q].a]) (D.put (kA L[q].a) (.lit (.int .i64 (T.length : Int))))) := fun e => mapT_put HS.out.map (to0 L[q].a) hfit e
      have htl : T.length ≤ q := HS.out.len
      have HSM : Hid (∀ k, (hk : k < T.length) → Small T[k] 2199023255552) := tells_small HS.out.tells (by rw [List.length_take]; omega)
      have hwsz := HS.out.size
      clear hg hfit
      generalize L[q] = y at *
      obtain ⟨yt, yk, ⟨ya, yb, yc⟩, yo, yv, yy⟩ := y
      obtain ⟨d0, d1, d2, d3, d4, d5, d6, d7⟩ := row8_cells hrow rfl
      simp only [acC, List.getElem_toArray, List.getElem_cons_zero, List.getElem_cons_succ] at d0 d1 d2 d3 d4 d5 d6 d7
      simp only at hkey HHAS hkd HPUT
      clear hrow
      have hd : decide ((q : Int) < (n : Int)) = true := by simp; omega
      have hx1 : (q : Int) < (n : Int) := by omega
      obtain ⟨ta, tc, rfl⟩ := own_slice HS.out.row
      cases hw : whichT T ⟨ya, yb, yc⟩ with
      | some k =>
        obtain ⟨hk, hka⟩ := which_some hw
        rw [hw] at HHAS
        have hhas : Maps.has D (kA ⟨ya, yb, yc⟩) = true := HHAS.1
        have HAT : Hid (D.atKey (kA ⟨ya, yb, yc⟩) (.lit (.int .i64 0)) = .lit (.int .i64 (k : Int))) := HHAS.2 k rfl
        clear HHAS HPUT hw
        generalize kA ⟨ya, yb, yc⟩ = kk at *
        obtain ⟨g2, tc2, hform, hgb, hgl⟩ := HS.out.row.form (by omega)
        obtain ⟨rfl, _, rfl⟩ : ta = some ⟨g2, 0, none⟩ ∧ T.length = T.length ∧ tc = tc2 := by simpa using hform
        clear hform
        have HT' : Hid (Tells (L.take (q + 1)) (T.set k (bump T[k] yk))) := by
          rw [Hid, HTK.out]; exact tells_bump HS.out.tells hk hka
        have HMT : Hid (MapT (T.set k (bump T[k] yk)) D) := mapT_set HS.out.map k _ hk (bump_a _ _)
        have hTl : (T.set k (bump T[k] yk)).length = T.length := by simp
        have HRK : Hid (∀ o, Calls Try.prog 33 #[.pointer (some ⟨g2, k * 6, none⟩), .int .i64 yk] (wr.alloc o).drew fun e w' => e = .returned (.tuple #[]) ∧ w'.ownsRow (w.heap.size + 1) 73 6 (.slice (some ⟨g2, 0, none⟩) T.length tc) T.length (touC (T.set k (bump T[k] yk))) ∧ Keep [g2] (wr.alloc o).drew w') := fun o => reckon_own (X := (wr.alloc o).drew) (HS.out.row.alloc o).drew rfl k hk yk hkd (HSM.out k hk)
        have HTL : Hid ((T.set k (bump T[k] yk)).length = T.length) := hTl
        have HX : Hid (TSt w wr L q (.slice (some ⟨g2, 0, none⟩) T.length tc) T D) := HS.out
        clear hTl hka HS HSM
        generalize T.set k (bump T[k] yk) = T' at *
        generalize hm : T.length = m at *
        have hki : (k : Int) < (m : Int) := by omega
        go_wp2_with (at_lookup; refine wpList_lookup_own_ok_int _ rfl _ _ 79 rfl 35 3 .i64 addr_keyed Try.underlying79 Try.underlying3 (zero_int _) w.heap.size q D rfl (HX.out.own.alloc _) _ kk rfl hkey ?_; intro cc hat hwc)
        have hck : cc = (k : Int) := by
          rw [HAT.out] at hat
          simp at hat
          exact hat.symm
        subst hck
        clear hat hwc
        go_region_with ((go_at_call 33; refine (HRK.out _).mono ?_; rintro e w5 ⟨rfl, ho5, hk5⟩))
        have HEND : Hid (TSt w w5 L (q + 1) (.slice (some ⟨g2, 0, none⟩) m tc) T' D) := tst_end ((HX.out.own.alloc _).mono (by omega)) (below_alloc HX.out.bel _) (by simp; omega) HT'.out HTL.out (by omega) HMT.out ho5 hk5 hgb
        clear ho5 hk5 d0 d1 d2 d3 d4 d5 d6 d7
        go_wp2
        go_roundw
        case rel => exact ⟨q + 1, by omega, by go_num, T', D, HEND.out⟩
        case measure => simp [intOf]; omega
      | none =>
        rw [hw] at HHAS
        have hhas : Maps.has D (kA ⟨ya, yb, yc⟩) = false := HHAS.1
        have HMP : Hid (MapT (T ++ [to0 ⟨ya, yb, yc⟩]) (D.put (kA ⟨ya, yb, yc⟩) (.lit (.int .i64 (T.length : Int))))) := HPUT.out hw
        have HWN : Hid (∀ t ∈ T, t.a ≠ ⟨ya, yb, yc⟩) := which_none hw
        have HTN : Hid (Tells (L.take (q + 1)) (T ++ [bump (to0 ⟨ya, yb, yc⟩) yk])) := by
          rw [Hid, HTK.out]; exact tells_new (x := Ac.mk yt yk ⟨ya, yb, yc⟩ yo yv yy) HS.out.tells HWN.out
        clear HHAS HPUT hw HWN HSM
        generalize kA ⟨ya, yb, yc⟩ = kk at *
        have HX : Hid (TSt w wr L q (.slice ta T.length tc) T D) := HS.out
        clear HS
        have HTC : Hid (touC (T ++ [to0 ⟨ya, yb, yc⟩]) = touC T ++ [.int .i64 ya, .int .i64 yb, .int .i64 yc, .int .i64 0, .int .i64 0, .int .i64 0]) := by rw [Hid, touC_app, touC_one]; rfl
        have HTS : Hid ((T ++ [to0 ⟨ya, yb, yc⟩]).set T.length (bump (to0 ⟨ya, yb, yc⟩) yk) = T ++ [bump (to0 ⟨ya, yb, yc⟩) yk]) := by rw [Hid]; simp
        have hwf : (Lit.int .i64 (T.length : Int)).wf = true := by simp [Lit.wf, IntKind.min, IntKind.max, IntKind.signed, IntKind.bits]; omega
        have HTL : Hid ((T ++ [to0 ⟨ya, yb, yc⟩]).length = T.length + 1 ∧ (T ++ [bump (to0 ⟨ya, yb, yc⟩) yk]).length = T.length + 1 ∧ ∀ hk, (T ++ [to0 ⟨ya, yb, yc⟩])[T.length]'hk = to0 ⟨ya, yb, yc⟩) := ⟨by simp, by simp, fun hk => by simp⟩
        obtain ⟨m, hm⟩ : ∃ m, T.length = m := ⟨_, rfl⟩
        have HMM : Hid (T.length = m) := hm
        rw [hm] at HMP hwf HTL HTS htl HX ⊢
        clear hm
        go_wp2_with (first | (at_lookup; refine wpList_lookup_own_ok_int _ rfl _ _ 79 rfl 35 3 .i64 addr_keyed Try.underlying79 Try.underlying3 (zero_int _) w.heap.size q D rfl (HX.out.own.alloc _) _ kk rfl hkey ?_; intro cc hat hwc; clear hat hwc) | (at_mapUpdate; refine wpList_mapUpdate_own _ rfl _ _ _ 79 rfl 35 3 addr_keyed Try.underlying79 _ w.heap.size q D rfl (HX.out.own.alloc _) (by unfold maxLen; omega) _ _ kk rfl rfl hkey (.lit (.int .i64 (m : Int))) [] (plainElem_int Try.underlying3 hwf) ?_; intro w1 hown1 hgrow1; have HA1 : Hid (w1.heap[wr.heap.size]? = some (.cells #[.int .i64 yt, .int .i64 yk, .int .i64 ya, .int .i64 yb, .int .i64 yc, .int .i64 yo, .int .i64 yv, .bool yy] 52 (0, 0))) := acc_grown hgrow1 (by omega); have m1 : w1.cell? ⟨wr.heap.size, 1, none⟩ = some (.int .i64 yk) := (by rw [cell_at HA1.out]; rfl); have m2 : w1.cell? ⟨wr.heap.size, 2, none⟩ = some (.int .i64 ya) := (by rw [cell_at HA1.out]; rfl); have m3 : w1.cell? ⟨wr.heap.size, 3, none⟩ = some (.int .i64 yb) := (by rw [cell_at HA1.out]; rfl); have m4 : w1.cell? ⟨wr.heap.size, 4, none⟩ = some (.int .i64 yc) := (by rw [cell_at HA1.out]; rfl); have HOM1 : Hid (w1.ownsMap Try.prog 35 (plainElem Try.prog 3) w.heap.size (q + 1) (D.put kk (.lit (.int .i64 (m : Int))))) := hown1; have HRW1 : Hid (w1.ownsRow (w.heap.size + 1) 73 6 (.slice ta m tc) m (touC T)) := ((HX.out.rowAt HMM.out).alloc _).kept hgrow1 (own_far (HX.out.rowAt HMM.out) (by omega)); have HBL1 : Hid (Below w.heap.size w w1) := (below_alloc HX.out.bel _).grown hgrow1 (by simp; omega) (fun b hb => by cases hb; omega); have hsz1 : wr.heap.size < w1.heap.size := (by have := hgrow1.size; simp at this; omega); clear hown1 hgrow1) | (at_builtin; refine wpList_append_lies _ rfl _ _ 69 rfl (w.heap.size + 1) 73 i1 _ 6 48 Try.underlying69 hj0 hy0 hy1 hy2 rfl (by decide) _ _ _ rfl (HRW1.out.alloc _) ⟨w1.heap.size, 0, none⟩ 1 1 [.int .i64 ya, .int .i64 yb, .int .i64 yc, .int .i64 0, .int .i64 0, .int .i64 0] rfl rfl ?c1 ?c2 (by decide) ?c3 ?c4 ?c5 _ rfl ?_))
        case c2 => simp [Value.oneCell']
        case c3 => unfold maxLen; omega
        case c4 => omega
        case c5 => first | omega | (simp; omega)
        intro gg cap' w3 hown3 hgrow3 hat3 hlt3
        have hgb : w.heap.size + 1 ≤ gg := (own_block hown3 gg rfl).1
        have HA3 : Hid (w3.heap[wr.heap.size]? = some (.cells #[.int .i64 yt, .int .i64 yk, .int .i64 ya, .int .i64 yb, .int .i64 yc, .int .i64 yo, .int .i64 yv, .bool yy] 52 (0, 0))) := by
          rw [Hid, hgrow3.block _ (by simp; omega) (fun e => own_ne HRW1.out HA1.out (by decide) e.symm), Below.heap_alloc _ _ _ hsz1]
          exact HA1.out
        have m31 : w3.cell? ⟨wr.heap.size, 1, none⟩ = some (.int .i64 yk) := by rw [cell_at HA3.out]; rfl
        have HOM3 : Hid (w3.ownsMap Try.prog 35 (plainElem Try.prog 3) w.heap.size (q + 1) (D.put kk (.lit (.int .i64 (m : Int))))) := (HOM1.out.alloc _).kept hgrow3 (by intro e; have := own_block HRW1.out _ e.symm; omega)
        have HBL3 : Hid (Below w.heap.size w w3) := (below_alloc HBL1.out _).grown hgrow3 (by simp; omega) (fun b hb => by have := (own_block HRW1.out b hb).1; omega)
        have hsz3 : w.heap.size + 1 ≤ w3.heap.size := by have := hgrow3.size; simp at this; omega
        have HRW3 : Hid (w3.ownsRow (w.heap.size + 1) 73 6 (.slice (some ⟨gg, 0, none⟩) (m + 1) cap') (m + 1) (touC (T ++ [to0 ⟨ya, yb, yc⟩]))) := by rw [Hid, HTC.out]; exact hown3
        have HRK : Hid (Calls Try.prog 33 #[.pointer (some ⟨gg, m * 6, none⟩), .int .i64 yk] w3.drew fun e w' => e = .returned (.tuple #[]) ∧ w'.ownsRow (w.heap.size + 1) 73 6 (.slice (some ⟨gg, 0, none⟩) (m + 1) cap') (m + 1) (touC (T ++ [bump (to0 ⟨ya, yb, yc⟩) yk])) ∧ Keep [gg] w3.drew w') := by
          have hk : m < (T ++ [to0 ⟨ya, yb, yc⟩]).length := by rw [HTL.out.1]; omega
          have := reckon_own (X := w3.drew) HRW3.out.drew HTL.out.1 m hk yk hkd (by rw [HTL.out.2.2]; simp [Small, to0])
          rw [HTL.out.2.2 hk, HTS.out] at this
          exact this
        clear hown3 hgrow3 hat3 hlt3 m1 m2 m3 m4 d0 d1 d2 d3 d4 d5 d6 d7
        have hmi : (m : Int) < ((m + 1 : Nat) : Int) := by omega
        go_wp2_with fail
        go_region_with ((go_at_call 33; refine HRK.out.mono ?_; rintro e w5 ⟨rfl, ho5, hk5⟩))
        all_goals
          have HEND : Hid (TSt w w5 L (q + 1) (.slice (some ⟨gg, 0, none⟩) (m + 1) cap') (T ++ [bump (to0 ⟨ya, yb, yc⟩) yk]) (D.put kk (.lit (.int .i64 (m : Int))))) := tst_end HOM3.out HBL3.out hsz3 HTN.out HTL.out.2.1 (by omega) (by
            have := mapT_set HMP.out m (bump (to0 ⟨ya, yb, yc⟩) yk) (by rw [HTL.out.1]; omega) (by rw [HTL.out.2.2, bump_a])
            rwa [HTS.out] at this) ho5 hk5 hgb
          clear ho5 hk5 m31
          go_wp2
          go_roundw
          case rel => exact ⟨q + 1, by omega, by go_num, _, _, HEND.out⟩
          case measure => simp [intOf]; omega
    · obtain rfl : q = n := by omega
      have HSR : Hid (Calls Try.prog 34 #[u3, .func (.func 35) #[] #[]] wr fun e w' => e = .returned (.tuple #[]) ∧ ∃ T', T'.Perm T ∧ (∀ i j, (hi : i < j) → (hj : j < T'.length) → ahead (T'[j]).a (T'[i]).a = false) ∧ w'.ownsRow (w.heap.size + 1) 73 6 u3 T'.length (touC T') ∧ Keep u3.ownBlock.toList wr w') := sort_any HS.out.row (by have := HS.out.len; omega)
      have HTA : Hid (Tells L T) := by
        have := HS.out.tells
        rwa [← HN.out, List.take_length] at this
      have HBL : Hid (Below w.heap.size w wr) := HS.out.bel
      have HOB : Hid (∀ b ∈ u3.ownBlock.toList, w.heap.size ≤ b) := fun b hb => by
        have := (own_block HS.out.row b (by simpa using hb)).1
        omega
      obtain ⟨ta, tc, rfl⟩ := own_slice HS.out.row
      clear HS
      generalize T.length = m at *
      go_wp2_with fail
      refine HSR.out.mono ?_
      rintro e w5 ⟨rfl, T', hp, hs, ho, hk⟩
      have HT' : Hid (Tells L T') := tells_perm HTA.out hp
      have HRS : Hid (Rising T') := sorted_rising HT'.out hs
      have HO' : Hid (w5.ownsRow w.heap.size 73 6 (.slice ta m tc) T'.length (touC T')) := own_base ho (by omega)
      have HB5 : Hid (Below w.heap.size w w5) := HBL.out.trans (hk.below HBL.out.size HOB.out)
      clear hp hs ho hk
      go_wp2
      go_ret
      exact ⟨_, T', rfl, HT'.out, HRS.out, HO'.out, HB5.out⟩
end Go.Proofs.Ytbfhhignhbamnaa
