/- PlainPlaces walked. -/
import Derived.Test.YtgbmnngmfcneaaaPlB2
import Derived.Test.YtgbmnngmfcneaaaPlAr
namespace Go.Proofs.Ytgbmnngmfcneaaa.Pl
open Go.ChangeShapes Go.WideShapes Go.ChangeAt Go.RowKit
attribute [local go_sem ↓] Go.wp_at_zero Go.wp_at_succ

/-- Places, as numbers. -/
theorem place_nums {raw : List Int} {n : Nat} (hr : raw = List.replicate n 0) (h1 : 1 ≤ n) (h64 : n ≤ 64) (p z o : Int) :
    (setR raw p z).length = n ∧ plc raw p < n ∧ plc (setR raw p z) ((plc raw p : Nat) : Int) = plc raw p ∧ nth (setR raw p z) (plc raw p) = z ∧ plc (setR raw p z) o = plc raw o ∧ (plc raw o ≠ plc raw p → nth (setR raw p z) (plc raw o) = 0) ∧ (IntKind.u64.wrap p).tmod (n : Int) = (plc raw p : Int) ∧ (IntKind.u64.wrap o).tmod (n : Int) = (plc raw o : Int) := by
  have hl : raw.length = n := by rw [hr]; simp
  have hk : plc raw p < n := by have := plc_lt (raw := raw) (by omega) p; omega
  have hs : (setR raw p z).length = n := by unfold setR; simp [hl]
  refine ⟨hs, hk, ?_, ?_, ?_, fun hne => ?_, ?_, ?_⟩
  · have e : plc (setR raw p z) ((plc raw p : Nat) : Int) = (((plc raw p : Nat) : Int) % 18446744073709551616).toNat % (setR raw p z).length := rfl
    rw [e, hs, show (((plc raw p : Nat) : Int) % 18446744073709551616).toNat = plc raw p by omega]
    exact Nat.mod_eq_of_lt hk
  · unfold setR
    rw [nth_set _ _ _ _ (by omega), if_pos rfl]
  · unfold plc
    rw [hs, hl]
  · unfold setR
    rw [nth_set _ _ _ _ (by omega), if_neg (fun e => hne e.symm), hr]
    have : plc (List.replicate n (0 : Int)) o < n := by have := plc_lt (raw := List.replicate n (0 : Int)) (by simp; omega) o; simpa using this
    unfold nth
    simp [List.getD_eq_getElem?_getD, this]
  · rw [plc_num, ← hl]; rfl
  · rw [plc_num, ← hl]; rfl
theorem places_walk {w : World} {v : Value} {x : Spt} (h : SptV w v x) : Calls Try.prog 6 #[v] w fun e w' => e = .returned (.bool true) ∧ Below w.heap.size w w' := by
  obtain ⟨vr, rfl, hR, hsv⟩ := h
  obtain ⟨c, p, z, o⟩ := x
  dsimp only at *
  obtain ⟨q, hq⟩ : ∃ q, Pc.okC c = q := ⟨_, rfl⟩
  cases q with
  | false =>
    have HB : Hid (∀ w' : World, Below w.heap.size w w' → Calls Try.prog 8 #[.agg (Pc.cfA c vr)] w' fun e w'' => e = .returned (.tuple #[.pointer none, .pointer none, .bool true]) ∧ Below w'.heap.size w' w'') := fun w' hb => both_no ⟨_, rfl, hR.later hb (Nat.le_refl _)⟩ hq
    obtain ⟨ar, cap, rfl, -⟩ := hR
    obtain ⟨rw0, b, d, s, mu, t, R⟩ := c
    unfold Pc.cfA at *
    dsimp only at *
    clear hq hsv
    go_enter Try.func6, Try.ntmps6
    go_wp2_with fail
    refine (HB.out _ (below_alloc (below_a1 _ _) _)).mono ?_
    rintro e w1 ⟨rfl, hb⟩
    have HF : Hid (Below w.heap.size w w1) := below_then (below_alloc (below_a1 _ _) _) hb
    clear hb HB
    go_wp2_with fail
    go_ret
    exact ⟨rfl, HF.out⟩
  | true =>
    obtain ⟨hr1, hr64, _⟩ := Pc.okC_raw hq
    have HB : Hid (∀ w' : World, Below w.heap.size w w' → Calls Try.prog 8 #[.agg (Pc.cfA c vr)] w' fun e w'' => ∃ X F Y G Z, e = .returned (.tuple #[.pointer (some ⟨X, 0, none⟩), .pointer (some ⟨Y, 0, none⟩), .bool true]) ∧ Du w'' w'.heap.size X F Y G Z (newRaw c) (newCs c) ∧ Below w'.heap.size w' w'') := fun w' hb => both_yes ⟨_, rfl, hR.later hb (Nat.le_refl _)⟩ hq
    have HRW : Hid (newRaw c = List.replicate c.raw.toNat 0) := rfl
    obtain ⟨ar, cap, rfl, -⟩ := hR
    generalize newRaw c = raw at *
    generalize newCs c = cs at *
    obtain ⟨rw0, b, d, s, mu, t, R⟩ := c
    unfold Pc.cfA at *
    dsimp only at *
    obtain ⟨n, rfl⟩ : ∃ n : Nat, rw0 = (n : Int) := ⟨rw0.toNat, by omega⟩
    have HN : Hid (1 ≤ n ∧ n ≤ 64) := ⟨by omega, by omega⟩
    clear hq hr1 hr64
    go_enter Try.func6, Try.ntmps6
    go_wp2_with fail
    refine (HB.out _ (below_alloc (below_a1 _ _) _)).mono ?_
    rintro e w1 ⟨X, F, Y, G, Z, rfl, hdu, hb⟩
    have HD : Hid (Du w1 ((w.alloc (.cells #[.int .i64 (n : Int), .int .i64 b, .int .i64 d, .int .i64 s, .bool mu, .int .i64 t, .slice ar R.length cap, .int .i64 p, .int .i64 z, .int .i64 o] 54)).alloc (.cells #[.int .i64 (n : Int), .int .i64 b, .int .i64 d, .int .i64 s, .bool mu, .int .i64 t, .slice ar R.length cap] 24)).heap.size X F Y G Z raw cs) := hdu
    have HF : Hid (Below w.heap.size w w1) := below_then (below_alloc (below_a1 _ _) _) hb
    have gc := row_next2 hb
    have k0 : w1.cell? ⟨w.heap.size + 1, 0, none⟩ = some (.int .i64 (n : Int)) := (cell_at gc 0).trans rfl
    have hrl : raw.length = n := by rw [HRW.out]; simp
    have hz : Sx z := hsv
    have H1 : Hid (Calls Try.prog 19 #[.pointer (some ⟨X, 0, none⟩), .int .i64 p, .int .i64 z] w1 fun e w' => e = .returned (.tuple #[]) ∧ StAt w' _ X F (setR raw p z) cs ∧ Next F F w1 w') := store_any HD.out.s p z hz
    have hlo := HD.out.s.lo
    have HLO : Hid (∀ b ∈ F, w.heap.size + 2 ≤ b) := fun b hb => by have := (hlo b hb).1; simpa using this
    have HGC : Hid (w1.heap[w.heap.size + 1]? = some (.cells #[.int .i64 (n : Int), .int .i64 b, .int .i64 d, .int .i64 s, .bool mu, .int .i64 t, .slice ar R.length cap] 24 (0, 0))) := gc
    clear hb hdu gc HB hlo hsv
    go_wp2_with fail
    refine H1.out.mono ?_
    rintro e w2 ⟨rfl, hst, hnx⟩
    obtain ⟨r1, r2, r3, r4, r5, r6, r7, r8⟩ := place_nums (n := n) (show raw = List.replicate n 0 from HRW.out) HN.out.1 HN.out.2 p z o
    have HR6 : Hid (plc raw o ≠ plc raw p → nth (setR raw p z) (plc raw o) = 0) := r6
    have HR4 : Hid (nth (setR raw p z) (plc raw p) = z) := r4
    have hb12 : Below (w.heap.size + 2) w1 w2 := hnx.1.below (by have := heap_lt HGC.out; omega) HLO.out
    have k2 : w2.cell? ⟨w.heap.size + 1, 0, none⟩ = some (.int .i64 (n : Int)) := cell_later hb12 (a := ⟨w.heap.size + 1, 0, none⟩) (Nat.lt_succ_self _) k0
    have HF2 : Hid (Below w.heap.size w w2) := HF.out.trans (hnx.1.below HF.out.size (fun b hb => by have := HLO.out b hb; omega))
    have HL1 : Hid (∀ w', Below w2.heap.size w2 w' → Calls Try.prog 20 #[.pointer (some ⟨X, 0, none⟩), .int .i64 ((plc raw p : Nat) : Int)] w' fun e w'' => e = .returned (.int .i64 z) ∧ Below w'.heap.size w' w'') := fun w' hb => by
      have := load_any (hst.later hb) ((plc raw p : Nat) : Int)
      rw [r3, r4] at this
      exact this
    have HL2 : Hid (∀ w', Below w2.heap.size w2 w' → Calls Try.prog 20 #[.pointer (some ⟨X, 0, none⟩), .int .i64 o] w' fun e w'' => e = .returned (.int .i64 (nth (setR raw p z) (plc raw o))) ∧ Below w'.heap.size w' w'') := fun w' hb => by
      have := load_any (hst.later hb) o
      rw [r5] at this
      exact this
    have HRA : Hid (∀ w', Below w2.heap.size w2 w' → Calls Try.prog 17 #[.pointer (some ⟨X, 0, none⟩)] w' fun e w'' => ∃ u, e = .returned u ∧ w''.ownsRow w'.heap.size 2 1 u n (numC (setR raw p z)) ∧ Below w'.heap.size w' w'') := fun w' hb => by
      have := raw_any (hst.later hb)
      rw [r1] at this
      exact this
    have HR1 : Hid ((setR raw p z).length = n) := r1
    have hlp : w.heap.size + 1 < w2.heap.size := World.block_lt_of_cell? _ _ k2
    clear hst hnx hb12 r1 r3 r4 r5 r6 H1 HD k0 hrl
    generalize setR raw p z = raw' at *
    generalize plc raw p = kN at *
    generalize plc raw o = mN at *
    have hn1 : 1 ≤ n := HN.out.1
    have hn64 : n ≤ 64 := HN.out.2
    have hwk : wrap64 (kN : Int) = (kN : Int) := by unfold wrap64; omega
    go_wp2_with fail
    refine (HL1.out _ (Below.refl _ _)).mono ?_
    rintro e w3 ⟨rfl, hb3⟩
    have HB3 : Hid (Below w2.heap.size w2 w3) := hb3
    clear hb3 HL1
    go_wp2_with fail
    refine (HL2.out _ HB3.out).mono ?_
    rintro e w4 ⟨rfl, hb4⟩
    have HB4 : Hid (Below w2.heap.size w2 w4) := below_then HB3.out hb4
    clear hb4 HL2 HB3
    go_wp2_with fail
    refine (HRA.out _ HB4.out).mono ?_
    rintro e w5 ⟨u, rfl, ho5, hb5⟩
    have HB5 : Hid (Below w2.heap.size w2 w5) := below_then HB4.out hb5
    have HFF : Hid (Below w.heap.size w w5) := below_then HF2.out HB5.out
    have k5 : w5.cell? ⟨w.heap.size + 1, 0, none⟩ = some (.int .i64 (n : Int)) := cell_later HB5.out (a := ⟨w.heap.size + 1, 0, none⟩) hlp k2
    obtain ⟨ua, uc, rfl⟩ := own_slice ho5
    cases ua with
    | none =>
      exfalso
      rcases ho5.2 with ⟨_, h0⟩ | ⟨_, _, _, e, _⟩
      · omega
      · cases e
    | some x5 =>
    obtain ⟨gu, rfl⟩ := own_at0 ho5
    have cu : w5.cell? ⟨gu, kN, none⟩ = some (.int .i64 z) := own_cells ho5 kN _ (by rw [numC_get _ _ (by rw [HR1.out]; exact r2), HR4.out])
    have hkI : (kN : Int) < (n : Int) := by omega
    clear ho5 hb5 HB4 k2 HRA
    by_cases hmk : mN = kN
    · subst hmk
      have hv := HR4.out
      go_wp2_with fail
      go_ret
      exact ⟨rfl, HFF.out⟩
    · have hv := HR6.out hmk
      have hne : ((mN : Int) == (kN : Int)) = false := beq_eq_false_iff_ne.2 (by omega)
      go_wp2_with fail
      go_ret
      exact ⟨rfl, HFF.out⟩
end Go.Proofs.Ytgbmnngmfcneaaa.Pl
