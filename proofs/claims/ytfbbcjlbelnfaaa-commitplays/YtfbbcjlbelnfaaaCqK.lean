/- The document's machine of layer 8: Step. -/
import Derived.Test.YtfbbcjlbelnfaaaCqI
import Derived.Deep.AppendLies
namespace Go.Proofs.Ytfbbcjlbelnfaaa
open Go.ChangeShapes Go.WideShapes Go.ChangeAt Go.RowKit
attribute [local go_sem ↓] Go.wp_at_zero Go.wp_at_succ

theorem wait_iff {b : Ck} {v : Int} (hs : 1 ≤ b.stamp) (h1 : b.st = 1) : waitK b v = decide (v / 2 < b.stamp) := by
  unfold waitK overV laidV
  rw [Bool.eq_iff_iff]
  simp [h1]
  omega
def lsV (b : Ck) : Int := if b.st = 1 then b.stamp else 0
theorem plan_5 {P : Cp} {b : Ck} (h : b.st = 5) : planK P b = #[.bool true, .int .i64 b.err, .int .i64 0, .int .i64 0, .int .i64 0, .int .i64 0, .int .i64 0, .int .i64 0] := by
  obtain ⟨st, seen, stamp, word, comp, err⟩ := b
  simp only at h
  subst h
  rfl
theorem plan_4 {P : Cp} {b : Ck} (h : b.st = 4) : planK P b = #[.bool true, .int .i64 b.err, .int .i64 b.comp, .int .i64 b.seen, .int .i64 0, .int .i64 0, .int .i64 0, .int .i64 0] := by
  obtain ⟨st, seen, stamp, word, comp, err⟩ := b
  simp only at h
  subst h
  rfl
theorem plan_2 {P : Cp} {b : Ck} (h : b.st ≠ 4) (h' : b.st ≠ 5) : planK P b = #[.bool false, .int .i64 b.err, .int .i64 0, .int .i64 0, .int .i64 (adK P b).k, .int .i64 (adK P b).i, .int .i64 (adK P b).j, .int .i64 (lsV b)] := by
  have ht : thrB b = false := by unfold thrB; rw [decide_eq_false h, decide_eq_false h']; rfl
  unfold planK plK lsV
  rw [ht, if_neg h, if_neg h, if_neg (by simp)]

set_option maxRecDepth 100000 in
set_option maxHeartbeats 3200000 in
theorem rkstep_w {w : World} {base Y : Nat} {P : Cp} {q : Value} {c : Nat} {L : List Ac} {l : List Int} {K G : List Nat} (h : RKM w base q c L K Y P l G) (hb : base ≤ w.heap.size) (hL : L.length < 3298534883328) (hk : LKk P l) (hp : POk P) (ht : ¬ thr (runK P l)) (hv : W64 (wordOf L (adK P (runK P l)))) (t : Int) (hs1 : (runK P l).st = 1) (hwt : waitK (runK P l) (wordOf L (adK P (runK P l))) = true) :
    Calls Try.prog 55 #[.pointer (some ⟨Y, 3, none⟩), q, .int .i64 t] w fun e w' => e = .returned (.tuple #[.int .i64 1, .int .i64 0]) ∧ ∃ K' G', RKM w' base q c (loadL c P.s L t (adK P (runK P l))) K' Y P l G' ∧ Next (G ++ K) (G' ++ K') w w' := by
  obtain ⟨i0, hi, hz0, hz1, hz2⟩ := info_parts info_num8
  have HN : Hid (∀ w' : World, Below w.heap.size w w' → Calls Try.prog 76 #[.pointer (some ⟨Y, 3, none⟩)] w' fun e w'' => e = .returned (.agg (planK P (runK P l))) ∧ Below w'.heap.size w' w'') := fun w' hb => rk_next h.rk hk hp hb
  obtain ⟨a0, cap0, hkl⟩ := h.rk.kl
  have y0 := hkl.cells.1
  have hY : Y < w.heap.size := heap_lt hkl.m
  obtain ⟨R, rfl⟩ := h.ref.ptr
  have r1 := h.ref.ring8
  have hR : R < w.heap.size := World.block_lt_of_cell? _ _ r1
  have hthr : thrB (runK P l) = false := by
    cases e : thrB (runK P l)
    · rfl
    · exact absurd (thrB_iff.mp e) ht
  have hst4 : (runK P l).st ≠ 4 := fun e => ht (Or.inl e)
  have HPL : Hid (planK P (runK P l) = #[.bool false, .int .i64 (runK P l).err, .int .i64 0, .int .i64 0, .int .i64 (adK P (runK P l)).k, .int .i64 (adK P (runK P l)).i, .int .i64 (adK P (runK P l)).j, .int .i64 (lsV (runK P l))]) := by
    rw [Hid]; unfold planK plK lsV; rw [hthr, if_neg hst4, if_neg hst4, if_neg (by simp)]
  rw [HPL.out] at HN
  have HH : Hid (RKM w base (.pointer (some ⟨R, 0, none⟩)) c L K Y P l G) := h
  have HLD : Hid (∀ w' : World, RKM w' base (.pointer (some ⟨R, 0, none⟩)) c L K Y P l G → base ≤ w'.heap.size → Calls Try.prog 58 #[.pointer (some ⟨R, 0, none⟩), .int .i64 t, .agg #[.int .i64 (adK P (runK P l)).k, .int .i64 (adK P (runK P l)).i, .int .i64 (adK P (runK P l)).j]] w' fun e w'' => e = .returned (.tuple #[.int .i64 (wordOf L (adK P (runK P l))), .int .i64 0]) ∧ ∃ K', RKM w'' base (.pointer (some ⟨R, 0, none⟩)) c (loadL c P.s L t (adK P (runK P l))) K' Y P l G ∧ Next K K' w' w'') := fun w' h' hb' => by
    have := rload_any h'.ref hb' hL t (adK P (runK P l))
    rw [if_pos (adK_is hk.all ht), if_pos (adK_is hk.all ht)] at this
    refine this.mono ?_
    rintro e w2 ⟨rfl, K', h1, h2⟩
    exact ⟨rfl, K', h'.onRef h1 h2, h2⟩
  have HSTP : Hid (∀ w, Calls Try.prog 77 #[.int .i64 (wordOf L (adK P (runK P l)))] w fun e w' => e = .returned (.int .i64 (wordOf L (adK P (runK P l)) / 2)) ∧ w' = w) := rstamp_any _ hv.1 hv.2
  have hlnb : l.length ≤ 146 := by have h1 := kok_len hk.all; have h2 := hp.s16; omega
  have hsm : 1 ≤ (runK P l).stamp := by have h1 := (kok_mid hk.all (Or.inl hs1)).1.lo; have h2 := hp.z0; omega
  have hls : lsV (runK P l) = (runK P l).stamp := by unfold lsV; rw [if_pos hs1]
  have hwd := wait_iff (v := wordOf L (adK P (runK P l))) hsm hs1
  rw [hwt] at hwd
  replace hwd := hwd.symm
  rw [hls] at HN
  clear h hkl HPL hv hls
  generalize wordOf L (adK P (runK P l)) = v at *
  generalize loadL c P.s L t (adK P (runK P l)) = L' at *
  generalize (runK P l).stamp = sm at *
  have hpos : decide (0 < sm) = true := decide_eq_true (by omega)
  generalize (runK P l).err = er at *
  generalize (adK P (runK P l)).k = ak at *
  generalize (adK P (runK P l)).i = ai at *
  generalize (adK P (runK P l)).j = aj at *
  have hrs : ((P.s : Int) != (P.s : Int)) = false := by simp
  go_enter Try.func55, Try.ntmps55
  go_wp2_with fail
  refine (HN.out _ (Below.refl _ _)).mono ?_
  rintro e w1 ⟨rfl, hb1⟩
  have HM1 : Hid (RKM (w1.alloc (.cells #[.bool false, .int .i64 er, .int .i64 0, .int .i64 0, .int .i64 ak, .int .i64 ai, .int .i64 aj, .int .i64 sm] 148)) base (.pointer (some ⟨R, 0, none⟩)) c L K Y P l G) := HH.out.below (below_then hb1 (below_a1 _ _))
  have HB1 : Hid (Below w.heap.size w (w1.alloc (.cells #[.bool false, .int .i64 er, .int .i64 0, .int .i64 0, .int .i64 ak, .int .i64 ai, .int .i64 aj, .int .i64 sm] 148))) := below_then hb1 (below_a1 _ _)
  have HWS : Hid (w.heap.size ≤ w1.heap.size) := hb1.size
  have y0' := cell_later hb1 hY y0
  have r1' := cell_later hb1 hR r1
  have hY1 := Nat.lt_of_lt_of_le hY hb1.size
  have hR1 := Nat.lt_of_lt_of_le hR hb1.size
  clear hb1 y0 r1
  go_wp2_with fail
  go_quiet (fail)
  go_wp2_with fail
  refine (HLD.out _ (HM1.out.below (below_drawn (Below.refl _ _) nq)) (Nat.le_trans hb HB1.out.size)).mono ?_
  rintro e w2 ⟨rfl, K2, hm2, hn2⟩
  have HM2 : Hid (RKM w2 base (.pointer (some ⟨R, 0, none⟩)) c L' K2 Y P l G) := hm2
  have HN2 : Hid (Next K K2 w w2) := (Next.of_below (below_drawn HB1.out nq) K).trans hn2
  have hb2 : base ≤ w2.heap.size := Nat.le_trans (Nat.le_trans hb HB1.out.size) hn2.1.size
  have hKlt : w1.heap.size ∉ K := fun e => by have h1 := (HH.out.ref.lt _ e).2; have h4 := HWS.out; omega
  have hrow : w2.heap[w1.heap.size]? = some (.cells #[.bool false, .int .i64 er, .int .i64 0, .int .i64 0, .int .i64 ak, .int .i64 ai, .int .i64 aj, .int .i64 sm] 148 (0, 0)) := hn2.row (w := World.drewN _ nq) (heap_alloc_new w1 _) hKlt
  obtain ⟨p0, p1, p2, p3, p4, p5, p6, p7⟩ := plan8 hrow
  clear hrow hn2 y0' r1' hKlt
  have hlt : decide (v / 2 < sm) = true := hwd
  have HE : Hid (∃ K' G', RKM w2 base (.pointer (some ⟨R, 0, none⟩)) c L' K' Y P l G' ∧ Next (G ++ K) (G' ++ K') w w2) := ⟨K2, G, HM2.out, HN2.out.right (F := G)⟩
  have HEB : Hid (∀ k, ∃ K' G', RKM (w2.drewN k) base (.pointer (some ⟨R, 0, none⟩)) c L' K' Y P l G' ∧ Next (G ++ K) (G' ++ K') w (w2.drewN k)) := fun k => ⟨K2, G, HM2.out.below (below_drawn (Below.refl _ _) k), (HN2.out.right (F := G)).trans (Next.of_below (below_drawn (Below.refl _ _) k) _)⟩
  clear hm2 HE
  go_wp2_with fail
  go_quiet ((go_at_call 77; refine (HSTP.out _).mono ?_; rintro e x0 ⟨rfl, rfl⟩; exact ⟨rfl, _, rfl⟩))
  go_wp2
  go_ret2
  exact ⟨rfl, HEB.out _⟩
set_option maxRecDepth 100000 in
set_option maxHeartbeats 3200000 in
theorem rkstep_Z5 {w : World} {base Y : Nat} {P : Cp} {q : Value} {c : Nat} {L : List Ac} {l : List Int} {K G : List Nat} (h : RKM w base q c L K Y P l G) (hb : base ≤ w.heap.size) (hL : L.length < 3298534883328) (hk : LKk P l) (hp : POk P) (ht : ¬ thr (runK P l)) (hv : W64 (wordOf L (adK P (runK P l)))) (t : Int) (hs1 : (runK P l).st ≠ 1) (hwt : waitK (runK P l) (wordOf L (adK P (runK P l))) = false) (hst : (stepK P (runK P l) (wordOf L (adK P (runK P l)))).st = 5) (ee : Int) (hee : (stepK P (runK P l) (wordOf L (adK P (runK P l)))).err = ee) (hne : (ee != 0) = true) :
    Calls Try.prog 55 #[.pointer (some ⟨Y, 3, none⟩), q, .int .i64 t] w fun e w' => e = .returned (.tuple #[.int .i64 4, .int .i64 ee]) ∧ ∃ K' G', RKM w' base q c (loadL c P.s L t (adK P (runK P l))) K' Y P (l ++ [wordOf L (adK P (runK P l))]) G' ∧ Next (G ++ K) (G' ++ K') w w' := by
  obtain ⟨i0, hi, hz0, hz1, hz2⟩ := info_parts info_num8
  have HN : Hid (∀ w' : World, Below w.heap.size w w' → Calls Try.prog 76 #[.pointer (some ⟨Y, 3, none⟩)] w' fun e w'' => e = .returned (.agg (planK P (runK P l))) ∧ Below w'.heap.size w' w'') := fun w' hb => rk_next h.rk hk hp hb
  obtain ⟨a0, cap0, hkl⟩ := h.rk.kl
  have y0 := hkl.cells.1
  have hY : Y < w.heap.size := heap_lt hkl.m
  obtain ⟨R, rfl⟩ := h.ref.ptr
  have r1 := h.ref.ring8
  have hR : R < w.heap.size := World.block_lt_of_cell? _ _ r1
  have hthr : thrB (runK P l) = false := by
    cases e : thrB (runK P l)
    · rfl
    · exact absurd (thrB_iff.mp e) ht
  have hst4 : (runK P l).st ≠ 4 := fun e => ht (Or.inl e)
  have HPL : Hid (planK P (runK P l) = #[.bool false, .int .i64 (runK P l).err, .int .i64 0, .int .i64 0, .int .i64 (adK P (runK P l)).k, .int .i64 (adK P (runK P l)).i, .int .i64 (adK P (runK P l)).j, .int .i64 (lsV (runK P l))]) := by
    rw [Hid]; unfold planK plK lsV; rw [hthr, if_neg hst4, if_neg hst4, if_neg (by simp)]
  rw [HPL.out] at HN
  have HH : Hid (RKM w base (.pointer (some ⟨R, 0, none⟩)) c L K Y P l G) := h
  have HLD : Hid (∀ w' : World, RKM w' base (.pointer (some ⟨R, 0, none⟩)) c L K Y P l G → base ≤ w'.heap.size → Calls Try.prog 58 #[.pointer (some ⟨R, 0, none⟩), .int .i64 t, .agg #[.int .i64 (adK P (runK P l)).k, .int .i64 (adK P (runK P l)).i, .int .i64 (adK P (runK P l)).j]] w' fun e w'' => e = .returned (.tuple #[.int .i64 (wordOf L (adK P (runK P l))), .int .i64 0]) ∧ ∃ K', RKM w'' base (.pointer (some ⟨R, 0, none⟩)) c (loadL c P.s L t (adK P (runK P l))) K' Y P l G ∧ Next K K' w' w'') := fun w' h' hb' => by
    have := rload_any h'.ref hb' hL t (adK P (runK P l))
    rw [if_pos (adK_is hk.all ht), if_pos (adK_is hk.all ht)] at this
    refine this.mono ?_
    rintro e w2 ⟨rfl, K', h1, h2⟩
    exact ⟨rfl, K', h'.onRef h1 h2, h2⟩
  have HSTP : Hid (∀ w, Calls Try.prog 77 #[.int .i64 (wordOf L (adK P (runK P l)))] w fun e w' => e = .returned (.int .i64 (wordOf L (adK P (runK P l)) / 2)) ∧ w' = w) := rstamp_any _ hv.1 hv.2
  have hlnb : l.length ≤ 146 := by have h1 := kok_len hk.all; have h2 := hp.s16; omega
  have HK2 : Hid (LKk P (l ++ [wordOf L (adK P (runK P l))])) := lkk_snoc hk hv ht hwt
  have HR2 : Hid (runK P (l ++ [wordOf L (adK P (runK P l))]) = stepK P (runK P l) (wordOf L (adK P (runK P l)))) := runK_snoc P l _
  have HOK2 := HK2.out.all
  rw [HR2.out] at HOK2
  have he5 : (stepK P (runK P l) (wordOf L (adK P (runK P l)))).err = ee := hee
  have HPL2 : Hid (planK P (runK P (l ++ [wordOf L (adK P (runK P l))])) = #[.bool true, .int .i64 ee, .int .i64 0, .int .i64 0, .int .i64 0, .int .i64 0, .int .i64 0, .int .i64 0]) := by
    rw [Hid, HR2.out, plan_5 hst, he5]
  have hls : lsV (runK P l) = 0 := by unfold lsV; rw [if_neg hs1]
  rw [hls] at HN
  clear h hkl HPL hv hls
  clear HOK2
  generalize wordOf L (adK P (runK P l)) = v at *
  generalize loadL c P.s L t (adK P (runK P l)) = L' at *
  generalize (runK P l).err = er at *
  generalize (adK P (runK P l)).k = ak at *
  generalize (adK P (runK P l)).i = ai at *
  generalize (adK P (runK P l)).j = aj at *
  have hrs : ((P.s : Int) != (P.s : Int)) = false := by simp
  go_enter Try.func55, Try.ntmps55
  go_wp2_with fail
  refine (HN.out _ (Below.refl _ _)).mono ?_
  rintro e w1 ⟨rfl, hb1⟩
  have HM1 : Hid (RKM (w1.alloc (.cells #[.bool false, .int .i64 er, .int .i64 0, .int .i64 0, .int .i64 ak, .int .i64 ai, .int .i64 aj, .int .i64 0] 148)) base (.pointer (some ⟨R, 0, none⟩)) c L K Y P l G) := HH.out.below (below_then hb1 (below_a1 _ _))
  have HB1 : Hid (Below w.heap.size w (w1.alloc (.cells #[.bool false, .int .i64 er, .int .i64 0, .int .i64 0, .int .i64 ak, .int .i64 ai, .int .i64 aj, .int .i64 0] 148))) := below_then hb1 (below_a1 _ _)
  have HWS : Hid (w.heap.size ≤ w1.heap.size) := hb1.size
  have y0' := cell_later hb1 hY y0
  have r1' := cell_later hb1 hR r1
  have hY1 := Nat.lt_of_lt_of_le hY hb1.size
  have hR1 := Nat.lt_of_lt_of_le hR hb1.size
  clear hb1 y0 r1
  go_wp2_with fail
  go_quiet (fail)
  go_wp2_with fail
  refine (HLD.out _ (HM1.out.below (below_drawn (Below.refl _ _) nq)) (Nat.le_trans hb HB1.out.size)).mono ?_
  rintro e w2 ⟨rfl, K2, hm2, hn2⟩
  have HM2 : Hid (RKM w2 base (.pointer (some ⟨R, 0, none⟩)) c L' K2 Y P l G) := hm2
  have HN2 : Hid (Next K K2 w w2) := (Next.of_below (below_drawn HB1.out nq) K).trans hn2
  have hb2 : base ≤ w2.heap.size := Nat.le_trans (Nat.le_trans hb HB1.out.size) hn2.1.size
  have hKlt : w1.heap.size ∉ K := fun e => by have h1 := (HH.out.ref.lt _ e).2; have h4 := HWS.out; omega
  have hrow : w2.heap[w1.heap.size]? = some (.cells #[.bool false, .int .i64 er, .int .i64 0, .int .i64 0, .int .i64 ak, .int .i64 ai, .int .i64 aj, .int .i64 0] 148 (0, 0)) := hn2.row (w := World.drewN _ nq) (heap_alloc_new w1 _) hKlt
  obtain ⟨p0, p1, p2, p3, p4, p5, p6, p7⟩ := plan8 hrow
  clear hrow hn2 y0' r1' hKlt
  go_wp2_with fail
  go_quiet (fail)
  have HM2' : Hid (RKM (w2.drewN nq) base (.pointer (some ⟨R, 0, none⟩)) c L' K2 Y P l G) := HM2.out.below (below_drawn (Below.refl _ _) nq)
  have HN2' : Hid (Next K K2 w (w2.drewN nq)) := HN2.out.trans (Next.of_below (below_drawn (Below.refl _ _) nq) K2)
  have hb2' : base ≤ (w2.drewN nq).heap.size := hb2
  clear HM2 HN2 hb2 hm2 p0 p1 p2 p3 p4 p5 p6 p7
  generalize w2.drewN nq = w2 at *
  obtain ⟨v2, hrb2⟩ := HM2'.out.rk
  have HRB : Hid (RK' w2 base Y P l G v2) := hrb2
  have z1 : w2.cell? ⟨Y, 14, none⟩ = some v2 := by rw [cell_at hrb2.m]; rfl
  have zf : w2.frozen? ⟨Y, 14, none⟩ = false := frozen_at hrb2.m 14
  have hY2 : Y < w2.heap.size := heap_lt hrb2.m
  obtain ⟨n, hln2⟩ : ∃ n, l.length = n := ⟨_, rfl⟩
  rw [hln2] at hlnb
  have HOWN : Hid (w2.ownsRow base 2 1 v2 n (numK l)) := by rw [Hid, ← hln2]; exact hrb2.own
  obtain ⟨a2, cap2, rfl⟩ := own_slice HOWN.out
  clear hrb2
  have hYv : (Value.slice a2 n cap2).ownBlock ≠ some Y := own_ne HOWN.out HRB.out.m (by decide)
  go_wp2_with (at_builtin; refine list_lies_wide _ rfl _ _ 91 rfl base 2 i0 _ 1 8 Try.underlying91 hi hz0 hz1 hz2 rfl (by decide) _ _ _ rfl (HOWN.out.alloc _) ⟨w2.heap.size, 0, none⟩ 1 1 [.int .i64 v] rfl rfl ?c1 ?c2 (by decide) ?c3 ?c4 ?c5 _ rfl ?_)
  case c1 => exact World.news_of_block (cs := #[.int .i64 v]) (t := 2) (fr := (0, 0)) (heap_alloc_new w2 _)
  case c2 => simp [Value.oneCell']
  case c3 => unfold maxLen; omega
  case c4 => omega
  case c5 => first | omega | (simp; omega)
  intro gg cap' w3 hown1 hgrow hat hlt3
  have hs1 : w3.cell? ⟨Y, 14, none⟩ = some (.slice a2 n cap2) := by rw [hgrow.cell_far _ (by simp; omega) (Ne.symm hYv), World.cell?_alloc_past _ _ _ hY2]; exact z1
  have hs2 : w3.frozen? ⟨Y, 14, none⟩ = false := by rw [hgrow.frozen_far _ (by simp; omega) (Ne.symm hYv), World.frozen?_alloc_past _ _ _ hY2]; exact zf
  have HX3 : Hid (∃ G', RK (w3.setCell ⟨Y, 14, none⟩ (.slice (some ⟨gg, 0, none⟩) (n + 1) cap')) base Y P (l ++ [v]) G' ∧ Next G G' w2 (w3.setCell ⟨Y, 14, none⟩ (.slice (some ⟨gg, 0, none⟩) (n + 1) cap'))) :=
    rk_end HRB.out ((Keep.refl _ _).alloc _) hln2 hown1 hgrow (by rcases hat with e | e; exact Or.inl e; exact Or.inr (by omega))
  clear hown1 hgrow hat hlt3 z1 zf HOWN
  go_wp2_with fail
  generalize w3.setCell ⟨Y, 14, none⟩ (.slice (some ⟨gg, 0, none⟩) (n + 1) cap') = w4 at *
  clear hs1 hs2
  obtain ⟨G4, hrb4, hn4⟩ := HX3.out
  have HM4 : Hid (RKM w4 base (.pointer (some ⟨R, 0, none⟩)) c L' K2 Y P (l ++ [v]) G4) := HM2'.out.onRk hrb4 hn4
  have HN4 : Hid (Next (G ++ K) (G4 ++ K2) w w4) := (HN2'.out.right (F := G)).trans hn4.left
  have HNX4 : Hid (Calls Try.prog 76 #[.pointer (some ⟨Y, 3, none⟩)] w4 fun e w'' => e = .returned (.agg (planK P (runK P (l ++ [v])))) ∧ Below w4.heap.size w4 w'') := rk_next hrb4 HK2.out hp (Below.refl _ _)
  rw [HPL2.out] at HNX4
  clear hrb4 hn4 HX3 HRB HM2' HN2' HM1 HLD HH HN
  refine HNX4.out.mono ?_
  rintro e w5 ⟨rfl, hb5⟩
  have HE : Hid (∀ w', Below w5.heap.size w5 w' → ∃ K' G', RKM w' base (.pointer (some ⟨R, 0, none⟩)) c L' K' Y P (l ++ [v]) G' ∧ Next (G ++ K) (G' ++ K') w w') := fun w' hb => ⟨K2, G4, HM4.out.below (below_then hb5 hb), HN4.out.trans (Next.of_below (below_then hb5 hb) _)⟩
  clear hb5
  go_wp2
  first | (go_ret2; exact ⟨rfl, HE.out _ (below_a1 _ _)⟩) | (go_quiet (fail); go_wp2; go_ret2; exact ⟨rfl, HE.out _ (below_drawn (below_a1 _ _) _)⟩)
set_option maxRecDepth 100000 in
set_option maxHeartbeats 3200000 in
theorem rkstep_Z4 {w : World} {base Y : Nat} {P : Cp} {q : Value} {c : Nat} {L : List Ac} {l : List Int} {K G : List Nat} (h : RKM w base q c L K Y P l G) (hb : base ≤ w.heap.size) (hL : L.length < 3298534883328) (hk : LKk P l) (hp : POk P) (ht : ¬ thr (runK P l)) (hv : W64 (wordOf L (adK P (runK P l)))) (t : Int) (hs1 : (runK P l).st ≠ 1) (hwt : waitK (runK P l) (wordOf L (adK P (runK P l))) = false) (hst : (stepK P (runK P l) (wordOf L (adK P (runK P l)))).st = 4) :
    Calls Try.prog 55 #[.pointer (some ⟨Y, 3, none⟩), q, .int .i64 t] w fun e w' => e = .returned (.tuple #[.int .i64 3, .int .i64 0]) ∧ ∃ K' G', RKM w' base q c (loadL c P.s L t (adK P (runK P l))) K' Y P (l ++ [wordOf L (adK P (runK P l))]) G' ∧ Next (G ++ K) (G' ++ K') w w' := by
  obtain ⟨i0, hi, hz0, hz1, hz2⟩ := info_parts info_num8
  have HN : Hid (∀ w' : World, Below w.heap.size w w' → Calls Try.prog 76 #[.pointer (some ⟨Y, 3, none⟩)] w' fun e w'' => e = .returned (.agg (planK P (runK P l))) ∧ Below w'.heap.size w' w'') := fun w' hb => rk_next h.rk hk hp hb
  obtain ⟨a0, cap0, hkl⟩ := h.rk.kl
  have y0 := hkl.cells.1
  have hY : Y < w.heap.size := heap_lt hkl.m
  obtain ⟨R, rfl⟩ := h.ref.ptr
  have r1 := h.ref.ring8
  have hR : R < w.heap.size := World.block_lt_of_cell? _ _ r1
  have hthr : thrB (runK P l) = false := by
    cases e : thrB (runK P l)
    · rfl
    · exact absurd (thrB_iff.mp e) ht
  have hst4 : (runK P l).st ≠ 4 := fun e => ht (Or.inl e)
  have HPL : Hid (planK P (runK P l) = #[.bool false, .int .i64 (runK P l).err, .int .i64 0, .int .i64 0, .int .i64 (adK P (runK P l)).k, .int .i64 (adK P (runK P l)).i, .int .i64 (adK P (runK P l)).j, .int .i64 (lsV (runK P l))]) := by
    rw [Hid]; unfold planK plK lsV; rw [hthr, if_neg hst4, if_neg hst4, if_neg (by simp)]
  rw [HPL.out] at HN
  have HH : Hid (RKM w base (.pointer (some ⟨R, 0, none⟩)) c L K Y P l G) := h
  have HLD : Hid (∀ w' : World, RKM w' base (.pointer (some ⟨R, 0, none⟩)) c L K Y P l G → base ≤ w'.heap.size → Calls Try.prog 58 #[.pointer (some ⟨R, 0, none⟩), .int .i64 t, .agg #[.int .i64 (adK P (runK P l)).k, .int .i64 (adK P (runK P l)).i, .int .i64 (adK P (runK P l)).j]] w' fun e w'' => e = .returned (.tuple #[.int .i64 (wordOf L (adK P (runK P l))), .int .i64 0]) ∧ ∃ K', RKM w'' base (.pointer (some ⟨R, 0, none⟩)) c (loadL c P.s L t (adK P (runK P l))) K' Y P l G ∧ Next K K' w' w'') := fun w' h' hb' => by
    have := rload_any h'.ref hb' hL t (adK P (runK P l))
    rw [if_pos (adK_is hk.all ht), if_pos (adK_is hk.all ht)] at this
    refine this.mono ?_
    rintro e w2 ⟨rfl, K', h1, h2⟩
    exact ⟨rfl, K', h'.onRef h1 h2, h2⟩
  have HSTP : Hid (∀ w, Calls Try.prog 77 #[.int .i64 (wordOf L (adK P (runK P l)))] w fun e w' => e = .returned (.int .i64 (wordOf L (adK P (runK P l)) / 2)) ∧ w' = w) := rstamp_any _ hv.1 hv.2
  have hlnb : l.length ≤ 146 := by have h1 := kok_len hk.all; have h2 := hp.s16; omega
  have HK2 : Hid (LKk P (l ++ [wordOf L (adK P (runK P l))])) := lkk_snoc hk hv ht hwt
  have HR2 : Hid (runK P (l ++ [wordOf L (adK P (runK P l))]) = stepK P (runK P l) (wordOf L (adK P (runK P l)))) := runK_snoc P l _
  have HOK2 := HK2.out.all
  rw [HR2.out] at HOK2
  have he0 : (stepK P (runK P l) (wordOf L (adK P (runK P l)))).err = 0 := by
    rcases HOK2.c with ⟨z, _⟩ | ⟨z, _⟩ | ⟨z, _⟩ | ⟨z, _⟩ | ⟨_, _, z⟩ | ⟨z, _⟩
    · rw [z] at hst; simp [ckNew] at hst
    · omega
    · omega
    · omega
    · exact z
    · omega
  obtain ⟨cc, ss, HPL2⟩ : ∃ cc ss, Hid (planK P (runK P (l ++ [wordOf L (adK P (runK P l))])) = #[.bool true, .int .i64 0, .int .i64 cc, .int .i64 ss, .int .i64 0, .int .i64 0, .int .i64 0, .int .i64 0]) :=
    ⟨(stepK P (runK P l) (wordOf L (adK P (runK P l)))).comp, (stepK P (runK P l) (wordOf L (adK P (runK P l)))).seen, by rw [Hid, HR2.out, plan_4 hst, he0]⟩
  have hls : lsV (runK P l) = 0 := by unfold lsV; rw [if_neg hs1]
  rw [hls] at HN
  clear h hkl HPL hv hls
  clear HOK2
  generalize wordOf L (adK P (runK P l)) = v at *
  generalize loadL c P.s L t (adK P (runK P l)) = L' at *
  generalize (runK P l).err = er at *
  generalize (adK P (runK P l)).k = ak at *
  generalize (adK P (runK P l)).i = ai at *
  generalize (adK P (runK P l)).j = aj at *
  have hrs : ((P.s : Int) != (P.s : Int)) = false := by simp
  go_enter Try.func55, Try.ntmps55
  go_wp2_with fail
  refine (HN.out _ (Below.refl _ _)).mono ?_
  rintro e w1 ⟨rfl, hb1⟩
  have HM1 : Hid (RKM (w1.alloc (.cells #[.bool false, .int .i64 er, .int .i64 0, .int .i64 0, .int .i64 ak, .int .i64 ai, .int .i64 aj, .int .i64 0] 148)) base (.pointer (some ⟨R, 0, none⟩)) c L K Y P l G) := HH.out.below (below_then hb1 (below_a1 _ _))
  have HB1 : Hid (Below w.heap.size w (w1.alloc (.cells #[.bool false, .int .i64 er, .int .i64 0, .int .i64 0, .int .i64 ak, .int .i64 ai, .int .i64 aj, .int .i64 0] 148))) := below_then hb1 (below_a1 _ _)
  have HWS : Hid (w.heap.size ≤ w1.heap.size) := hb1.size
  have y0' := cell_later hb1 hY y0
  have r1' := cell_later hb1 hR r1
  have hY1 := Nat.lt_of_lt_of_le hY hb1.size
  have hR1 := Nat.lt_of_lt_of_le hR hb1.size
  clear hb1 y0 r1
  go_wp2_with fail
  go_quiet (fail)
  go_wp2_with fail
  refine (HLD.out _ (HM1.out.below (below_drawn (Below.refl _ _) nq)) (Nat.le_trans hb HB1.out.size)).mono ?_
  rintro e w2 ⟨rfl, K2, hm2, hn2⟩
  have HM2 : Hid (RKM w2 base (.pointer (some ⟨R, 0, none⟩)) c L' K2 Y P l G) := hm2
  have HN2 : Hid (Next K K2 w w2) := (Next.of_below (below_drawn HB1.out nq) K).trans hn2
  have hb2 : base ≤ w2.heap.size := Nat.le_trans (Nat.le_trans hb HB1.out.size) hn2.1.size
  have hKlt : w1.heap.size ∉ K := fun e => by have h1 := (HH.out.ref.lt _ e).2; have h4 := HWS.out; omega
  have hrow : w2.heap[w1.heap.size]? = some (.cells #[.bool false, .int .i64 er, .int .i64 0, .int .i64 0, .int .i64 ak, .int .i64 ai, .int .i64 aj, .int .i64 0] 148 (0, 0)) := hn2.row (w := World.drewN _ nq) (heap_alloc_new w1 _) hKlt
  obtain ⟨p0, p1, p2, p3, p4, p5, p6, p7⟩ := plan8 hrow
  clear hrow hn2 y0' r1' hKlt
  go_wp2_with fail
  go_quiet (fail)
  have HM2' : Hid (RKM (w2.drewN nq) base (.pointer (some ⟨R, 0, none⟩)) c L' K2 Y P l G) := HM2.out.below (below_drawn (Below.refl _ _) nq)
  have HN2' : Hid (Next K K2 w (w2.drewN nq)) := HN2.out.trans (Next.of_below (below_drawn (Below.refl _ _) nq) K2)
  have hb2' : base ≤ (w2.drewN nq).heap.size := hb2
  clear HM2 HN2 hb2 hm2 p0 p1 p2 p3 p4 p5 p6 p7
  generalize w2.drewN nq = w2 at *
  obtain ⟨v2, hrb2⟩ := HM2'.out.rk
  have HRB : Hid (RK' w2 base Y P l G v2) := hrb2
  have z1 : w2.cell? ⟨Y, 14, none⟩ = some v2 := by rw [cell_at hrb2.m]; rfl
  have zf : w2.frozen? ⟨Y, 14, none⟩ = false := frozen_at hrb2.m 14
  have hY2 : Y < w2.heap.size := heap_lt hrb2.m
  obtain ⟨n, hln2⟩ : ∃ n, l.length = n := ⟨_, rfl⟩
  rw [hln2] at hlnb
  have HOWN : Hid (w2.ownsRow base 2 1 v2 n (numK l)) := by rw [Hid, ← hln2]; exact hrb2.own
  obtain ⟨a2, cap2, rfl⟩ := own_slice HOWN.out
  clear hrb2
  have hYv : (Value.slice a2 n cap2).ownBlock ≠ some Y := own_ne HOWN.out HRB.out.m (by decide)
  go_wp2_with (at_builtin; refine list_lies_wide _ rfl _ _ 91 rfl base 2 i0 _ 1 8 Try.underlying91 hi hz0 hz1 hz2 rfl (by decide) _ _ _ rfl (HOWN.out.alloc _) ⟨w2.heap.size, 0, none⟩ 1 1 [.int .i64 v] rfl rfl ?c1 ?c2 (by decide) ?c3 ?c4 ?c5 _ rfl ?_)
  case c1 => exact World.news_of_block (cs := #[.int .i64 v]) (t := 2) (fr := (0, 0)) (heap_alloc_new w2 _)
  case c2 => simp [Value.oneCell']
  case c3 => unfold maxLen; omega
  case c4 => omega
  case c5 => first | omega | (simp; omega)
  intro gg cap' w3 hown1 hgrow hat hlt3
  have hs1 : w3.cell? ⟨Y, 14, none⟩ = some (.slice a2 n cap2) := by rw [hgrow.cell_far _ (by simp; omega) (Ne.symm hYv), World.cell?_alloc_past _ _ _ hY2]; exact z1
  have hs2 : w3.frozen? ⟨Y, 14, none⟩ = false := by rw [hgrow.frozen_far _ (by simp; omega) (Ne.symm hYv), World.frozen?_alloc_past _ _ _ hY2]; exact zf
  have HX3 : Hid (∃ G', RK (w3.setCell ⟨Y, 14, none⟩ (.slice (some ⟨gg, 0, none⟩) (n + 1) cap')) base Y P (l ++ [v]) G' ∧ Next G G' w2 (w3.setCell ⟨Y, 14, none⟩ (.slice (some ⟨gg, 0, none⟩) (n + 1) cap'))) :=
    rk_end HRB.out ((Keep.refl _ _).alloc _) hln2 hown1 hgrow (by rcases hat with e | e; exact Or.inl e; exact Or.inr (by omega))
  clear hown1 hgrow hat hlt3 z1 zf HOWN
  go_wp2_with fail
  generalize w3.setCell ⟨Y, 14, none⟩ (.slice (some ⟨gg, 0, none⟩) (n + 1) cap') = w4 at *
  clear hs1 hs2
  obtain ⟨G4, hrb4, hn4⟩ := HX3.out
  have HM4 : Hid (RKM w4 base (.pointer (some ⟨R, 0, none⟩)) c L' K2 Y P (l ++ [v]) G4) := HM2'.out.onRk hrb4 hn4
  have HN4 : Hid (Next (G ++ K) (G4 ++ K2) w w4) := (HN2'.out.right (F := G)).trans hn4.left
  have HNX4 : Hid (Calls Try.prog 76 #[.pointer (some ⟨Y, 3, none⟩)] w4 fun e w'' => e = .returned (.agg (planK P (runK P (l ++ [v])))) ∧ Below w4.heap.size w4 w'') := rk_next hrb4 HK2.out hp (Below.refl _ _)
  rw [HPL2.out] at HNX4
  clear hrb4 hn4 HX3 HRB HM2' HN2' HM1 HLD HH HN
  refine HNX4.out.mono ?_
  rintro e w5 ⟨rfl, hb5⟩
  have HE : Hid (∀ w', Below w5.heap.size w5 w' → ∃ K' G', RKM w' base (.pointer (some ⟨R, 0, none⟩)) c L' K' Y P (l ++ [v]) G' ∧ Next (G ++ K) (G' ++ K') w w') := fun w' hb => ⟨K2, G4, HM4.out.below (below_then hb5 hb), HN4.out.trans (Next.of_below (below_then hb5 hb) _)⟩
  clear hb5
  go_wp2
  first | (go_ret2; exact ⟨rfl, HE.out _ (below_a1 _ _)⟩) | (go_quiet (fail); go_wp2; go_ret2; exact ⟨rfl, HE.out _ (below_drawn (below_a1 _ _) _)⟩)
set_option maxRecDepth 100000 in
set_option maxHeartbeats 3200000 in
theorem rkstep_Z2 {w : World} {base Y : Nat} {P : Cp} {q : Value} {c : Nat} {L : List Ac} {l : List Int} {K G : List Nat} (h : RKM w base q c L K Y P l G) (hb : base ≤ w.heap.size) (hL : L.length < 3298534883328) (hk : LKk P l) (hp : POk P) (ht : ¬ thr (runK P l)) (hv : W64 (wordOf L (adK P (runK P l)))) (t : Int) (hs1 : (runK P l).st ≠ 1) (hwt : waitK (runK P l) (wordOf L (adK P (runK P l))) = false) (hst : (stepK P (runK P l) (wordOf L (adK P (runK P l)))).st ≠ 4 ∧ (stepK P (runK P l) (wordOf L (adK P (runK P l)))).st ≠ 5) :
    Calls Try.prog 55 #[.pointer (some ⟨Y, 3, none⟩), q, .int .i64 t] w fun e w' => e = .returned (.tuple #[.int .i64 2, .int .i64 0]) ∧ ∃ K' G', RKM w' base q c (loadL c P.s L t (adK P (runK P l))) K' Y P (l ++ [wordOf L (adK P (runK P l))]) G' ∧ Next (G ++ K) (G' ++ K') w w' := by
  obtain ⟨i0, hi, hz0, hz1, hz2⟩ := info_parts info_num8
  have HN : Hid (∀ w' : World, Below w.heap.size w w' → Calls Try.prog 76 #[.pointer (some ⟨Y, 3, none⟩)] w' fun e w'' => e = .returned (.agg (planK P (runK P l))) ∧ Below w'.heap.size w' w'') := fun w' hb => rk_next h.rk hk hp hb
  obtain ⟨a0, cap0, hkl⟩ := h.rk.kl
  have y0 := hkl.cells.1
  have hY : Y < w.heap.size := heap_lt hkl.m
  obtain ⟨R, rfl⟩ := h.ref.ptr
  have r1 := h.ref.ring8
  have hR : R < w.heap.size := World.block_lt_of_cell? _ _ r1
  have hthr : thrB (runK P l) = false := by
    cases e : thrB (runK P l)
    · rfl
    · exact absurd (thrB_iff.mp e) ht
  have hst4 : (runK P l).st ≠ 4 := fun e => ht (Or.inl e)
  have HPL : Hid (planK P (runK P l) = #[.bool false, .int .i64 (runK P l).err, .int .i64 0, .int .i64 0, .int .i64 (adK P (runK P l)).k, .int .i64 (adK P (runK P l)).i, .int .i64 (adK P (runK P l)).j, .int .i64 (lsV (runK P l))]) := by
    rw [Hid]; unfold planK plK lsV; rw [hthr, if_neg hst4, if_neg hst4, if_neg (by simp)]
  rw [HPL.out] at HN
  have HH : Hid (RKM w base (.pointer (some ⟨R, 0, none⟩)) c L K Y P l G) := h
  have HLD : Hid (∀ w' : World, RKM w' base (.pointer (some ⟨R, 0, none⟩)) c L K Y P l G → base ≤ w'.heap.size → Calls Try.prog 58 #[.pointer (some ⟨R, 0, none⟩), .int .i64 t, .agg #[.int .i64 (adK P (runK P l)).k, .int .i64 (adK P (runK P l)).i, .int .i64 (adK P (runK P l)).j]] w' fun e w'' => e = .returned (.tuple #[.int .i64 (wordOf L (adK P (runK P l))), .int .i64 0]) ∧ ∃ K', RKM w'' base (.pointer (some ⟨R, 0, none⟩)) c (loadL c P.s L t (adK P (runK P l))) K' Y P l G ∧ Next K K' w' w'') := fun w' h' hb' => by
    have := rload_any h'.ref hb' hL t (adK P (runK P l))
    rw [if_pos (adK_is hk.all ht), if_pos (adK_is hk.all ht)] at this
    refine this.mono ?_
    rintro e w2 ⟨rfl, K', h1, h2⟩
    exact ⟨rfl, K', h'.onRef h1 h2, h2⟩
  have HSTP : Hid (∀ w, Calls Try.prog 77 #[.int .i64 (wordOf L (adK P (runK P l)))] w fun e w' => e = .returned (.int .i64 (wordOf L (adK P (runK P l)) / 2)) ∧ w' = w) := rstamp_any _ hv.1 hv.2
  have hlnb : l.length ≤ 146 := by have h1 := kok_len hk.all; have h2 := hp.s16; omega
  have HK2 : Hid (LKk P (l ++ [wordOf L (adK P (runK P l))])) := lkk_snoc hk hv ht hwt
  have HR2 : Hid (runK P (l ++ [wordOf L (adK P (runK P l))]) = stepK P (runK P l) (wordOf L (adK P (runK P l)))) := runK_snoc P l _
  have HOK2 := HK2.out.all
  rw [HR2.out] at HOK2
  obtain ⟨e2, k2, i2, j2, l2, HPL2⟩ : ∃ e2 k2 i2 j2 l2, Hid (planK P (runK P (l ++ [wordOf L (adK P (runK P l))])) = #[.bool false, .int .i64 e2, .int .i64 0, .int .i64 0, .int .i64 k2, .int .i64 i2, .int .i64 j2, .int .i64 l2]) :=
    ⟨_, _, _, _, _, by rw [Hid, HR2.out]; exact plan_2 hst.1 hst.2⟩
  have hls : lsV (runK P l) = 0 := by unfold lsV; rw [if_neg hs1]
  rw [hls] at HN
  clear h hkl HPL hv hls
  clear HOK2
  generalize wordOf L (adK P (runK P l)) = v at *
  generalize loadL c P.s L t (adK P (runK P l)) = L' at *
  generalize (runK P l).err = er at *
  generalize (adK P (runK P l)).k = ak at *
  generalize (adK P (runK P l)).i = ai at *
  generalize (adK P (runK P l)).j = aj at *
  have hrs : ((P.s : Int) != (P.s : Int)) = false := by simp
  go_enter Try.func55, Try.ntmps55
  go_wp2_with fail
  refine (HN.out _ (Below.refl _ _)).mono ?_
  rintro e w1 ⟨rfl, hb1⟩
  have HM1 : Hid (RKM (w1.alloc (.cells #[.bool false, .int .i64 er, .int .i64 0, .int .i64 0, .int .i64 ak, .int .i64 ai, .int .i64 aj, .int .i64 0] 148)) base (.pointer (some ⟨R, 0, none⟩)) c L K Y P l G) := HH.out.below (below_then hb1 (below_a1 _ _))
  have HB1 : Hid (Below w.heap.size w (w1.alloc (.cells #[.bool false, .int .i64 er, .int .i64 0, .int .i64 0, .int .i64 ak, .int .i64 ai, .int .i64 aj, .int .i64 0] 148))) := below_then hb1 (below_a1 _ _)
  have HWS : Hid (w.heap.size ≤ w1.heap.size) := hb1.size
  have y0' := cell_later hb1 hY y0
  have r1' := cell_later hb1 hR r1
  have hY1 := Nat.lt_of_lt_of_le hY hb1.size
  have hR1 := Nat.lt_of_lt_of_le hR hb1.size
  clear hb1 y0 r1
  go_wp2_with fail
  go_quiet (fail)
  go_wp2_with fail
  refine (HLD.out _ (HM1.out.below (below_drawn (Below.refl _ _) nq)) (Nat.le_trans hb HB1.out.size)).mono ?_
  rintro e w2 ⟨rfl, K2, hm2, hn2⟩
  have HM2 : Hid (RKM w2 base (.pointer (some ⟨R, 0, none⟩)) c L' K2 Y P l G) := hm2
  have HN2 : Hid (Next K K2 w w2) := (Next.of_below (below_drawn HB1.out nq) K).trans hn2
  have hb2 : base ≤ w2.heap.size := Nat.le_trans (Nat.le_trans hb HB1.out.size) hn2.1.size
  have hKlt : w1.heap.size ∉ K := fun e => by have h1 := (HH.out.ref.lt _ e).2; have h4 := HWS.out; omega
  have hrow : w2.heap[w1.heap.size]? = some (.cells #[.bool false, .int .i64 er, .int .i64 0, .int .i64 0, .int .i64 ak, .int .i64 ai, .int .i64 aj, .int .i64 0] 148 (0, 0)) := hn2.row (w := World.drewN _ nq) (heap_alloc_new w1 _) hKlt
  obtain ⟨p0, p1, p2, p3, p4, p5, p6, p7⟩ := plan8 hrow
  clear hrow hn2 y0' r1' hKlt
  go_wp2_with fail
  go_quiet (fail)
  have HM2' : Hid (RKM (w2.drewN nq) base (.pointer (some ⟨R, 0, none⟩)) c L' K2 Y P l G) := HM2.out.below (below_drawn (Below.refl _ _) nq)
  have HN2' : Hid (Next K K2 w (w2.drewN nq)) := HN2.out.trans (Next.of_below (below_drawn (Below.refl _ _) nq) K2)
  have hb2' : base ≤ (w2.drewN nq).heap.size := hb2
  clear HM2 HN2 hb2 hm2 p0 p1 p2 p3 p4 p5 p6 p7
  generalize w2.drewN nq = w2 at *
  obtain ⟨v2, hrb2⟩ := HM2'.out.rk
  have HRB : Hid (RK' w2 base Y P l G v2) := hrb2
  have z1 : w2.cell? ⟨Y, 14, none⟩ = some v2 := by rw [cell_at hrb2.m]; rfl
  have zf : w2.frozen? ⟨Y, 14, none⟩ = false := frozen_at hrb2.m 14
  have hY2 : Y < w2.heap.size := heap_lt hrb2.m
  obtain ⟨n, hln2⟩ : ∃ n, l.length = n := ⟨_, rfl⟩
  rw [hln2] at hlnb
  have HOWN : Hid (w2.ownsRow base 2 1 v2 n (numK l)) := by rw [Hid, ← hln2]; exact hrb2.own
  obtain ⟨a2, cap2, rfl⟩ := own_slice HOWN.out
  clear hrb2
  have hYv : (Value.slice a2 n cap2).ownBlock ≠ some Y := own_ne HOWN.out HRB.out.m (by decide)
  go_wp2_with (at_builtin; refine list_lies_wide _ rfl _ _ 91 rfl base 2 i0 _ 1 8 Try.underlying91 hi hz0 hz1 hz2 rfl (by decide) _ _ _ rfl (HOWN.out.alloc _) ⟨w2.heap.size, 0, none⟩ 1 1 [.int .i64 v] rfl rfl ?c1 ?c2 (by decide) ?c3 ?c4 ?c5 _ rfl ?_)
  case c1 => exact World.news_of_block (cs := #[.int .i64 v]) (t := 2) (fr := (0, 0)) (heap_alloc_new w2 _)
  case c2 => simp [Value.oneCell']
  case c3 => unfold maxLen; omega
  case c4 => omega
  case c5 => first | omega | (simp; omega)
  intro gg cap' w3 hown1 hgrow hat hlt3
  have hs1 : w3.cell? ⟨Y, 14, none⟩ = some (.slice a2 n cap2) := by rw [hgrow.cell_far _ (by simp; omega) (Ne.symm hYv), World.cell?_alloc_past _ _ _ hY2]; exact z1
  have hs2 : w3.frozen? ⟨Y, 14, none⟩ = false := by rw [hgrow.frozen_far _ (by simp; omega) (Ne.symm hYv), World.frozen?_alloc_past _ _ _ hY2]; exact zf
  have HX3 : Hid (∃ G', RK (w3.setCell ⟨Y, 14, none⟩ (.slice (some ⟨gg, 0, none⟩) (n + 1) cap')) base Y P (l ++ [v]) G' ∧ Next G G' w2 (w3.setCell ⟨Y, 14, none⟩ (.slice (some ⟨gg, 0, none⟩) (n + 1) cap'))) :=
    rk_end HRB.out ((Keep.refl _ _).alloc _) hln2 hown1 hgrow (by rcases hat with e | e; exact Or.inl e; exact Or.inr (by omega))
  clear hown1 hgrow hat hlt3 z1 zf HOWN
  go_wp2_with fail
  generalize w3.setCell ⟨Y, 14, none⟩ (.slice (some ⟨gg, 0, none⟩) (n + 1) cap') = w4 at *
  clear hs1 hs2
  obtain ⟨G4, hrb4, hn4⟩ := HX3.out
  have HM4 : Hid (RKM w4 base (.pointer (some ⟨R, 0, none⟩)) c L' K2 Y P (l ++ [v]) G4) := HM2'.out.onRk hrb4 hn4
  have HN4 : Hid (Next (G ++ K) (G4 ++ K2) w w4) := (HN2'.out.right (F := G)).trans hn4.left
  have HNX4 : Hid (Calls Try.prog 76 #[.pointer (some ⟨Y, 3, none⟩)] w4 fun e w'' => e = .returned (.agg (planK P (runK P (l ++ [v])))) ∧ Below w4.heap.size w4 w'') := rk_next hrb4 HK2.out hp (Below.refl _ _)
  rw [HPL2.out] at HNX4
  clear hrb4 hn4 HX3 HRB HM2' HN2' HM1 HLD HH HN
  refine HNX4.out.mono ?_
  rintro e w5 ⟨rfl, hb5⟩
  have HE : Hid (∀ w', Below w5.heap.size w5 w' → ∃ K' G', RKM w' base (.pointer (some ⟨R, 0, none⟩)) c L' K' Y P (l ++ [v]) G' ∧ Next (G ++ K) (G' ++ K') w w') := fun w' hb => ⟨K2, G4, HM4.out.below (below_then hb5 hb), HN4.out.trans (Next.of_below (below_then hb5 hb) _)⟩
  clear hb5
  go_wp2
  first | (go_ret2; exact ⟨rfl, HE.out _ (below_a1 _ _)⟩) | (go_quiet (fail); go_wp2; go_ret2; exact ⟨rfl, HE.out _ (below_drawn (below_a1 _ _) _)⟩)
set_option maxRecDepth 100000 in
set_option maxHeartbeats 3200000 in
theorem rkstep_P5 {w : World} {base Y : Nat} {P : Cp} {q : Value} {c : Nat} {L : List Ac} {l : List Int} {K G : List Nat} (h : RKM w base q c L K Y P l G) (hb : base ≤ w.heap.size) (hL : L.length < 3298534883328) (hk : LKk P l) (hp : POk P) (ht : ¬ thr (runK P l)) (hv : W64 (wordOf L (adK P (runK P l)))) (t : Int) (hs1 : (runK P l).st = 1) (hwt : waitK (runK P l) (wordOf L (adK P (runK P l))) = false) (hst : (stepK P (runK P l) (wordOf L (adK P (runK P l)))).st = 5) (ee : Int) (hee : (stepK P (runK P l) (wordOf L (adK P (runK P l)))).err = ee) (hne : (ee != 0) = true) :
    Calls Try.prog 55 #[.pointer (some ⟨Y, 3, none⟩), q, .int .i64 t] w fun e w' => e = .returned (.tuple #[.int .i64 4, .int .i64 ee]) ∧ ∃ K' G', RKM w' base q c (loadL c P.s L t (adK P (runK P l))) K' Y P (l ++ [wordOf L (adK P (runK P l))]) G' ∧ Next (G ++ K) (G' ++ K') w w' := by
  obtain ⟨i0, hi, hz0, hz1, hz2⟩ := info_parts info_num8
  have HN : Hid (∀ w' : World, Below w.heap.size w w' → Calls Try.prog 76 #[.pointer (some ⟨Y, 3, none⟩)] w' fun e w'' => e = .returned (.agg (planK P (runK P l))) ∧ Below w'.heap.size w' w'') := fun w' hb => rk_next h.rk hk hp hb
  obtain ⟨a0, cap0, hkl⟩ := h.rk.kl
  have y0 := hkl.cells.1
  have hY : Y < w.heap.size := heap_lt hkl.m
  obtain ⟨R, rfl⟩ := h.ref.ptr
  have r1 := h.ref.ring8
  have hR : R < w.heap.size := World.block_lt_of_cell? _ _ r1
  have hthr : thrB (runK P l) = false := by
    cases e : thrB (runK P l)
    · rfl
    · exact absurd (thrB_iff.mp e) ht
  have hst4 : (runK P l).st ≠ 4 := fun e => ht (Or.inl e)
  have HPL : Hid (planK P (runK P l) = #[.bool false, .int .i64 (runK P l).err, .int .i64 0, .int .i64 0, .int .i64 (adK P (runK P l)).k, .int .i64 (adK P (runK P l)).i, .int .i64 (adK P (runK P l)).j, .int .i64 (lsV (runK P l))]) := by
    rw [Hid]; unfold planK plK lsV; rw [hthr, if_neg hst4, if_neg hst4, if_neg (by simp)]
  rw [HPL.out] at HN
  have HH : Hid (RKM w base (.pointer (some ⟨R, 0, none⟩)) c L K Y P l G) := h
  have HLD : Hid (∀ w' : World, RKM w' base (.pointer (some ⟨R, 0, none⟩)) c L K Y P l G → base ≤ w'.heap.size → Calls Try.prog 58 #[.pointer (some ⟨R, 0, none⟩), .int .i64 t, .agg #[.int .i64 (adK P (runK P l)).k, .int .i64 (adK P (runK P l)).i, .int .i64 (adK P (runK P l)).j]] w' fun e w'' => e = .returned (.tuple #[.int .i64 (wordOf L (adK P (runK P l))), .int .i64 0]) ∧ ∃ K', RKM w'' base (.pointer (some ⟨R, 0, none⟩)) c (loadL c P.s L t (adK P (runK P l))) K' Y P l G ∧ Next K K' w' w'') := fun w' h' hb' => by
    have := rload_any h'.ref hb' hL t (adK P (runK P l))
    rw [if_pos (adK_is hk.all ht), if_pos (adK_is hk.all ht)] at this
    refine this.mono ?_
    rintro e w2 ⟨rfl, K', h1, h2⟩
    exact ⟨rfl, K', h'.onRef h1 h2, h2⟩
  have HSTP : Hid (∀ w, Calls Try.prog 77 #[.int .i64 (wordOf L (adK P (runK P l)))] w fun e w' => e = .returned (.int .i64 (wordOf L (adK P (runK P l)) / 2)) ∧ w' = w) := rstamp_any _ hv.1 hv.2
  have hlnb : l.length ≤ 146 := by have h1 := kok_len hk.all; have h2 := hp.s16; omega
  have HK2 : Hid (LKk P (l ++ [wordOf L (adK P (runK P l))])) := lkk_snoc hk hv ht hwt
  have HR2 : Hid (runK P (l ++ [wordOf L (adK P (runK P l))]) = stepK P (runK P l) (wordOf L (adK P (runK P l)))) := runK_snoc P l _
  have HOK2 := HK2.out.all
  rw [HR2.out] at HOK2
  have he5 : (stepK P (runK P l) (wordOf L (adK P (runK P l)))).err = ee := hee
  have HPL2 : Hid (planK P (runK P (l ++ [wordOf L (adK P (runK P l))])) = #[.bool true, .int .i64 ee, .int .i64 0, .int .i64 0, .int .i64 0, .int .i64 0, .int .i64 0, .int .i64 0]) := by
    rw [Hid, HR2.out, plan_5 hst, he5]
  have hsm : 1 ≤ (runK P l).stamp := by have h1 := (kok_mid hk.all (Or.inl hs1)).1.lo; have h2 := hp.z0; omega
  have hls : lsV (runK P l) = (runK P l).stamp := by unfold lsV; rw [if_pos hs1]
  have hwd := wait_iff (v := wordOf L (adK P (runK P l))) hsm hs1
  rw [hwt] at hwd
  replace hwd := hwd.symm
  rw [hls] at HN
  clear h hkl HPL hv hls
  clear HOK2
  generalize wordOf L (adK P (runK P l)) = v at *
  generalize loadL c P.s L t (adK P (runK P l)) = L' at *
  generalize (runK P l).stamp = sm at *
  have hpos : decide (0 < sm) = true := decide_eq_true (by omega)
  generalize (runK P l).err = er at *
  generalize (adK P (runK P l)).k = ak at *
  generalize (adK P (runK P l)).i = ai at *
  generalize (adK P (runK P l)).j = aj at *
  have hrs : ((P.s : Int) != (P.s : Int)) = false := by simp
  go_enter Try.func55, Try.ntmps55
  go_wp2_with fail
  refine (HN.out _ (Below.refl _ _)).mono ?_
  rintro e w1 ⟨rfl, hb1⟩
  have HM1 : Hid (RKM (w1.alloc (.cells #[.bool false, .int .i64 er, .int .i64 0, .int .i64 0, .int .i64 ak, .int .i64 ai, .int .i64 aj, .int .i64 sm] 148)) base (.pointer (some ⟨R, 0, none⟩)) c L K Y P l G) := HH.out.below (below_then hb1 (below_a1 _ _))
  have HB1 : Hid (Below w.heap.size w (w1.alloc (.cells #[.bool false, .int .i64 er, .int .i64 0, .int .i64 0, .int .i64 ak, .int .i64 ai, .int .i64 aj, .int .i64 sm] 148))) := below_then hb1 (below_a1 _ _)
  have HWS : Hid (w.heap.size ≤ w1.heap.size) := hb1.size
  have y0' := cell_later hb1 hY y0
  have r1' := cell_later hb1 hR r1
  have hY1 := Nat.lt_of_lt_of_le hY hb1.size
  have hR1 := Nat.lt_of_lt_of_le hR hb1.size
  clear hb1 y0 r1
  go_wp2_with fail
  go_quiet (fail)
  go_wp2_with fail
  refine (HLD.out _ (HM1.out.below (below_drawn (Below.refl _ _) nq)) (Nat.le_trans hb HB1.out.size)).mono ?_
  rintro e w2 ⟨rfl, K2, hm2, hn2⟩
  have HM2 : Hid (RKM w2 base (.pointer (some ⟨R, 0, none⟩)) c L' K2 Y P l G) := hm2
  have HN2 : Hid (Next K K2 w w2) := (Next.of_below (below_drawn HB1.out nq) K).trans hn2
  have hb2 : base ≤ w2.heap.size := Nat.le_trans (Nat.le_trans hb HB1.out.size) hn2.1.size
  have hKlt : w1.heap.size ∉ K := fun e => by have h1 := (HH.out.ref.lt _ e).2; have h4 := HWS.out; omega
  have hrow : w2.heap[w1.heap.size]? = some (.cells #[.bool false, .int .i64 er, .int .i64 0, .int .i64 0, .int .i64 ak, .int .i64 ai, .int .i64 aj, .int .i64 sm] 148 (0, 0)) := hn2.row (w := World.drewN _ nq) (heap_alloc_new w1 _) hKlt
  obtain ⟨p0, p1, p2, p3, p4, p5, p6, p7⟩ := plan8 hrow
  clear hrow hn2 y0' r1' hKlt
  have hlt : decide (v / 2 < sm) = false := hwd
  have hge : ¬ v / 2 < sm := of_decide_eq_false hlt
  go_wp2_with fail
  go_quiet ((go_at_call 77; refine (HSTP.out _).mono ?_; rintro e x0 ⟨rfl, rfl⟩; exact ⟨rfl, _, rfl⟩))
  have HM2' : Hid (RKM (w2.drewN nq) base (.pointer (some ⟨R, 0, none⟩)) c L' K2 Y P l G) := HM2.out.below (below_drawn (Below.refl _ _) nq)
  have HN2' : Hid (Next K K2 w (w2.drewN nq)) := HN2.out.trans (Next.of_below (below_drawn (Below.refl _ _) nq) K2)
  have hb2' : base ≤ (w2.drewN nq).heap.size := hb2
  clear HM2 HN2 hb2 hm2 p0 p1 p2 p3 p4 p5 p6 p7
  generalize w2.drewN nq = w2 at *
  obtain ⟨v2, hrb2⟩ := HM2'.out.rk
  have HRB : Hid (RK' w2 base Y P l G v2) := hrb2
  have z1 : w2.cell? ⟨Y, 14, none⟩ = some v2 := by rw [cell_at hrb2.m]; rfl
  have zf : w2.frozen? ⟨Y, 14, none⟩ = false := frozen_at hrb2.m 14
  have hY2 : Y < w2.heap.size := heap_lt hrb2.m
  obtain ⟨n, hln2⟩ : ∃ n, l.length = n := ⟨_, rfl⟩
  rw [hln2] at hlnb
  have HOWN : Hid (w2.ownsRow base 2 1 v2 n (numK l)) := by rw [Hid, ← hln2]; exact hrb2.own
  obtain ⟨a2, cap2, rfl⟩ := own_slice HOWN.out
  clear hrb2
  have hYv : (Value.slice a2 n cap2).ownBlock ≠ some Y := own_ne HOWN.out HRB.out.m (by decide)
  go_wp2_with (at_builtin; refine list_lies_wide _ rfl _ _ 91 rfl base 2 i0 _ 1 8 Try.underlying91 hi hz0 hz1 hz2 rfl (by decide) _ _ _ rfl (HOWN.out.alloc _) ⟨w2.heap.size, 0, none⟩ 1 1 [.int .i64 v] rfl rfl ?c1 ?c2 (by decide) ?c3 ?c4 ?c5 _ rfl ?_)
  case c1 => exact World.news_of_block (cs := #[.int .i64 v]) (t := 2) (fr := (0, 0)) (heap_alloc_new w2 _)
  case c2 => simp [Value.oneCell']
  case c3 => unfold maxLen; omega
  case c4 => omega
  case c5 => first | omega | (simp; omega)
  intro gg cap' w3 hown1 hgrow hat hlt3
  have hs1 : w3.cell? ⟨Y, 14, none⟩ = some (.slice a2 n cap2) := by rw [hgrow.cell_far _ (by simp; omega) (Ne.symm hYv), World.cell?_alloc_past _ _ _ hY2]; exact z1
  have hs2 : w3.frozen? ⟨Y, 14, none⟩ = false := by rw [hgrow.frozen_far _ (by simp; omega) (Ne.symm hYv), World.frozen?_alloc_past _ _ _ hY2]; exact zf
  have HX3 : Hid (∃ G', RK (w3.setCell ⟨Y, 14, none⟩ (.slice (some ⟨gg, 0, none⟩) (n + 1) cap')) base Y P (l ++ [v]) G' ∧ Next G G' w2 (w3.setCell ⟨Y, 14, none⟩ (.slice (some ⟨gg, 0, none⟩) (n + 1) cap'))) :=
    rk_end HRB.out ((Keep.refl _ _).alloc _) hln2 hown1 hgrow (by rcases hat with e | e; exact Or.inl e; exact Or.inr (by omega))
  clear hown1 hgrow hat hlt3 z1 zf HOWN
  go_wp2_with fail
  generalize w3.setCell ⟨Y, 14, none⟩ (.slice (some ⟨gg, 0, none⟩) (n + 1) cap') = w4 at *
  clear hs1 hs2
  obtain ⟨G4, hrb4, hn4⟩ := HX3.out
  have HM4 : Hid (RKM w4 base (.pointer (some ⟨R, 0, none⟩)) c L' K2 Y P (l ++ [v]) G4) := HM2'.out.onRk hrb4 hn4
  have HN4 : Hid (Next (G ++ K) (G4 ++ K2) w w4) := (HN2'.out.right (F := G)).trans hn4.left
  have HNX4 : Hid (Calls Try.prog 76 #[.pointer (some ⟨Y, 3, none⟩)] w4 fun e w'' => e = .returned (.agg (planK P (runK P (l ++ [v])))) ∧ Below w4.heap.size w4 w'') := rk_next hrb4 HK2.out hp (Below.refl _ _)
  rw [HPL2.out] at HNX4
  clear hrb4 hn4 HX3 HRB HM2' HN2' HM1 HLD HH HN
  refine HNX4.out.mono ?_
  rintro e w5 ⟨rfl, hb5⟩
  have HE : Hid (∀ w', Below w5.heap.size w5 w' → ∃ K' G', RKM w' base (.pointer (some ⟨R, 0, none⟩)) c L' K' Y P (l ++ [v]) G' ∧ Next (G ++ K) (G' ++ K') w w') := fun w' hb => ⟨K2, G4, HM4.out.below (below_then hb5 hb), HN4.out.trans (Next.of_below (below_then hb5 hb) _)⟩
  clear hb5
  go_wp2
  first | (go_ret2; exact ⟨rfl, HE.out _ (below_a1 _ _)⟩) | (go_quiet (fail); go_wp2; go_ret2; exact ⟨rfl, HE.out _ (below_drawn (below_a1 _ _) _)⟩)
set_option maxRecDepth 100000 in
set_option maxHeartbeats 3200000 in
theorem rkstep_P4 {w : World} {base Y : Nat} {P : Cp} {q : Value} {c : Nat} {L : List Ac} {l : List Int} {K G : List Nat} (h : RKM w base q c L K Y P l G) (hb : base ≤ w.heap.size) (hL : L.length < 3298534883328) (hk : LKk P l) (hp : POk P) (ht : ¬ thr (runK P l)) (hv : W64 (wordOf L (adK P (runK P l)))) (t : Int) (hs1 : (runK P l).st = 1) (hwt : waitK (runK P l) (wordOf L (adK P (runK P l))) = false) (hst : (stepK P (runK P l) (wordOf L (adK P (runK P l)))).st = 4) :
    Calls Try.prog 55 #[.pointer (some ⟨Y, 3, none⟩), q, .int .i64 t] w fun e w' => e = .returned (.tuple #[.int .i64 3, .int .i64 0]) ∧ ∃ K' G', RKM w' base q c (loadL c P.s L t (adK P (runK P l))) K' Y P (l ++ [wordOf L (adK P (runK P l))]) G' ∧ Next (G ++ K) (G' ++ K') w w' := by
  obtain ⟨i0, hi, hz0, hz1, hz2⟩ := info_parts info_num8
  have HN : Hid (∀ w' : World, Below w.heap.size w w' → Calls Try.prog 76 #[.pointer (some ⟨Y, 3, none⟩)] w' fun e w'' => e = .returned (.agg (planK P (runK P l))) ∧ Below w'.heap.size w' w'') := fun w' hb => rk_next h.rk hk hp hb
  obtain ⟨a0, cap0, hkl⟩ := h.rk.kl
  have y0 := hkl.cells.1
  have hY : Y < w.heap.size := heap_lt hkl.m
  obtain ⟨R, rfl⟩ := h.ref.ptr
  have r1 := h.ref.ring8
  have hR : R < w.heap.size := World.block_lt_of_cell? _ _ r1
  have hthr : thrB (runK P l) = false := by
    cases e : thrB (runK P l)
    · rfl
    · exact absurd (thrB_iff.mp e) ht
  have hst4 : (runK P l).st ≠ 4 := fun e => ht (Or.inl e)
  have HPL : Hid (planK P (runK P l) = #[.bool false, .int .i64 (runK P l).err, .int .i64 0, .int .i64 0, .int .i64 (adK P (runK P l)).k, .int .i64 (adK P (runK P l)).i, .int .i64 (adK P (runK P l)).j, .int .i64 (lsV (runK P l))]) := by
    rw [Hid]; unfold planK plK lsV; rw [hthr, if_neg hst4, if_neg hst4, if_neg (by simp)]
  rw [HPL.out] at HN
  have HH : Hid (RKM w base (.pointer (some ⟨R, 0, none⟩)) c L K Y P l G) := h
  have HLD : Hid (∀ w' : World, RKM w' base (.pointer (some ⟨R, 0, none⟩)) c L K Y P l G → base ≤ w'.heap.size → Calls Try.prog 58 #[.pointer (some ⟨R, 0, none⟩), .int .i64 t, .agg #[.int .i64 (adK P (runK P l)).k, .int .i64 (adK P (runK P l)).i, .int .i64 (adK P (runK P l)).j]] w' fun e w'' => e = .returned (.tuple #[.int .i64 (wordOf L (adK P (runK P l))), .int .i64 0]) ∧ ∃ K', RKM w'' base (.pointer (some ⟨R, 0, none⟩)) c (loadL c P.s L t (adK P (runK P l))) K' Y P l G ∧ Next K K' w' w'') := fun w' h' hb' => by
    have := rload_any h'.ref hb' hL t (adK P (runK P l))
    rw [if_pos (adK_is hk.all ht), if_pos (adK_is hk.all ht)] at this
    refine this.mono ?_
    rintro e w2 ⟨rfl, K', h1, h2⟩
    exact ⟨rfl, K', h'.onRef h1 h2, h2⟩
  have HSTP : Hid (∀ w, Calls Try.prog 77 #[.int .i64 (wordOf L (adK P (runK P l)))] w fun e w' => e = .returned (.int .i64 (wordOf L (adK P (runK P l)) / 2)) ∧ w' = w) := rstamp_any _ hv.1 hv.2
  have hlnb : l.length ≤ 146 := by have h1 := kok_len hk.all; have h2 := hp.s16; omega
  have HK2 : Hid (LKk P (l ++ [wordOf L (adK P (runK P l))])) := lkk_snoc hk hv ht hwt
  have HR2 : Hid (runK P (l ++ [wordOf L (adK P (runK P l))]) = stepK P (runK P l) (wordOf L (adK P (runK P l)))) := runK_snoc P l _
  have HOK2 := HK2.out.all
  rw [HR2.out] at HOK2
  have he0 : (stepK P (runK P l) (wordOf L (adK P (runK P l)))).err = 0 := by
    rcases HOK2.c with ⟨z, _⟩ | ⟨z, _⟩ | ⟨z, _⟩ | ⟨z, _⟩ | ⟨_, _, z⟩ | ⟨z, _⟩
    · rw [z] at hst; simp [ckNew] at hst
    · omega
    · omega
    · omega
    · exact z
    · omega
  obtain ⟨cc, ss, HPL2⟩ : ∃ cc ss, Hid (planK P (runK P (l ++ [wordOf L (adK P (runK P l))])) = #[.bool true, .int .i64 0, .int .i64 cc, .int .i64 ss, .int .i64 0, .int .i64 0, .int .i64 0, .int .i64 0]) :=
    ⟨(stepK P (runK P l) (wordOf L (adK P (runK P l)))).comp, (stepK P (runK P l) (wordOf L (adK P (runK P l)))).seen, by rw [Hid, HR2.out, plan_4 hst, he0]⟩
  have hsm : 1 ≤ (runK P l).stamp := by have h1 := (kok_mid hk.all (Or.inl hs1)).1.lo; have h2 := hp.z0; omega
  have hls : lsV (runK P l) = (runK P l).stamp := by unfold lsV; rw [if_pos hs1]
  have hwd := wait_iff (v := wordOf L (adK P (runK P l))) hsm hs1
  rw [hwt] at hwd
  replace hwd := hwd.symm
  rw [hls] at HN
  clear h hkl HPL hv hls
  clear HOK2
  generalize wordOf L (adK P (runK P l)) = v at *
  generalize loadL c P.s L t (adK P (runK P l)) = L' at *
  generalize (runK P l).stamp = sm at *
  have hpos : decide (0 < sm) = true := decide_eq_true (by omega)
  generalize (runK P l).err = er at *
  generalize (adK P (runK P l)).k = ak at *
  generalize (adK P (runK P l)).i = ai at *
  generalize (adK P (runK P l)).j = aj at *
  have hrs : ((P.s : Int) != (P.s : Int)) = false := by simp
  go_enter Try.func55, Try.ntmps55
  go_wp2_with fail
  refine (HN.out _ (Below.refl _ _)).mono ?_
  rintro e w1 ⟨rfl, hb1⟩
  have HM1 : Hid (RKM (w1.alloc (.cells #[.bool false, .int .i64 er, .int .i64 0, .int .i64 0, .int .i64 ak, .int .i64 ai, .int .i64 aj, .int .i64 sm] 148)) base (.pointer (some ⟨R, 0, none⟩)) c L K Y P l G) := HH.out.below (below_then hb1 (below_a1 _ _))
  have HB1 : Hid (Below w.heap.size w (w1.alloc (.cells #[.bool false, .int .i64 er, .int .i64 0, .int .i64 0, .int .i64 ak, .int .i64 ai, .int .i64 aj, .int .i64 sm] 148))) := below_then hb1 (below_a1 _ _)
  have HWS : Hid (w.heap.size ≤ w1.heap.size) := hb1.size
  have y0' := cell_later hb1 hY y0
  have r1' := cell_later hb1 hR r1
  have hY1 := Nat.lt_of_lt_of_le hY hb1.size
  have hR1 := Nat.lt_of_lt_of_le hR hb1.size
  clear hb1 y0 r1
  go_wp2_with fail
  go_quiet (fail)
  go_wp2_with fail
  refine (HLD.out _ (HM1.out.below (below_drawn (Below.refl _ _) nq)) (Nat.le_trans hb HB1.out.size)).mono ?_
  rintro e w2 ⟨rfl, K2, hm2, hn2⟩
  have HM2 : Hid (RKM w2 base (.pointer (some ⟨R, 0, none⟩)) c L' K2 Y P l G) := hm2
  have HN2 : Hid (Next K K2 w w2) := (Next.of_below (below_drawn HB1.out nq) K).trans hn2
  have hb2 : base ≤ w2.heap.size := Nat.le_trans (Nat.le_trans hb HB1.out.size) hn2.1.size
  have hKlt : w1.heap.size ∉ K := fun e => by have h1 := (HH.out.ref.lt _ e).2; have h4 := HWS.out; omega
  have hrow : w2.heap[w1.heap.size]? = some (.cells #[.bool false, .int .i64 er, .int .i64 0, .int .i64 0, .int .i64 ak, .int .i64 ai, .int .i64 aj, .int .i64 sm] 148 (0, 0)) := hn2.row (w := World.drewN _ nq) (heap_alloc_new w1 _) hKlt
  obtain ⟨p0, p1, p2, p3, p4, p5, p6, p7⟩ := plan8 hrow
  clear hrow hn2 y0' r1' hKlt
  have hlt : decide (v / 2 < sm) = false := hwd
  have hge : ¬ v / 2 < sm := of_decide_eq_false hlt
  go_wp2_with fail
  go_quiet ((go_at_call 77; refine (HSTP.out _).mono ?_; rintro e x0 ⟨rfl, rfl⟩; exact ⟨rfl, _, rfl⟩))
  have HM2' : Hid (RKM (w2.drewN nq) base (.pointer (some ⟨R, 0, none⟩)) c L' K2 Y P l G) := HM2.out.below (below_drawn (Below.refl _ _) nq)
  have HN2' : Hid (Next K K2 w (w2.drewN nq)) := HN2.out.trans (Next.of_below (below_drawn (Below.refl _ _) nq) K2)
  have hb2' : base ≤ (w2.drewN nq).heap.size := hb2
  clear HM2 HN2 hb2 hm2 p0 p1 p2 p3 p4 p5 p6 p7
  generalize w2.drewN nq = w2 at *
  obtain ⟨v2, hrb2⟩ := HM2'.out.rk
  have HRB : Hid (RK' w2 base Y P l G v2) := hrb2
  have z1 : w2.cell? ⟨Y, 14, none⟩ = some v2 := by rw [cell_at hrb2.m]; rfl
  have zf : w2.frozen? ⟨Y, 14, none⟩ = false := frozen_at hrb2.m 14
  have hY2 : Y < w2.heap.size := heap_lt hrb2.m
  obtain ⟨n, hln2⟩ : ∃ n, l.length = n := ⟨_, rfl⟩
  rw [hln2] at hlnb
  have HOWN : Hid (w2.ownsRow base 2 1 v2 n (numK l)) := by rw [Hid, ← hln2]; exact hrb2.own
  obtain ⟨a2, cap2, rfl⟩ := own_slice HOWN.out
  clear hrb2
  have hYv : (Value.slice a2 n cap2).ownBlock ≠ some Y := own_ne HOWN.out HRB.out.m (by decide)
  go_wp2_with (at_builtin; refine list_lies_wide _ rfl _ _ 91 rfl base 2 i0 _ 1 8 Try.underlying91 hi hz0 hz1 hz2 rfl (by decide) _ _ _ rfl (HOWN.out.alloc _) ⟨w2.heap.size, 0, none⟩ 1 1 [.int .i64 v] rfl rfl ?c1 ?c2 (by decide) ?c3 ?c4 ?c5 _ rfl ?_)
  case c1 => exact World.news_of_block (cs := #[.int .i64 v]) (t := 2) (fr := (0, 0)) (heap_alloc_new w2 _)
  case c2 => simp [Value.oneCell']
  case c3 => unfold maxLen; omega
  case c4 => omega
  case c5 => first | omega | (simp; omega)
  intro gg cap' w3 hown1 hgrow hat hlt3
  have hs1 : w3.cell? ⟨Y, 14, none⟩ = some (.slice a2 n cap2) := by rw [hgrow.cell_far _ (by simp; omega) (Ne.symm hYv), World.cell?_alloc_past _ _ _ hY2]; exact z1
  have hs2 : w3.frozen? ⟨Y, 14, none⟩ = false := by rw [hgrow.frozen_far _ (by simp; omega) (Ne.symm hYv), World.frozen?_alloc_past _ _ _ hY2]; exact zf
  have HX3 : Hid (∃ G', RK (w3.setCell ⟨Y, 14, none⟩ (.slice (some ⟨gg, 0, none⟩) (n + 1) cap')) base Y P (l ++ [v]) G' ∧ Next G G' w2 (w3.setCell ⟨Y, 14, none⟩ (.slice (some ⟨gg, 0, none⟩) (n + 1) cap'))) :=
    rk_end HRB.out ((Keep.refl _ _).alloc _) hln2 hown1 hgrow (by rcases hat with e | e; exact Or.inl e; exact Or.inr (by omega))
  clear hown1 hgrow hat hlt3 z1 zf HOWN
  go_wp2_with fail
  generalize w3.setCell ⟨Y, 14, none⟩ (.slice (some ⟨gg, 0, none⟩) (n + 1) cap') = w4 at *
  clear hs1 hs2
  obtain ⟨G4, hrb4, hn4⟩ := HX3.out
  have HM4 : Hid (RKM w4 base (.pointer (some ⟨R, 0, none⟩)) c L' K2 Y P (l ++ [v]) G4) := HM2'.out.onRk hrb4 hn4
  have HN4 : Hid (Next (G ++ K) (G4 ++ K2) w w4) := (HN2'.out.right (F := G)).trans hn4.left
  have HNX4 : Hid (Calls Try.prog 76 #[.pointer (some ⟨Y, 3, none⟩)] w4 fun e w'' => e = .returned (.agg (planK P (runK P (l ++ [v])))) ∧ Below w4.heap.size w4 w'') := rk_next hrb4 HK2.out hp (Below.refl _ _)
  rw [HPL2.out] at HNX4
  clear hrb4 hn4 HX3 HRB HM2' HN2' HM1 HLD HH HN
  refine HNX4.out.mono ?_
  rintro e w5 ⟨rfl, hb5⟩
  have HE : Hid (∀ w', Below w5.heap.size w5 w' → ∃ K' G', RKM w' base (.pointer (some ⟨R, 0, none⟩)) c L' K' Y P (l ++ [v]) G' ∧ Next (G ++ K) (G' ++ K') w w') := fun w' hb => ⟨K2, G4, HM4.out.below (below_then hb5 hb), HN4.out.trans (Next.of_below (below_then hb5 hb) _)⟩
  clear hb5
  go_wp2
  first | (go_ret2; exact ⟨rfl, HE.out _ (below_a1 _ _)⟩) | (go_quiet (fail); go_wp2; go_ret2; exact ⟨rfl, HE.out _ (below_drawn (below_a1 _ _) _)⟩)
set_option maxRecDepth 100000 in
set_option maxHeartbeats 3200000 in
theorem rkstep_P2 {w : World} {base Y : Nat} {P : Cp} {q : Value} {c : Nat} {L : List Ac} {l : List Int} {K G : List Nat} (h : RKM w base q c L K Y P l G) (hb : base ≤ w.heap.size) (hL : L.length < 3298534883328) (hk : LKk P l) (hp : POk P) (ht : ¬ thr (runK P l)) (hv : W64 (wordOf L (adK P (runK P l)))) (t : Int) (hs1 : (runK P l).st = 1) (hwt : waitK (runK P l) (wordOf L (adK P (runK P l))) = false) (hst : (stepK P (runK P l) (wordOf L (adK P (runK P l)))).st ≠ 4 ∧ (stepK P (runK P l) (wordOf L (adK P (runK P l)))).st ≠ 5) :
    Calls Try.prog 55 #[.pointer (some ⟨Y, 3, none⟩), q, .int .i64 t] w fun e w' => e = .returned (.tuple #[.int .i64 2, .int .i64 0]) ∧ ∃ K' G', RKM w' base q c (loadL c P.s L t (adK P (runK P l))) K' Y P (l ++ [wordOf L (adK P (runK P l))]) G' ∧ Next (G ++ K) (G' ++ K') w w' := by
  obtain ⟨i0, hi, hz0, hz1, hz2⟩ := info_parts info_num8
  have HN : Hid (∀ w' : World, Below w.heap.size w w' → Calls Try.prog 76 #[.pointer (some ⟨Y, 3, none⟩)] w' fun e w'' => e = .returned (.agg (planK P (runK P l))) ∧ Below w'.heap.size w' w'') := fun w' hb => rk_next h.rk hk hp hb
  obtain ⟨a0, cap0, hkl⟩ := h.rk.kl
  have y0 := hkl.cells.1
  have hY : Y < w.heap.size := heap_lt hkl.m
  obtain ⟨R, rfl⟩ := h.ref.ptr
  have r1 := h.ref.ring8
  have hR : R < w.heap.size := World.block_lt_of_cell? _ _ r1
  have hthr : thrB (runK P l) = false := by
    cases e : thrB (runK P l)
    · rfl
    · exact absurd (thrB_iff.mp e) ht
  have hst4 : (runK P l).st ≠ 4 := fun e => ht (Or.inl e)
  have HPL : Hid (planK P (runK P l) = #[.bool false, .int .i64 (runK P l).err, .int .i64 0, .int .i64 0, .int .i64 (adK P (runK P l)).k, .int .i64 (adK P (runK P l)).i, .int .i64 (adK P (runK P l)).j, .int .i64 (lsV (runK P l))]) := by
    rw [Hid]; unfold planK plK lsV; rw [hthr, if_neg hst4, if_neg hst4, if_neg (by simp)]
  rw [HPL.out] at HN
  have HH : Hid (RKM w base (.pointer (some ⟨R, 0, none⟩)) c L K Y P l G) := h
  have HLD : Hid (∀ w' : World, RKM w' base (.pointer (some ⟨R, 0, none⟩)) c L K Y P l G → base ≤ w'.heap.size → Calls Try.prog 58 #[.pointer (some ⟨R, 0, none⟩), .int .i64 t, .agg #[.int .i64 (adK P (runK P l)).k, .int .i64 (adK P (runK P l)).i, .int .i64 (adK P (runK P l)).j]] w' fun e w'' => e = .returned (.tuple #[.int .i64 (wordOf L (adK P (runK P l))), .int .i64 0]) ∧ ∃ K', RKM w'' base (.pointer (some ⟨R, 0, none⟩)) c (loadL c P.s L t (adK P (runK P l))) K' Y P l G ∧ Next K K' w' w'') := fun w' h' hb' => by
    have := rload_any h'.ref hb' hL t (adK P (runK P l))
    rw [if_pos (adK_is hk.all ht), if_pos (adK_is hk.all ht)] at this
    refine this.mono ?_
    rintro e w2 ⟨rfl, K', h1, h2⟩
    exact ⟨rfl, K', h'.onRef h1 h2, h2⟩
  have HSTP : Hid (∀ w, Calls Try.prog 77 #[.int .i64 (wordOf L (adK P (runK P l)))] w fun e w' => e = .returned (.int .i64 (wordOf L (adK P (runK P l)) / 2)) ∧ w' = w) := rstamp_any _ hv.1 hv.2
  have hlnb : l.length ≤ 146 := by have h1 := kok_len hk.all; have h2 := hp.s16; omega
  have HK2 : Hid (LKk P (l ++ [wordOf L (adK P (runK P l))])) := lkk_snoc hk hv ht hwt
  have HR2 : Hid (runK P (l ++ [wordOf L (adK P (runK P l))]) = stepK P (runK P l) (wordOf L (adK P (runK P l)))) := runK_snoc P l _
  have HOK2 := HK2.out.all
  rw [HR2.out] at HOK2
  obtain ⟨e2, k2, i2, j2, l2, HPL2⟩ : ∃ e2 k2 i2 j2 l2, Hid (planK P (runK P (l ++ [wordOf L (adK P (runK P l))])) = #[.bool false, .int .i64 e2, .int .i64 0, .int .i64 0, .int .i64 k2, .int .i64 i2, .int .i64 j2, .int .i64 l2]) :=
    ⟨_, _, _, _, _, by rw [Hid, HR2.out]; exact plan_2 hst.1 hst.2⟩
  have hsm : 1 ≤ (runK P l).stamp := by have h1 := (kok_mid hk.all (Or.inl hs1)).1.lo; have h2 := hp.z0; omega
  have hls : lsV (runK P l) = (runK P l).stamp := by unfold lsV; rw [if_pos hs1]
  have hwd := wait_iff (v := wordOf L (adK P (runK P l))) hsm hs1
  rw [hwt] at hwd
  replace hwd := hwd.symm
  rw [hls] at HN
  clear h hkl HPL hv hls
  clear HOK2
  generalize wordOf L (adK P (runK P l)) = v at *
  generalize loadL c P.s L t (adK P (runK P l)) = L' at *
  generalize (runK P l).stamp = sm at *
  have hpos : decide (0 < sm) = true := decide_eq_true (by omega)
  generalize (runK P l).err = er at *
  generalize (adK P (runK P l)).k = ak at *
  generalize (adK P (runK P l)).i = ai at *
  generalize (adK P (runK P l)).j = aj at *
  have hrs : ((P.s : Int) != (P.s : Int)) = false := by simp
  go_enter Try.func55, Try.ntmps55
  go_wp2_with fail
  refine (HN.out _ (Below.refl _ _)).mono ?_
  rintro e w1 ⟨rfl, hb1⟩
  have HM1 : Hid (RKM (w1.alloc (.cells #[.bool false, .int .i64 er, .int .i64 0, .int .i64 0, .int .i64 ak, .int .i64 ai, .int .i64 aj, .int .i64 sm] 148)) base (.pointer (some ⟨R, 0, none⟩)) c L K Y P l G) := HH.out.below (below_then hb1 (below_a1 _ _))
  have HB1 : Hid (Below w.heap.size w (w1.alloc (.cells #[.bool false, .int .i64 er, .int .i64 0, .int .i64 0, .int .i64 ak, .int .i64 ai, .int .i64 aj, .int .i64 sm] 148))) := below_then hb1 (below_a1 _ _)
  have HWS : Hid (w.heap.size ≤ w1.heap.size) := hb1.size
  have y0' := cell_later hb1 hY y0
  have r1' := cell_later hb1 hR r1
  have hY1 := Nat.lt_of_lt_of_le hY hb1.size
  have hR1 := Nat.lt_of_lt_of_le hR hb1.size
  clear hb1 y0 r1
  go_wp2_with fail
  go_quiet (fail)
  go_wp2_with fail
  refine (HLD.out _ (HM1.out.below (below_drawn (Below.refl _ _) nq)) (Nat.le_trans hb HB1.out.size)).mono ?_
  rintro e w2 ⟨rfl, K2, hm2, hn2⟩
  have HM2 : Hid (RKM w2 base (.pointer (some ⟨R, 0, none⟩)) c L' K2 Y P l G) := hm2
  have HN2 : Hid (Next K K2 w w2) := (Next.of_below (below_drawn HB1.out nq) K).trans hn2
  have hb2 : base ≤ w2.heap.size := Nat.le_trans (Nat.le_trans hb HB1.out.size) hn2.1.size
  have hKlt : w1.heap.size ∉ K := fun e => by have h1 := (HH.out.ref.lt _ e).2; have h4 := HWS.out; omega
  have hrow : w2.heap[w1.heap.size]? = some (.cells #[.bool false, .int .i64 er, .int .i64 0, .int .i64 0, .int .i64 ak, .int .i64 ai, .int .i64 aj, .int .i64 sm] 148 (0, 0)) := hn2.row (w := World.drewN _ nq) (heap_alloc_new w1 _) hKlt
  obtain ⟨p0, p1, p2, p3, p4, p5, p6, p7⟩ := plan8 hrow
  clear hrow hn2 y0' r1' hKlt
  have hlt : decide (v / 2 < sm) = false := hwd
  have hge : ¬ v / 2 < sm := of_decide_eq_false hlt
  go_wp2_with fail
  go_quiet ((go_at_call 77; refine (HSTP.out _).mono ?_; rintro e x0 ⟨rfl, rfl⟩; exact ⟨rfl, _, rfl⟩))
  have HM2' : Hid (RKM (w2.drewN nq) base (.pointer (some ⟨R, 0, none⟩)) c L' K2 Y P l G) := HM2.out.below (below_drawn (Below.refl _ _) nq)
  have HN2' : Hid (Next K K2 w (w2.drewN nq)) := HN2.out.trans (Next.of_below (below_drawn (Below.refl _ _) nq) K2)
  have hb2' : base ≤ (w2.drewN nq).heap.size := hb2
  clear HM2 HN2 hb2 hm2 p0 p1 p2 p3 p4 p5 p6 p7
  generalize w2.drewN nq = w2 at *
  obtain ⟨v2, hrb2⟩ := HM2'.out.rk
  have HRB : Hid (RK' w2 base Y P l G v2) := hrb2
  have z1 : w2.cell? ⟨Y, 14, none⟩ = some v2 := by rw [cell_at hrb2.m]; rfl
  have zf : w2.frozen? ⟨Y, 14, none⟩ = false := frozen_at hrb2.m 14
  have hY2 : Y < w2.heap.size := heap_lt hrb2.m
  obtain ⟨n, hln2⟩ : ∃ n, l.length = n := ⟨_, rfl⟩
  rw [hln2] at hlnb
  have HOWN : Hid (w2.ownsRow base 2 1 v2 n (numK l)) := by rw [Hid, ← hln2]; exact hrb2.own
  obtain ⟨a2, cap2, rfl⟩ := own_slice HOWN.out
  clear hrb2
  have hYv : (Value.slice a2 n cap2).ownBlock ≠ some Y := own_ne HOWN.out HRB.out.m (by decide)
  go_wp2_with (at_builtin; refine list_lies_wide _ rfl _ _ 91 rfl base 2 i0 _ 1 8 Try.underlying91 hi hz0 hz1 hz2 rfl (by decide) _ _ _ rfl (HOWN.out.alloc _) ⟨w2.heap.size, 0, none⟩ 1 1 [.int .i64 v] rfl rfl ?c1 ?c2 (by decide) ?c3 ?c4 ?c5 _ rfl ?_)
  case c1 => exact World.news_of_block (cs := #[.int .i64 v]) (t := 2) (fr := (0, 0)) (heap_alloc_new w2 _)
  case c2 => simp [Value.oneCell']
  case c3 => unfold maxLen; omega
  case c4 => omega
  case c5 => first | omega | (simp; omega)
  intro gg cap' w3 hown1 hgrow hat hlt3
  have hs1 : w3.cell? ⟨Y, 14, none⟩ = some (.slice a2 n cap2) := by rw [hgrow.cell_far _ (by simp; omega) (Ne.symm hYv), World.cell?_alloc_past _ _ _ hY2]; exact z1
  have hs2 : w3.frozen? ⟨Y, 14, none⟩ = false := by rw [hgrow.frozen_far _ (by simp; omega) (Ne.symm hYv), World.frozen?_alloc_past _ _ _ hY2]; exact zf
  have HX3 : Hid (∃ G', RK (w3.setCell ⟨Y, 14, none⟩ (.slice (some ⟨gg, 0, none⟩) (n + 1) cap')) base Y P (l ++ [v]) G' ∧ Next G G' w2 (w3.setCell ⟨Y, 14, none⟩ (.slice (some ⟨gg, 0, none⟩) (n + 1) cap'))) :=
    rk_end HRB.out ((Keep.refl _ _).alloc _) hln2 hown1 hgrow (by rcases hat with e | e; exact Or.inl e; exact Or.inr (by omega))
  clear hown1 hgrow hat hlt3 z1 zf HOWN
  go_wp2_with fail
  generalize w3.setCell ⟨Y, 14, none⟩ (.slice (some ⟨gg, 0, none⟩) (n + 1) cap') = w4 at *
  clear hs1 hs2
  obtain ⟨G4, hrb4, hn4⟩ := HX3.out
  have HM4 : Hid (RKM w4 base (.pointer (some ⟨R, 0, none⟩)) c L' K2 Y P (l ++ [v]) G4) := HM2'.out.onRk hrb4 hn4
  have HN4 : Hid (Next (G ++ K) (G4 ++ K2) w w4) := (HN2'.out.right (F := G)).trans hn4.left
  have HNX4 : Hid (Calls Try.prog 76 #[.pointer (some ⟨Y, 3, none⟩)] w4 fun e w'' => e = .returned (.agg (planK P (runK P (l ++ [v])))) ∧ Below w4.heap.size w4 w'') := rk_next hrb4 HK2.out hp (Below.refl _ _)
  rw [HPL2.out] at HNX4
  clear hrb4 hn4 HX3 HRB HM2' HN2' HM1 HLD HH HN
  refine HNX4.out.mono ?_
  rintro e w5 ⟨rfl, hb5⟩
  have HE : Hid (∀ w', Below w5.heap.size w5 w' → ∃ K' G', RKM w' base (.pointer (some ⟨R, 0, none⟩)) c L' K' Y P (l ++ [v]) G' ∧ Next (G ++ K) (G' ++ K') w w') := fun w' hb => ⟨K2, G4, HM4.out.below (below_then hb5 hb), HN4.out.trans (Next.of_below (below_then hb5 hb) _)⟩
  clear hb5
  go_wp2
  first | (go_ret2; exact ⟨rfl, HE.out _ (below_a1 _ _)⟩) | (go_quiet (fail); go_wp2; go_ret2; exact ⟨rfl, HE.out _ (below_drawn (below_a1 _ _) _)⟩)
end Go.Proofs.Ytfbbcjlbelnfaaa
