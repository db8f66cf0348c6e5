/- The document's machine of layer 11: Step, behind its looking back. -/
import Derived.Test.YtbmmicfdnfpcaaaBpF
import Derived.Deep.CutBlock
namespace Go.Proofs.Ytbmmicfdnfpcaaa
open Go.ChangeShapes Go.WideShapes Go.ChangeAt Go.RowKit
attribute [local go_sem ↓] Go.wp_at_zero Go.wp_at_succ

set_option maxRecDepth 100000 in
set_option maxHeartbeats 6400000 in
theorem dstep_write {w : World} {base : Nat} {q : Value} {c r : Nat} {L : List Ac} {K : List Nat} {Y : Nat} {P : Bp} {mu : Bool} {x : Dc} {G : List Nat} {kk : Bool} (h : DJ w base q c r L K Y P mu x G) (hp : BpOk P) (hb : base ≤ w.heap.size) (hL : L.length < 3298534883328) (hg : goD c r P x = true) (hrs : r = P.s) (hwl : ∀ v ∈ x.l, W64 v) (hlen : x.l.length ≤ 9 * P.s) (hlo : lkD P mu x.l = loT kk) {j : Nat} (hj : j < P.W.length) (hn : x.n = 9 + j) (hcl : 0 ≤ (P.W.getD j noWt).c ∧ (P.W.getD j noWt).c < (c : Int)) (t : Int) : DDoes w base q c r K Y P mu G t 2 (storeL c r L t ⟨4, (P.W.getD j noWt).c, 0⟩ (P.W.getD j noWt).v) ⟨x.n + 1, x.l, x.sn⟩ := by
  have HOV : Hid (∀ w', Below w.heap.size w w' → Calls Try.prog 33 #[.pointer (some ⟨Y, 0, none⟩)] w' fun e w'' => e = .returned (.bool false) ∧ Below w'.heap.size w' w'') := fun w' hb => by
    obtain ⟨lv, kv, hd⟩ := (h.below hb).dm
    have := dover_any hd hp.len
    rw [decide_eq_false (goD_iff.mp hg).1] at this
    exact this
  have HLA : Hid (∀ w', Below w.heap.size w w' → Calls Try.prog 34 #[.pointer (some ⟨Y, 0, none⟩), q] w' fun e w'' => e = .returned (.bool false) ∧ Below w'.heap.size w' w'') := fun w' hb => by
    obtain ⟨lv, kv, hd⟩ := (h.below hb).dm
    have := dlacks_any hd (h.below hb).ref hp.len
    rw [(goD_iff.mp hg).2, Bool.not_true] at this
    exact this
  have HSL : Hid (∀ w, Calls Try.prog 35 #[.int .i64 P.st, .int .i64 (P.s : Int)] w fun e w' => e = .returned (.int .i64 (slotV P.st P.s)) ∧ w' = w) := fun w => rslot_any P.st P.s w
  have HJW : Hid (∀ w', Below w.heap.size w w' → DJ w' base q c r L K Y P mu x G) := fun w' hb => h.below hb
  have hbd := slotB_bd hp P.st
  have HBG : Hid (1 ≤ P.st ∧ P.st ≤ 1099511627776 ∧ 1 ≤ P.s ∧ P.s ≤ 16 ∧ P.W.length ≤ 24) := ⟨hp.st1, hp.st2, hp.s1, hp.s16, hp.len⟩
  have HLO : Hid (∀ w', Below w.heap.size w w' → Calls Try.prog 36 #[.pointer (some ⟨Y, 0, none⟩)] w' fun e w'' => e = .returned (.agg #[.bool true, .bool kk, .bool false, .bool false, .int .i64 0, .int .i64 0, .int .i64 0, .int .i64 0]) ∧ Below w'.heap.size w' w'') := fun w' hbw => by
    obtain ⟨lv, kv, hd⟩ := (h.below hbw).dm
    have := looks_any hd hp hwl hlen
    rw [hlo] at this
    exact this
  have HYC : Hid (∀ w', Below w.heap.size w w' → w'.cell? ⟨Y, 0, none⟩ = some (.int .i64 (P.s : Int)) ∧ w'.cell? ⟨Y, 2, none⟩ = some (.int .i64 P.st)) := dj_yc h
  have HRF : Hid (∀ (w1 w2 : World) (K1 : List Nat) (B : Nat) (o : Obj), w.heap.size ≤ B → w2.heap[B]? = some o → Next K K1 w2 w1 → w1.heap[B]? = some o) := fun w1 w2 K1 B o h1 h2 h3 => lo_row h.ref h1 h2 h3
  have HNC : Hid (∃ la lcap, ∀ w', Below w.heap.size w w' → w'.cell? ⟨Y, 12, none⟩ = some (.int .i64 (x.n : Int)) ∧ w'.cell? ⟨Y, 3, none⟩ = some (.slice (some ⟨la, 0, none⟩) P.W.length lcap) ∧ w'.cell? ⟨la, j * 2, none⟩ = some (.int .i64 (P.W.getD j noWt).c) ∧ w'.cell? ⟨la, j * 2 + 1, none⟩ = some (.int .i64 (P.W.getD j noWt).v) ∧ la < w'.heap.size) := by
    obtain ⟨lv, kv, hd⟩ := h.dm
    obtain ⟨la, lcap, rfl, -⟩ := hd.ownW.form (by omega)
    exact ⟨la, lcap, fun w' hbw => by
      have hm := hd.m.below hbw (heap_lt hd.m)
      have ho := own_keep hd.ownW (Keep.of_below hbw []) (fun _ _ => by simp)
      have hc := own_wr ho j hj
      exact ⟨hm.cells.2.2.2.2.1, hm.cells.2.2.2.1, hc.1, hc.2, World.block_lt_of_cell? _ _ hc.1⟩⟩
  have HRS : Hid (r = P.s) := hrs
  have HST : Hid (∀ w', Below w.heap.size w w' → Calls Try.prog 14 #[q, .int .i64 t, .agg #[.int .i64 4, .int .i64 (P.W.getD j noWt).c, .int .i64 0], .int .i64 (P.W.getD j noWt).v] w' fun e w'' => e = .returned (.int .i64 0) ∧ ∃ K', DJ w'' base q c r (storeL c r L t ⟨4, (P.W.getD j noWt).c, 0⟩ (P.W.getD j noWt).v) K' Y P mu x G ∧ Next K K' w' w'') := fun w' hbw => dj_store (h.below hbw) (Nat.le_trans hb hbw.size) hL t ⟨4, (P.W.getD j noWt).c, 0⟩ _ (by simp [isAd]; exact hcl)
  have HEND : Hid (∀ w1 K1 L1, DJ w1 base q c r L1 K1 Y P mu x G → Next (G ++ K) (G ++ K1) w w1 → DJ (w1.setCell ⟨Y, 12, none⟩ (.int .i64 ((x.n : Int) + 1))) base q c r L1 K1 Y P mu ⟨x.n + 1, x.l, x.sn⟩ G ∧ Next (G ++ K) (G ++ K1) w (w1.setCell ⟨Y, 12, none⟩ (.int .i64 ((x.n : Int) + 1)))) := fun w1 K1 L1 h1 h2 => h1.set (x' := ⟨x.n + 1, x.l, x.sn⟩) h2 rfl 12 _ (fun lv kv hd => by have := hd.m.set12 ((x.n : Int) + 1); simpa using this)
  have HCC : Hid (∀ w1 K1 L1, DJ w1 base q c r L1 K1 Y P mu x G → w1.cell? ⟨Y, 12, none⟩ = some (.int .i64 (x.n : Int)) ∧ w1.frozen? ⟨Y, 12, none⟩ = false ∧ Y < w1.heap.size) := fun w1 K1 L1 h1 => by
    obtain ⟨lv, kv, hd⟩ := h1.dm
    exact ⟨hd.m.cells.2.2.2.2.1, frozen_at hd.m 12, heap_lt hd.m⟩
  obtain ⟨R, rfl⟩ := h.ref.ptr
  unfold DDoes
  have hml := hp.len
  have k1 : ¬ (x.n : Int) < 8 := by omega
  have k2 : ((x.n : Int) == 8) = false := by simp; omega
  have k3 : (x.n : Int) < (P.W.length : Int) + 9 := by omega
  have k4 : IntKind.i64.wrap ((P.W.length : Int) + 9) = (P.W.length : Int) + 9 := by rw [IntKind.wrap_i64]; omega
  have k5 : IntKind.i64.wrap ((x.n : Int) - 9) = (j : Int) := by rw [IntKind.wrap_i64]; omega
  have k6 : wrap64 ((x.n : Int) + 1) = (x.n : Int) + 1 := by unfold wrap64; omega
  have k7 : (j : Int) < (P.W.length : Int) := Int.ofNat_lt.mpr hj
  generalize (⟨x.n + 1, x.l, x.sn⟩ : Dc) = x' at *
  generalize (x.n : Int) = nv at *
  generalize storeL c r L t ⟨4, (P.W.getD j noWt).c, 0⟩ (P.W.getD j noWt).v = L' at *
  generalize slotV P.st P.s = sl at *
  generalize P.W.getD j noWt = xw at *
  obtain ⟨wc0, wv0⟩ := xw
  simp only at HST HNC
  generalize P.W.length = m at *
  clear h hp hg hbd hrs hwl hlen hlo hn hj hcl hml
  go_enter Try.func16, Try.ntmps16
  go_wp2_with fail
  refine (HOV.out _ (Below.refl _ _)).mono ?_
  rintro e z1 ⟨rfl, hb1⟩
  have HB1 : Hid (Below w.heap.size w z1) := hb1
  clear hb1
  go_wp2_with fail
  refine (HLA.out _ HB1.out).mono ?_
  rintro e z2 ⟨rfl, hb2⟩
  have HB2 : Hid (Below w.heap.size w z2) := below_then HB1.out hb2
  clear hb2 HB1 HOV HLA
  obtain ⟨y0, y2⟩ := HYC.out _ HB2.out
  go_wp2_with fail
  go_quiet ((go_at_call 35; refine Calls.quiet_of_same (HSL.out _)))
  obtain ⟨z3, hz3⟩ : ∃ z3, z3 = z2.drewN nq := ⟨_, rfl⟩
  rw [← hz3]
  have HB3 : Hid (Below w.heap.size w z3) := by rw [Hid, hz3]; exact below_drawn HB2.out _
  clear hz3 HB2 y0 y2 HYC
  obtain ⟨la, lcap, hyy⟩ := HNC.out
  obtain ⟨y12, y3, l0, l1, hla⟩ := hyy _ HB3.out
  go_wp2_with fail
  refine (HLO.out _ HB3.out).mono ?_
  rintro e z4 ⟨rfl, hb4⟩
  have HB4 : Hid (Below w.heap.size w (z4.alloc (.cells #[.bool true, .bool kk, .bool false, .bool false, .int .i64 0, .int .i64 0, .int .i64 0, .int .i64 0] 98))) := below_alloc (below_then HB3.out hb4) _
  have HS4 : Hid (w.heap.size ≤ z4.heap.size) := Nat.le_trans HB3.out.size hb4.size
  have hpc : (z4.alloc (.cells #[.bool true, .bool kk, .bool false, .bool false, .int .i64 0, .int .i64 0, .int .i64 0, .int .i64 0] 98)).heap[z4.heap.size]? = some (.cells #[.bool true, .bool kk, .bool false, .bool false, .int .i64 0, .int .i64 0, .int .i64 0, .int .i64 0] 98 (0, 0)) := heap_alloc_new _ _
  have HPC : Hid ((z4.alloc (.cells #[.bool true, .bool kk, .bool false, .bool false, .int .i64 0, .int .i64 0, .int .i64 0, .int .i64 0] 98)).heap[z4.heap.size]? = some (.cells #[.bool true, .bool kk, .bool false, .bool false, .int .i64 0, .int .i64 0, .int .i64 0, .int .i64 0] 98 (0, 0))) := hpc
  clear hb4 y12 y3 l0 l1 hla hpc
  go_upto_region 23 with fail
  obtain ⟨z5, hz5⟩ : ∃ z5, z5 = z4.alloc (.cells #[.bool true, .bool kk, .bool false, .bool false, .int .i64 0, .int .i64 0, .int .i64 0, .int .i64 0] 98) := ⟨_, rfl⟩
  rw [← hz5] at HB4 HPC ⊢
  clear hz5
  obtain ⟨y12, y3, l0, l1, hla⟩ := hyy _ HB4.out
  go_quiet (fail)
  obtain ⟨z6, hz6⟩ : ∃ z6, z6 = z5.drewN nq := ⟨_, rfl⟩
  rw [← hz6]
  have HB6 : Hid (Below w.heap.size w z6) := by rw [Hid, hz6]; exact below_drawn HB4.out _
  have HP6 : Hid (z6.heap[z4.heap.size]? = some (.cells #[.bool true, .bool kk, .bool false, .bool false, .int .i64 0, .int .i64 0, .int .i64 0, .int .i64 0] 98 (0, 0))) := by rw [Hid, hz6]; exact HPC.out
  clear hz6 y12 y3 l0 l1 hla HB4 HPC HB3
  obtain ⟨y12, y3, l0, l1, hla⟩ := hyy _ HB6.out
  clear k1 k2 k4
  have hY6 : Y < z6.heap.size := World.block_lt_of_cell? _ _ y12
  go_wp2_with fail
  go_region
  all_goals
    have HBX : Hid (Below w.heap.size w ((z6.alloc (.cells #[.int .i64 wc0, .int .i64 wv0] 36)).drew)) := below_drawn (below_alloc HB6.out _) 1
    clear y12 y3 l0 l1 hla
    go_wp2_with fail
    refine (HST.out _ HBX.out).mono ?_
    rintro e z7 ⟨rfl, K7, h7, hn7⟩
    have HJ7 : Hid (DJ z7 base (.pointer (some ⟨R, 0, none⟩)) c r L' K7 Y P mu x G) := h7
    have HN7 : Hid (Next (G ++ K) (G ++ K7) w z7) := (Next.of_below HBX.out (G ++ K)).trans (hn7.right (F := G))
    clear h7 hn7
    obtain ⟨y12, yf, hY⟩ := HCC.out _ _ _ HJ7.out
    have HFF : Hid (DJ (z7.setCell ⟨Y, 12, none⟩ (.int .i64 (nv + 1))) base (.pointer (some ⟨R, 0, none⟩)) c r L' K7 Y P mu x' G ∧ Next (G ++ K) (G ++ K7) w (z7.setCell ⟨Y, 12, none⟩ (.int .i64 (nv + 1)))) := HEND.out _ _ _ HJ7.out HN7.out
    go_wp2
    go_ret
    exact ⟨rfl, K7, G, HFF.out⟩
set_option maxRecDepth 100000 in
set_option maxHeartbeats 6400000 in
theorem dstep_seen {w : World} {base : Nat} {q : Value} {c r : Nat} {L : List Ac} {K : List Nat} {Y : Nat} {P : Bp} {mu : Bool} {x : Dc} {G : List Nat} {kk : Bool} (h : DJ w base q c r L K Y P mu x G) (hp : BpOk P) (hb : base ≤ w.heap.size) (hL : L.length < 3298534883328) (hg : goD c r P x = true) (hrs : r = P.s) (hwl : ∀ v ∈ x.l, W64 v) (hlen : x.l.length ≤ 9 * P.s) (hlo : lkD P mu x.l = loT kk) (hkk : kk = false) (hn : x.n = P.W.length + 9) (hsn : x.sn = false) (hv : W64 (wordOf L ⟨2, slotV (P.st - 1) P.s, 0⟩)) (hov : overV (wordOf L ⟨2, slotV (P.st - 1) P.s, 0⟩) (P.st - 1) = true) (t : Int) : DDoes w base q c r K Y P mu G t 2 (loadL c r L t ⟨2, slotV (P.st - 1) P.s, 0⟩) ⟨x.n, x.l, true⟩ := by
  have HOV : Hid (∀ w', Below w.heap.size w w' → Calls Try.prog 33 #[.pointer (some ⟨Y, 0, none⟩)] w' fun e w'' => e = .returned (.bool false) ∧ Below w'.heap.size w' w'') := fun w' hb => by
    obtain ⟨lv, kv, hd⟩ := (h.below hb).dm
    have := dover_any hd hp.len
    rw [decide_eq_false (goD_iff.mp hg).1] at this
    exact this
  have HLA : Hid (∀ w', Below w.heap.size w w' → Calls Try.prog 34 #[.pointer (some ⟨Y, 0, none⟩), q] w' fun e w'' => e = .returned (.bool false) ∧ Below w'.heap.size w' w'') := fun w' hb => by
    obtain ⟨lv, kv, hd⟩ := (h.below hb).dm
    have := dlacks_any hd (h.below hb).ref hp.len
    rw [(goD_iff.mp hg).2, Bool.not_true] at this
    exact this
  have HSL : Hid (∀ w, Calls Try.prog 35 #[.int .i64 P.st, .int .i64 (P.s : Int)] w fun e w' => e = .returned (.int .i64 (slotV P.st P.s)) ∧ w' = w) := fun w => rslot_any P.st P.s w
  have HJW : Hid (∀ w', Below w.heap.size w w' → DJ w' base q c r L K Y P mu x G) := fun w' hb => h.below hb
  have hbd := slotB_bd hp P.st
  have HBG : Hid (1 ≤ P.st ∧ P.st ≤ 1099511627776 ∧ 1 ≤ P.s ∧ P.s ≤ 16 ∧ P.W.length ≤ 24) := ⟨hp.st1, hp.st2, hp.s1, hp.s16, hp.len⟩
  have HLO : Hid (∀ w', Below w.heap.size w w' → Calls Try.prog 36 #[.pointer (some ⟨Y, 0, none⟩)] w' fun e w'' => e = .returned (.agg #[.bool true, .bool kk, .bool false, .bool false, .int .i64 0, .int .i64 0, .int .i64 0, .int .i64 0]) ∧ Below w'.heap.size w' w'') := fun w' hbw => by
    obtain ⟨lv, kv, hd⟩ := (h.below hbw).dm
    have := looks_any hd hp hwl hlen
    rw [hlo] at this
    exact this
  have HYC : Hid (∀ w', Below w.heap.size w w' → w'.cell? ⟨Y, 0, none⟩ = some (.int .i64 (P.s : Int)) ∧ w'.cell? ⟨Y, 2, none⟩ = some (.int .i64 P.st)) := dj_yc h
  have HRF : Hid (∀ (w1 w2 : World) (K1 : List Nat) (B : Nat) (o : Obj), w.heap.size ≤ B → w2.heap[B]? = some o → Next K K1 w2 w1 → w1.heap[B]? = some o) := fun w1 w2 K1 B o h1 h2 h3 => lo_row h.ref h1 h2 h3
  subst hkk
  have HNC : Hid (∃ la lcap, ∀ w', Below w.heap.size w w' → w'.cell? ⟨Y, 12, none⟩ = some (.int .i64 (x.n : Int)) ∧ w'.cell? ⟨Y, 3, none⟩ = some (.slice la P.W.length lcap)) := by
    obtain ⟨lv, kv, hd⟩ := h.dm
    obtain ⟨la, lcap, rfl⟩ := own_slice hd.ownW
    exact ⟨la, lcap, fun w' hbw => by
      have hm := hd.m.below hbw (heap_lt hd.m)
      exact ⟨hm.cells.2.2.2.2.1, hm.cells.2.2.2.1⟩⟩
  have hbd2 := slotB_bd hp (P.st - 1)
  have HLD : Hid (∀ w', Below w.heap.size w w' → Calls Try.prog 37 #[q, .int .i64 t, .agg #[.int .i64 2, .int .i64 (slotV (P.st - 1) P.s), .int .i64 0]] w' fun e w'' => e = .returned (.tuple #[.int .i64 (wordOf L ⟨2, slotV (P.st - 1) P.s, 0⟩), .int .i64 0]) ∧ ∃ K', DJ w'' base q c r (loadL c r L t ⟨2, slotV (P.st - 1) P.s, 0⟩) K' Y P mu x G ∧ Next K K' w' w'') := fun w' hbw => dj_load (h.below hbw) (Nat.le_trans hb hbw.size) hL t _ (by subst hrs; simp [isAd, hbd2])
  have HOR : Hid (∀ w, Calls Try.prog 38 #[.int .i64 (wordOf L ⟨2, slotV (P.st - 1) P.s, 0⟩), .int .i64 (P.st - 1)] w fun e w' => e = .returned (.bool true) ∧ w' = w) := fun w => by rw [← hov]; exact rover_any _ _ hv.1 hv.2 w
  have HSL2 : Hid (∀ w, Calls Try.prog 35 #[.int .i64 (P.st - 1), .int .i64 (P.s : Int)] w fun e w' => e = .returned (.int .i64 (slotV (P.st - 1) P.s)) ∧ w' = w) := fun w => rslot_any (P.st - 1) P.s w
  have HSN : Hid (∀ w', Below w.heap.size w w' → w'.cell? ⟨Y, 14, none⟩ = some (.bool false) ∧ w'.cell? ⟨Y, 0, none⟩ = some (.int .i64 (P.s : Int)) ∧ w'.cell? ⟨Y, 2, none⟩ = some (.int .i64 P.st)) := fun w' hbw => by
    obtain ⟨lv, kv, hd⟩ := (h.below hbw).dm
    have h14 := hd.m.cells.2.2.2.2.2.2
    rw [hsn] at h14
    exact ⟨h14, hd.m.cells.1, hd.m.cells.2.2.1⟩
  have HEND : Hid (∀ w1 K1 L1, DJ w1 base q c r L1 K1 Y P mu x G → Next (G ++ K) (G ++ K1) w w1 → DJ (w1.setCell ⟨Y, 14, none⟩ (.bool true)) base q c r L1 K1 Y P mu ⟨x.n, x.l, true⟩ G ∧ Next (G ++ K) (G ++ K1) w (w1.setCell ⟨Y, 14, none⟩ (.bool true))) := fun w1 K1 L1 h1 h2 => h1.set (x' := ⟨x.n, x.l, true⟩) h2 rfl 14 _ (fun lv kv hd => hd.m.set14 true)
  have HCC : Hid (∀ w1 K1 L1, DJ w1 base q c r L1 K1 Y P mu x G → w1.cell? ⟨Y, 14, none⟩ = some (.bool false) ∧ w1.frozen? ⟨Y, 14, none⟩ = false ∧ Y < w1.heap.size ∧ w1.cell? ⟨Y, 2, none⟩ = some (.int .i64 P.st)) := fun w1 K1 L1 h1 => by
    obtain ⟨lv, kv, hd⟩ := h1.dm
    have h14 := hd.m.cells.2.2.2.2.2.2
    rw [hsn] at h14
    exact ⟨h14, frozen_at hd.m 14, heap_lt hd.m, hd.m.cells.2.2.1⟩
  obtain ⟨R, rfl⟩ := h.ref.ptr
  unfold DDoes
  have hml := hp.len
  have k1 : ¬ (x.n : Int) < 8 := by omega
  have k2 : ((x.n : Int) == 8) = false := by simp; omega
  have k3 : ¬ (x.n : Int) < (P.W.length : Int) + 9 := by omega
  have k4 : IntKind.i64.wrap ((P.W.length : Int) + 9) = (P.W.length : Int) + 9 := by rw [IntKind.wrap_i64]; omega
  have k5 : IntKind.i64.wrap (P.st - 1) = P.st - 1 := by have := HBG.out; rw [IntKind.wrap_i64]; omega
  have k6 : wrap64 (P.st - 1) = P.st - 1 := by have := HBG.out; unfold wrap64; omega
  generalize (⟨x.n, x.l, true⟩ : Dc) = x' at *
  generalize (x.n : Int) = nv at *
  generalize loadL c r L t ⟨2, slotV (P.st - 1) P.s, 0⟩ = L' at *
  generalize wordOf L ⟨2, slotV (P.st - 1) P.s, 0⟩ = v at *
  generalize slotV P.st P.s = sl at *
  generalize slotV (P.st - 1) P.s = sl2 at *
  generalize P.W.length = m at *
  clear h hp hg hbd hrs hwl hlen hlo hn hsn hv hov hml hbd2
  go_enter Try.func16, Try.ntmps16
  go_wp2_with fail
  refine (HOV.out _ (Below.refl _ _)).mono ?_
  rintro e z1 ⟨rfl, hb1⟩
  have HB1 : Hid (Below w.heap.size w z1) := hb1
  clear hb1
  go_wp2_with fail
  refine (HLA.out _ HB1.out).mono ?_
  rintro e z2 ⟨rfl, hb2⟩
  have HB2 : Hid (Below w.heap.size w z2) := below_then HB1.out hb2
  clear hb2 HB1 HOV HLA
  obtain ⟨y0, y2⟩ := HYC.out _ HB2.out
  go_wp2_with fail
  go_quiet ((go_at_call 35; refine Calls.quiet_of_same (HSL.out _)))
  obtain ⟨z3, hz3⟩ : ∃ z3, z3 = z2.drewN nq := ⟨_, rfl⟩
  rw [← hz3]
  have HB3 : Hid (Below w.heap.size w z3) := by rw [Hid, hz3]; exact below_drawn HB2.out _
  clear hz3 HB2 y0 y2 HYC
  obtain ⟨la, lcap, hyy⟩ := HNC.out
  obtain ⟨y12, y3⟩ := hyy _ HB3.out
  go_wp2_with fail
  refine (HLO.out _ HB3.out).mono ?_
  rintro e z4 ⟨rfl, hb4⟩
  have HB4 : Hid (Below w.heap.size w (z4.alloc (.cells #[.bool true, .bool false, .bool false, .bool false, .int .i64 0, .int .i64 0, .int .i64 0, .int .i64 0] 98))) := below_alloc (below_then HB3.out hb4) _
  have HS4 : Hid (w.heap.size ≤ z4.heap.size) := Nat.le_trans HB3.out.size hb4.size
  have hpc : (z4.alloc (.cells #[.bool true, .bool false, .bool false, .bool false, .int .i64 0, .int .i64 0, .int .i64 0, .int .i64 0] 98)).heap[z4.heap.size]? = some (.cells #[.bool true, .bool false, .bool false, .bool false, .int .i64 0, .int .i64 0, .int .i64 0, .int .i64 0] 98 (0, 0)) := heap_alloc_new _ _
  have HPC : Hid ((z4.alloc (.cells #[.bool true, .bool false, .bool false, .bool false, .int .i64 0, .int .i64 0, .int .i64 0, .int .i64 0] 98)).heap[z4.heap.size]? = some (.cells #[.bool true, .bool false, .bool false, .bool false, .int .i64 0, .int .i64 0, .int .i64 0, .int .i64 0] 98 (0, 0))) := hpc
  clear hb4 y12 y3 hpc
  go_upto_region 23 with fail
  obtain ⟨z5, hz5⟩ : ∃ z5, z5 = z4.alloc (.cells #[.bool true, .bool false, .bool false, .bool false, .int .i64 0, .int .i64 0, .int .i64 0, .int .i64 0] 98) := ⟨_, rfl⟩
  rw [← hz5] at HB4 HPC ⊢
  clear hz5
  obtain ⟨y12, y3⟩ := hyy _ HB4.out
  go_quiet (fail)
  obtain ⟨z6, hz6⟩ : ∃ z6, z6 = z5.drewN nq := ⟨_, rfl⟩
  rw [← hz6]
  have HB6 : Hid (Below w.heap.size w z6) := by rw [Hid, hz6]; exact below_drawn HB4.out _
  have HP6 : Hid (z6.heap[z4.heap.size]? = some (.cells #[.bool true, .bool false, .bool false, .bool false, .int .i64 0, .int .i64 0, .int .i64 0, .int .i64 0] 98 (0, 0))) := by rw [Hid, hz6]; exact HPC.out
  clear hz6 y12 y3 HB4 HPC HB3
  obtain ⟨y12, y3⟩ := hyy _ HB6.out
  clear k1 k2 k4
  obtain ⟨y14, y0, y2⟩ := HSN.out _ HB6.out
  have p1 : z6.cell? ⟨z4.heap.size, 1, none⟩ = some (.bool false) := by rw [cell_at HP6.out]; rfl
  go_wp2_with fail
  go_quiet ((go_at_call 35; refine Calls.quiet_of_same (HSL2.out _)))
  obtain ⟨z8, hz8⟩ : ∃ z8, z8 = z6.drewN nq := ⟨_, rfl⟩
  rw [← hz8]
  have HB8 : Hid (Below w.heap.size w z8) := by rw [Hid, hz8]; exact below_drawn HB6.out _
  clear hz8 y12 y3 y14 y0 y2 p1 HB6 HP6
  go_wp2_with fail
  refine (HLD.out _ HB8.out).mono ?_
  rintro e z9 ⟨rfl, K9, h9, hn9⟩
  have HJ9 : Hid (DJ z9 base (.pointer (some ⟨R, 0, none⟩)) c r L' K9 Y P mu x G) := h9
  have HN9 : Hid (Next (G ++ K) (G ++ K9) w z9) := (Next.of_below HB8.out (G ++ K)).trans (hn9.right (F := G))
  clear h9 hn9
  obtain ⟨y14, yf, hY, y2⟩ := HCC.out _ _ _ HJ9.out
  have HFF : Hid (DJ (z9.setCell ⟨Y, 14, none⟩ (.bool true)) base (.pointer (some ⟨R, 0, none⟩)) c r L' K9 Y P mu x' G ∧ Next (G ++ K) (G ++ K9) w (z9.setCell ⟨Y, 14, none⟩ (.bool true))) := HEND.out _ _ _ HJ9.out HN9.out
  go_wp2_with fail
  refine (HOR.out _).mono ?_
  rintro e z10 ⟨rfl, h10⟩
  obtain rfl : z9 = z10 := h10.symm
  go_wp2
  go_ret
  exact ⟨rfl, K9, G, HFF.out⟩
set_option maxRecDepth 100000 in
set_option maxHeartbeats 6400000 in
theorem dstep_unseen {w : World} {base : Nat} {q : Value} {c r : Nat} {L : List Ac} {K : List Nat} {Y : Nat} {P : Bp} {mu : Bool} {x : Dc} {G : List Nat} {kk : Bool} (h : DJ w base q c r L K Y P mu x G) (hp : BpOk P) (hb : base ≤ w.heap.size) (hL : L.length < 3298534883328) (hg : goD c r P x = true) (hrs : r = P.s) (hwl : ∀ v ∈ x.l, W64 v) (hlen : x.l.length ≤ 9 * P.s) (hlo : lkD P mu x.l = loT kk) (hkk : kk = false) (hn : x.n = P.W.length + 9) (hsn : x.sn = false) (hv : W64 (wordOf L ⟨2, slotV (P.st - 1) P.s, 0⟩)) (hov : overV (wordOf L ⟨2, slotV (P.st - 1) P.s, 0⟩) (P.st - 1) = false) (t : Int) : DDoes w base q c r K Y P mu G t 1 (loadL c r L t ⟨2, slotV (P.st - 1) P.s, 0⟩) ⟨x.n, x.l, false⟩ := by
  have HOV : Hid (∀ w', Below w.heap.size w w' → Calls Try.prog 33 #[.pointer (some ⟨Y, 0, none⟩)] w' fun e w'' => e = .returned (.bool false) ∧ Below w'.heap.size w' w'') := fun w' hb => by
    obtain ⟨lv, kv, hd⟩ := (h.below hb).dm
    have := dover_any hd hp.len
    rw [decide_eq_false (goD_iff.mp hg).1] at this
    exact this
  have HLA : Hid (∀ w', Below w.heap.size w w' → Calls Try.prog 34 #[.pointer (some ⟨Y, 0, none⟩), q] w' fun e w'' => e = .returned (.bool false) ∧ Below w'.heap.size w' w'') := fun w' hb => by
    obtain ⟨lv, kv, hd⟩ := (h.below hb).dm
    have := dlacks_any hd (h.below hb).ref hp.len
    rw [(goD_iff.mp hg).2, Bool.not_true] at this
    exact this
  have HSL : Hid (∀ w, Calls Try.prog 35 #[.int .i64 P.st, .int .i64 (P.s : Int)] w fun e w' => e = .returned (.int .i64 (slotV P.st P.s)) ∧ w' = w) := fun w => rslot_any P.st P.s w
  have HJW : Hid (∀ w', Below w.heap.size w w' → DJ w' base q c r L K Y P mu x G) := fun w' hb => h.below hb
  have hbd := slotB_bd hp P.st
  have HBG : Hid (1 ≤ P.st ∧ P.st ≤ 1099511627776 ∧ 1 ≤ P.s ∧ P.s ≤ 16 ∧ P.W.length ≤ 24) := ⟨hp.st1, hp.st2, hp.s1, hp.s16, hp.len⟩
  have HLO : Hid (∀ w', Below w.heap.size w w' → Calls Try.prog 36 #[.pointer (some ⟨Y, 0, none⟩)] w' fun e w'' => e = .returned (.agg #[.bool true, .bool kk, .bool false, .bool false, .int .i64 0, .int .i64 0, .int .i64 0, .int .i64 0]) ∧ Below w'.heap.size w' w'') := fun w' hbw => by
    obtain ⟨lv, kv, hd⟩ := (h.below hbw).dm
    have := looks_any hd hp hwl hlen
    rw [hlo] at this
    exact this
  have HYC : Hid (∀ w', Below w.heap.size w w' → w'.cell? ⟨Y, 0, none⟩ = some (.int .i64 (P.s : Int)) ∧ w'.cell? ⟨Y, 2, none⟩ = some (.int .i64 P.st)) := dj_yc h
  have HRF : Hid (∀ (w1 w2 : World) (K1 : List Nat) (B : Nat) (o : Obj), w.heap.size ≤ B → w2.heap[B]? = some o → Next K K1 w2 w1 → w1.heap[B]? = some o) := fun w1 w2 K1 B o h1 h2 h3 => lo_row h.ref h1 h2 h3
  subst hkk
  have HNC : Hid (∃ la lcap, ∀ w', Below w.heap.size w w' → w'.cell? ⟨Y, 12, none⟩ = some (.int .i64 (x.n : Int)) ∧ w'.cell? ⟨Y, 3, none⟩ = some (.slice la P.W.length lcap)) := by
    obtain ⟨lv, kv, hd⟩ := h.dm
    obtain ⟨la, lcap, rfl⟩ := own_slice hd.ownW
    exact ⟨la, lcap, fun w' hbw => by
      have hm := hd.m.below hbw (heap_lt hd.m)
      exact ⟨hm.cells.2.2.2.2.1, hm.cells.2.2.2.1⟩⟩
  have hbd2 := slotB_bd hp (P.st - 1)
  have HLD : Hid (∀ w', Below w.heap.size w w' → Calls Try.prog 37 #[q, .int .i64 t, .agg #[.int .i64 2, .int .i64 (slotV (P.st - 1) P.s), .int .i64 0]] w' fun e w'' => e = .returned (.tuple #[.int .i64 (wordOf L ⟨2, slotV (P.st - 1) P.s, 0⟩), .int .i64 0]) ∧ ∃ K', DJ w'' base q c r (loadL c r L t ⟨2, slotV (P.st - 1) P.s, 0⟩) K' Y P mu x G ∧ Next K K' w' w'') := fun w' hbw => dj_load (h.below hbw) (Nat.le_trans hb hbw.size) hL t _ (by subst hrs; simp [isAd, hbd2])
  have HOR : Hid (∀ w, Calls Try.prog 38 #[.int .i64 (wordOf L ⟨2, slotV (P.st - 1) P.s, 0⟩), .int .i64 (P.st - 1)] w fun e w' => e = .returned (.bool false) ∧ w' = w) := fun w => by rw [← hov]; exact rover_any _ _ hv.1 hv.2 w
  have HSL2 : Hid (∀ w, Calls Try.prog 35 #[.int .i64 (P.st - 1), .int .i64 (P.s : Int)] w fun e w' => e = .returned (.int .i64 (slotV (P.st - 1) P.s)) ∧ w' = w) := fun w => rslot_any (P.st - 1) P.s w
  have HSN : Hid (∀ w', Below w.heap.size w w' → w'.cell? ⟨Y, 14, none⟩ = some (.bool false) ∧ w'.cell? ⟨Y, 0, none⟩ = some (.int .i64 (P.s : Int)) ∧ w'.cell? ⟨Y, 2, none⟩ = some (.int .i64 P.st)) := fun w' hbw => by
    obtain ⟨lv, kv, hd⟩ := (h.below hbw).dm
    have h14 := hd.m.cells.2.2.2.2.2.2
    rw [hsn] at h14
    exact ⟨h14, hd.m.cells.1, hd.m.cells.2.2.1⟩
  have HEND : Hid (∀ w1 K1 L1, DJ w1 base q c r L1 K1 Y P mu x G → Next (G ++ K) (G ++ K1) w w1 → DJ (w1.setCell ⟨Y, 14, none⟩ (.bool false)) base q c r L1 K1 Y P mu ⟨x.n, x.l, false⟩ G ∧ Next (G ++ K) (G ++ K1) w (w1.setCell ⟨Y, 14, none⟩ (.bool false))) := fun w1 K1 L1 h1 h2 => h1.set (x' := ⟨x.n, x.l, false⟩) h2 rfl 14 _ (fun lv kv hd => hd.m.set14 false)
  have HCC : Hid (∀ w1 K1 L1, DJ w1 base q c r L1 K1 Y P mu x G → w1.cell? ⟨Y, 14, none⟩ = some (.bool false) ∧ w1.frozen? ⟨Y, 14, none⟩ = false ∧ Y < w1.heap.size ∧ w1.cell? ⟨Y, 2, none⟩ = some (.int .i64 P.st)) := fun w1 K1 L1 h1 => by
    obtain ⟨lv, kv, hd⟩ := h1.dm
    have h14 := hd.m.cells.2.2.2.2.2.2
    rw [hsn] at h14
    exact ⟨h14, frozen_at hd.m 14, heap_lt hd.m, hd.m.cells.2.2.1⟩
  obtain ⟨R, rfl⟩ := h.ref.ptr
  unfold DDoes
  have hml := hp.len
  have k1 : ¬ (x.n : Int) < 8 := by omega
  have k2 : ((x.n : Int) == 8) = false := by simp; omega
  have k3 : ¬ (x.n : Int) < (P.W.length : Int) + 9 := by omega
  have k4 : IntKind.i64.wrap ((P.W.length : Int) + 9) = (P.W.length : Int) + 9 := by rw [IntKind.wrap_i64]; omega
  have k5 : IntKind.i64.wrap (P.st - 1) = P.st - 1 := by have := HBG.out; rw [IntKind.wrap_i64]; omega
  have k6 : wrap64 (P.st - 1) = P.st - 1 := by have := HBG.out; unfold wrap64; omega
  generalize (⟨x.n, x.l, false⟩ : Dc) = x' at *
  generalize (x.n : Int) = nv at *
  generalize loadL c r L t ⟨2, slotV (P.st - 1) P.s, 0⟩ = L' at *
  generalize wordOf L ⟨2, slotV (P.st - 1) P.s, 0⟩ = v at *
  generalize slotV P.st P.s = sl at *
  generalize slotV (P.st - 1) P.s = sl2 at *
  generalize P.W.length = m at *
  clear h hp hg hbd hrs hwl hlen hlo hn hsn hv hov hml hbd2
  go_enter Try.func16, Try.ntmps16
  go_wp2_with fail
  refine (HOV.out _ (Below.refl _ _)).mono ?_
  rintro e z1 ⟨rfl, hb1⟩
  have HB1 : Hid (Below w.heap.size w z1) := hb1
  clear hb1
  go_wp2_with fail
  refine (HLA.out _ HB1.out).mono ?_
  rintro e z2 ⟨rfl, hb2⟩
  have HB2 : Hid (Below w.heap.size w z2) := below_then HB1.out hb2
  clear hb2 HB1 HOV HLA
  obtain ⟨y0, y2⟩ := HYC.out _ HB2.out
  go_wp2_with fail
  go_quiet ((go_at_call 35; refine Calls.quiet_of_same (HSL.out _)))
  obtain ⟨z3, hz3⟩ : ∃ z3, z3 = z2.drewN nq := ⟨_, rfl⟩
  rw [← hz3]
  have HB3 : Hid (Below w.heap.size w z3) := by rw [Hid, hz3]; exact below_drawn HB2.out _
  clear hz3 HB2 y0 y2 HYC
  obtain ⟨la, lcap, hyy⟩ := HNC.out
  obtain ⟨y12, y3⟩ := hyy _ HB3.out
  go_wp2_with fail
  refine (HLO.out _ HB3.out).mono ?_
  rintro e z4 ⟨rfl, hb4⟩
  have HB4 : Hid (Below w.heap.size w (z4.alloc (.cells #[.bool true, .bool false, .bool false, .bool false, .int .i64 0, .int .i64 0, .int .i64 0, .int .i64 0] 98))) := below_alloc (below_then HB3.out hb4) _
  have HS4 : Hid (w.heap.size ≤ z4.heap.size) := Nat.le_trans HB3.out.size hb4.size
  have hpc : (z4.alloc (.cells #[.bool true, .bool false, .bool false, .bool false, .int .i64 0, .int .i64 0, .int .i64 0, .int .i64 0] 98)).heap[z4.heap.size]? = some (.cells #[.bool true, .bool false, .bool false, .bool false, .int .i64 0, .int .i64 0, .int .i64 0, .int .i64 0] 98 (0, 0)) := heap_alloc_new _ _
  have HPC : Hid ((z4.alloc (.cells #[.bool true, .bool false, .bool false, .bool false, .int .i64 0, .int .i64 0, .int .i64 0, .int .i64 0] 98)).heap[z4.heap.size]? = some (.cells #[.bool true, .bool false, .bool false, .bool false, .int .i64 0, .int .i64 0, .int .i64 0, .int .i64 0] 98 (0, 0))) := hpc
  clear hb4 y12 y3 hpc
  go_upto_region 23 with fail
  obtain ⟨z5, hz5⟩ : ∃ z5, z5 = z4.alloc (.cells #[.bool true, .bool false, .bool false, .bool false, .int .i64 0, .int .i64 0, .int .i64 0, .int .i64 0] 98) := ⟨_, rfl⟩
  rw [← hz5] at HB4 HPC ⊢
  clear hz5
  obtain ⟨y12, y3⟩ := hyy _ HB4.out
  go_quiet (fail)
  obtain ⟨z6, hz6⟩ : ∃ z6, z6 = z5.drewN nq := ⟨_, rfl⟩
  rw [← hz6]
  have HB6 : Hid (Below w.heap.size w z6) := by rw [Hid, hz6]; exact below_drawn HB4.out _
  have HP6 : Hid (z6.heap[z4.heap.size]? = some (.cells #[.bool true, .bool false, .bool false, .bool false, .int .i64 0, .int .i64 0, .int .i64 0, .int .i64 0] 98 (0, 0))) := by rw [Hid, hz6]; exact HPC.out
  clear hz6 y12 y3 HB4 HPC HB3
  obtain ⟨y12, y3⟩ := hyy _ HB6.out
  clear k1 k2 k4
  obtain ⟨y14, y0, y2⟩ := HSN.out _ HB6.out
  have p1 : z6.cell? ⟨z4.heap.size, 1, none⟩ = some (.bool false) := by rw [cell_at HP6.out]; rfl
  go_wp2_with fail
  go_quiet ((go_at_call 35; refine Calls.quiet_of_same (HSL2.out _)))
  obtain ⟨z8, hz8⟩ : ∃ z8, z8 = z6.drewN nq := ⟨_, rfl⟩
  rw [← hz8]
  have HB8 : Hid (Below w.heap.size w z8) := by rw [Hid, hz8]; exact below_drawn HB6.out _
  clear hz8 y12 y3 y14 y0 y2 p1 HB6 HP6
  go_wp2_with fail
  refine (HLD.out _ HB8.out).mono ?_
  rintro e z9 ⟨rfl, K9, h9, hn9⟩
  have HJ9 : Hid (DJ z9 base (.pointer (some ⟨R, 0, none⟩)) c r L' K9 Y P mu x G) := h9
  have HN9 : Hid (Next (G ++ K) (G ++ K9) w z9) := (Next.of_below HB8.out (G ++ K)).trans (hn9.right (F := G))
  clear h9 hn9
  obtain ⟨y14, yf, hY, y2⟩ := HCC.out _ _ _ HJ9.out
  have HFF : Hid (DJ (z9.setCell ⟨Y, 14, none⟩ (.bool false)) base (.pointer (some ⟨R, 0, none⟩)) c r L' K9 Y P mu x' G ∧ Next (G ++ K) (G ++ K9) w (z9.setCell ⟨Y, 14, none⟩ (.bool false))) := HEND.out _ _ _ HJ9.out HN9.out
  go_wp2_with fail
  refine (HOR.out _).mono ?_
  rintro e z10 ⟨rfl, h10⟩
  obtain rfl : z9 = z10 := h10.symm
  go_wp2
  go_ret
  exact ⟨rfl, K9, G, HFF.out⟩
set_option maxRecDepth 100000 in
set_option maxHeartbeats 6400000 in
theorem dstep_done {w : World} {base : Nat} {q : Value} {c r : Nat} {L : List Ac} {K : List Nat} {Y : Nat} {P : Bp} {mu : Bool} {x : Dc} {G : List Nat} {kk : Bool} (h : DJ w base q c r L K Y P mu x G) (hp : BpOk P) (hb : base ≤ w.heap.size) (hL : L.length < 3298534883328) (hg : goD c r P x = true) (hrs : r = P.s) (hwl : ∀ v ∈ x.l, W64 v) (hlen : x.l.length ≤ 9 * P.s) (hlo : lkD P mu x.l = loT kk) (hn : x.n = P.W.length + 9) (hks : (kk || x.sn) = true) (t : Int) : DDoes w base q c r K Y P mu G t 3 (storeL c r L t ⟨2, slotV P.st P.s, 0⟩ (2 * P.st + 1)) ⟨x.n + 1, x.l, x.sn⟩ := by
  have HOV : Hid (∀ w', Below w.heap.size w w' → Calls Try.prog 33 #[.pointer (some ⟨Y, 0, none⟩)] w' fun e w'' => e = .returned (.bool false) ∧ Below w'.heap.size w' w'') := fun w' hb => by
    obtain ⟨lv, kv, hd⟩ := (h.below hb).dm
    have := dover_any hd hp.len
    rw [decide_eq_false (goD_iff.mp hg).1] at this
    exact this
  have HLA : Hid (∀ w', Below w.heap.size w w' → Calls Try.prog 34 #[.pointer (some ⟨Y, 0, none⟩), q] w' fun e w'' => e = .returned (.bool false) ∧ Below w'.heap.size w' w'') := fun w' hb => by
    obtain ⟨lv, kv, hd⟩ := (h.below hb).dm
    have := dlacks_any hd (h.below hb).ref hp.len
    rw [(goD_iff.mp hg).2, Bool.not_true] at this
    exact this
  have HSL : Hid (∀ w, Calls Try.prog 35 #[.int .i64 P.st, .int .i64 (P.s : Int)] w fun e w' => e = .returned (.int .i64 (slotV P.st P.s)) ∧ w' = w) := fun w => rslot_any P.st P.s w
  have HJW : Hid (∀ w', Below w.heap.size w w' → DJ w' base q c r L K Y P mu x G) := fun w' hb => h.below hb
  have hbd := slotB_bd hp P.st
  have HBG : Hid (1 ≤ P.st ∧ P.st ≤ 1099511627776 ∧ 1 ≤ P.s ∧ P.s ≤ 16 ∧ P.W.length ≤ 24) := ⟨hp.st1, hp.st2, hp.s1, hp.s16, hp.len⟩
  have HLO : Hid (∀ w', Below w.heap.size w w' → Calls Try.prog 36 #[.pointer (some ⟨Y, 0, none⟩)] w' fun e w'' => e = .returned (.agg #[.bool true, .bool kk, .bool false, .bool false, .int .i64 0, .int .i64 0, .int .i64 0, .int .i64 0]) ∧ Below w'.heap.size w' w'') := fun w' hbw => by
    obtain ⟨lv, kv, hd⟩ := (h.below hbw).dm
    have := looks_any hd hp hwl hlen
    rw [hlo] at this
    exact this
  have HYC : Hid (∀ w', Below w.heap.size w w' → w'.cell? ⟨Y, 0, none⟩ = some (.int .i64 (P.s : Int)) ∧ w'.cell? ⟨Y, 2, none⟩ = some (.int .i64 P.st)) := dj_yc h
  have HRF : Hid (∀ (w1 w2 : World) (K1 : List Nat) (B : Nat) (o : Obj), w.heap.size ≤ B → w2.heap[B]? = some o → Next K K1 w2 w1 → w1.heap[B]? = some o) := fun w1 w2 K1 B o h1 h2 h3 => lo_row h.ref h1 h2 h3
  have HNC : Hid (∃ la lcap, ∀ w', Below w.heap.size w w' → w'.cell? ⟨Y, 12, none⟩ = some (.int .i64 (x.n : Int)) ∧ w'.cell? ⟨Y, 3, none⟩ = some (.slice la P.W.length lcap)) := by
    obtain ⟨lv, kv, hd⟩ := h.dm
    obtain ⟨la, lcap, rfl⟩ := own_slice hd.ownW
    exact ⟨la, lcap, fun w' hbw => by
      have hm := hd.m.below hbw (heap_lt hd.m)
      exact ⟨hm.cells.2.2.2.2.1, hm.cells.2.2.2.1⟩⟩
  have HST : Hid (∀ w', Below w.heap.size w w' → Calls Try.prog 14 #[q, .int .i64 t, .agg #[.int .i64 2, .int .i64 (slotV P.st P.s), .int .i64 0], .int .i64 (2 * P.st + 1)] w' fun e w'' => e = .returned (.int .i64 0) ∧ ∃ K', DJ w'' base q c r (storeL c r L t ⟨2, slotV P.st P.s, 0⟩ (2 * P.st + 1)) K' Y P mu x G ∧ Next K K' w' w'') := fun w' hbw => dj_store (h.below hbw) (Nat.le_trans hb hbw.size) hL t ⟨2, slotV P.st P.s, 0⟩ _ (by subst hrs; simp [isAd, hbd])
  have HHD : Hid (∀ w, Calls Try.prog 40 #[.int .i64 P.st, .bool true] w fun e w' => e = .returned (.int .i64 (2 * P.st + 1)) ∧ w' = w) := fun w => by
    have := rhead_any P.st true w
    rw [headV_is hp true] at this
    exact this
  have HSN : Hid (∀ w', Below w.heap.size w w' → w'.cell? ⟨Y, 14, none⟩ = some (.bool x.sn) ∧ w'.cell? ⟨Y, 2, none⟩ = some (.int .i64 P.st)) := fun w' hbw => by
    obtain ⟨lv, kv, hd⟩ := (h.below hbw).dm
    exact ⟨hd.m.cells.2.2.2.2.2.2, hd.m.cells.2.2.1⟩
  have HEND : Hid (∀ w1 K1 L1, DJ w1 base q c r L1 K1 Y P mu x G → Next (G ++ K) (G ++ K1) w w1 → DJ (w1.setCell ⟨Y, 12, none⟩ (.int .i64 ((x.n : Int) + 1))) base q c r L1 K1 Y P mu ⟨x.n + 1, x.l, x.sn⟩ G ∧ Next (G ++ K) (G ++ K1) w (w1.setCell ⟨Y, 12, none⟩ (.int .i64 ((x.n : Int) + 1)))) := fun w1 K1 L1 h1 h2 => h1.set (x' := ⟨x.n + 1, x.l, x.sn⟩) h2 rfl 12 _ (fun lv kv hd => by have := hd.m.set12 ((x.n : Int) + 1); simpa using this)
  have HCC : Hid (∀ w1 K1 L1, DJ w1 base q c r L1 K1 Y P mu x G → w1.cell? ⟨Y, 12, none⟩ = some (.int .i64 (x.n : Int)) ∧ w1.frozen? ⟨Y, 12, none⟩ = false ∧ Y < w1.heap.size) := fun w1 K1 L1 h1 => by
    obtain ⟨lv, kv, hd⟩ := h1.dm
    exact ⟨hd.m.cells.2.2.2.2.1, frozen_at hd.m 12, heap_lt hd.m⟩
  obtain ⟨R, rfl⟩ := h.ref.ptr
  unfold DDoes
  have hml := hp.len
  have k1 : ¬ (x.n : Int) < 8 := by omega
  have k2 : ((x.n : Int) == 8) = false := by simp; omega
  have k3 : ¬ (x.n : Int) < (P.W.length : Int) + 9 := by omega
  have k4 : IntKind.i64.wrap ((P.W.length : Int) + 9) = (P.W.length : Int) + 9 := by rw [IntKind.wrap_i64]; omega
  have k6 : wrap64 ((x.n : Int) + 1) = (x.n : Int) + 1 := by unfold wrap64; omega
  have hcs : kk = true ∨ (kk = false ∧ x.sn = true) := by
    revert hks
    cases kk <;> cases x.sn <;> simp
  generalize (⟨x.n + 1, x.l, x.sn⟩ : Dc) = x' at *
  generalize (x.n : Int) = nv at *
  generalize storeL c r L t ⟨2, slotV P.st P.s, 0⟩ (2 * P.st + 1) = L' at *
  generalize slotV P.st P.s = sl at *
  generalize P.W.length = m at *
  generalize x.sn = sn at *
  clear h hp hg hbd hrs hwl hlen hlo hn hml hks
  rcases hcs with rfl | ⟨rfl, rfl⟩
  · go_enter Try.func16, Try.ntmps16
    go_wp2_with fail
    refine (HOV.out _ (Below.refl _ _)).mono ?_
    rintro e z1 ⟨rfl, hb1⟩
    have HB1 : Hid (Below w.heap.size w z1) := hb1
    clear hb1
    go_wp2_with fail
    refine (HLA.out _ HB1.out).mono ?_
    rintro e z2 ⟨rfl, hb2⟩
    have HB2 : Hid (Below w.heap.size w z2) := below_then HB1.out hb2
    clear hb2 HB1 HOV HLA
    obtain ⟨y0, y2⟩ := HYC.out _ HB2.out
    go_wp2_with fail
    go_quiet ((go_at_call 35; refine Calls.quiet_of_same (HSL.out _)))
    obtain ⟨z3, hz3⟩ : ∃ z3, z3 = z2.drewN nq := ⟨_, rfl⟩
    rw [← hz3]
    have HB3 : Hid (Below w.heap.size w z3) := by rw [Hid, hz3]; exact below_drawn HB2.out _
    clear hz3 HB2 y0 y2 HYC
    obtain ⟨la, lcap, hyy⟩ := HNC.out
    obtain ⟨y12, y3⟩ := hyy _ HB3.out
    go_wp2_with fail
    refine (HLO.out _ HB3.out).mono ?_
    rintro e z4 ⟨rfl, hb4⟩
    have HB4 : Hid (Below w.heap.size w (z4.alloc (.cells #[.bool true, .bool true, .bool false, .bool false, .int .i64 0, .int .i64 0, .int .i64 0, .int .i64 0] 98))) := below_alloc (below_then HB3.out hb4) _
    have HS4 : Hid (w.heap.size ≤ z4.heap.size) := Nat.le_trans HB3.out.size hb4.size
    have hpc : (z4.alloc (.cells #[.bool true, .bool true, .bool false, .bool false, .int .i64 0, .int .i64 0, .int .i64 0, .int .i64 0] 98)).heap[z4.heap.size]? = some (.cells #[.bool true, .bool true, .bool false, .bool false, .int .i64 0, .int .i64 0, .int .i64 0, .int .i64 0] 98 (0, 0)) := heap_alloc_new _ _
    have HPC : Hid ((z4.alloc (.cells #[.bool true, .bool true, .bool false, .bool false, .int .i64 0, .int .i64 0, .int .i64 0, .int .i64 0] 98)).heap[z4.heap.size]? = some (.cells #[.bool true, .bool true, .bool false, .bool false, .int .i64 0, .int .i64 0, .int .i64 0, .int .i64 0] 98 (0, 0))) := hpc
    clear hb4 y12 y3 hpc
    go_upto_region 23 with fail
    obtain ⟨z5, hz5⟩ : ∃ z5, z5 = z4.alloc (.cells #[.bool true, .bool true, .bool false, .bool false, .int .i64 0, .int .i64 0, .int .i64 0, .int .i64 0] 98) := ⟨_, rfl⟩
    rw [← hz5] at HB4 HPC ⊢
    clear hz5
    obtain ⟨y12, y3⟩ := hyy _ HB4.out
    go_quiet (fail)
    obtain ⟨z6, hz6⟩ : ∃ z6, z6 = z5.drewN nq := ⟨_, rfl⟩
    rw [← hz6]
    have HB6 : Hid (Below w.heap.size w z6) := by rw [Hid, hz6]; exact below_drawn HB4.out _
    have HP6 : Hid (z6.heap[z4.heap.size]? = some (.cells #[.bool true, .bool true, .bool false, .bool false, .int .i64 0, .int .i64 0, .int .i64 0, .int .i64 0] 98 (0, 0))) := by rw [Hid, hz6]; exact HPC.out
    clear hz6 y12 y3 HB4 HPC HB3
    obtain ⟨y12, y3⟩ := hyy _ HB6.out
    clear k1 k2 k4
    obtain ⟨y14, y2⟩ := HSN.out _ HB6.out
    have p1 : z6.cell? ⟨z4.heap.size, 1, none⟩ = some (.bool true) := by rw [cell_at HP6.out]; rfl
    go_wp2_with fail
    refine (HHD.out _).mono ?_
    rintro e z8 ⟨rfl, h8⟩
    obtain rfl : z6 = z8 := h8.symm
    clear p1 y14 y2 y12 y3 HP6
    go_wp2_with fail
    refine (HST.out _ HB6.out).mono ?_
    rintro e z7 ⟨rfl, K7, h7, hn7⟩
    have HJ7 : Hid (DJ z7 base (.pointer (some ⟨R, 0, none⟩)) c r L' K7 Y P mu x G) := h7
    have HN7 : Hid (Next (G ++ K) (G ++ K7) w z7) := (Next.of_below HB6.out (G ++ K)).trans (hn7.right (F := G))
    clear h7 hn7
    obtain ⟨y12, yf, hY⟩ := HCC.out _ _ _ HJ7.out
    have HFF : Hid (DJ (z7.setCell ⟨Y, 12, none⟩ (.int .i64 (nv + 1))) base (.pointer (some ⟨R, 0, none⟩)) c r L' K7 Y P mu x' G ∧ Next (G ++ K) (G ++ K7) w (z7.setCell ⟨Y, 12, none⟩ (.int .i64 (nv + 1)))) := HEND.out _ _ _ HJ7.out HN7.out
    go_wp2
    go_ret
    exact ⟨rfl, K7, G, HFF.out⟩
  · go_enter Try.func16, Try.ntmps16
    go_wp2_with fail
    refine (HOV.out _ (Below.refl _ _)).mono ?_
    rintro e z1 ⟨rfl, hb1⟩
    have HB1 : Hid (Below w.heap.size w z1) := hb1
    clear hb1
    go_wp2_with fail
    refine (HLA.out _ HB1.out).mono ?_
    rintro e z2 ⟨rfl, hb2⟩
    have HB2 : Hid (Below w.heap.size w z2) := below_then HB1.out hb2
    clear hb2 HB1 HOV HLA
    obtain ⟨y0, y2⟩ := HYC.out _ HB2.out
    go_wp2_with fail
    go_quiet ((go_at_call 35; refine Calls.quiet_of_same (HSL.out _)))
    obtain ⟨z3, hz3⟩ : ∃ z3, z3 = z2.drewN nq := ⟨_, rfl⟩
    rw [← hz3]
    have HB3 : Hid (Below w.heap.size w z3) := by rw [Hid, hz3]; exact below_drawn HB2.out _
    clear hz3 HB2 y0 y2 HYC
    obtain ⟨la, lcap, hyy⟩ := HNC.out
    obtain ⟨y12, y3⟩ := hyy _ HB3.out
    go_wp2_with fail
    refine (HLO.out _ HB3.out).mono ?_
    rintro e z4 ⟨rfl, hb4⟩
    have HB4 : Hid (Below w.heap.size w (z4.alloc (.cells #[.bool true, .bool false, .bool false, .bool false, .int .i64 0, .int .i64 0, .int .i64 0, .int .i64 0] 98))) := below_alloc (below_then HB3.out hb4) _
    have HS4 : Hid (w.heap.size ≤ z4.heap.size) := Nat.le_trans HB3.out.size hb4.size
    have hpc : (z4.alloc (.cells #[.bool true, .bool false, .bool false, .bool false, .int .i64 0, .int .i64 0, .int .i64 0, .int .i64 0] 98)).heap[z4.heap.size]? = some (.cells #[.bool true, .bool false, .bool false, .bool false, .int .i64 0, .int .i64 0, .int .i64 0, .int .i64 0] 98 (0, 0)) := heap_alloc_new _ _
    have HPC : Hid ((z4.alloc (.cells #[.bool true, .bool false, .bool false, .bool false, .int .i64 0, .int .i64 0, .int .i64 0, .int .i64 0] 98)).heap[z4.heap.size]? = some (.cells #[.bool true, .bool false, .bool false, .bool false, .int .i64 0, .int .i64 0, .int .i64 0, .int .i64 0] 98 (0, 0))) := hpc
    clear hb4 y12 y3 hpc
    go_upto_region 23 with fail
    obtain ⟨z5, hz5⟩ : ∃ z5, z5 = z4.alloc (.cells #[.bool true, .bool false, .bool false, .bool false, .int .i64 0, .int .i64 0, .int .i64 0, .int .i64 0] 98) := ⟨_, rfl⟩
    rw [← hz5] at HB4 HPC ⊢
    clear hz5
    obtain ⟨y12, y3⟩ := hyy _ HB4.out
    go_quiet (fail)
    obtain ⟨z6, hz6⟩ : ∃ z6, z6 = z5.drewN nq := ⟨_, rfl⟩
    rw [← hz6]
    have HB6 : Hid (Below w.heap.size w z6) := by rw [Hid, hz6]; exact below_drawn HB4.out _
    have HP6 : Hid (z6.heap[z4.heap.size]? = some (.cells #[.bool true, .bool false, .bool false, .bool false, .int .i64 0, .int .i64 0, .int .i64 0, .int .i64 0] 98 (0, 0))) := by rw [Hid, hz6]; exact HPC.out
    clear hz6 y12 y3 HB4 HPC HB3
    obtain ⟨y12, y3⟩ := hyy _ HB6.out
    clear k1 k2 k4
    obtain ⟨y14, y2⟩ := HSN.out _ HB6.out
    have p1 : z6.cell? ⟨z4.heap.size, 1, none⟩ = some (.bool false) := by rw [cell_at HP6.out]; rfl
    go_wp2_with fail
    refine (HHD.out _).mono ?_
    rintro e z8 ⟨rfl, h8⟩
    obtain rfl : z6 = z8 := h8.symm
    clear p1 y14 y2 y12 y3 HP6
    go_wp2_with fail
    refine (HST.out _ HB6.out).mono ?_
    rintro e z7 ⟨rfl, K7, h7, hn7⟩
    have HJ7 : Hid (DJ z7 base (.pointer (some ⟨R, 0, none⟩)) c r L' K7 Y P mu x G) := h7
    have HN7 : Hid (Next (G ++ K) (G ++ K7) w z7) := (Next.of_below HB6.out (G ++ K)).trans (hn7.right (F := G))
    clear h7 hn7
    obtain ⟨y12, yf, hY⟩ := HCC.out _ _ _ HJ7.out
    have HFF : Hid (DJ (z7.setCell ⟨Y, 12, none⟩ (.int .i64 (nv + 1))) base (.pointer (some ⟨R, 0, none⟩)) c r L' K7 Y P mu x' G ∧ Next (G ++ K) (G ++ K7) w (z7.setCell ⟨Y, 12, none⟩ (.int .i64 (nv + 1)))) := HEND.out _ _ _ HJ7.out HN7.out
    go_wp2
    go_ret
    exact ⟨rfl, K7, G, HFF.out⟩
end Go.Proofs.Ytbmmicfdnfpcaaa
