/- The document's machine of layer 11: Step, where it does nothing, and where it lays its signature and its head. -/
import Derived.Test.YtbmmicfdnfpcaaaBpC
import Derived.Deep.QuietTactic
import Derived.BigQuiet
namespace Go.Proofs.Ytbmmicfdnfpcaaa
open Go.ChangeShapes Go.WideShapes Go.ChangeAt Go.RowKit
attribute [local go_sem ↓] Go.wp_at_zero Go.wp_at_succ

theorem DJ.set {w0 w : World} {base : Nat} {q : Value} {c r : Nat} {L : List Ac} {K : List Nat} {Y : Nat} {P : Bp} {mu : Bool} {x : Dc} {G : List Nat} {K0 : List Nat} {x' : Dc} (h : DJ w base q c r L K Y P mu x G) (hn : Next (G ++ K0) (G ++ K) w0 w) (hl : x'.l = x.l) (i : Nat) (v : Value) (hr : ∀ lv kv, DM' w base Y P mu x G lv kv → DRaw (w.setCell ⟨Y, i, none⟩ v) Y (P.s : Int) mu P.st lv P.sg (x'.n : Int) kv x'.sn) : DJ (w.setCell ⟨Y, i, none⟩ v) base q c r L K Y P mu x' G ∧ Next (G ++ K0) (G ++ K) w0 (w.setCell ⟨Y, i, none⟩ v) := by
  obtain ⟨lv, kv, hd⟩ := h.dm
  have kz : Keep [Y] w (w.setCell ⟨Y, i, none⟩ v) := (Keep.refl _ _).setCell _ _ (Or.inl (by simp))
  have hY : Y ∈ G := by rw [hd.G]; simp
  have hn1 : Next G G w (w.setCell ⟨Y, i, none⟩ v) := ⟨kz.mono (fun b hb => by simp at hb; subst hb; exact hY), fun b hb => Or.inl hb⟩
  exact ⟨h.onDm ⟨lv, kv, hd.onRow hl (hr lv kv hd) kz⟩ hn1, hn.trans hn1.left⟩
theorem DJ.cells {w : World} {base : Nat} {q : Value} {c r : Nat} {L : List Ac} {K : List Nat} {Y : Nat} {P : Bp} {mu : Bool} {x : Dc} {G : List Nat} (h : DJ w base q c r L K Y P mu x G) : ∃ la lcap ka kcap, DM' w base Y P mu x G (.slice la P.W.length lcap) (.slice ka x.l.length kcap) := by
  obtain ⟨lv, kv, hd⟩ := h.dm
  obtain ⟨la, lcap, rfl⟩ := own_slice hd.ownW
  obtain ⟨ka, kcap, rfl⟩ := own_slice hd.ownL
  exact ⟨la, lcap, ka, kcap, hd⟩
/-- Does the document's machine go over that memory? -/
def goD (c r : Nat) (P : Bp) (x : Dc) : Bool := decide (x.n ≠ P.W.length + 10) && (decide (r = P.s) && P.W.all fun x => decide (x.c < (c : Int)))
set_option maxRecDepth 10000 in
theorem dstep_none {w : World} {base : Nat} {q : Value} {c r : Nat} {L : List Ac} {K : List Nat} {Y : Nat} {P : Bp} {mu : Bool} {x : Dc} {G : List Nat} (h : DJ w base q c r L K Y P mu x G) (hp : BpOk P) (hg : goD c r P x = false) (t : Int) :
    Calls Try.prog 16 #[.pointer (some ⟨Y, 0, none⟩), q, .int .i64 t] w fun e w' => e = .returned (.int .i64 0) ∧ Below w.heap.size w w' := by
  have HOV : Hid (∀ w', Below w.heap.size w w' → Calls Try.prog 33 #[.pointer (some ⟨Y, 0, none⟩)] w' fun e w'' => e = .returned (.bool (decide (x.n = P.W.length + 10))) ∧ Below w'.heap.size w' w'') := fun w' hb => by
    obtain ⟨lv, kv, hd⟩ := (h.below hb).dm
    exact dover_any hd hp.len
  have HLA : Hid (∀ w', Below w.heap.size w w' → Calls Try.prog 34 #[.pointer (some ⟨Y, 0, none⟩), q] w' fun e w'' => e = .returned (.bool (!(decide (r = P.s) && P.W.all fun x => decide (x.c < (c : Int))))) ∧ Below w'.heap.size w' w'') := fun w' hb => by
    obtain ⟨lv, kv, hd⟩ := (h.below hb).dm
    exact dlacks_any hd (h.below hb).ref hp.len
  obtain ⟨R, rfl⟩ := h.ref.ptr
  have hc : decide (x.n = P.W.length + 10) = true ∨ (decide (x.n = P.W.length + 10) = false ∧ (!(decide (r = P.s) && P.W.all fun x => decide (x.c < (c : Int)))) = true) := by
    unfold goD at hg
    by_cases e : x.n = P.W.length + 10
    · exact Or.inl (decide_eq_true e)
    · right
      refine ⟨decide_eq_false e, ?_⟩
      rw [decide_eq_true (show x.n ≠ P.W.length + 10 from e), Bool.true_and] at hg
      rw [hg]
      rfl
  clear h hg
  generalize decide (x.n = P.W.length + 10) = ov at *
  generalize (!(decide (r = P.s) && P.W.all fun x => decide (x.c < (c : Int)))) = lk at *
  rcases hc with rfl | ⟨rfl, rfl⟩
  all_goals
    go_enter Try.func16, Try.ntmps16
    go_wp2_with fail
    refine (HOV.out _ (Below.refl _ _)).mono ?_
    rintro e z1 ⟨rfl, hb1⟩
    have HB1 : Hid (Below w.heap.size w z1) := hb1
    clear hb1
    go_wp2_with fail
    refine (HLA.out _ HB1.out).mono ?_
    rintro e z2 ⟨rfl, hb2⟩
    have HB2 : Hid (Below w.heap.size w z2) := below_then HB1.out hb2
    clear hb2
    go_wp2
    go_ret
    exact ⟨rfl, HB2.out⟩
theorem goD_iff {c r : Nat} {P : Bp} {x : Dc} : goD c r P x = true ↔ x.n ≠ P.W.length + 10 ∧ (decide (r = P.s) && P.W.all fun x => decide (x.c < (c : Int))) = true := by
  unfold goD
  rw [Bool.and_eq_true, decide_eq_true_eq]
/-- What a step makes of all. -/
def DDoes (w : World) (base : Nat) (q : Value) (c r : Nat) (K : List Nat) (Y : Nat) (P : Bp) (mu : Bool) (G : List Nat) (t k : Int) (L' : List Ac) (x' : Dc) : Prop :=
  Calls Try.prog 16 #[.pointer (some ⟨Y, 0, none⟩), q, .int .i64 t] w fun e w' => e = .returned (.int .i64 k) ∧ ∃ K' G', DJ w' base q c r L' K' Y P mu x' G' ∧ Next (G ++ K) (G' ++ K') w w'
theorem dj_store {w : World} {base : Nat} {q : Value} {c r : Nat} {L : List Ac} {K : List Nat} {Y : Nat} {P : Bp} {mu : Bool} {x : Dc} {G : List Nat} (h : DJ w base q c r L K Y P mu x G) (hb : base ≤ w.heap.size) (hL : L.length < 3298534883328) (t : Int) (a : Ad) (z : Int) (ha : isAd c r a = true) :
    Calls Try.prog 14 #[q, .int .i64 t, .agg #[.int .i64 a.k, .int .i64 a.i, .int .i64 a.j], .int .i64 z] w fun e w' => e = .returned (.int .i64 0) ∧ ∃ K', DJ w' base q c r (storeL c r L t a z) K' Y P mu x G ∧ Next K K' w w' := by
  have := rstore_any h.ref hb hL t a z
  rw [if_pos ha] at this
  refine Calls.mono this ?_
  rintro e w' ⟨rfl, K', h1, h2⟩
  exact ⟨rfl, K', h.onRef h1 h2, h2⟩
theorem dj_load {w : World} {base : Nat} {q : Value} {c r : Nat} {L : List Ac} {K : List Nat} {Y : Nat} {P : Bp} {mu : Bool} {x : Dc} {G : List Nat} (h : DJ w base q c r L K Y P mu x G) (hb : base ≤ w.heap.size) (hL : L.length < 3298534883328) (t : Int) (a : Ad) (ha : isAd c r a = true) :
    Calls Try.prog 37 #[q, .int .i64 t, .agg #[.int .i64 a.k, .int .i64 a.i, .int .i64 a.j]] w fun e w' => e = .returned (.tuple #[.int .i64 (wordOf L a), .int .i64 0]) ∧ ∃ K', DJ w' base q c r (loadL c r L t a) K' Y P mu x G ∧ Next K K' w w' := by
  have := rload_any h.ref hb hL t a
  rw [if_pos ha, if_pos ha] at this
  refine Calls.mono this ?_
  rintro e w' ⟨rfl, K', h1, h2⟩
  exact ⟨rfl, K', h.onRef h1 h2, h2⟩
theorem dj_yc {w : World} {base : Nat} {q : Value} {c r : Nat} {L : List Ac} {K : List Nat} {Y : Nat} {P : Bp} {mu : Bool} {x : Dc} {G : List Nat} (h : DJ w base q c r L K Y P mu x G) : ∀ w', Below w.heap.size w w' → w'.cell? ⟨Y, 0, none⟩ = some (.int .i64 (P.s : Int)) ∧ w'.cell? ⟨Y, 2, none⟩ = some (.int .i64 P.st) := fun w' hb => by
  obtain ⟨lv, kv, hd⟩ := (h.below hb).dm
  obtain ⟨y0, y1, y2, y3, y12, y13, y14⟩ := hd.m.cells
  exact ⟨y0, y2⟩
set_option maxRecDepth 100000 in
set_option maxHeartbeats 6400000 in
theorem dstep_word {w : World} {base : Nat} {q : Value} {c r : Nat} {L : List Ac} {K : List Nat} {Y : Nat} {P : Bp} {mu : Bool} {x : Dc} {G : List Nat} (h : DJ w base q c r L K Y P mu x G) (hp : BpOk P) (hb : base ≤ w.heap.size) (hL : L.length < 3298534883328) (hg : goD c r P x = true) (hrs : r = P.s) (hn : x.n < 8) (t : Int) : DDoes w base q c r K Y P mu G t 2 (storeL c r L t ⟨3, slotV P.st P.s, (x.n : Int)⟩ (wrap64 ((P.sg.getD x.n 0 : Nat) : Int))) ⟨x.n + 1, x.l, x.sn⟩ := by
  have HOV : Hid (∀ w', Below w.heap.size w w' → Calls Try.prog 33 #[.pointer (some ⟨Y, 0, none⟩)] w' fun e w'' => e = .returned (.bool false) ∧ Below w'.heap.size w' w'') := fun w' hb => by
    obtain ⟨lv, kv, hd⟩ := (h.below hb).dm
    have := dover_any hd hp.len
    rw [decide_eq_false (goD_iff.mp hg).1] at this
    exact this
  have HLA : Hid (∀ w', Below w.heap.size w w' → Calls Try.prog 34 #[.pointer (some ⟨Y, 0, none⟩), q] w' fun e w'' => e = .returned (.bool false) ∧ Below w'.heap.size w' w'') := fun w' hb => by
    obtain ⟨lv, kv, hd⟩ := (h.below hb).dm
    have := dlacks_any hd (h.below hb).ref hp.len
    rw [(goD_iff.mp hg).2, Bool.not_true] at this
    exact this
  have HSL : Hid (∀ w, Calls Try.prog 35 #[.int .i64 P.st, .int .i64 (P.s : Int)] w fun e w' => e = .returned (.int .i64 (slotV P.st P.s)) ∧ w' = w) := fun w => rslot_any P.st P.s w
  have HJW : Hid (∀ w', Below w.heap.size w w' → DJ w' base q c r L K Y P mu x G) := fun w' hb => h.below hb
  have hbd := slotB_bd hp P.st
  have HBG : Hid (1 ≤ P.st ∧ P.st ≤ 1099511627776 ∧ 1 ≤ P.s ∧ P.s ≤ 16 ∧ P.W.length ≤ 24) := ⟨hp.st1, hp.st2, hp.s1, hp.s16, hp.len⟩
  have HST : Hid (∀ w', Below w.heap.size w w' → Calls Try.prog 14 #[q, .int .i64 t, .agg #[.int .i64 3, .int .i64 (slotV P.st P.s), .int .i64 (x.n : Int)], .int .i64 (wrap64 ((P.sg.getD x.n 0 : Nat) : Int))] w' fun e w'' => e = .returned (.int .i64 0) ∧ ∃ K', DJ w'' base q c r (storeL c r L t ⟨3, slotV P.st P.s, (x.n : Int)⟩ (wrap64 ((P.sg.getD x.n 0 : Nat) : Int))) K' Y P mu x G ∧ Next K K' w' w'') := fun w' hbw => dj_store (h.below hbw) (Nat.le_trans hb hbw.size) hL t ⟨3, slotV P.st P.s, (x.n : Int)⟩ _ (by subst hrs; simp [isAd, hbd]; omega)
  have HYC : Hid (∀ w', Below w.heap.size w w' → w'.cell? ⟨Y, 0, none⟩ = some (.int .i64 (P.s : Int)) ∧ w'.cell? ⟨Y, 2, none⟩ = some (.int .i64 P.st)) := dj_yc h
  have HNC : Hid (∀ w', Below w.heap.size w w' → w'.cell? ⟨Y, 12, none⟩ = some (.int .i64 (x.n : Int)) ∧ w'.cell? ⟨Y, 4 + x.n, none⟩ = some (.int .u64 ((P.sg.getD x.n 0 : Nat) : Int))) := fun w' hbw => by
    obtain ⟨lv, kv, hd⟩ := (h.below hbw).dm
    exact ⟨hd.m.cells.2.2.2.2.1, hd.m.sigAt x.n hn⟩
  have HEND : Hid (∀ w1 K1, DJ w1 base q c r (storeL c r L t ⟨3, slotV P.st P.s, (x.n : Int)⟩ (wrap64 ((P.sg.getD x.n 0 : Nat) : Int))) K1 Y P mu x G → Next (G ++ K) (G ++ K1) w w1 → DJ (w1.setCell ⟨Y, 12, none⟩ (.int .i64 ((x.n : Int) + 1))) base q c r (storeL c r L t ⟨3, slotV P.st P.s, (x.n : Int)⟩ (wrap64 ((P.sg.getD x.n 0 : Nat) : Int))) K1 Y P mu ⟨x.n + 1, x.l, x.sn⟩ G ∧ Next (G ++ K) (G ++ K1) w (w1.setCell ⟨Y, 12, none⟩ (.int .i64 ((x.n : Int) + 1)))) := fun w1 K1 h1 h2 => h1.set (x' := ⟨x.n + 1, x.l, x.sn⟩) h2 rfl 12 _ (fun lv kv hd => by have := hd.m.set12 ((x.n : Int) + 1); simpa using this)
  have HCC : Hid (∀ w1 K1 L1, DJ w1 base q c r L1 K1 Y P mu x G → w1.cell? ⟨Y, 12, none⟩ = some (.int .i64 (x.n : Int)) ∧ w1.frozen? ⟨Y, 12, none⟩ = false ∧ Y < w1.heap.size) := fun w1 K1 L1 h1 => by
    obtain ⟨lv, kv, hd⟩ := h1.dm
    exact ⟨hd.m.cells.2.2.2.2.1, frozen_at hd.m 12, heap_lt hd.m⟩
  obtain ⟨R, rfl⟩ := h.ref.ptr
  unfold DDoes
  have hn' : (x.n : Int) < 8 := by omega
  have hwz : IntKind.i64.wrap ((P.sg.getD x.n 0 : Nat) : Int) = wrap64 ((P.sg.getD x.n 0 : Nat) : Int) := by rw [IntKind.wrap_i64]; unfold wrap64; omega
  have hwn : wrap64 ((x.n : Int) + 1) = (x.n : Int) + 1 := by unfold wrap64; omega
  generalize (⟨x.n + 1, x.l, x.sn⟩ : Dc) = x' at *
  generalize x.n = n at *
  generalize P.sg.getD n 0 = zz at *
  generalize wrap64 (zz : Int) = vz at *
  generalize storeL c r L t ⟨3, slotV P.st P.s, (n : Int)⟩ vz = L' at *
  generalize slotV P.st P.s = sl at *
  clear h hp hg hbd hrs
  go_enter Try.func16, Try.ntmps16
  go_wp2_with fail
  refine (HOV.out _ (Below.refl _ _)).mono ?_
  rintro e z1 ⟨rfl, hb1⟩
  have HB1 : Hid (Below w.heap.size w z1) := hb1
  clear hb1
  go_wp2_with fail
  refine (HLA.out _ HB1.out).mono ?_
  rintro e z2 ⟨rfl, hb2⟩
  have HB2 : Hid (Below w.heap.size w z2) := below_then HB1.out hb2
  clear hb2 HB1 HOV HLA
  obtain ⟨y0, y2⟩ := HYC.out _ HB2.out
  go_wp2_with fail
  go_quiet ((go_at_call 35; refine Calls.quiet_of_same (HSL.out _)))
  obtain ⟨z3, hz3⟩ : ∃ z3, z3 = z2.drewN nq := ⟨_, rfl⟩
  rw [← hz3]
  have HB3 : Hid (Below w.heap.size w z3) := by rw [Hid, hz3]; exact below_drawn HB2.out _
  clear hz3 HB2 y0 y2 HYC
  obtain ⟨y12, ysg⟩ := HNC.out _ HB3.out
  go_wp2_with fail
  go_region_with ((go_at_call 14; refine (HST.out _ (by first | exact below_drawn HB3.out 1 | exact HB3.out)).mono ?_; rintro e z4 ⟨rfl, K4, h4, hn4⟩))
  all_goals
    have HJ4 : Hid (DJ z4 base (.pointer (some ⟨R, 0, none⟩)) c r L' K4 Y P mu x G) := h4
    have HN4 : Hid (Next (G ++ K) (G ++ K4) w z4) := (Next.of_below (below_drawn HB3.out 1) (G ++ K)).trans (hn4.right (F := G))
    clear h4 hn4 y12 ysg
    obtain ⟨y12, yf, hY⟩ := HCC.out _ _ _ HJ4.out
    have HF := HEND.out _ _ HJ4.out HN4.out
    have HFF : Hid (DJ (z4.setCell ⟨Y, 12, none⟩ (.int .i64 ((n : Int) + 1))) base (.pointer (some ⟨R, 0, none⟩)) c r L' K4 Y P mu x' G ∧ Next (G ++ K) (G ++ K4) w (z4.setCell ⟨Y, 12, none⟩ (.int .i64 ((n : Int) + 1)))) := HF
    clear HF
    go_wp2
    go_ret
    exact ⟨rfl, K4, G, HFF.out⟩
set_option maxRecDepth 100000 in
set_option maxHeartbeats 6400000 in
theorem dstep_head {w : World} {base : Nat} {q : Value} {c r : Nat} {L : List Ac} {K : List Nat} {Y : Nat} {P : Bp} {mu : Bool} {x : Dc} {G : List Nat} (h : DJ w base q c r L K Y P mu x G) (hp : BpOk P) (hb : base ≤ w.heap.size) (hL : L.length < 3298534883328) (hg : goD c r P x = true) (hrs : r = P.s) (hn : x.n = 8) (t : Int) : DDoes w base q c r K Y P mu G t 2 (storeL c r L t ⟨2, slotV P.st P.s, 0⟩ (2 * P.st)) ⟨x.n + 1, x.l, x.sn⟩ := by
  have HOV : Hid (∀ w', Below w.heap.size w w' → Calls Try.prog 33 #[.pointer (some ⟨Y, 0, none⟩)] w' fun e w'' => e = .returned (.bool false) ∧ Below w'.heap.size w' w'') := fun w' hb => by
    obtain ⟨lv, kv, hd⟩ := (h.below hb).dm
    have := dover_any hd hp.len
    rw [decide_eq_false (goD_iff.mp hg).1] at this
    exact this
  have HLA : Hid (∀ w', Below w.heap.size w w' → Calls Try.prog 34 #[.pointer (some ⟨Y, 0, none⟩), q] w' fun e w'' => e = .returned (.bool false) ∧ Below w'.heap.size w' w'') := fun w' hb => by
    obtain ⟨lv, kv, hd⟩ := (h.below hb).dm
    have := dlacks_any hd (h.below hb).ref hp.len
    rw [(goD_iff.mp hg).2, Bool.not_true] at this
    exact this
  have HSL : Hid (∀ w, Calls Try.prog 35 #[.int .i64 P.st, .int .i64 (P.s : Int)] w fun e w' => e = .returned (.int .i64 (slotV P.st P.s)) ∧ w' = w) := fun w => rslot_any P.st P.s w
  have HJW : Hid (∀ w', Below w.heap.size w w' → DJ w' base q c r L K Y P mu x G) := fun w' hb => h.below hb
  have hbd := slotB_bd hp P.st
  have HBG : Hid (1 ≤ P.st ∧ P.st ≤ 1099511627776 ∧ 1 ≤ P.s ∧ P.s ≤ 16 ∧ P.W.length ≤ 24) := ⟨hp.st1, hp.st2, hp.s1, hp.s16, hp.len⟩
  have HST : Hid (∀ w', Below w.heap.size w w' → Calls Try.prog 14 #[q, .int .i64 t, .agg #[.int .i64 2, .int .i64 (slotV P.st P.s), .int .i64 0], .int .i64 (2 * P.st)] w' fun e w'' => e = .returned (.int .i64 0) ∧ ∃ K', DJ w'' base q c r (storeL c r L t ⟨2, slotV P.st P.s, 0⟩ (2 * P.st)) K' Y P mu x G ∧ Next K K' w' w'') := fun w' hbw => dj_store (h.below hbw) (Nat.le_trans hb hbw.size) hL t ⟨2, slotV P.st P.s, 0⟩ _ (by subst hrs; simp [isAd, hbd])
  have HYC : Hid (∀ w', Below w.heap.size w w' → w'.cell? ⟨Y, 0, none⟩ = some (.int .i64 (P.s : Int)) ∧ w'.cell? ⟨Y, 2, none⟩ = some (.int .i64 P.st)) := dj_yc h
  have HNC : Hid (∀ w', Below w.heap.size w w' → w'.cell? ⟨Y, 12, none⟩ = some (.int .i64 8) ∧ w'.cell? ⟨Y, 2, none⟩ = some (.int .i64 P.st)) := fun w' hbw => by
    obtain ⟨lv, kv, hd⟩ := (h.below hbw).dm
    have h12 := hd.m.cells.2.2.2.2.1
    rw [hn] at h12
    exact ⟨h12, hd.m.cells.2.2.1⟩
  have HEND : Hid (∀ w1 K1, DJ w1 base q c r (storeL c r L t ⟨2, slotV P.st P.s, 0⟩ (2 * P.st)) K1 Y P mu x G → Next (G ++ K) (G ++ K1) w w1 → DJ (w1.setCell ⟨Y, 12, none⟩ (.int .i64 9)) base q c r (storeL c r L t ⟨2, slotV P.st P.s, 0⟩ (2 * P.st)) K1 Y P mu ⟨x.n + 1, x.l, x.sn⟩ G ∧ Next (G ++ K) (G ++ K1) w (w1.setCell ⟨Y, 12, none⟩ (.int .i64 9))) := fun w1 K1 h1 h2 => h1.set (x' := ⟨x.n + 1, x.l, x.sn⟩) h2 rfl 12 _ (fun lv kv hd => by have := hd.m.set12 9; simpa [hn] using this)
  have HCC : Hid (∀ w1 K1 L1, DJ w1 base q c r L1 K1 Y P mu x G → w1.cell? ⟨Y, 12, none⟩ = some (.int .i64 8) ∧ w1.frozen? ⟨Y, 12, none⟩ = false ∧ Y < w1.heap.size) := fun w1 K1 L1 h1 => by
    obtain ⟨lv, kv, hd⟩ := h1.dm
    have h12 := hd.m.cells.2.2.2.2.1
    rw [hn] at h12
    exact ⟨h12, frozen_at hd.m 12, heap_lt hd.m⟩
  obtain ⟨R, rfl⟩ := h.ref.ptr
  unfold DDoes
  have hw2 : wrap64 (2 * P.st) = 2 * P.st := by have := HBG.out; unfold wrap64; omega
  generalize (⟨x.n + 1, x.l, x.sn⟩ : Dc) = x' at *
  generalize storeL c r L t ⟨2, slotV P.st P.s, 0⟩ (2 * P.st) = L' at *
  generalize slotV P.st P.s = sl at *
  clear h hp hg hbd hrs hn
  go_enter Try.func16, Try.ntmps16
  go_wp2_with fail
  refine (HOV.out _ (Below.refl _ _)).mono ?_
  rintro e z1 ⟨rfl, hb1⟩
  have HB1 : Hid (Below w.heap.size w z1) := hb1
  clear hb1
  go_wp2_with fail
  refine (HLA.out _ HB1.out).mono ?_
  rintro e z2 ⟨rfl, hb2⟩
  have HB2 : Hid (Below w.heap.size w z2) := below_then HB1.out hb2
  clear hb2 HB1 HOV HLA
  obtain ⟨y0, y2⟩ := HYC.out _ HB2.out
  go_wp2_with fail
  go_quiet ((go_at_call 35; refine Calls.quiet_of_same (HSL.out _)))
  obtain ⟨z3, hz3⟩ : ∃ z3, z3 = z2.drewN nq := ⟨_, rfl⟩
  rw [← hz3]
  have HB3 : Hid (Below w.heap.size w z3) := by rw [Hid, hz3]; exact below_drawn HB2.out _
  clear hz3 HB2 y0 y2 HYC
  obtain ⟨y12, y2⟩ := HNC.out _ HB3.out
  go_wp2_with fail
  refine (HST.out _ HB3.out).mono ?_
  rintro e z4 ⟨rfl, K4, h4, hn4⟩
  have HJ4 : Hid (DJ z4 base (.pointer (some ⟨R, 0, none⟩)) c r L' K4 Y P mu x G) := h4
  have HN4 : Hid (Next (G ++ K) (G ++ K4) w z4) := (Next.of_below HB3.out (G ++ K)).trans (hn4.right (F := G))
  clear h4 hn4 y12 y2
  obtain ⟨y12, yf, hY⟩ := HCC.out _ _ _ HJ4.out
  have HFF : Hid (DJ (z4.setCell ⟨Y, 12, none⟩ (.int .i64 9)) base (.pointer (some ⟨R, 0, none⟩)) c r L' K4 Y P mu x' G ∧ Next (G ++ K) (G ++ K4) w (z4.setCell ⟨Y, 12, none⟩ (.int .i64 9))) := HEND.out _ _ HJ4.out HN4.out
  go_wp2
  go_ret
  exact ⟨rfl, K4, G, HFF.out⟩
end Go.Proofs.Ytbmmicfdnfpcaaa
