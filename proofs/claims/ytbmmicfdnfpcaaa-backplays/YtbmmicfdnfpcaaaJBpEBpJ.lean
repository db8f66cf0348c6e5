/- The document's machine of layer 11: Step, where it does nothing, and where it lays its signature and its head. -/
import Derived.Test.YtbmmicfdnfpcaaaJBpMBpD
import Derived.Deep.QuietTactic
import Derived.BigQuiet
import Derived.Deep.CutBlock
import Derived.Test.YtbmmicfdnfpcaaaBkX
import Derived.Laws.CopyOwn
import Derived.Laws.MakeOwn
namespace Go.Proofs.Ytbmmicfdnfpcaaa
open Go.ChangeShapes Go.WideShapes Go.ChangeAt Go.RowKit
attribute [local go_sem ↓] Go.wp_at_zero Go.wp_at_succ

theorem DJ.set {w0 w : World} {base : Nat} {q : Value} {c r : Nat} {L : List Ac} {K : List Nat} {Y : Nat} {P : Bp} {mu : Bool} {x : Dc} {G : List Nat} {K0 : List Nat} {x' : Dc} (h : DJ w base q c r L K Y P mu x G) (hn : Next (G ++ K0) (G ++ K) w0 w) (hl : x'.l = x.l) (i : Nat) (v : Value) (hr : ∀ lv kv, DM' w base Y P mu x G lv kv → DRaw (w.setCell ⟨Y, i, none⟩ v) Y (P.s : Int) mu P.st lv P.sg (x'.n : Int) kv x'.sn) : DJ (w.setCell ⟨Y, i, none⟩ v) base q c r L K Y P mu x' G ∧ Next (G ++ K0) (G ++ K) w0 (w.setCell ⟨Y, i, none⟩ v) := by
  obtain ⟨lv, kv, hd⟩ := h.dm
  have kz : Keep [Y] w (w.setCell ⟨Y, i, none⟩ v) := (Keep.refl _ _).setCell _ _ (Or.inl (by simp))
  have hY : Y ∈ G := by rw [hd.G]; simp
  have hn1 : Next G G w (w.setCell ⟨Y, i, none⟩ v) := ⟨kz.mono (fun b hb => by simp at hb; subst hb; exact hY), fun b hb => Or.inl hb⟩
  exact ⟨h.onDm ⟨lv, kv, hd.onRow hl (hr lv kv hd) kz⟩ hn1, hn.trans hn1.left⟩
theorem DJ.cells {w : World} {base : Nat} {q : Value} {c r : Nat} {L : List Ac} {K : List Nat} {Y : Nat} {P : Bp} {mu : Bool} {x : Dc} {G : List Nat} (h : DJ w base q c r L K Y P mu x G) : ∃ la lcap ka kcap, DM' w base Y P mu x G (.slice la P.W.length lcap) (.slice ka x.l.length kcap) := by
  obtain ⟨lv, kv, hd⟩ := h.dm
  obtain ⟨la, lcap, rfl⟩ := own_slice hd.ownW
  obtain ⟨ka, kcap, rfl⟩ := own_slice hd.ownL
  exact ⟨la, lcap, ka, kcap, hd⟩
/-- Does the document's machine go over that memory? -/
def goD (c r : Nat) (P : Bp) (x : Dc) : Bool := decide (x.n ≠ P.W.length + 10) && (decide (r = P.s) && P.W.all fun x => decide (x.c < (c : Int)))
set_option maxRecDepth 10000 in
theorem dstep_none {w : World} {base : Nat} {q : Value} {c r : Nat} {L : List Ac} {K : List Nat} {Y : Nat} {P : Bp} {mu : Bool} {x : Dc} {G : List Nat} (h : DJ w base q c r L K Y P mu x G) (hp : BpOk P) (hg : goD c r P x = false) (t : Int) :
    Calls Try.prog 16 #[.pointer (some ⟨Y, 0, none⟩), q, .int .i64 t] w fun e w' => e = .returned (.int .i64 0) ∧ Below w.heap.size w w' := by
  have HOV : Hid (∀ w', Below w.heap.size w w' → Calls Try.prog 33 #[.pointer (some ⟨Y, 0, none⟩)] w' fun e w'' => e = .returned (.bool (decide (x.n = P.W.length + 10))) ∧ Below w'.heap.size w' w'') := fun w' hb => by
    obtain ⟨lv, kv, hd⟩ := (h.below hb).dm
    exact dover_any hd hp.len
  have HLA : Hid (∀ w', Below w.heap.size w w' → Calls Try.prog 34 #[.pointer (some ⟨Y, 0, none⟩), q] w' fun e w'' => e = .returned (.bool (!(decide (r = P.s) && P.W.all fun x => decide (x.c < (c : Int))))) ∧ Below w'.heap.size w' w'') := fun w' hb => by
    obtain ⟨lv, kv, hd⟩ := (h.below hb).dm
    exact dlacks_any hd (h.below hb).ref hp.len
  obtain ⟨R, rfl⟩ := h.ref.ptr
  have hc : decide (x.n = P.W.length + 10) = true ∨ (decide (x.n = P.W.length + 10) = false ∧ (!(decide (r = P.s) && P.W.all fun x => decide (x.c < (c : Int)))) = true) := by
    unfold goD at hg
    by_cases e : x.n = P.W.length + 10
    · exact Or.inl (decide_eq_true e)
    · right
      refine ⟨decide_eq_false e, ?_⟩
      rw [decide_eq_true (show x.n ≠ P.W.length + 10 from e), Bool.true_and] at hg
      rw [hg]
      rfl
  clear h hg
  generalize decide (x.n = P.W.length + 10) = ov at *
  generalize (!(decide (r = P.s) && P.W.all fun x => decide (x.c < (c : Int)))) = lk at *
  rcases hc with rfl | ⟨rfl, rfl⟩
  all_goals
    go_enter Try.func16, Try.ntmps16
    go_wp2_with fail
    refine (HOV.out _ (Below.refl _ _)).mono ?_
    rintro e z1 ⟨rfl, hb1⟩
    have HB1 : Hid (Below w.heap.size w z1) := hb1
    clear hb1
    go_wp2_with fail
    refine (HLA.out _ HB1.out).mono ?_
    rintro e z2 ⟨rfl, hb2⟩
    have HB2 : Hid (Below w.heap.size w z2) := below_then HB1.out hb2
    clear hb2
    go_wp2
    go_ret
    exact ⟨rfl, HB2.out⟩
theorem goD_iff {c r : Nat} {P : Bp} {x : Dc} : goD c r P x = true ↔ x.n ≠ P.W.length + 10 ∧ (decide (r = P.s) && P.W.all fun x => decide (x.c < (c : Int))) = true := by
  unfold goD
  rw [Bool.and_eq_true, decide_eq_true_eq]
/-- What a step makes of all. -/
def DDoes (w : World) (base : Nat) (q : Value) (c r : Nat) (K : List Nat) (Y : Nat) (P : Bp) (mu : Bool) (G : List Nat) (t k : Int) (L' : List Ac) (x' : Dc) : Prop :=
  Calls Try.prog 16 #[.pointer (some ⟨Y, 0, none⟩), q, .int .i64 t] w fun e w' => e = .returned (.int .i64 k) ∧ ∃ K' G', DJ w' base q c r L' K' Y P mu x' G' ∧ Next (G ++ K) (G' ++ K') w w'
theorem dj_store {w : World} {base : Nat} {q : Value} {c r : Nat} {L : List Ac} {K : List Nat} {Y : Nat} {P : Bp} {mu : Bool} {x : Dc} {G : List Nat} (h : DJ w base q c r L K Y P mu x G) (hb : base ≤ w.heap.size) (hL : L.length < 3298534883328) (t : Int) (a : Ad) (z : Int) (ha : isAd c r a = true) :
    Calls Try.prog 14 #[q, .int .i64 t, .agg #[.int .i64 a.k, .int .i64 a.i, .int .i64 a.j], .int .i64 z] w fun e w' => e = .returned (.int .i64 0) ∧ ∃ K', DJ w' base q c r (storeL c r L t a z) K' Y P mu x G ∧ Next K K' w w' := by
  have := rstore_any h.ref hb hL t a z
  rw [if_pos ha] at this
  refine Calls.mono this ?_
  rintro e w' ⟨rfl, K', h1, h2⟩
  exact ⟨rfl, K', h.onRef h1 h2, h2⟩
theorem dj_load {w : World} {base : Nat} {q : Value} {c r : Nat} {L : List Ac} {K : List Nat} {Y : Nat} {P : Bp} {mu : Bool} {x : Dc} {G : List Nat} (h : DJ w base q c r L K Y P mu x G) (hb : base ≤ w.heap.size) (hL : L.length < 3298534883328) (t : Int) (a : Ad) (ha : isAd c r a = true) :
    Calls Try.prog 37 #[q, .int .i64 t, .agg #[.int .i64 a.k, .int .i64 a.i, .int .i64 a.j]] w fun e w' => e = .returned (.tuple #[.int .i64 (wordOf L a), .int .i64 0]) ∧ ∃ K', DJ w' base q c r (loadL c r L t a) K' Y P mu x G ∧ Next K K' w w' := by
  have := rload_any h.ref hb hL t a
  rw [if_pos ha, if_pos ha] at this
  refine Calls.mono this ?_
  rintro e w' ⟨rfl, K', h1, h2⟩
  exact ⟨rfl, K', h.onRef h1 h2, h2⟩
theorem dj_yc {w : World} {base : Nat} {q : Value} {c r : Nat} {L : List Ac} {K : List Nat} {Y : Nat} {P : Bp} {mu : Bool} {x : Dc} {G : List Nat} (h : DJ w base q c r L K Y P mu x G) : ∀ w', Below w.heap.size w w' → w'.cell? ⟨Y, 0, none⟩ = some (.int .i64 (P.s : Int)) ∧ w'.cell? ⟨Y, 2, none⟩ = some (.int .i64 P.st) := fun w' hb => by
  obtain ⟨lv, kv, hd⟩ := (h.below hb).dm
  obtain ⟨y0, y1, y2, y3, y12, y13, y14⟩ := hd.m.cells
  exact ⟨y0, y2⟩
set_option maxRecDepth 100000 in
set_option maxHeartbeats 6400000 in
theorem dstep_word {w : World} {base : Nat} {q : Value} {c r : Nat} {L : List Ac} {K : List Nat} {Y : Nat} {P : Bp} {mu : Bool} {x : Dc} {G : List Nat} (h : DJ w base q c r L K Y P mu x G) (hp : BpOk P) (hb : base ≤ w.heap.size) (hL : L.length < 3298534883328) (hg : goD c r P x = true) (hrs : r = P.s) (hn : x.n < 8) (t : Int) : DDoes w base q c r K Y P mu G t 2 (storeL c r L t ⟨3, slotV P.st P.s, (x.n : Int)⟩ (wrap64 ((P.sg.getD x.n 0 : Nat) : Int))) ⟨x.n + 1, x.l, x.sn⟩ := by
  have HOV : Hid (∀ w', Below w.heap.size w w' → Calls Try.prog 33 #[.pointer (some ⟨Y, 0, none⟩)] w' fun e w'' => e = .returned (.bool false) ∧ Below w'.heap.size w' w'') := fun w' hb => by
    obtain ⟨lv, kv, hd⟩ := (h.below hb).dm
    have := dover_any hd hp.len
    rw [decide_eq_false (goD_iff.mp hg).1] at this
    exact this
  have HLA : Hid (∀ w', Below w.heap.size w w' → Calls Try.prog 34 #[.pointer (some ⟨Y, 0, none⟩), q] w' fun e w'' => e = .returned (.bool false) ∧ Below w'.heap.size w' w'') := fun w' hb => by
    obtain ⟨lv, kv, hd⟩ := (h.below hb).dm
    have := dlacks_any hd (h.below hb).ref hp.len
    rw [(goD_iff.mp hg).2, Bool.not_true] at this
    exact this
  have HSL : Hid (∀ w, Calls Try.prog 35 #[.int .i64 P.st, .int .i64 (P.s : Int)] w fun e w' => e = .returned (.int .i64 (slotV P.st P.s)) ∧ w' = w) := fun w => rslot_any P.st P.s w
  have HJW : Hid (∀ w', Below w.heap.size w w' → DJ w' base q c r L K Y P mu x G) := fun w' hb => h.below hb
  have hbd := slotB_bd hp P.st
  have HBG : Hid (1 ≤ P.st ∧ P.st ≤ 1099511627776 ∧ 1 ≤ P.s ∧ P.s ≤ 16 ∧ P.W.length ≤ 24) := ⟨hp.st1, hp.st2, hp.s1, hp.s16, hp.len⟩
  have HST : Hid (∀ w', Below w.heap.size w w' → Calls Try.prog 14 #[q, .int .i64 t, .agg #[.int .i64 3, .int .i64 (slotV P.st P.s), .int .i64 (x.n : Int)], .int .i64 (wrap64 ((P.sg.getD x.n 0 : Nat) : Int))] w' fun e w'' => e = .returned (.int .i64 0) ∧ ∃ K', DJ w'' base q c r (storeL c r L t ⟨3, slotV P.st P.s, (x.n : Int)⟩ (wrap64 ((P.sg.getD x.n 0 : Nat) : Int))) K' Y P mu x G ∧ Next K K' w' w'') := fun w' hbw => dj_store (h.below hbw) (Nat.le_trans hb hbw.size) hL t ⟨3, slotV P.st P.s, (x.n : Int)⟩ _ (by subst hrs; simp [isAd, hbd]; omega)
  have HYC : Hid (∀ w', Below w.heap.size w w' → w'.cell? ⟨Y, 0, none⟩ = some (.int .i64 (P.s : Int)) ∧ w'.cell? ⟨Y, 2, none⟩ = some (.int .i64 P.st)) := dj_yc h
  have HNC : Hid (∀ w', Below w.heap.size w w' → w'.cell? ⟨Y, 12, none⟩ = some (.int .i64 (x.n : Int)) ∧ w'.cell? ⟨Y, 4 + x.n, none⟩ = some (.int .u64 ((P.sg.getD x.n 0 : Nat) : Int))) := fun w' hbw => by
    obtain ⟨lv, kv, hd⟩ := (h.below hbw).dm
    exact ⟨hd.m.cells.2.2.2.2.1, hd.m.sigAt x.n hn⟩
  have HEND : Hid (∀ w1 K1, DJ w1 base q c r (storeL c r L t ⟨3, slotV P.st P.s, (x.n : Int)⟩ (wrap64 ((P.sg.getD x.n 0 : Nat) : Int))) K1 Y P mu x G → Next (G ++ K) (G ++ K1) w w1 → DJ (w1.setCell ⟨Y, 12, none⟩ (.int .i64 ((x.n : Int) + 1))) base q c r (storeL c r L t ⟨3, slotV P.st P.s, (x.n : Int)⟩ (wrap64 ((P.sg.getD x.n 0 : Nat) : Int))) K1 Y P mu ⟨x.n + 1, x.l, x.sn⟩ G ∧ Next (G ++ K) (G ++ K1) w (w1.setCell ⟨Y, 12, none⟩ (.int .i64 ((x.n : Int) + 1)))) := fun w1 K1 h1 h2 => h1.set (x' := ⟨x.n + 1, x.l, x.sn⟩) h2 rfl 12 _ (fun lv kv hd => by have := hd.m.set12 ((x.n : Int) + 1); simpa using this)
  have HCC : Hid (∀ w1 K1 L1, DJ w1 base q c r L1 K1 Y P mu x G → w1.cell? ⟨Y, 12, none⟩ = some (.int .i64 (x.n : Int)) ∧ w1.frozen? ⟨Y, 12, none⟩ = false ∧ Y < w1.heap.size) := fun w1 K1 L1 h1 => by
    obtain ⟨lv, kv, hd⟩ := h1.dm
    exact ⟨hd.m.cells.2.2.2.2.1, frozen_at hd.m 12, heap_lt hd.m⟩
  obtain ⟨R, rfl⟩ := h.ref.ptr
  unfold DDoes
  have hn' : (x.n : Int) < 8 := by omega
  have hwz : IntKind.i64.wrap ((P.sg.getD x.n 0 : Nat) : Int) = wrap64 ((P.sg.getD x.n 0 : Nat) : Int) := by rw [IntKind.wrap_i64]; unfold wrap64; omega
  have hwn : wrap64 ((x.n : Int) + 1) = (x.n : Int) + 1 := by unfold wrap64; omega
  generalize (⟨x.n + 1, x.l, x.sn⟩ : Dc) = x' at *
  generalize x.n = n at *
  generalize P.sg.getD n 0 = zz at *
  generalize wrap64 (zz : Int) = vz at *
  generalize storeL c r L t ⟨3, slotV P.st P.s, (n : Int)⟩ vz = L' at *
  generalize slotV P.st P.s = sl at *
  clear h hp hg hbd hrs
  go_enter Try.func16, Try.ntmps16
  go_wp2_with fail
  refine (HOV.out _ (Below.refl _ _)).mono ?_
  rintro e z1 ⟨rfl, hb1⟩
  have HB1 : Hid (Below w.heap.size w z1) := hb1
  clear hb1
  go_wp2_with fail
  refine (HLA.out _ HB1.out).mono ?_
  rintro e z2 ⟨rfl, hb2⟩
  have HB2 : Hid (Below w.heap.size w z2) := below_then HB1.out hb2
  clear hb2 HB1 HOV HLA
  obtain ⟨y0, y2⟩ := HYC.out _ HB2.out
  go_wp2_with fail
  go_quiet ((go_at_call 35; refine Calls.quiet_of_same (HSL.out _)))
  obtain ⟨z3, hz3⟩ : ∃ z3, z3 = z2.drewN nq := ⟨_, rfl⟩
  rw [← hz3]
  have HB3 : Hid (Below w.heap.size w z3) := by rw [Hid, hz3]; exact below_drawn HB2.out _
  clear hz3 HB2 y0 y2 HYC
  obtain ⟨y12, ysg⟩ := HNC.out _ HB3.out
  go_wp2_with fail
  go_region_with ((go_at_call 14; refine (HST.out _ (by first | exact below_drawn HB3.out 1 | exact HB3.out)).mono ?_; rintro e z4 ⟨rfl, K4, h4, hn4⟩))
  all_goals
    have HJ4 : Hid (DJ z4 base (.pointer (some ⟨R, 0, none⟩)) c r L' K4 Y P mu x G) := h4
    have HN4 : Hid (Next (G ++ K) (G ++ K4) w z4) := (Next.of_below (below_drawn HB3.out 1) (G ++ K)).trans (hn4.right (F := G))
    clear h4 hn4 y12 ysg
    obtain ⟨y12, yf, hY⟩ := HCC.out _ _ _ HJ4.out
    have HF := HEND.out _ _ HJ4.out HN4.out
    have HFF : Hid (DJ (z4.setCell ⟨Y, 12, none⟩ (.int .i64 ((n : Int) + 1))) base (.pointer (some ⟨R, 0, none⟩)) c r L' K4 Y P mu x' G ∧ Next (G ++ K) (G ++ K4) w (z4.setCell ⟨Y, 12, none⟩ (.int .i64 ((n : Int) + 1)))) := HF
    clear HF
    go_wp2
    go_ret
    exact ⟨rfl, K4, G, HFF.out⟩
set_option maxRecDepth 100000 in
set_option maxHeartbeats 6400000 in
theorem dstep_head {w : World} {base : Nat} {q : Value} {c r : Nat} {L : List Ac} {K : List Nat} {Y : Nat} {P : Bp} {mu : Bool} {x : Dc} {G : List Nat} (h : DJ w base q c r L K Y P mu x G) (hp : BpOk P) (hb : base ≤ w.heap.size) (hL : L.length < 3298534883328) (hg : goD c r P x = true) (hrs : r = P.s) (hn : x.n = 8) (t : Int) : DDoes w base q c r K Y P mu G t 2 (storeL c r L t ⟨2, slotV P.st P.s, 0⟩ (2 * P.st)) ⟨x.n + 1, x.l, x.sn⟩ := by
  have HOV : Hid (∀ w', Below w.heap.size w w' → Calls Try.prog 33 #[.pointer (some ⟨Y, 0, none⟩)] w' fun e w'' => e = .returned (.bool false) ∧ Below w'.heap.size w' w'') := fun w' hb => by
    obtain ⟨lv, kv, hd⟩ := (h.below hb).dm
    have := dover_any hd hp.len
    rw [decide_eq_false (goD_iff.mp hg).1] at this
    exact this
  have HLA : Hid (∀ w', Below w.heap.size w w' → Calls Try.prog 34 #[.pointer (some ⟨Y, 0, none⟩), q] w' fun e w'' => e = .returned (.bool false) ∧ Below w'.heap.size w' w'') := fun w' hb => by
    obtain ⟨lv, kv, hd⟩ := (h.below hb).dm
    have := dlacks_any hd (h.below hb).ref hp.len
    rw [(goD_iff.mp hg).2, Bool.not_true] at this
    exact this
  have HSL : Hid (∀ w, Calls Try.prog 35 #[.int .i64 P.st, .int .i64 (P.s : Int)] w fun e w' => e = .returned (.int .i64 (slotV P.st P.s)) ∧ w' = w) := fun w => rslot_any P.st P.s w
  have HJW : Hid (∀ w', Below w.heap.size w w' → DJ w' base q c r L K Y P mu x G) := fun w' hb => h.below hb
  have hbd := slotB_bd hp P.st
  have HBG : Hid (1 ≤ P.st ∧ P.st ≤ 1099511627776 ∧ 1 ≤ P.s ∧ P.s ≤ 16 ∧ P.W.length ≤ 24) := ⟨hp.st1, hp.st2, hp.s1, hp.s16, hp.len⟩
  have HST : Hid (∀ w', Below w.heap.size w w' → Calls Try.prog 14 #[q, .int .i64 t, .agg #[.int .i64 2, .int .i64 (slotV P.st P.s), .int .i64 0], .int .i64 (2 * P.st)] w' fun e w'' => e = .returned (.int .i64 0) ∧ ∃ K', DJ w'' base q c r (storeL c r L t ⟨2, slotV P.st P.s, 0⟩ (2 * P.st)) K' Y P mu x G ∧ Next K K' w' w'') := fun w' hbw => dj_store (h.below hbw) (Nat.le_trans hb hbw.size) hL t ⟨2, slotV P.st P.s, 0⟩ _ (by subst hrs; simp [isAd, hbd])
  have HYC : Hid (∀ w', Below w.heap.size w w' → w'.cell? ⟨Y, 0, none⟩ = some (.int .i64 (P.s : Int)) ∧ w'.cell? ⟨Y, 2, none⟩ = some (.int .i64 P.st)) := dj_yc h
  have HNC : Hid (∀ w', Below w.heap.size w w' → w'.cell? ⟨Y, 12, none⟩ = some (.int .i64 8) ∧ w'.cell? ⟨Y, 2, none⟩ = some (.int .i64 P.st)) := fun w' hbw => by
    obtain ⟨lv, kv, hd⟩ := (h.below hbw).dm
    have h12 := hd.m.cells.2.2.2.2.1
    rw [hn] at h12
    exact ⟨h12, hd.m.cells.2.2.1⟩
  have HEND : Hid (∀ w1 K1, DJ w1 base q c r (storeL c r L t ⟨2, slotV P.st P.s, 0⟩ (2 * P.st)) K1 Y P mu x G → Next (G ++ K) (G ++ K1) w w1 → DJ (w1.setCell ⟨Y, 12, none⟩ (.int .i64 9)) base q c r (storeL c r L t ⟨2, slotV P.st P.s, 0⟩ (2 * P.st)) K1 Y P mu ⟨x.n + 1, x.l, x.sn⟩ G ∧ Next (G ++ K) (G ++ K1) w (w1.setCell ⟨Y, 12, none⟩ (.int .i64 9))) := fun w1 K1 h1 h2 => h1.set (x' := ⟨x.n + 1, x.l, x.sn⟩) h2 rfl 12 _ (fun lv kv hd => by have := hd.m.set12 9; simpa [hn] using this)
  have HCC : Hid (∀ w1 K1 L1, DJ w1 base q c r L1 K1 Y P mu x G → w1.cell? ⟨Y, 12, none⟩ = some (.int .i64 8) ∧ w1.frozen? ⟨Y, 12, none⟩ = false ∧ Y < w1.heap.size) := fun w1 K1 L1 h1 => by
    obtain ⟨lv, kv, hd⟩ := h1.dm
    have h12 := hd.m.cells.2.2.2.2.1
    rw [hn] at h12
    exact ⟨h12, frozen_at hd.m 12, heap_lt hd.m⟩
  obtain ⟨R, rfl⟩ := h.ref.ptr
  unfold DDoes
  have hw2 : wrap64 (2 * P.st) = 2 * P.st := by have := HBG.out; unfold wrap64; omega
  generalize (⟨x.n + 1, x.l, x.sn⟩ : Dc) = x' at *
  generalize storeL c r L t ⟨2, slotV P.st P.s, 0⟩ (2 * P.st) = L' at *
  generalize slotV P.st P.s = sl at *
  clear h hp hg hbd hrs hn
  go_enter Try.func16, Try.ntmps16
  go_wp2_with fail
  refine (HOV.out _ (Below.refl _ _)).mono ?_
  rintro e z1 ⟨rfl, hb1⟩
  have HB1 : Hid (Below w.heap.size w z1) := hb1
  clear hb1
  go_wp2_with fail
  refine (HLA.out _ HB1.out).mono ?_
  rintro e z2 ⟨rfl, hb2⟩
  have HB2 : Hid (Below w.heap.size w z2) := below_then HB1.out hb2
  clear hb2 HB1 HOV HLA
  obtain ⟨y0, y2⟩ := HYC.out _ HB2.out
  go_wp2_with fail
  go_quiet ((go_at_call 35; refine Calls.quiet_of_same (HSL.out _)))
  obtain ⟨z3, hz3⟩ : ∃ z3, z3 = z2.drewN nq := ⟨_, rfl⟩
  rw [← hz3]
  have HB3 : Hid (Below w.heap.size w z3) := by rw [Hid, hz3]; exact below_drawn HB2.out _
  clear hz3 HB2 y0 y2 HYC
  obtain ⟨y12, y2⟩ := HNC.out _ HB3.out
  go_wp2_with fail
  refine (HST.out _ HB3.out).mono ?_
  rintro e z4 ⟨rfl, K4, h4, hn4⟩
  have HJ4 : Hid (DJ z4 base (.pointer (some ⟨R, 0, none⟩)) c r L' K4 Y P mu x G) := h4
  have HN4 : Hid (Next (G ++ K) (G ++ K4) w z4) := (Next.of_below HB3.out (G ++ K)).trans (hn4.right (F := G))
  clear h4 hn4 y12 y2
  obtain ⟨y12, yf, hY⟩ := HCC.out _ _ _ HJ4.out
  have HFF : Hid (DJ (z4.setCell ⟨Y, 12, none⟩ (.int .i64 9)) base (.pointer (some ⟨R, 0, none⟩)) c r L' K4 Y P mu x' G ∧ Next (G ++ K) (G ++ K4) w (z4.setCell ⟨Y, 12, none⟩ (.int .i64 9))) := HEND.out _ _ HJ4.out HN4.out
  go_wp2
  go_ret
  exact ⟨rfl, K4, G, HFF.out⟩
end Go.Proofs.Ytbmmicfdnfpcaaa
/- The document's machine of layer 11: Step, where it looks back. -/
namespace Go.Proofs.Ytbmmicfdnfpcaaa
open Go.ChangeShapes Go.WideShapes Go.ChangeAt Go.RowKit
attribute [local go_sem ↓] Go.wp_at_zero Go.wp_at_succ

theorem info_i6411 : (Try.prog.info? 2).map (fun i => (i.zero, i.size, i.bytes)) = some (some (.int .i64 0), 1, 8) := by kernel_rfl
theorem numD_app (l : List Int) (z : Int) : numD (l ++ [z]) = numD l ++ [.int .i64 z] := by simp [numD]
theorem dl_end {w X w1 : World} {base Y gg cap' n : Nat} {P : Bp} {mu : Bool} {x : Dc} {G : List Nat} {lv kv : Value} {z : Int} (h : DM' w base Y P mu x G lv kv) (kX : Keep [] w X) (hn : x.l.length = n)
    (hown1 : w1.ownsRow base 2 1 (.slice (some ⟨gg, 0, none⟩) (n + 1) cap') (n + 1) (numD x.l ++ [.int .i64 z])) (hgrow : X.grownBy w1 kv.ownBlock) (hat : kv.ownBlock = some gg ∨ w.heap.size ≤ gg) :
    ∃ G', DM (w1.setCell ⟨Y, 13, none⟩ (.slice (some ⟨gg, 0, none⟩) (n + 1) cap')) base Y P mu ⟨x.n, x.l ++ [z], x.sn⟩ G' ∧ Next G G' w (w1.setCell ⟨Y, 13, none⟩ (.slice (some ⟨gg, 0, none⟩) (n + 1) cap')) := by
  have k0 : Keep kv.ownBlock.toList w w1 := (kX.mono (fun b hb => by simp at hb)).grown hgrow (fun b hb => Or.inl (by rw [hb]; simp))
  have hm1 : DRaw w1 Y (P.s : Int) mu P.st lv P.sg (x.n : Int) kv x.sn := h.m.keep k0 (fun hm => own_ne h.ownL h.m (by decide) (by simpa using hm))
  have hW1 : w1.ownsRow base 36 2 lv P.W.length (wtC P.W) := own_keep h.ownW k0 (fun b hb hm => own_apart h.ownW h.ownL (by decide) b hb (by simpa using hm))
  have hg1 : (Value.slice (some ⟨gg, 0, none⟩) (n + 1) cap').ownBlock ≠ some Y := own_ne hown1 hm1 (by decide)
  have kset : Keep [Y] w1 (w1.setCell ⟨Y, 13, none⟩ (.slice (some ⟨gg, 0, none⟩) (n + 1) cap')) := (Keep.refl _ _).setCell _ _ (Or.inl (by simp))
  refine ⟨_, ⟨lv, .slice (some ⟨gg, 0, none⟩) (n + 1) cap', hm1.set13 _, ?_, ?_, rfl, h.bY⟩, ?_, ?_⟩
  · exact own_keep hW1 kset (fun b hb hm => by simp at hm; subst hm; exact own_ne hW1 hm1 (by decide) hb)
  · simp only
    rw [numD_app, List.length_append, hn]
    exact own_keep hown1 kset (fun b hb hm => by simp at hm; subst hm; exact hg1 hb)
  · rw [h.G]
    exact (k0.mono (fun b hb => by simp at hb ⊢; exact Or.inr (Or.inr hb))).trans kset (fun b hb => by simp at hb; subst hb; exact Or.inl (by simp))
  · intro b hb
    rw [h.G]
    simp only [List.mem_cons, List.mem_append, Option.mem_toList] at hb ⊢
    rcases hb with rfl | hb | hb
    · simp
    · exact Or.inl (Or.inr (Or.inl hb))
    · have hb' : gg = b := by simpa [Value.ownBlock] using hb
      subst hb'
      rcases hat with e | e
      · exact Or.inl (Or.inr (Or.inr e))
      · exact Or.inr e
theorem lo_row {w w1 : World} {base : Nat} {c r : Nat} {L : List Ac} {K K' : List Nat} {q : Value} {o : Obj} {B : Nat} (hr : RefAt w base q c r L K) (hB : w.heap.size ≤ B) {w2 : World} (h : w2.heap[B]? = some o) (hn : Next K K' w2 w1) : w1.heap[B]? = some o := by
  rw [hn.1.block _ (heap_lt h) (fun e => by have := (hr.lt _ e).2; omega)]
  exact h
set_option maxRecDepth 100000 in
set_option maxHeartbeats 6400000 in
theorem dstep_wait {w : World} {base : Nat} {q : Value} {c r : Nat} {L : List Ac} {K : List Nat} {Y : Nat} {P : Bp} {mu : Bool} {x : Dc} {G : List Nat} {th kn me hd0 : Bool} {ls : Int} {la : Ad} (h : DJ w base q c r L K Y P mu x G) (hp : BpOk P) (hb : base ≤ w.heap.size) (hL : L.length < 3298534883328) (hg : goD c r P x = true) (hrs : r = P.s) (hn : x.n = 9) (hwl : ∀ v ∈ x.l, W64 v) (hlen : x.l.length ≤ 9 * P.s) (hlo : lkD P mu x.l = ⟨th, kn, me, hd0, ls, la⟩) (hth : th = false) (had : isAd c r la = true) (hv : W64 (wordOf L la)) (hwt : (hd0 && !overV (wordOf L la) ls && (me || !laidV (wordOf L la) ls)) = true) (t : Int) : DDoes w base q c r K Y P mu G t 1 (loadL c r L t la) x := by
  have HOV : Hid (∀ w', Below w.heap.size w w' → Calls Try.prog 33 #[.pointer (some ⟨Y, 0, none⟩)] w' fun e w'' => e = .returned (.bool false) ∧ Below w'.heap.size w' w'') := fun w' hb => by
    obtain ⟨lv, kv, hd⟩ := (h.below hb).dm
    have := dover_any hd hp.len
    rw [decide_eq_false (goD_iff.mp hg).1] at this
    exact this
  have HLA : Hid (∀ w', Below w.heap.size w w' → Calls Try.prog 34 #[.pointer (some ⟨Y, 0, none⟩), q] w' fun e w'' => e = .returned (.bool false) ∧ Below w'.heap.size w' w'') := fun w' hb => by
    obtain ⟨lv, kv, hd⟩ := (h.below hb).dm
    have := dlacks_any hd (h.below hb).ref hp.len
    rw [(goD_iff.mp hg).2, Bool.not_true] at this
    exact this
  have HSL : Hid (∀ w, Calls Try.prog 35 #[.int .i64 P.st, .int .i64 (P.s : Int)] w fun e w' => e = .returned (.int .i64 (slotV P.st P.s)) ∧ w' = w) := fun w => rslot_any P.st P.s w
  have HJW : Hid (∀ w', Below w.heap.size w w' → DJ w' base q c r L K Y P mu x G) := fun w' hb => h.below hb
  have hbd := slotB_bd hp P.st
  have HBG : Hid (1 ≤ P.st ∧ P.st ≤ 1099511627776 ∧ 1 ≤ P.s ∧ P.s ≤ 16 ∧ P.W.length ≤ 24) := ⟨hp.st1, hp.st2, hp.s1, hp.s16, hp.len⟩
  have HLO : Hid (∀ w', Below w.heap.size w w' → Calls Try.prog 36 #[.pointer (some ⟨Y, 0, none⟩)] w' fun e w'' => e = .returned (.agg (loC (lkD P mu x.l))) ∧ Below w'.heap.size w' w'') := fun w' hbw => by
    obtain ⟨lv, kv, hd⟩ := (h.below hbw).dm
    exact looks_any hd hp hwl hlen
  have HLD : Hid (∀ w', Below w.heap.size w w' → Calls Try.prog 37 #[q, .int .i64 t, .agg #[.int .i64 la.k, .int .i64 la.i, .int .i64 la.j]] w' fun e w'' => e = .returned (.tuple #[.int .i64 (wordOf L la), .int .i64 0]) ∧ ∃ K', DJ w'' base q c r (loadL c r L t la) K' Y P mu x G ∧ Next K K' w' w'') := fun w' hbw => dj_load (h.below hbw) (Nat.le_trans hb hbw.size) hL t _ had
  have HOR : Hid (∀ st w, Calls Try.prog 38 #[.int .i64 (wordOf L la), .int .i64 st] w fun e w' => e = .returned (.bool (overV (wordOf L la) st)) ∧ w' = w) := fun st w => rover_any _ st hv.1 hv.2 w
  have HLR : Hid (∀ st w, Calls Try.prog 39 #[.int .i64 (wordOf L la), .int .i64 st] w fun e w' => e = .returned (.bool (laidV (wordOf L la) st)) ∧ w' = w) := fun st w => rlaid_any _ st hv.1 hv.2 w
  have HYC : Hid (∀ w', Below w.heap.size w w' → w'.cell? ⟨Y, 0, none⟩ = some (.int .i64 (P.s : Int)) ∧ w'.cell? ⟨Y, 2, none⟩ = some (.int .i64 P.st)) := dj_yc h
  have HNC : Hid (∀ w', Below w.heap.size w w' → w'.cell? ⟨Y, 12, none⟩ = some (.int .i64 9)) := fun w' hbw => by
    obtain ⟨lv, kv, hd⟩ := (h.below hbw).dm
    have h12 := hd.m.cells.2.2.2.2.1
    rw [hn] at h12
    exact h12
  have HRF : Hid (∀ (w1 w2 : World) (K1 : List Nat) (B : Nat) (o : Obj), w.heap.size ≤ B → w2.heap[B]? = some o → Next K K1 w2 w1 → w1.heap[B]? = some o) := fun w1 w2 K1 B o h1 h2 h3 => lo_row h.ref h1 h2 h3
  obtain ⟨i0, hi, hz0, hz1, hz2⟩ := info_parts info_i6411
  have HLE : Hid (x.l.length ≤ 144) := by have := hp.s16; rw [Hid]; omega
  rw [hlo] at HLO
  unfold loC at HLO
  simp only at HLO
  subst hth
  obtain ⟨R, rfl⟩ := h.ref.ptr
  unfold DDoes
  have HOS : Hid (∀ w, Calls Try.prog 38 #[.int .i64 (wordOf L la), .int .i64 ls] w fun e w' => e = .returned (.bool (overV (wordOf L la) ls)) ∧ w' = w) := HOR.out ls
  have HLS : Hid (∀ w, Calls Try.prog 39 #[.int .i64 (wordOf L la), .int .i64 ls] w fun e w' => e = .returned (.bool (laidV (wordOf L la) ls)) ∧ w' = w) := HLR.out ls
  clear HOR HLR
  have hcs : (hd0 = true ∧ overV (wordOf L la) ls = false ∧ me = true) ∨ (hd0 = true ∧ overV (wordOf L la) ls = false ∧ me = false ∧ laidV (wordOf L la) ls = false) := by
    revert hwt
    cases hd0 <;> cases overV (wordOf L la) ls <;> cases me <;> cases laidV (wordOf L la) ls <;> simp
  obtain ⟨ak, ai, aj⟩ := la
  simp only at HLO HLD
  generalize overV (wordOf L ⟨ak, ai, aj⟩) ls = ov at *
  generalize laidV (wordOf L ⟨ak, ai, aj⟩) ls = ld at *
  generalize wordOf L ⟨ak, ai, aj⟩ = v at *
  generalize loadL c r L t ⟨ak, ai, aj⟩ = L' at *
  generalize slotV P.st P.s = sl at *
  clear h hp hg hbd hrs hn hwl hlen hlo had hv hwt hi hz0 hz1 hz2
  rcases hcs with ⟨rfl, rfl, rfl⟩ | ⟨rfl, rfl, rfl, rfl⟩
  · go_enter Try.func16, Try.ntmps16
    go_wp2_with fail
    refine (HOV.out _ (Below.refl _ _)).mono ?_
    rintro e z1 ⟨rfl, hb1⟩
    have HB1 : Hid (Below w.heap.size w z1) := hb1
    clear hb1
    go_wp2_with fail
    refine (HLA.out _ HB1.out).mono ?_
    rintro e z2 ⟨rfl, hb2⟩
    have HB2 : Hid (Below w.heap.size w z2) := below_then HB1.out hb2
    clear hb2 HB1 HOV HLA
    obtain ⟨y0, y2⟩ := HYC.out _ HB2.out
    go_wp2_with fail
    go_quiet ((go_at_call 35; refine Calls.quiet_of_same (HSL.out _)))
    obtain ⟨z3, hz3⟩ : ∃ z3, z3 = z2.drewN nq := ⟨_, rfl⟩
    rw [← hz3]
    have HB3 : Hid (Below w.heap.size w z3) := by rw [Hid, hz3]; exact below_drawn HB2.out _
    clear hz3 HB2 y0 y2 HYC
    have y12 := HNC.out _ HB3.out
    go_wp2_with fail
    refine (HLO.out _ HB3.out).mono ?_
    rintro e z4 ⟨rfl, hb4⟩
    have HB4 : Hid (Below w.heap.size w (z4.alloc (.cells #[.bool false, .bool kn, .bool true, .bool true, .int .i64 ls, .int .i64 ak, .int .i64 ai, .int .i64 aj] 98))) := below_alloc (below_then HB3.out hb4) _
    have HS4 : Hid (w.heap.size ≤ z4.heap.size) := Nat.le_trans HB3.out.size hb4.size
    clear hb4 y12
    go_wp2_with fail
    refine (HLD.out _ HB4.out).mono ?_
    rintro e z5 ⟨rfl, K5, h5, hn5⟩
    have HJ5 : Hid (DJ z5 base (.pointer (some ⟨R, 0, none⟩)) c r L' K5 Y P mu x G) := h5
    have HN5 : Hid (Next (G ++ K) (G ++ K5) w z5) := (Next.of_below HB4.out (G ++ K)).trans (hn5.right (F := G))
    have HP5 : Hid (z5.heap[z4.heap.size]? = some (.cells #[.bool false, .bool kn, .bool true, .bool true, .int .i64 ls, .int .i64 ak, .int .i64 ai, .int .i64 aj] 98 (0, 0))) := HRF.out _ _ _ _ _ HS4.out (heap_alloc_new _ _) hn5
    clear h5 hn5
    have p2 : z5.cell? ⟨z4.heap.size, 2, none⟩ = some (.bool true) := by rw [cell_at HP5.out]; rfl
    have p3 : z5.cell? ⟨z4.heap.size, 3, none⟩ = some (.bool true) := by rw [cell_at HP5.out]; rfl
    have p4 : z5.cell? ⟨z4.heap.size, 4, none⟩ = some (.int .i64 ls) := by rw [cell_at HP5.out]; rfl
    go_wp2_with fail
    refine (HOS.out _).mono ?_
    rintro e z6 ⟨rfl, h6⟩
    obtain rfl : z5 = z6 := h6.symm
    go_wp2_with fail
    refine (HLS.out _).mono ?_
    rintro e z7 ⟨rfl, h7⟩
    obtain rfl : z5 = z7 := h7.symm
    go_wp2
    go_ret
    exact ⟨rfl, K5, G, HJ5.out, HN5.out⟩
  · go_enter Try.func16, Try.ntmps16
    go_wp2_with fail
    refine (HOV.out _ (Below.refl _ _)).mono ?_
    rintro e z1 ⟨rfl, hb1⟩
    have HB1 : Hid (Below w.heap.size w z1) := hb1
    clear hb1
    go_wp2_with fail
    refine (HLA.out _ HB1.out).mono ?_
    rintro e z2 ⟨rfl, hb2⟩
    have HB2 : Hid (Below w.heap.size w z2) := below_then HB1.out hb2
    clear hb2 HB1 HOV HLA
    obtain ⟨y0, y2⟩ := HYC.out _ HB2.out
    go_wp2_with fail
    go_quiet ((go_at_call 35; refine Calls.quiet_of_same (HSL.out _)))
    obtain ⟨z3, hz3⟩ : ∃ z3, z3 = z2.drewN nq := ⟨_, rfl⟩
    rw [← hz3]
    have HB3 : Hid (Below w.heap.size w z3) := by rw [Hid, hz3]; exact below_drawn HB2.out _
    clear hz3 HB2 y0 y2 HYC
    have y12 := HNC.out _ HB3.out
    go_wp2_with fail
    refine (HLO.out _ HB3.out).mono ?_
    rintro e z4 ⟨rfl, hb4⟩
    have HB4 : Hid (Below w.heap.size w (z4.alloc (.cells #[.bool false, .bool kn, .bool false, .bool true, .int .i64 ls, .int .i64 ak, .int .i64 ai, .int .i64 aj] 98))) := below_alloc (below_then HB3.out hb4) _
    have HS4 : Hid (w.heap.size ≤ z4.heap.size) := Nat.le_trans HB3.out.size hb4.size
    clear hb4 y12
    go_wp2_with fail
    refine (HLD.out _ HB4.out).mono ?_
    rintro e z5 ⟨rfl, K5, h5, hn5⟩
    have HJ5 : Hid (DJ z5 base (.pointer (some ⟨R, 0, none⟩)) c r L' K5 Y P mu x G) := h5
    have HN5 : Hid (Next (G ++ K) (G ++ K5) w z5) := (Next.of_below HB4.out (G ++ K)).trans (hn5.right (F := G))
    have HP5 : Hid (z5.heap[z4.heap.size]? = some (.cells #[.bool false, .bool kn, .bool false, .bool true, .int .i64 ls, .int .i64 ak, .int .i64 ai, .int .i64 aj] 98 (0, 0))) := HRF.out _ _ _ _ _ HS4.out (heap_alloc_new _ _) hn5
    clear h5 hn5
    have p2 : z5.cell? ⟨z4.heap.size, 2, none⟩ = some (.bool false) := by rw [cell_at HP5.out]; rfl
    have p3 : z5.cell? ⟨z4.heap.size, 3, none⟩ = some (.bool true) := by rw [cell_at HP5.out]; rfl
    have p4 : z5.cell? ⟨z4.heap.size, 4, none⟩ = some (.int .i64 ls) := by rw [cell_at HP5.out]; rfl
    go_wp2_with fail
    refine (HOS.out _).mono ?_
    rintro e z6 ⟨rfl, h6⟩
    obtain rfl : z5 = z6 := h6.symm
    go_wp2_with fail
    refine (HLS.out _).mono ?_
    rintro e z7 ⟨rfl, h7⟩
    obtain rfl : z5 = z7 := h7.symm
    go_wp2
    go_ret
    exact ⟨rfl, K5, G, HJ5.out, HN5.out⟩
set_option maxRecDepth 100000 in
set_option maxHeartbeats 6400000 in
theorem dstep_on {w : World} {base : Nat} {q : Value} {c r : Nat} {L : List Ac} {K : List Nat} {Y : Nat} {P : Bp} {mu : Bool} {x : Dc} {G : List Nat} {th kn me hd0 : Bool} {ls : Int} {la : Ad} (h : DJ w base q c r L K Y P mu x G) (hp : BpOk P) (hb : base ≤ w.heap.size) (hL : L.length < 3298534883328) (hg : goD c r P x = true) (hrs : r = P.s) (hn : x.n = 9) (hwl : ∀ v ∈ x.l, W64 v) (hlen : x.l.length ≤ 9 * P.s) (hlo : lkD P mu x.l = ⟨th, kn, me, hd0, ls, la⟩) (hth : th = false) (had : isAd c r la = true) (hv : W64 (wordOf L la)) (hwt : (hd0 && !overV (wordOf L la) ls && (me || !laidV (wordOf L la) ls)) = false) (t : Int) : DDoes w base q c r K Y P mu G t 2 (loadL c r L t la) ⟨x.n, x.l ++ [wordOf L la], x.sn⟩ := by
  have HOV : Hid (∀ w', Below w.heap.size w w' → Calls Try.prog 33 #[.pointer (some ⟨Y, 0, none⟩)] w' fun e w'' => e = .returned (.bool false) ∧ Below w'.heap.size w' w'') := fun w' hb => by
    obtain ⟨lv, kv, hd⟩ := (h.below hb).dm
    have := dover_any hd hp.len
    rw [decide_eq_false (goD_iff.mp hg).1] at this
    exact this
  have HLA : Hid (∀ w', Below w.heap.size w w' → Calls Try.prog 34 #[.pointer (some ⟨Y, 0, none⟩), q] w' fun e w'' => e = .returned (.bool false) ∧ Below w'.heap.size w' w'') := fun w' hb => by
    obtain ⟨lv, kv, hd⟩ := (h.below hb).dm
    have := dlacks_any hd (h.below hb).ref hp.len
    rw [(goD_iff.mp hg).2, Bool.not_true] at this
    exact this
  have HSL : Hid (∀ w, Calls Try.prog 35 #[.int .i64 P.st, .int .i64 (P.s : Int)] w fun e w' => e = .returned (.int .i64 (slotV P.st P.s)) ∧ w' = w) := fun w => rslot_any P.st P.s w
  have HJW : Hid (∀ w', Below w.heap.size w w' → DJ w' base q c r L K Y P mu x G) := fun w' hb => h.below hb
  have hbd := slotB_bd hp P.st
  have HBG : Hid (1 ≤ P.st ∧ P.st ≤ 1099511627776 ∧ 1 ≤ P.s ∧ P.s ≤ 16 ∧ P.W.length ≤ 24) := ⟨hp.st1, hp.st2, hp.s1, hp.s16, hp.len⟩
  have HLO : Hid (∀ w', Below w.heap.size w w' → Calls Try.prog 36 #[.pointer (some ⟨Y, 0, none⟩)] w' fun e w'' => e = .returned (.agg (loC (lkD P mu x.l))) ∧ Below w'.heap.size w' w'') := fun w' hbw => by
    obtain ⟨lv, kv, hd⟩ := (h.below hbw).dm
    exact looks_any hd hp hwl hlen
  have HLD : Hid (∀ w', Below w.heap.size w w' → Calls Try.prog 37 #[q, .int .i64 t, .agg #[.int .i64 la.k, .int .i64 la.i, .int .i64 la.j]] w' fun e w'' => e = .returned (.tuple #[.int .i64 (wordOf L la), .int .i64 0]) ∧ ∃ K', DJ w'' base q c r (loadL c r L t la) K' Y P mu x G ∧ Next K K' w' w'') := fun w' hbw => dj_load (h.below hbw) (Nat.le_trans hb hbw.size) hL t _ had
  have HOR : Hid (∀ st w, Calls Try.prog 38 #[.int .i64 (wordOf L la), .int .i64 st] w fun e w' => e = .returned (.bool (overV (wordOf L la) st)) ∧ w' = w) := fun st w => rover_any _ st hv.1 hv.2 w
  have HLR : Hid (∀ st w, Calls Try.prog 39 #[.int .i64 (wordOf L la), .int .i64 st] w fun e w' => e = .returned (.bool (laidV (wordOf L la) st)) ∧ w' = w) := fun st w => rlaid_any _ st hv.1 hv.2 w
  have HYC : Hid (∀ w', Below w.heap.size w w' → w'.cell? ⟨Y, 0, none⟩ = some (.int .i64 (P.s : Int)) ∧ w'.cell? ⟨Y, 2, none⟩ = some (.int .i64 P.st)) := dj_yc h
  have HNC : Hid (∀ w', Below w.heap.size w w' → w'.cell? ⟨Y, 12, none⟩ = some (.int .i64 9)) := fun w' hbw => by
    obtain ⟨lv, kv, hd⟩ := (h.below hbw).dm
    have h12 := hd.m.cells.2.2.2.2.1
    rw [hn] at h12
    exact h12
  have HRF : Hid (∀ (w1 w2 : World) (K1 : List Nat) (B : Nat) (o : Obj), w.heap.size ≤ B → w2.heap[B]? = some o → Next K K1 w2 w1 → w1.heap[B]? = some o) := fun w1 w2 K1 B o h1 h2 h3 => lo_row h.ref h1 h2 h3
  obtain ⟨i0, hi, hz0, hz1, hz2⟩ := info_parts info_i6411
  have HLE : Hid (x.l.length ≤ 144) := by have := hp.s16; rw [Hid]; omega
  rw [hlo] at HLO
  unfold loC at HLO
  simp only at HLO
  subst hth
  obtain ⟨R, rfl⟩ := h.ref.ptr
  unfold DDoes
  have HOS : Hid (∀ w, Calls Try.prog 38 #[.int .i64 (wordOf L la), .int .i64 ls] w fun e w' => e = .returned (.bool (overV (wordOf L la) ls)) ∧ w' = w) := HOR.out ls
  have HLS : Hid (∀ w, Calls Try.prog 39 #[.int .i64 (wordOf L la), .int .i64 ls] w fun e w' => e = .returned (.bool (laidV (wordOf L la) ls)) ∧ w' = w) := HLR.out ls
  clear HOR HLR
  have hcs : (hd0 = false) ∨ (hd0 = true ∧ overV (wordOf L la) ls = true) ∨ (hd0 = true ∧ overV (wordOf L la) ls = false ∧ me = false ∧ laidV (wordOf L la) ls = true) := by
    revert hwt
    cases hd0 <;> cases overV (wordOf L la) ls <;> cases me <;> cases laidV (wordOf L la) ls <;> simp
  have HBB : Hid (base ≤ w.heap.size) := hb
  obtain ⟨nl, HNL⟩ : ∃ nl, Hid (x.l.length = nl) := ⟨_, rfl⟩
  rw [HNL.out] at HLE
  obtain ⟨ak, ai, aj⟩ := la
  simp only at HLO HLD
  generalize overV (wordOf L ⟨ak, ai, aj⟩) ls = ov at *
  generalize laidV (wordOf L ⟨ak, ai, aj⟩) ls = ld at *
  generalize wordOf L ⟨ak, ai, aj⟩ = v at *
  generalize loadL c r L t ⟨ak, ai, aj⟩ = L' at *
  generalize slotV P.st P.s = sl at *
  clear h hp hg hbd hrs hn hwl hlen hlo had hv hwt
  rcases hcs with rfl | ⟨rfl, rfl⟩ | ⟨rfl, rfl, rfl, rfl⟩
  · go_enter Try.func16, Try.ntmps16
    go_wp2_with fail
    refine (HOV.out _ (Below.refl _ _)).mono ?_
    rintro e z1 ⟨rfl, hb1⟩
    have HB1 : Hid (Below w.heap.size w z1) := hb1
    clear hb1
    go_wp2_with fail
    refine (HLA.out _ HB1.out).mono ?_
    rintro e z2 ⟨rfl, hb2⟩
    have HB2 : Hid (Below w.heap.size w z2) := below_then HB1.out hb2
    clear hb2 HB1 HOV HLA
    obtain ⟨y0, y2⟩ := HYC.out _ HB2.out
    go_wp2_with fail
    go_quiet ((go_at_call 35; refine Calls.quiet_of_same (HSL.out _)))
    obtain ⟨z3, hz3⟩ : ∃ z3, z3 = z2.drewN nq := ⟨_, rfl⟩
    rw [← hz3]
    have HB3 : Hid (Below w.heap.size w z3) := by rw [Hid, hz3]; exact below_drawn HB2.out _
    clear hz3 HB2 y0 y2 HYC
    have y12 := HNC.out _ HB3.out
    go_wp2_with fail
    refine (HLO.out _ HB3.out).mono ?_
    rintro e z4 ⟨rfl, hb4⟩
    have HB4 : Hid (Below w.heap.size w (z4.alloc (.cells #[.bool false, .bool kn, .bool me, .bool false, .int .i64 ls, .int .i64 ak, .int .i64 ai, .int .i64 aj] 98))) := below_alloc (below_then HB3.out hb4) _
    have HS4 : Hid (w.heap.size ≤ z4.heap.size) := Nat.le_trans HB3.out.size hb4.size
    clear hb4 y12
    go_wp2_with fail
    refine (HLD.out _ HB4.out).mono ?_
    rintro e z5 ⟨rfl, K5, h5, hn5⟩
    have HJ5 : Hid (DJ z5 base (.pointer (some ⟨R, 0, none⟩)) c r L' K5 Y P mu x G) := h5
    have HN5 : Hid (Next (G ++ K) (G ++ K5) w z5) := (Next.of_below HB4.out (G ++ K)).trans (hn5.right (F := G))
    have HP5 : Hid (z5.heap[z4.heap.size]? = some (.cells #[.bool false, .bool kn, .bool me, .bool false, .int .i64 ls, .int .i64 ak, .int .i64 ai, .int .i64 aj] 98 (0, 0))) := HRF.out _ _ _ _ _ HS4.out (heap_alloc_new _ _) hn5
    clear h5 hn5
    have p2 : z5.cell? ⟨z4.heap.size, 2, none⟩ = some (.bool me) := by rw [cell_at HP5.out]; rfl
    have p3 : z5.cell? ⟨z4.heap.size, 3, none⟩ = some (.bool false) := by rw [cell_at HP5.out]; rfl
    have p4 : z5.cell? ⟨z4.heap.size, 4, none⟩ = some (.int .i64 ls) := by rw [cell_at HP5.out]; rfl
    go_wp2_with fail
    refine (HOS.out _).mono ?_
    rintro e z6 ⟨rfl, h6⟩
    obtain rfl : z5 = z6 := h6.symm
    go_wp2_with fail
    refine (HLS.out _).mono ?_
    rintro e z7 ⟨rfl, h7⟩
    obtain rfl : z5 = z7 := h7.symm
    obtain ⟨lv, kv, hdm⟩ := HJ5.out.dm
    have HDM : Hid (DM' z5 base Y P mu x G lv kv) := hdm
    obtain ⟨ka, kcap, rfl⟩ := own_slice hdm.ownL
    clear hdm
    have HOWN : Hid (z5.ownsRow base 2 1 (.slice ka nl kcap) nl (numD x.l)) := by have h := HDM.out.ownL; rw [HNL.out] at h; exact h
    have y13 : z5.cell? ⟨Y, 13, none⟩ = some (.slice ka nl kcap) := by have h := HDM.out.m.cells.2.2.2.2.2.1; rw [HNL.out] at h; exact h
    have yf : z5.frozen? ⟨Y, 13, none⟩ = false := frozen_at HDM.out.m 13
    have hY2 : Y < z5.heap.size := heap_lt HDM.out.m
    have hYv : (Value.slice ka nl kcap).ownBlock ≠ some Y := own_ne HOWN.out HDM.out.m (by decide)
    have hb5 : base ≤ z5.heap.size := Nat.le_trans HBB.out HN5.out.1.size
    have hll : (numD x.l).length = nl := by rw [← HNL.out]; simp [numD]
    have hle := HLE.out
    go_wp2_with (at_builtin; refine list_lies_wide _ rfl _ _ 60 rfl base 2 i0 _ 1 8 Try.underlying60 hi hz0 hz1 hz2 rfl (by decide) _ _ _ rfl (HOWN.out.alloc _) ⟨z5.heap.size, 0, none⟩ 1 1 [.int .i64 v] rfl rfl ?c1a ?c2a (by decide) ?c3a ?c4a ?c5a _ rfl ?_)
    case c1a => exact World.news_of_block (cs := #[.int .i64 v]) (t := 2) (fr := (0, 0)) (heap_alloc_new z5 _)
    case c2a => simp [Value.oneCell']
    case c3a => unfold maxLen; omega
    case c4a => omega
    case c5a => first | omega | (simp; omega)
    intro gg cap' w3 hown1 hgrow hat hlt
    have hs1 : w3.cell? ⟨Y, 13, none⟩ = some (.slice ka nl kcap) := by rw [hgrow.cell_far _ (by simp; omega) (Ne.symm hYv), World.cell?_alloc_past _ _ _ hY2]; exact y13
    have hs2 : w3.frozen? ⟨Y, 13, none⟩ = false := by rw [hgrow.frozen_far _ (by simp; omega) (Ne.symm hYv), World.frozen?_alloc_past _ _ _ hY2]; exact yf
    have HX3 : Hid (∃ G', DM (w3.setCell ⟨Y, 13, none⟩ (.slice (some ⟨gg, 0, none⟩) (nl + 1) cap')) base Y P mu ⟨x.n, x.l ++ [v], x.sn⟩ G' ∧ Next G G' z5 (w3.setCell ⟨Y, 13, none⟩ (.slice (some ⟨gg, 0, none⟩) (nl + 1) cap'))) :=
      dl_end HDM.out ((Keep.refl _ _).alloc _) HNL.out hown1 (by rw [HNL.out]; exact hgrow) (by rw [HNL.out]; rcases hat with e | e; exact Or.inl e; exact Or.inr (by omega))
    clear hown1 hgrow hat hlt y13 yf HOWN p2 p3 p4
    go_wp2_with fail
    generalize w3.setCell ⟨Y, 13, none⟩ (.slice (some ⟨gg, 0, none⟩) (nl + 1) cap') = w4 at *
    clear hs1 hs2
    obtain ⟨G4, hd4, hn4⟩ := HX3.out
    have HE : Hid (DJ w4 base (.pointer (some ⟨R, 0, none⟩)) c r L' K5 Y P mu ⟨x.n, x.l ++ [v], x.sn⟩ G4 ∧ Next (G ++ K) (G4 ++ K5) w w4) := ⟨HJ5.out.onDm hd4 hn4, HN5.out.trans hn4.left⟩
    clear hd4 hn4
    go_wp2
    go_ret
    exact ⟨rfl, K5, G4, HE.out⟩
  · go_enter Try.func16, Try.ntmps16
    go_wp2_with fail
    refine (HOV.out _ (Below.refl _ _)).mono ?_
    rintro e z1 ⟨rfl, hb1⟩
    have HB1 : Hid (Below w.heap.size w z1) := hb1
    clear hb1
    go_wp2_with fail
    refine (HLA.out _ HB1.out).mono ?_
    rintro e z2 ⟨rfl, hb2⟩
    have HB2 : Hid (Below w.heap.size w z2) := below_then HB1.out hb2
    clear hb2 HB1 HOV HLA
    obtain ⟨y0, y2⟩ := HYC.out _ HB2.out
    go_wp2_with fail
    go_quiet ((go_at_call 35; refine Calls.quiet_of_same (HSL.out _)))
    obtain ⟨z3, hz3⟩ : ∃ z3, z3 = z2.drewN nq := ⟨_, rfl⟩
    rw [← hz3]
    have HB3 : Hid (Below w.heap.size w z3) := by rw [Hid, hz3]; exact below_drawn HB2.out _
    clear hz3 HB2 y0 y2 HYC
    have y12 := HNC.out _ HB3.out
    go_wp2_with fail
    refine (HLO.out _ HB3.out).mono ?_
    rintro e z4 ⟨rfl, hb4⟩
    have HB4 : Hid (Below w.heap.size w (z4.alloc (.cells #[.bool false, .bool kn, .bool me, .bool true, .int .i64 ls, .int .i64 ak, .int .i64 ai, .int .i64 aj] 98))) := below_alloc (below_then HB3.out hb4) _
    have HS4 : Hid (w.heap.size ≤ z4.heap.size) := Nat.le_trans HB3.out.size hb4.size
    clear hb4 y12
    go_wp2_with fail
    refine (HLD.out _ HB4.out).mono ?_
    rintro e z5 ⟨rfl, K5, h5, hn5⟩
    have HJ5 : Hid (DJ z5 base (.pointer (some ⟨R, 0, none⟩)) c r L' K5 Y P mu x G) := h5
    have HN5 : Hid (Next (G ++ K) (G ++ K5) w z5) := (Next.of_below HB4.out (G ++ K)).trans (hn5.right (F := G))
    have HP5 : Hid (z5.heap[z4.heap.size]? = some (.cells #[.bool false, .bool kn, .bool me, .bool true, .int .i64 ls, .int .i64 ak, .int .i64 ai, .int .i64 aj] 98 (0, 0))) := HRF.out _ _ _ _ _ HS4.out (heap_alloc_new _ _) hn5
    clear h5 hn5
    have p2 : z5.cell? ⟨z4.heap.size, 2, none⟩ = some (.bool me) := by rw [cell_at HP5.out]; rfl
    have p3 : z5.cell? ⟨z4.heap.size, 3, none⟩ = some (.bool true) := by rw [cell_at HP5.out]; rfl
    have p4 : z5.cell? ⟨z4.heap.size, 4, none⟩ = some (.int .i64 ls) := by rw [cell_at HP5.out]; rfl
    go_wp2_with fail
    refine (HOS.out _).mono ?_
    rintro e z6 ⟨rfl, h6⟩
    obtain rfl : z5 = z6 := h6.symm
    go_wp2_with fail
    refine (HLS.out _).mono ?_
    rintro e z7 ⟨rfl, h7⟩
    obtain rfl : z5 = z7 := h7.symm
    obtain ⟨lv, kv, hdm⟩ := HJ5.out.dm
    have HDM : Hid (DM' z5 base Y P mu x G lv kv) := hdm
    obtain ⟨ka, kcap, rfl⟩ := own_slice hdm.ownL
    clear hdm
    have HOWN : Hid (z5.ownsRow base 2 1 (.slice ka nl kcap) nl (numD x.l)) := by have h := HDM.out.ownL; rw [HNL.out] at h; exact h
    have y13 : z5.cell? ⟨Y, 13, none⟩ = some (.slice ka nl kcap) := by have h := HDM.out.m.cells.2.2.2.2.2.1; rw [HNL.out] at h; exact h
    have yf : z5.frozen? ⟨Y, 13, none⟩ = false := frozen_at HDM.out.m 13
    have hY2 : Y < z5.heap.size := heap_lt HDM.out.m
    have hYv : (Value.slice ka nl kcap).ownBlock ≠ some Y := own_ne HOWN.out HDM.out.m (by decide)
    have hb5 : base ≤ z5.heap.size := Nat.le_trans HBB.out HN5.out.1.size
    have hll : (numD x.l).length = nl := by rw [← HNL.out]; simp [numD]
    have hle := HLE.out
    go_wp2_with (at_builtin; refine list_lies_wide _ rfl _ _ 60 rfl base 2 i0 _ 1 8 Try.underlying60 hi hz0 hz1 hz2 rfl (by decide) _ _ _ rfl (HOWN.out.alloc _) ⟨z5.heap.size, 0, none⟩ 1 1 [.int .i64 v] rfl rfl ?c1b ?c2b (by decide) ?c3b ?c4b ?c5b _ rfl ?_)
    case c1b => exact World.news_of_block (cs := #[.int .i64 v]) (t := 2) (fr := (0, 0)) (heap_alloc_new z5 _)
    case c2b => simp [Value.oneCell']
    case c3b => unfold maxLen; omega
    case c4b => omega
    case c5b => first | omega | (simp; omega)
    intro gg cap' w3 hown1 hgrow hat hlt
    have hs1 : w3.cell? ⟨Y, 13, none⟩ = some (.slice ka nl kcap) := by rw [hgrow.cell_far _ (by simp; omega) (Ne.symm hYv), World.cell?_alloc_past _ _ _ hY2]; exact y13
    have hs2 : w3.frozen? ⟨Y, 13, none⟩ = false := by rw [hgrow.frozen_far _ (by simp; omega) (Ne.symm hYv), World.frozen?_alloc_past _ _ _ hY2]; exact yf
    have HX3 : Hid (∃ G', DM (w3.setCell ⟨Y, 13, none⟩ (.slice (some ⟨gg, 0, none⟩) (nl + 1) cap')) base Y P mu ⟨x.n, x.l ++ [v], x.sn⟩ G' ∧ Next G G' z5 (w3.setCell ⟨Y, 13, none⟩ (.slice (some ⟨gg, 0, none⟩) (nl + 1) cap'))) :=
      dl_end HDM.out ((Keep.refl _ _).alloc _) HNL.out hown1 (by rw [HNL.out]; exact hgrow) (by rw [HNL.out]; rcases hat with e | e; exact Or.inl e; exact Or.inr (by omega))
    clear hown1 hgrow hat hlt y13 yf HOWN p2 p3 p4
    go_wp2_with fail
    generalize w3.setCell ⟨Y, 13, none⟩ (.slice (some ⟨gg, 0, none⟩) (nl + 1) cap') = w4 at *
    clear hs1 hs2
    obtain ⟨G4, hd4, hn4⟩ := HX3.out
    have HE : Hid (DJ w4 base (.pointer (some ⟨R, 0, none⟩)) c r L' K5 Y P mu ⟨x.n, x.l ++ [v], x.sn⟩ G4 ∧ Next (G ++ K) (G4 ++ K5) w w4) := ⟨HJ5.out.onDm hd4 hn4, HN5.out.trans hn4.left⟩
    clear hd4 hn4
    go_wp2
    go_ret
    exact ⟨rfl, K5, G4, HE.out⟩
  · go_enter Try.func16, Try.ntmps16
    go_wp2_with fail
    refine (HOV.out _ (Below.refl _ _)).mono ?_
    rintro e z1 ⟨rfl, hb1⟩
    have HB1 : Hid (Below w.heap.size w z1) := hb1
    clear hb1
    go_wp2_with fail
    refine (HLA.out _ HB1.out).mono ?_
    rintro e z2 ⟨rfl, hb2⟩
    have HB2 : Hid (Below w.heap.size w z2) := below_then HB1.out hb2
    clear hb2 HB1 HOV HLA
    obtain ⟨y0, y2⟩ := HYC.out _ HB2.out
    go_wp2_with fail
    go_quiet ((go_at_call 35; refine Calls.quiet_of_same (HSL.out _)))
    obtain ⟨z3, hz3⟩ : ∃ z3, z3 = z2.drewN nq := ⟨_, rfl⟩
    rw [← hz3]
    have HB3 : Hid (Below w.heap.size w z3) := by rw [Hid, hz3]; exact below_drawn HB2.out _
    clear hz3 HB2 y0 y2 HYC
    have y12 := HNC.out _ HB3.out
    go_wp2_with fail
    refine (HLO.out _ HB3.out).mono ?_
    rintro e z4 ⟨rfl, hb4⟩
    have HB4 : Hid (Below w.heap.size w (z4.alloc (.cells #[.bool false, .bool kn, .bool false, .bool true, .int .i64 ls, .int .i64 ak, .int .i64 ai, .int .i64 aj] 98))) := below_alloc (below_then HB3.out hb4) _
    have HS4 : Hid (w.heap.size ≤ z4.heap.size) := Nat.le_trans HB3.out.size hb4.size
    clear hb4 y12
    go_wp2_with fail
    refine (HLD.out _ HB4.out).mono ?_
    rintro e z5 ⟨rfl, K5, h5, hn5⟩
    have HJ5 : Hid (DJ z5 base (.pointer (some ⟨R, 0, none⟩)) c r L' K5 Y P mu x G) := h5
    have HN5 : Hid (Next (G ++ K) (G ++ K5) w z5) := (Next.of_below HB4.out (G ++ K)).trans (hn5.right (F := G))
    have HP5 : Hid (z5.heap[z4.heap.size]? = some (.cells #[.bool false, .bool kn, .bool false, .bool true, .int .i64 ls, .int .i64 ak, .int .i64 ai, .int .i64 aj] 98 (0, 0))) := HRF.out _ _ _ _ _ HS4.out (heap_alloc_new _ _) hn5
    clear h5 hn5
    have p2 : z5.cell? ⟨z4.heap.size, 2, none⟩ = some (.bool false) := by rw [cell_at HP5.out]; rfl
    have p3 : z5.cell? ⟨z4.heap.size, 3, none⟩ = some (.bool true) := by rw [cell_at HP5.out]; rfl
    have p4 : z5.cell? ⟨z4.heap.size, 4, none⟩ = some (.int .i64 ls) := by rw [cell_at HP5.out]; rfl
    go_wp2_with fail
    refine (HOS.out _).mono ?_
    rintro e z6 ⟨rfl, h6⟩
    obtain rfl : z5 = z6 := h6.symm
    go_wp2_with fail
    refine (HLS.out _).mono ?_
    rintro e z7 ⟨rfl, h7⟩
    obtain rfl : z5 = z7 := h7.symm
    obtain ⟨lv, kv, hdm⟩ := HJ5.out.dm
    have HDM : Hid (DM' z5 base Y P mu x G lv kv) := hdm
    obtain ⟨ka, kcap, rfl⟩ := own_slice hdm.ownL
    clear hdm
    have HOWN : Hid (z5.ownsRow base 2 1 (.slice ka nl kcap) nl (numD x.l)) := by have h := HDM.out.ownL; rw [HNL.out] at h; exact h
    have y13 : z5.cell? ⟨Y, 13, none⟩ = some (.slice ka nl kcap) := by have h := HDM.out.m.cells.2.2.2.2.2.1; rw [HNL.out] at h; exact h
    have yf : z5.frozen? ⟨Y, 13, none⟩ = false := frozen_at HDM.out.m 13
    have hY2 : Y < z5.heap.size := heap_lt HDM.out.m
    have hYv : (Value.slice ka nl kcap).ownBlock ≠ some Y := own_ne HOWN.out HDM.out.m (by decide)
    have hb5 : base ≤ z5.heap.size := Nat.le_trans HBB.out HN5.out.1.size
    have hll : (numD x.l).length = nl := by rw [← HNL.out]; simp [numD]
    have hle := HLE.out
    go_wp2_with (at_builtin; refine list_lies_wide _ rfl _ _ 60 rfl base 2 i0 _ 1 8 Try.underlying60 hi hz0 hz1 hz2 rfl (by decide) _ _ _ rfl (HOWN.out.alloc _) ⟨z5.heap.size, 0, none⟩ 1 1 [.int .i64 v] rfl rfl ?c1c ?c2c (by decide) ?c3c ?c4c ?c5c _ rfl ?_)
    case c1c => exact World.news_of_block (cs := #[.int .i64 v]) (t := 2) (fr := (0, 0)) (heap_alloc_new z5 _)
    case c2c => simp [Value.oneCell']
    case c3c => unfold maxLen; omega
    case c4c => omega
    case c5c => first | omega | (simp; omega)
    intro gg cap' w3 hown1 hgrow hat hlt
    have hs1 : w3.cell? ⟨Y, 13, none⟩ = some (.slice ka nl kcap) := by rw [hgrow.cell_far _ (by simp; omega) (Ne.symm hYv), World.cell?_alloc_past _ _ _ hY2]; exact y13
    have hs2 : w3.frozen? ⟨Y, 13, none⟩ = false := by rw [hgrow.frozen_far _ (by simp; omega) (Ne.symm hYv), World.frozen?_alloc_past _ _ _ hY2]; exact yf
    have HX3 : Hid (∃ G', DM (w3.setCell ⟨Y, 13, none⟩ (.slice (some ⟨gg, 0, none⟩) (nl + 1) cap')) base Y P mu ⟨x.n, x.l ++ [v], x.sn⟩ G' ∧ Next G G' z5 (w3.setCell ⟨Y, 13, none⟩ (.slice (some ⟨gg, 0, none⟩) (nl + 1) cap'))) :=
      dl_end HDM.out ((Keep.refl _ _).alloc _) HNL.out hown1 (by rw [HNL.out]; exact hgrow) (by rw [HNL.out]; rcases hat with e | e; exact Or.inl e; exact Or.inr (by omega))
    clear hown1 hgrow hat hlt y13 yf HOWN p2 p3 p4
    go_wp2_with fail
    generalize w3.setCell ⟨Y, 13, none⟩ (.slice (some ⟨gg, 0, none⟩) (nl + 1) cap') = w4 at *
    clear hs1 hs2
    obtain ⟨G4, hd4, hn4⟩ := HX3.out
    have HE : Hid (DJ w4 base (.pointer (some ⟨R, 0, none⟩)) c r L' K5 Y P mu ⟨x.n, x.l ++ [v], x.sn⟩ G4 ∧ Next (G ++ K) (G4 ++ K5) w w4) := ⟨HJ5.out.onDm hd4 hn4, HN5.out.trans hn4.left⟩
    clear hd4 hn4
    go_wp2
    go_ret
    exact ⟨rfl, K5, G4, HE.out⟩
end Go.Proofs.Ytbmmicfdnfpcaaa
/- The document's machine of layer 11: Step, behind its looking back. -/
namespace Go.Proofs.Ytbmmicfdnfpcaaa
open Go.ChangeShapes Go.WideShapes Go.ChangeAt Go.RowKit
attribute [local go_sem ↓] Go.wp_at_zero Go.wp_at_succ

set_option maxRecDepth 100000 in
set_option maxHeartbeats 6400000 in
theorem dstep_write {w : World} {base : Nat} {q : Value} {c r : Nat} {L : List Ac} {K : List Nat} {Y : Nat} {P : Bp} {mu : Bool} {x : Dc} {G : List Nat} {kk : Bool} (h : DJ w base q c r L K Y P mu x G) (hp : BpOk P) (hb : base ≤ w.heap.size) (hL : L.length < 3298534883328) (hg : goD c r P x = true) (hrs : r = P.s) (hwl : ∀ v ∈ x.l, W64 v) (hlen : x.l.length ≤ 9 * P.s) (hlo : lkD P mu x.l = loT kk) {j : Nat} (hj : j < P.W.length) (hn : x.n = 9 + j) (hcl : 0 ≤ (P.W.getD j noWt).c ∧ (P.W.getD j noWt).c < (c : Int)) (t : Int) : DDoes w base q c r K Y P mu G t 2 (storeL c r L t ⟨4, (P.W.getD j noWt).c, 0⟩ (P.W.getD j noWt).v) ⟨x.n + 1, x.l, x.sn⟩ := by
  have HOV : Hid (∀ w', Below w.heap.size w w' → Calls Try.prog 33 #[.pointer (some ⟨Y, 0, none⟩)] w' fun e w'' => e = .returned (.bool false) ∧ Below w'.heap.size w' w'') := fun w' hb => by
    obtain ⟨lv, kv, hd⟩ := (h.below hb).dm
    have := dover_any hd hp.len
    rw [decide_eq_false (goD_iff.mp hg).1] at this
    exact this
  have HLA : Hid (∀ w', Below w.heap.size w w' → Calls Try.prog 34 #[.pointer (some ⟨Y, 0, none⟩), q] w' fun e w'' => e = .returned (.bool false) ∧ Below w'.heap.size w' w'') := fun w' hb => by
    obtain ⟨lv, kv, hd⟩ := (h.below hb).dm
    have := dlacks_any hd (h.below hb).ref hp.len
    rw [(goD_iff.mp hg).2, Bool.not_true] at this
    exact this
  have HSL : Hid (∀ w, Calls Try.prog 35 #[.int .i64 P.st, .int .i64 (P.s : Int)] w fun e w' => e = .returned (.int .i64 (slotV P.st P.s)) ∧ w' = w) := fun w => rslot_any P.st P.s w
  have HJW : Hid (∀ w', Below w.heap.size w w' → DJ w' base q c r L K Y P mu x G) := fun w' hb => h.below hb
  have hbd := slotB_bd hp P.st
  have HBG : Hid (1 ≤ P.st ∧ P.st ≤ 1099511627776 ∧ 1 ≤ P.s ∧ P.s ≤ 16 ∧ P.W.length ≤ 24) := ⟨hp.st1, hp.st2, hp.s1, hp.s16, hp.len⟩
  have HLO : Hid (∀ w', Below w.heap.size w w' → Calls Try.prog 36 #[.pointer (some ⟨Y, 0, none⟩)] w' fun e w'' => e = .returned (.agg #[.bool true, .bool kk, .bool false, .bool false, .int .i64 0, .int .i64 0, .int .i64 0, .int .i64 0]) ∧ Below w'.heap.size w' w'') := fun w' hbw => by
    obtain ⟨lv, kv, hd⟩ := (h.below hbw).dm
    have := looks_any hd hp hwl hlen
    rw [hlo] at this
    exact this
  have HYC : Hid (∀ w', Below w.heap.size w w' → w'.cell? ⟨Y, 0, none⟩ = some (.int .i64 (P.s : Int)) ∧ w'.cell? ⟨Y, 2, none⟩ = some (.int .i64 P.st)) := dj_yc h
  have HRF : Hid (∀ (w1 w2 : World) (K1 : List Nat) (B : Nat) (o : Obj), w.heap.size ≤ B → w2.heap[B]? = some o → Next K K1 w2 w1 → w1.heap[B]? = some o) := fun w1 w2 K1 B o h1 h2 h3 => lo_row h.ref h1 h2 h3
  have HNC : Hid (∃ la lcap, ∀ w', Below w.heap.size w w' → w'.cell? ⟨Y, 12, none⟩ = some (.int .i64 (x.n : Int)) ∧ w'.cell? ⟨Y, 3, none⟩ = some (.slice (some ⟨la, 0, none⟩) P.W.length lcap) ∧ w'.cell? ⟨la, j * 2, none⟩ = some (.int .i64 (P.W.getD j noWt).c) ∧ w'.cell? ⟨la, j * 2 + 1, none⟩ = some (.int .i64 (P.W.getD j noWt).v) ∧ la < w'.heap.size) := by
    obtain ⟨lv, kv, hd⟩ := h.dm
    obtain ⟨la, lcap, rfl, -⟩ := hd.ownW.form (by omega)
    exact ⟨la, lcap, fun w' hbw => by
      have hm := hd.m.below hbw (heap_lt hd.m)
      have ho := own_keep hd.ownW (Keep.of_below hbw []) (fun _ _ => by simp)
      have hc := own_wr ho j hj
      exact ⟨hm.cells.2.2.2.2.1, hm.cells.2.2.2.1, hc.1, hc.2, World.block_lt_of_cell? _ _ hc.1⟩⟩
  have HRS : Hid (r = P.s) := hrs
  have HST : Hid (∀ w', Below w.heap.size w w' → Calls Try.prog 14 #[q, .int .i64 t, .agg #[.int .i64 4, .int .i64 (P.W.getD j noWt).c, .int .i64 0], .int .i64 (P.W.getD j noWt).v] w' fun e w'' => e = .returned (.int .i64 0) ∧ ∃ K', DJ w'' base q c r (storeL c r L t ⟨4, (P.W.getD j noWt).c, 0⟩ (P.W.getD j noWt).v) K' Y P mu x G ∧ Next K K' w' w'') := fun w' hbw => dj_store (h.below hbw) (Nat.le_trans hb hbw.size) hL t ⟨4, (P.W.getD j noWt).c, 0⟩ _ (by simp [isAd]; exact hcl)
  have HEND : Hid (∀ w1 K1 L1, DJ w1 base q c r L1 K1 Y P mu x G → Next (G ++ K) (G ++ K1) w w1 → DJ (w1.setCell ⟨Y, 12, none⟩ (.int .i64 ((x.n : Int) + 1))) base q c r L1 K1 Y P mu ⟨x.n + 1, x.l, x.sn⟩ G ∧ Next (G ++ K) (G ++ K1) w (w1.setCell ⟨Y, 12, none⟩ (.int .i64 ((x.n : Int) + 1)))) := fun w1 K1 L1 h1 h2 => h1.set (x' := ⟨x.n + 1, x.l, x.sn⟩) h2 rfl 12 _ (fun lv kv hd => by have := hd.m.set12 ((x.n : Int) + 1); simpa using this)
  have HCC : Hid (∀ w1 K1 L1, DJ w1 base q c r L1 K1 Y P mu x G → w1.cell? ⟨Y, 12, none⟩ = some (.int .i64 (x.n : Int)) ∧ w1.frozen? ⟨Y, 12, none⟩ = false ∧ Y < w1.heap.size) := fun w1 K1 L1 h1 => by
    obtain ⟨lv, kv, hd⟩ := h1.dm
    exact ⟨hd.m.cells.2.2.2.2.1, frozen_at hd.m 12, heap_lt hd.m⟩
  obtain ⟨R, rfl⟩ := h.ref.ptr
  unfold DDoes
  have hml := hp.len
  have k1 : ¬ (x.n : Int) < 8 := by omega
  have k2 : ((x.n : Int) == 8) = false := by simp; omega
  have k3 : (x.n : Int) < (P.W.length : Int) + 9 := by omega
  have k4 : IntKind.i64.wrap ((P.W.length : Int) + 9) = (P.W.length : Int) + 9 := by rw [IntKind.wrap_i64]; omega
  have k5 : IntKind.i64.wrap ((x.n : Int) - 9) = (j : Int) := by rw [IntKind.wrap_i64]; omega
  have k6 : wrap64 ((x.n : Int) + 1) = (x.n : Int) + 1 := by unfold wrap64; omega
  have k7 : (j : Int) < (P.W.length : Int) := Int.ofNat_lt.mpr hj
  generalize (⟨x.n + 1, x.l, x.sn⟩ : Dc) = x' at *
  generalize (x.n : Int) = nv at *
  generalize storeL c r L t ⟨4, (P.W.getD j noWt).c, 0⟩ (P.W.getD j noWt).v = L' at *
  generalize slotV P.st P.s = sl at *
  generalize P.W.getD j noWt = xw at *
  obtain ⟨wc0, wv0⟩ := xw
  simp only at HST HNC
  generalize P.W.length = m at *
  clear h hp hg hbd hrs hwl hlen hlo hn hj hcl hml
  go_enter Try.func16, Try.ntmps16
  go_wp2_with fail
  refine (HOV.out _ (Below.refl _ _)).mono ?_
  rintro e z1 ⟨rfl, hb1⟩
  have HB1 : Hid (Below w.heap.size w z1) := hb1
  clear hb1
  go_wp2_with fail
  refine (HLA.out _ HB1.out).mono ?_
  rintro e z2 ⟨rfl, hb2⟩
  have HB2 : Hid (Below w.heap.size w z2) := below_then HB1.out hb2
  clear hb2 HB1 HOV HLA
  obtain ⟨y0, y2⟩ := HYC.out _ HB2.out
  go_wp2_with fail
  go_quiet ((go_at_call 35; refine Calls.quiet_of_same (HSL.out _)))
  obtain ⟨z3, hz3⟩ : ∃ z3, z3 = z2.drewN nq := ⟨_, rfl⟩
  rw [← hz3]
  have HB3 : Hid (Below w.heap.size w z3) := by rw [Hid, hz3]; exact below_drawn HB2.out _
  clear hz3 HB2 y0 y2 HYC
  obtain ⟨la, lcap, hyy⟩ := HNC.out
  obtain ⟨y12, y3, l0, l1, hla⟩ := hyy _ HB3.out
  go_wp2_with fail
  refine (HLO.out _ HB3.out).mono ?_
  rintro e z4 ⟨rfl, hb4⟩
  have HB4 : Hid (Below w.heap.size w (z4.alloc (.cells #[.bool true, .bool kk, .bool false, .bool false, .int .i64 0, .int .i64 0, .int .i64 0, .int .i64 0] 98))) := below_alloc (below_then HB3.out hb4) _
  have HS4 : Hid (w.heap.size ≤ z4.heap.size) := Nat.le_trans HB3.out.size hb4.size
  have hpc : (z4.alloc (.cells #[.bool true, .bool kk, .bool false, .bool false, .int .i64 0, .int .i64 0, .int .i64 0, .int .i64 0] 98)).heap[z4.heap.size]? = some (.cells #[.bool true, .bool kk, .bool false, .bool false, .int .i64 0, .int .i64 0, .int .i64 0, .int .i64 0] 98 (0, 0)) := heap_alloc_new _ _
  have HPC : Hid ((z4.alloc (.cells #[.bool true, .bool kk, .bool false, .bool false, .int .i64 0, .int .i64 0, .int .i64 0, .int .i64 0] 98)).heap[z4.heap.size]? = some (.cells #[.bool true, .bool kk, .bool false, .bool false, .int .i64 0, .int .i64 0, .int .i64 0, .int .i64 0] 98 (0, 0))) := hpc
  clear hb4 y12 y3 l0 l1 hla hpc
  go_upto_region 23 with fail
  obtain ⟨z5, hz5⟩ : ∃ z5, z5 = z4.alloc (.cells #[.bool true, .bool kk, .bool false, .bool false, .int .i64 0, .int .i64 0, .int .i64 0, .int .i64 0] 98) := ⟨_, rfl⟩
  rw [← hz5] at HB4 HPC ⊢
  clear hz5
  obtain ⟨y12, y3, l0, l1, hla⟩ := hyy _ HB4.out
  go_quiet (fail)
  obtain ⟨z6, hz6⟩ : ∃ z6, z6 = z5.drewN nq := ⟨_, rfl⟩
  rw [← hz6]
  have HB6 : Hid (Below w.heap.size w z6) := by rw [Hid, hz6]; exact below_drawn HB4.out _
  have HP6 : Hid (z6.heap[z4.heap.size]? = some (.cells #[.bool true, .bool kk, .bool false, .bool false, .int .i64 0, .int .i64 0, .int .i64 0, .int .i64 0] 98 (0, 0))) := by rw [Hid, hz6]; exact HPC.out
  clear hz6 y12 y3 l0 l1 hla HB4 HPC HB3
  obtain ⟨y12, y3, l0, l1, hla⟩ := hyy _ HB6.out
  clear k1 k2 k4
  have hY6 : Y < z6.heap.size := World.block_lt_of_cell? _ _ y12
  go_wp2_with fail
  go_region
  all_goals
    have HBX : Hid (Below w.heap.size w ((z6.alloc (.cells #[.int .i64 wc0, .int .i64 wv0] 36)).drew)) := below_drawn (below_alloc HB6.out _) 1
    clear y12 y3 l0 l1 hla
    go_wp2_with fail
    refine (HST.out _ HBX.out).mono ?_
    rintro e z7 ⟨rfl, K7, h7, hn7⟩
    have HJ7 : Hid (DJ z7 base (.pointer (some ⟨R, 0, none⟩)) c r L' K7 Y P mu x G) := h7
    have HN7 : Hid (Next (G ++ K) (G ++ K7) w z7) := (Next.of_below HBX.out (G ++ K)).trans (hn7.right (F := G))
    clear h7 hn7
    obtain ⟨y12, yf, hY⟩ := HCC.out _ _ _ HJ7.out
    have HFF : Hid (DJ (z7.setCell ⟨Y, 12, none⟩ (.int .i64 (nv + 1))) base (.pointer (some ⟨R, 0, none⟩)) c r L' K7 Y P mu x' G ∧ Next (G ++ K) (G ++ K7) w (z7.setCell ⟨Y, 12, none⟩ (.int .i64 (nv + 1)))) := HEND.out _ _ _ HJ7.out HN7.out
    go_wp2
    go_ret
    exact ⟨rfl, K7, G, HFF.out⟩
set_option maxRecDepth 100000 in
set_option maxHeartbeats 6400000 in
theorem dstep_seen {w : World} {base : Nat} {q : Value} {c r : Nat} {L : List Ac} {K : List Nat} {Y : Nat} {P : Bp} {mu : Bool} {x : Dc} {G : List Nat} {kk : Bool} (h : DJ w base q c r L K Y P mu x G) (hp : BpOk P) (hb : base ≤ w.heap.size) (hL : L.length < 3298534883328) (hg : goD c r P x = true) (hrs : r = P.s) (hwl : ∀ v ∈ x.l, W64 v) (hlen : x.l.length ≤ 9 * P.s) (hlo : lkD P mu x.l = loT kk) (hkk : kk = false) (hn : x.n = P.W.length + 9) (hsn : x.sn = false) (hv : W64 (wordOf L ⟨2, slotV (P.st - 1) P.s, 0⟩)) (hov : overV (wordOf L ⟨2, slotV (P.st - 1) P.s, 0⟩) (P.st - 1) = true) (t : Int) : DDoes w base q c r K Y P mu G t 2 (loadL c r L t ⟨2, slotV (P.st - 1) P.s, 0⟩) ⟨x.n, x.l, true⟩ := by
  have HOV : Hid (∀ w', Below w.heap.size w w' → Calls Try.prog 33 #[.pointer (some ⟨Y, 0, none⟩)] w' fun e w'' => e = .returned (.bool false) ∧ Below w'.heap.size w' w'') := fun w' hb => by
    obtain ⟨lv, kv, hd⟩ := (h.below hb).dm
    have := dover_any hd hp.len
    rw [decide_eq_false (goD_iff.mp hg).1] at this
    exact this
  have HLA : Hid (∀ w', Below w.heap.size w w' → Calls Try.prog 34 #[.pointer (some ⟨Y, 0, none⟩), q] w' fun e w'' => e = .returned (.bool false) ∧ Below w'.heap.size w' w'') := fun w' hb => by
    obtain ⟨lv, kv, hd⟩ := (h.below hb).dm
    have := dlacks_any hd (h.below hb).ref hp.len
    rw [(goD_iff.mp hg).2, Bool.not_true] at this
    exact this
  have HSL : Hid (∀ w, Calls Try.prog 35 #[.int .i64 P.st, .int .i64 (P.s : Int)] w fun e w' => e = .returned (.int .i64 (slotV P.st P.s)) ∧ w' = w) := fun w => rslot_any P.st P.s w
  have HJW : Hid (∀ w', Below w.heap.size w w' → DJ w' base q c r L K Y P mu x G) := fun w' hb => h.below hb
  have hbd := slotB_bd hp P.st
  have HBG : Hid (1 ≤ P.st ∧ P.st ≤ 1099511627776 ∧ 1 ≤ P.s ∧ P.s ≤ 16 ∧ P.W.length ≤ 24) := ⟨hp.st1, hp.st2, hp.s1, hp.s16, hp.len⟩
  have HLO : Hid (∀ w', Below w.heap.size w w' → Calls Try.prog 36 #[.pointer (some ⟨Y, 0, none⟩)] w' fun e w'' => e = .returned (.agg #[.bool true, .bool kk, .bool false, .bool false, .int .i64 0, .int .i64 0, .int .i64 0, .int .i64 0]) ∧ Below w'.heap.size w' w'') := fun w' hbw => by
    obtain ⟨lv, kv, hd⟩ := (h.below hbw).dm
    have := looks_any hd hp hwl hlen
    rw [hlo] at this
    exact this
  have HYC : Hid (∀ w', Below w.heap.size w w' → w'.cell? ⟨Y, 0, none⟩ = some (.int .i64 (P.s : Int)) ∧ w'.cell? ⟨Y, 2, none⟩ = some (.int .i64 P.st)) := dj_yc h
  have HRF : Hid (∀ (w1 w2 : World) (K1 : List Nat) (B : Nat) (o : Obj), w.heap.size ≤ B → w2.heap[B]? = some o → Next K K1 w2 w1 → w1.heap[B]? = some o) := fun w1 w2 K1 B o h1 h2 h3 => lo_row h.ref h1 h2 h3
  subst hkk
  have HNC : Hid (∃ la lcap, ∀ w', Below w.heap.size w w' → w'.cell? ⟨Y, 12, none⟩ = some (.int .i64 (x.n : Int)) ∧ w'.cell? ⟨Y, 3, none⟩ = some (.slice la P.W.length lcap)) := by
    obtain ⟨lv, kv, hd⟩ := h.dm
    obtain ⟨la, lcap, rfl⟩ := own_slice hd.ownW
    exact ⟨la, lcap, fun w' hbw => by
      have hm := hd.m.below hbw (heap_lt hd.m)
      exact ⟨hm.cells.2.2.2.2.1, hm.cells.2.2.2.1⟩⟩
  have hbd2 := slotB_bd hp (P.st - 1)
  have HLD : Hid (∀ w', Below w.heap.size w w' → Calls Try.prog 37 #[q, .int .i64 t, .agg #[.int .i64 2, .int .i64 (slotV (P.st - 1) P.s), .int .i64 0]] w' fun e w'' => e = .returned (.tuple #[.int .i64 (wordOf L ⟨2, slotV (P.st - 1) P.s, 0⟩), .int .i64 0]) ∧ ∃ K', DJ w'' base q c r (loadL c r L t ⟨2, slotV (P.st - 1) P.s, 0⟩) K' Y P mu x G ∧ Next K K' w' w'') := fun w' hbw => dj_load (h.below hbw) (Nat.le_trans hb hbw.size) hL t _ (by subst hrs; simp [isAd, hbd2])
  have HOR : Hid (∀ w, Calls Try.prog 38 #[.int .i64 (wordOf L ⟨2, slotV (P.st - 1) P.s, 0⟩), .int .i64 (P.st - 1)] w fun e w' => e = .returned (.bool true) ∧ w' = w) := fun w => by rw [← hov]; exact rover_any _ _ hv.1 hv.2 w
  have HSL2 : Hid (∀ w, Calls Try.prog 35 #[.int .i64 (P.st - 1), .int .i64 (P.s : Int)] w fun e w' => e = .returned (.int .i64 (slotV (P.st - 1) P.s)) ∧ w' = w) := fun w => rslot_any (P.st - 1) P.s w
  have HSN : Hid (∀ w', Below w.heap.size w w' → w'.cell? ⟨Y, 14, none⟩ = some (.bool false) ∧ w'.cell? ⟨Y, 0, none⟩ = some (.int .i64 (P.s : Int)) ∧ w'.cell? ⟨Y, 2, none⟩ = some (.int .i64 P.st)) := fun w' hbw => by
    obtain ⟨lv, kv, hd⟩ := (h.below hbw).dm
    have h14 := hd.m.cells.2.2.2.2.2.2
    rw [hsn] at h14
    exact ⟨h14, hd.m.cells.1, hd.m.cells.2.2.1⟩
  have HEND : Hid (∀ w1 K1 L1, DJ w1 base q c r L1 K1 Y P mu x G → Next (G ++ K) (G ++ K1) w w1 → DJ (w1.setCell ⟨Y, 14, none⟩ (.bool true)) base q c r L1 K1 Y P mu ⟨x.n, x.l, true⟩ G ∧ Next (G ++ K) (G ++ K1) w (w1.setCell ⟨Y, 14, none⟩ (.bool true))) := fun w1 K1 L1 h1 h2 => h1.set (x' := ⟨x.n, x.l, true⟩) h2 rfl 14 _ (fun lv kv hd => hd.m.set14 true)
  have HCC : Hid (∀ w1 K1 L1, DJ w1 base q c r L1 K1 Y P mu x G → w1.cell? ⟨Y, 14, none⟩ = some (.bool false) ∧ w1.frozen? ⟨Y, 14, none⟩ = false ∧ Y < w1.heap.size ∧ w1.cell? ⟨Y, 2, none⟩ = some (.int .i64 P.st)) := fun w1 K1 L1 h1 => by
    obtain ⟨lv, kv, hd⟩ := h1.dm
    have h14 := hd.m.cells.2.2.2.2.2.2
    rw [hsn] at h14
    exact ⟨h14, frozen_at hd.m 14, heap_lt hd.m, hd.m.cells.2.2.1⟩
  obtain ⟨R, rfl⟩ := h.ref.ptr
  unfold DDoes
  have hml := hp.len
  have k1 : ¬ (x.n : Int) < 8 := by omega
  have k2 : ((x.n : Int) == 8) = false := by simp; omega
  have k3 : ¬ (x.n : Int) < (P.W.length : Int) + 9 := by omega
  have k4 : IntKind.i64.wrap ((P.W.length : Int) + 9) = (P.W.length : Int) + 9 := by rw [IntKind.wrap_i64]; omega
  have k5 : IntKind.i64.wrap (P.st - 1) = P.st - 1 := by have := HBG.out; rw [IntKind.wrap_i64]; omega
  have k6 : wrap64 (P.st - 1) = P.st - 1 := by have := HBG.out; unfold wrap64; omega
  generalize (⟨x.n, x.l, true⟩ : Dc) = x' at *
  generalize (x.n : Int) = nv at *
  generalize loadL c r L t ⟨2, slotV (P.st - 1) P.s, 0⟩ = L' at *
  generalize wordOf L ⟨2, slotV (P.st - 1) P.s, 0⟩ = v at *
  generalize slotV P.st P.s = sl at *
  generalize slotV (P.st - 1) P.s = sl2 at *
  generalize P.W.length = m at *
  clear h hp hg hbd hrs hwl hlen hlo hn hsn hv hov hml hbd2
  go_enter Try.func16, Try.ntmps16
  go_wp2_with fail
  refine (HOV.out _ (Below.refl _ _)).mono ?_
  rintro e z1 ⟨rfl, hb1⟩
  have HB1 : Hid (Below w.heap.size w z1) := hb1
  clear hb1
  go_wp2_with fail
  refine (HLA.out _ HB1.out).mono ?_
  rintro e z2 ⟨rfl, hb2⟩
  have HB2 : Hid (Below w.heap.size w z2) := below_then HB1.out hb2
  clear hb2 HB1 HOV HLA
  obtain ⟨y0, y2⟩ := HYC.out _ HB2.out
  go_wp2_with fail
  go_quiet ((go_at_call 35; refine Calls.quiet_of_same (HSL.out _)))
  obtain ⟨z3, hz3⟩ : ∃ z3, z3 = z2.drewN nq := ⟨_, rfl⟩
  rw [← hz3]
  have HB3 : Hid (Below w.heap.size w z3) := by rw [Hid, hz3]; exact below_drawn HB2.out _
  clear hz3 HB2 y0 y2 HYC
  obtain ⟨la, lcap, hyy⟩ := HNC.out
  obtain ⟨y12, y3⟩ := hyy _ HB3.out
  go_wp2_with fail
  refine (HLO.out _ HB3.out).mono ?_
  rintro e z4 ⟨rfl, hb4⟩
  have HB4 : Hid (Below w.heap.size w (z4.alloc (.cells #[.bool true, .bool false, .bool false, .bool false, .int .i64 0, .int .i64 0, .int .i64 0, .int .i64 0] 98))) := below_alloc (below_then HB3.out hb4) _
  have HS4 : Hid (w.heap.size ≤ z4.heap.size) := Nat.le_trans HB3.out.size hb4.size
  have hpc : (z4.alloc (.cells #[.bool true, .bool false, .bool false, .bool false, .int .i64 0, .int .i64 0, .int .i64 0, .int .i64 0] 98)).heap[z4.heap.size]? = some (.cells #[.bool true, .bool false, .bool false, .bool false, .int .i64 0, .int .i64 0, .int .i64 0, .int .i64 0] 98 (0, 0)) := heap_alloc_new _ _
  have HPC : Hid ((z4.alloc (.cells #[.bool true, .bool false, .bool false, .bool false, .int .i64 0, .int .i64 0, .int .i64 0, .int .i64 0] 98)).heap[z4.heap.size]? = some (.cells #[.bool true, .bool false, .bool false, .bool false, .int .i64 0, .int .i64 0, .int .i64 0, .int .i64 0] 98 (0, 0))) := hpc
  clear hb4 y12 y3 hpc
  go_upto_region 23 with fail
  obtain ⟨z5, hz5⟩ : ∃ z5, z5 = z4.alloc (.cells #[.bool true, .bool false, .bool false, .bool false, .int .i64 0, .int .i64 0, .int .i64 0, .int .i64 0] 98) := ⟨_, rfl⟩
  rw [← hz5] at HB4 HPC ⊢
  clear hz5
  obtain ⟨y12, y3⟩ := hyy _ HB4.out
  go_quiet (fail)
  obtain ⟨z6, hz6⟩ : ∃ z6, z6 = z5.drewN nq := ⟨_, rfl⟩
  rw [← hz6]
  have HB6 : Hid (Below w.heap.size w z6) := by rw [Hid, hz6]; exact below_drawn HB4.out _
  have HP6 : Hid (z6.heap[z4.heap.size]? = some (.cells #[.bool true, .bool false, .bool false, .bool false, .int .i64 0, .int .i64 0, .int .i64 0, .int .i64 0] 98 (0, 0))) := by rw [Hid, hz6]; exact HPC.out
  clear hz6 y12 y3 HB4 HPC HB3
  obtain ⟨y12, y3⟩ := hyy _ HB6.out
  clear k1 k2 k4
  obtain ⟨y14, y0, y2⟩ := HSN.out _ HB6.out
  have p1 : z6.cell? ⟨z4.heap.size, 1, none⟩ = some (.bool false) := by rw [cell_at HP6.out]; rfl
  go_wp2_with fail
  go_quiet ((go_at_call 35; refine Calls.quiet_of_same (HSL2.out _)))
  obtain ⟨z8, hz8⟩ : ∃ z8, z8 = z6.drewN nq := ⟨_, rfl⟩
  rw [← hz8]
  have HB8 : Hid (Below w.heap.size w z8) := by rw [Hid, hz8]; exact below_drawn HB6.out _
  clear hz8 y12 y3 y14 y0 y2 p1 HB6 HP6
  go_wp2_with fail
  refine (HLD.out _ HB8.out).mono ?_
  rintro e z9 ⟨rfl, K9, h9, hn9⟩
  have HJ9 : Hid (DJ z9 base (.pointer (some ⟨R, 0, none⟩)) c r L' K9 Y P mu x G) := h9
  have HN9 : Hid (Next (G ++ K) (G ++ K9) w z9) := (Next.of_below HB8.out (G ++ K)).trans (hn9.right (F := G))
  clear h9 hn9
  obtain ⟨y14, yf, hY, y2⟩ := HCC.out _ _ _ HJ9.out
  have HFF : Hid (DJ (z9.setCell ⟨Y, 14, none⟩ (.bool true)) base (.pointer (some ⟨R, 0, none⟩)) c r L' K9 Y P mu x' G ∧ Next (G ++ K) (G ++ K9) w (z9.setCell ⟨Y, 14, none⟩ (.bool true))) := HEND.out _ _ _ HJ9.out HN9.out
  go_wp2_with fail
  refine (HOR.out _).mono ?_
  rintro e z10 ⟨rfl, h10⟩
  obtain rfl : z9 = z10 := h10.symm
  go_wp2
  go_ret
  exact ⟨rfl, K9, G, HFF.out⟩
set_option maxRecDepth 100000 in
set_option maxHeartbeats 6400000 in
theorem dstep_unseen {w : World} {base : Nat} {q : Value} {c r : Nat} {L : List Ac} {K : List Nat} {Y : Nat} {P : Bp} {mu : Bool} {x : Dc} {G : List Nat} {kk : Bool} (h : DJ w base q c r L K Y P mu x G) (hp : BpOk P) (hb : base ≤ w.heap.size) (hL : L.length < 3298534883328) (hg : goD c r P x = true) (hrs : r = P.s) (hwl : ∀ v ∈ x.l, W64 v) (hlen : x.l.length ≤ 9 * P.s) (hlo : lkD P mu x.l = loT kk) (hkk : kk = false) (hn : x.n = P.W.length + 9) (hsn : x.sn = false) (hv : W64 (wordOf L ⟨2, slotV (P.st - 1) P.s, 0⟩)) (hov : overV (wordOf L ⟨2, slotV (P.st - 1) P.s, 0⟩) (P.st - 1) = false) (t : Int) : DDoes w base q c r K Y P mu G t 1 (loadL c r L t ⟨2, slotV (P.st - 1) P.s, 0⟩) ⟨x.n, x.l, false⟩ := by
  have HOV : Hid (∀ w', Below w.heap.size w w' → Calls Try.prog 33 #[.pointer (some ⟨Y, 0, none⟩)] w' fun e w'' => e = .returned (.bool false) ∧ Below w'.heap.size w' w'') := fun w' hb => by
    obtain ⟨lv, kv, hd⟩ := (h.below hb).dm
    have := dover_any hd hp.len
    rw [decide_eq_false (goD_iff.mp hg).1] at this
    exact this
  have HLA : Hid (∀ w', Below w.heap.size w w' → Calls Try.prog 34 #[.pointer (some ⟨Y, 0, none⟩), q] w' fun e w'' => e = .returned (.bool false) ∧ Below w'.heap.size w' w'') := fun w' hb => by
    obtain ⟨lv, kv, hd⟩ := (h.below hb).dm
    have := dlacks_any hd (h.below hb).ref hp.len
    rw [(goD_iff.mp hg).2, Bool.not_true] at this
    exact this
  have HSL : Hid (∀ w, Calls Try.prog 35 #[.int .i64 P.st, .int .i64 (P.s : Int)] w fun e w' => e = .returned (.int .i64 (slotV P.st P.s)) ∧ w' = w) := fun w => rslot_any P.st P.s w
  have HJW : Hid (∀ w', Below w.heap.size w w' → DJ w' base q c r L K Y P mu x G) := fun w' hb => h.below hb
  have hbd := slotB_bd hp P.st
  have HBG : Hid (1 ≤ P.st ∧ P.st ≤ 1099511627776 ∧ 1 ≤ P.s ∧ P.s ≤ 16 ∧ P.W.length ≤ 24) := ⟨hp.st1, hp.st2, hp.s1, hp.s16, hp.len⟩
  have HLO : Hid (∀ w', Below w.heap.size w w' → Calls Try.prog 36 #[.pointer (some ⟨Y, 0, none⟩)] w' fun e w'' => e = .returned (.agg #[.bool true, .bool kk, .bool false, .bool false, .int .i64 0, .int .i64 0, .int .i64 0, .int .i64 0]) ∧ Below w'.heap.size w' w'') := fun w' hbw => by
    obtain ⟨lv, kv, hd⟩ := (h.below hbw).dm
    have := looks_any hd hp hwl hlen
    rw [hlo] at this
    exact this
  have HYC : Hid (∀ w', Below w.heap.size w w' → w'.cell? ⟨Y, 0, none⟩ = some (.int .i64 (P.s : Int)) ∧ w'.cell? ⟨Y, 2, none⟩ = some (.int .i64 P.st)) := dj_yc h
  have HRF : Hid (∀ (w1 w2 : World) (K1 : List Nat) (B : Nat) (o : Obj), w.heap.size ≤ B → w2.heap[B]? = some o → Next K K1 w2 w1 → w1.heap[B]? = some o) := fun w1 w2 K1 B o h1 h2 h3 => lo_row h.ref h1 h2 h3
  subst hkk
  have HNC : Hid (∃ la lcap, ∀ w', Below w.heap.size w w' → w'.cell? ⟨Y, 12, none⟩ = some (.int .i64 (x.n : Int)) ∧ w'.cell? ⟨Y, 3, none⟩ = some (.slice la P.W.length lcap)) := by
    obtain ⟨lv, kv, hd⟩ := h.dm
    obtain ⟨la, lcap, rfl⟩ := own_slice hd.ownW
    exact ⟨la, lcap, fun w' hbw => by
      have hm := hd.m.below hbw (heap_lt hd.m)
      exact ⟨hm.cells.2.2.2.2.1, hm.cells.2.2.2.1⟩⟩
  have hbd2 := slotB_bd hp (P.st - 1)
  have HLD : Hid (∀ w', Below w.heap.size w w' → Calls Try.prog 37 #[q, .int .i64 t, .agg #[.int .i64 2, .int .i64 (slotV (P.st - 1) P.s), .int .i64 0]] w' fun e w'' => e = .returned (.tuple #[.int .i64 (wordOf L ⟨2, slotV (P.st - 1) P.s, 0⟩), .int .i64 0]) ∧ ∃ K', DJ w'' base q c r (loadL c r L t ⟨2, slotV (P.st - 1) P.s, 0⟩) K' Y P mu x G ∧ Next K K' w' w'') := fun w' hbw => dj_load (h.below hbw) (Nat.le_trans hb hbw.size) hL t _ (by subst hrs; simp [isAd, hbd2])
  have HOR : Hid (∀ w, Calls Try.prog 38 #[.int .i64 (wordOf L ⟨2, slotV (P.st - 1) P.s, 0⟩), .int .i64 (P.st - 1)] w fun e w' => e = .returned (.bool false) ∧ w' = w) := fun w => by rw [← hov]; exact rover_any _ _ hv.1 hv.2 w
  have HSL2 : Hid (∀ w, Calls Try.prog 35 #[.int .i64 (P.st - 1), .int .i64 (P.s : Int)] w fun e w' => e = .returned (.int .i64 (slotV (P.st - 1) P.s)) ∧ w' = w) := fun w => rslot_any (P.st - 1) P.s w
  have HSN : Hid (∀ w', Below w.heap.size w w' → w'.cell? ⟨Y, 14, none⟩ = some (.bool false) ∧ w'.cell? ⟨Y, 0, none⟩ = some (.int .i64 (P.s : Int)) ∧ w'.cell? ⟨Y, 2, none⟩ = some (.int .i64 P.st)) := fun w' hbw => by
    obtain ⟨lv, kv, hd⟩ := (h.below hbw).dm
    have h14 := hd.m.cells.2.2.2.2.2.2
    rw [hsn] at h14
    exact ⟨h14, hd.m.cells.1, hd.m.cells.2.2.1⟩
  have HEND : Hid (∀ w1 K1 L1, DJ w1 base q c r L1 K1 Y P mu x G → Next (G ++ K) (G ++ K1) w w1 → DJ (w1.setCell ⟨Y, 14, none⟩ (.bool false)) base q c r L1 K1 Y P mu ⟨x.n, x.l, false⟩ G ∧ Next (G ++ K) (G ++ K1) w (w1.setCell ⟨Y, 14, none⟩ (.bool false))) := fun w1 K1 L1 h1 h2 => h1.set (x' := ⟨x.n, x.l, false⟩) h2 rfl 14 _ (fun lv kv hd => hd.m.set14 false)
  have HCC : Hid (∀ w1 K1 L1, DJ w1 base q c r L1 K1 Y P mu x G → w1.cell? ⟨Y, 14, none⟩ = some (.bool false) ∧ w1.frozen? ⟨Y, 14, none⟩ = false ∧ Y < w1.heap.size ∧ w1.cell? ⟨Y, 2, none⟩ = some (.int .i64 P.st)) := fun w1 K1 L1 h1 => by
    obtain ⟨lv, kv, hd⟩ := h1.dm
    have h14 := hd.m.cells.2.2.2.2.2.2
    rw [hsn] at h14
    exact ⟨h14, frozen_at hd.m 14, heap_lt hd.m, hd.m.cells.2.2.1⟩
  obtain ⟨R, rfl⟩ := h.ref.ptr
  unfold DDoes
  have hml := hp.len
  have k1 : ¬ (x.n : Int) < 8 := by omega
  have k2 : ((x.n : Int) == 8) = false := by simp; omega
  have k3 : ¬ (x.n : Int) < (P.W.length : Int) + 9 := by omega
  have k4 : IntKind.i64.wrap ((P.W.length : Int) + 9) = (P.W.length : Int) + 9 := by rw [IntKind.wrap_i64]; omega
  have k5 : IntKind.i64.wrap (P.st - 1) = P.st - 1 := by have := HBG.out; rw [IntKind.wrap_i64]; omega
  have k6 : wrap64 (P.st - 1) = P.st - 1 := by have := HBG.out; unfold wrap64; omega
  generalize (⟨x.n, x.l, false⟩ : Dc) = x' at *
  generalize (x.n : Int) = nv at *
  generalize loadL c r L t ⟨2, slotV (P.st - 1) P.s, 0⟩ = L' at *
  generalize wordOf L ⟨2, slotV (P.st - 1) P.s, 0⟩ = v at *
  generalize slotV P.st P.s = sl at *
  generalize slotV (P.st - 1) P.s = sl2 at *
  generalize P.W.length = m at *
  clear h hp hg hbd hrs hwl hlen hlo hn hsn hv hov hml hbd2
  go_enter Try.func16, Try.ntmps16
  go_wp2_with fail
  refine (HOV.out _ (Below.refl _ _)).mono ?_
  rintro e z1 ⟨rfl, hb1⟩
  have HB1 : Hid (Below w.heap.size w z1) := hb1
  clear hb1
  go_wp2_with fail
  refine (HLA.out _ HB1.out).mono ?_
  rintro e z2 ⟨rfl, hb2⟩
  have HB2 : Hid (Below w.heap.size w z2) := below_then HB1.out hb2
  clear hb2 HB1 HOV HLA
  obtain ⟨y0, y2⟩ := HYC.out _ HB2.out
  go_wp2_with fail
  go_quiet ((go_at_call 35; refine Calls.quiet_of_same (HSL.out _)))
  obtain ⟨z3, hz3⟩ : ∃ z3, z3 = z2.drewN nq := ⟨_, rfl⟩
  rw [← hz3]
  have HB3 : Hid (Below w.heap.size w z3) := by rw [Hid, hz3]; exact below_drawn HB2.out _
  clear hz3 HB2 y0 y2 HYC
  obtain ⟨la, lcap, hyy⟩ := HNC.out
  obtain ⟨y12, y3⟩ := hyy _ HB3.out
  go_wp2_with fail
  refine (HLO.out _ HB3.out).mono ?_
  rintro e z4 ⟨rfl, hb4⟩
  have HB4 : Hid (Below w.heap.size w (z4.alloc (.cells #[.bool true, .bool false, .bool false, .bool false, .int .i64 0, .int .i64 0, .int .i64 0, .int .i64 0] 98))) := below_alloc (below_then HB3.out hb4) _
  have HS4 : Hid (w.heap.size ≤ z4.heap.size) := Nat.le_trans HB3.out.size hb4.size
  have hpc : (z4.alloc (.cells #[.bool true, .bool false, .bool false, .bool false, .int .i64 0, .int .i64 0, .int .i64 0, .int .i64 0] 98)).heap[z4.heap.size]? = some (.cells #[.bool true, .bool false, .bool false, .bool false, .int .i64 0, .int .i64 0, .int .i64 0, .int .i64 0] 98 (0, 0)) := heap_alloc_new _ _
  have HPC : Hid ((z4.alloc (.cells #[.bool true, .bool false, .bool false, .bool false, .int .i64 0, .int .i64 0, .int .i64 0, .int .i64 0] 98)).heap[z4.heap.size]? = some (.cells #[.bool true, .bool false, .bool false, .bool false, .int .i64 0, .int .i64 0, .int .i64 0, .int .i64 0] 98 (0, 0))) := hpc
  clear hb4 y12 y3 hpc
  go_upto_region 23 with fail
  obtain ⟨z5, hz5⟩ : ∃ z5, z5 = z4.alloc (.cells #[.bool true, .bool false, .bool false, .bool false, .int .i64 0, .int .i64 0, .int .i64 0, .int .i64 0] 98) := ⟨_, rfl⟩
  rw [← hz5] at HB4 HPC ⊢
  clear hz5
  obtain ⟨y12, y3⟩ := hyy _ HB4.out
  go_quiet (fail)
  obtain ⟨z6, hz6⟩ : ∃ z6, z6 = z5.drewN nq := ⟨_, rfl⟩
  rw [← hz6]
  have HB6 : Hid (Below w.heap.size w z6) := by rw [Hid, hz6]; exact below_drawn HB4.out _
  have HP6 : Hid (z6.heap[z4.heap.size]? = some (.cells #[.bool true, .bool false, .bool false, .bool false, .int .i64 0, .int .i64 0, .int .i64 0, .int .i64 0] 98 (0, 0))) := by rw [Hid, hz6]; exact HPC.out
  clear hz6 y12 y3 HB4 HPC HB3
  obtain ⟨y12, y3⟩ := hyy _ HB6.out
  clear k1 k2 k4
  obtain ⟨y14, y0, y2⟩ := HSN.out _ HB6.out
  have p1 : z6.cell? ⟨z4.heap.size, 1, none⟩ = some (.bool false) := by rw [cell_at HP6.out]; rfl
  go_wp2_with fail
  go_quiet ((go_at_call 35; refine Calls.quiet_of_same (HSL2.out _)))
  obtain ⟨z8, hz8⟩ : ∃ z8, z8 = z6.drewN nq := ⟨_, rfl⟩
  rw [← hz8]
  have HB8 : Hid (Below w.heap.size w z8) := by rw [Hid, hz8]; exact below_drawn HB6.out _
  clear hz8 y12 y3 y14 y0 y2 p1 HB6 HP6
  go_wp2_with fail
  refine (HLD.out _ HB8.out).mono ?_
  rintro e z9 ⟨rfl, K9, h9, hn9⟩
  have HJ9 : Hid (DJ z9 base (.pointer (some ⟨R, 0, none⟩)) c r L' K9 Y P mu x G) := h9
  have HN9 : Hid (Next (G ++ K) (G ++ K9) w z9) := (Next.of_below HB8.out (G ++ K)).trans (hn9.right (F := G))
  clear h9 hn9
  obtain ⟨y14, yf, hY, y2⟩ := HCC.out _ _ _ HJ9.out
  have HFF : Hid (DJ (z9.setCell ⟨Y, 14, none⟩ (.bool false)) base (.pointer (some ⟨R, 0, none⟩)) c r L' K9 Y P mu x' G ∧ Next (G ++ K) (G ++ K9) w (z9.setCell ⟨Y, 14, none⟩ (.bool false))) := HEND.out _ _ _ HJ9.out HN9.out
  go_wp2_with fail
  refine (HOR.out _).mono ?_
  rintro e z10 ⟨rfl, h10⟩
  obtain rfl : z9 = z10 := h10.symm
  go_wp2
  go_ret
  exact ⟨rfl, K9, G, HFF.out⟩
set_option maxRecDepth 100000 in
set_option maxHeartbeats 6400000 in
theorem dstep_done {w : World} {base : Nat} {q : Value} {c r : Nat} {L : List Ac} {K : List Nat} {Y : Nat} {P : Bp} {mu : Bool} {x : Dc} {G : List Nat} {kk : Bool} (h : DJ w base q c r L K Y P mu x G) (hp : BpOk P) (hb : base ≤ w.heap.size) (hL : L.length < 3298534883328) (hg : goD c r P x = true) (hrs : r = P.s) (hwl : ∀ v ∈ x.l, W64 v) (hlen : x.l.length ≤ 9 * P.s) (hlo : lkD P mu x.l = loT kk) (hn : x.n = P.W.length + 9) (hks : (kk || x.sn) = true) (t : Int) : DDoes w base q c r K Y P mu G t 3 (storeL c r L t ⟨2, slotV P.st P.s, 0⟩ (2 * P.st + 1)) ⟨x.n + 1, x.l, x.sn⟩ := by
  have HOV : Hid (∀ w', Below w.heap.size w w' → Calls Try.prog 33 #[.pointer (some ⟨Y, 0, none⟩)] w' fun e w'' => e = .returned (.bool false) ∧ Below w'.heap.size w' w'') := fun w' hb => by
    obtain ⟨lv, kv, hd⟩ := (h.below hb).dm
    have := dover_any hd hp.len
    rw [decide_eq_false (goD_iff.mp hg).1] at this
    exact this
  have HLA : Hid (∀ w', Below w.heap.size w w' → Calls Try.prog 34 #[.pointer (some ⟨Y, 0, none⟩), q] w' fun e w'' => e = .returned (.bool false) ∧ Below w'.heap.size w' w'') := fun w' hb => by
    obtain ⟨lv, kv, hd⟩ := (h.below hb).dm
    have := dlacks_any hd (h.below hb).ref hp.len
    rw [(goD_iff.mp hg).2, Bool.not_true] at this
    exact this
  have HSL : Hid (∀ w, Calls Try.prog 35 #[.int .i64 P.st, .int .i64 (P.s : Int)] w fun e w' => e = .returned (.int .i64 (slotV P.st P.s)) ∧ w' = w) := fun w => rslot_any P.st P.s w
  have HJW : Hid (∀ w', Below w.heap.size w w' → DJ w' base q c r L K Y P mu x G) := fun w' hb => h.below hb
  have hbd := slotB_bd hp P.st
  have HBG : Hid (1 ≤ P.st ∧ P.st ≤ 1099511627776 ∧ 1 ≤ P.s ∧ P.s ≤ 16 ∧ P.W.length ≤ 24) := ⟨hp.st1, hp.st2, hp.s1, hp.s16, hp.len⟩
  have HLO : Hid (∀ w', Below w.heap.size w w' → Calls Try.prog 36 #[.pointer (some ⟨Y, 0, none⟩)] w' fun e w'' => e = .returned (.agg #[.bool true, .bool kk, .bool false, .bool false, .int .i64 0, .int .i64 0, .int .i64 0, .int .i64 0]) ∧ Below w'.heap.size w' w'') := fun w' hbw => by
    obtain ⟨lv, kv, hd⟩ := (h.below hbw).dm
    have := looks_any hd hp hwl hlen
    rw [hlo] at this
    exact this
  have HYC : Hid (∀ w', Below w.heap.size w w' → w'.cell? ⟨Y, 0, none⟩ = some (.int .i64 (P.s : Int)) ∧ w'.cell? ⟨Y, 2, none⟩ = some (.int .i64 P.st)) := dj_yc h
  have HRF : Hid (∀ (w1 w2 : World) (K1 : List Nat) (B : Nat) (o : Obj), w.heap.size ≤ B → w2.heap[B]? = some o → Next K K1 w2 w1 → w1.heap[B]? = some o) := fun w1 w2 K1 B o h1 h2 h3 => lo_row h.ref h1 h2 h3
  have HNC : Hid (∃ la lcap, ∀ w', Below w.heap.size w w' → w'.cell? ⟨Y, 12, none⟩ = some (.int .i64 (x.n : Int)) ∧ w'.cell? ⟨Y, 3, none⟩ = some (.slice la P.W.length lcap)) := by
    obtain ⟨lv, kv, hd⟩ := h.dm
    obtain ⟨la, lcap, rfl⟩ := own_slice hd.ownW
    exact ⟨la, lcap, fun w' hbw => by
      have hm := hd.m.below hbw (heap_lt hd.m)
      exact ⟨hm.cells.2.2.2.2.1, hm.cells.2.2.2.1⟩⟩
  have HST : Hid (∀ w', Below w.heap.size w w' → Calls Try.prog 14 #[q, .int .i64 t, .agg #[.int .i64 2, .int .i64 (slotV P.st P.s), .int .i64 0], .int .i64 (2 * P.st + 1)] w' fun e w'' => e = .returned (.int .i64 0) ∧ ∃ K', DJ w'' base q c r (storeL c r L t ⟨2, slotV P.st P.s, 0⟩ (2 * P.st + 1)) K' Y P mu x G ∧ Next K K' w' w'') := fun w' hbw => dj_store (h.below hbw) (Nat.le_trans hb hbw.size) hL t ⟨2, slotV P.st P.s, 0⟩ _ (by subst hrs; simp [isAd, hbd])
  have HHD : Hid (∀ w, Calls Try.prog 40 #[.int .i64 P.st, .bool true] w fun e w' => e = .returned (.int .i64 (2 * P.st + 1)) ∧ w' = w) := fun w => by
    have := rhead_any P.st true w
    rw [headV_is hp true] at this
    exact this
  have HSN : Hid (∀ w', Below w.heap.size w w' → w'.cell? ⟨Y, 14, none⟩ = some (.bool x.sn) ∧ w'.cell? ⟨Y, 2, none⟩ = some (.int .i64 P.st)) := fun w' hbw => by
    obtain ⟨lv, kv, hd⟩ := (h.below hbw).dm
    exact ⟨hd.m.cells.2.2.2.2.2.2, hd.m.cells.2.2.1⟩
  have HEND : Hid (∀ w1 K1 L1, DJ w1 base q c r L1 K1 Y P mu x G → Next (G ++ K) (G ++ K1) w w1 → DJ (w1.setCell ⟨Y, 12, none⟩ (.int .i64 ((x.n : Int) + 1))) base q c r L1 K1 Y P mu ⟨x.n + 1, x.l, x.sn⟩ G ∧ Next (G ++ K) (G ++ K1) w (w1.setCell ⟨Y, 12, none⟩ (.int .i64 ((x.n : Int) + 1)))) := fun w1 K1 L1 h1 h2 => h1.set (x' := ⟨x.n + 1, x.l, x.sn⟩) h2 rfl 12 _ (fun lv kv hd => by have := hd.m.set12 ((x.n : Int) + 1); simpa using this)
  have HCC : Hid (∀ w1 K1 L1, DJ w1 base q c r L1 K1 Y P mu x G → w1.cell? ⟨Y, 12, none⟩ = some (.int .i64 (x.n : Int)) ∧ w1.frozen? ⟨Y, 12, none⟩ = false ∧ Y < w1.heap.size) := fun w1 K1 L1 h1 => by
    obtain ⟨lv, kv, hd⟩ := h1.dm
    exact ⟨hd.m.cells.2.2.2.2.1, frozen_at hd.m 12, heap_lt hd.m⟩
  obtain ⟨R, rfl⟩ := h.ref.ptr
  unfold DDoes
  have hml := hp.len
  have k1 : ¬ (x.n : Int) < 8 := by omega
  have k2 : ((x.n : Int) == 8) = false := by simp; omega
  have k3 : ¬ (x.n : Int) < (P.W.length : Int) + 9 := by omega
  have k4 : IntKind.i64.wrap ((P.W.length : Int) + 9) = (P.W.length : Int) + 9 := by rw [IntKind.wrap_i64]; omega
  have k6 : wrap64 ((x.n : Int) + 1) = (x.n : Int) + 1 := by unfold wrap64; omega
  have hcs : kk = true ∨ (kk = false ∧ x.sn = true) := by
    revert hks
    cases kk <;> cases x.sn <;> simp
  generalize (⟨x.n + 1, x.l, x.sn⟩ : Dc) = x' at *
  generalize (x.n : Int) = nv at *
  generalize storeL c r L t ⟨2, slotV P.st P.s, 0⟩ (2 * P.st + 1) = L' at *
  generalize slotV P.st P.s = sl at *
  generalize P.W.length = m at *
  generalize x.sn = sn at *
  clear h hp hg hbd hrs hwl hlen hlo hn hml hks
  rcases hcs with rfl | ⟨rfl, rfl⟩
  · go_enter Try.func16, Try.ntmps16
    go_wp2_with fail
    refine (HOV.out _ (Below.refl _ _)).mono ?_
    rintro e z1 ⟨rfl, hb1⟩
    have HB1 : Hid (Below w.heap.size w z1) := hb1
    clear hb1
    go_wp2_with fail
    refine (HLA.out _ HB1.out).mono ?_
    rintro e z2 ⟨rfl, hb2⟩
    have HB2 : Hid (Below w.heap.size w z2) := below_then HB1.out hb2
    clear hb2 HB1 HOV HLA
    obtain ⟨y0, y2⟩ := HYC.out _ HB2.out
    go_wp2_with fail
    go_quiet ((go_at_call 35; refine Calls.quiet_of_same (HSL.out _)))
    obtain ⟨z3, hz3⟩ : ∃ z3, z3 = z2.drewN nq := ⟨_, rfl⟩
    rw [← hz3]
    have HB3 : Hid (Below w.heap.size w z3) := by rw [Hid, hz3]; exact below_drawn HB2.out _
    clear hz3 HB2 y0 y2 HYC
    obtain ⟨la, lcap, hyy⟩ := HNC.out
    obtain ⟨y12, y3⟩ := hyy _ HB3.out
    go_wp2_with fail
    refine (HLO.out _ HB3.out).mono ?_
    rintro e z4 ⟨rfl, hb4⟩
    have HB4 : Hid (Below w.heap.size w (z4.alloc (.cells #[.bool true, .bool true, .bool false, .bool false, .int .i64 0, .int .i64 0, .int .i64 0, .int .i64 0] 98))) := below_alloc (below_then HB3.out hb4) _
    have HS4 : Hid (w.heap.size ≤ z4.heap.size) := Nat.le_trans HB3.out.size hb4.size
    have hpc : (z4.alloc (.cells #[.bool true, .bool true, .bool false, .bool false, .int .i64 0, .int .i64 0, .int .i64 0, .int .i64 0] 98)).heap[z4.heap.size]? = some (.cells #[.bool true, .bool true, .bool false, .bool false, .int .i64 0, .int .i64 0, .int .i64 0, .int .i64 0] 98 (0, 0)) := heap_alloc_new _ _
    have HPC : Hid ((z4.alloc (.cells #[.bool true, .bool true, .bool false, .bool false, .int .i64 0, .int .i64 0, .int .i64 0, .int .i64 0] 98)).heap[z4.heap.size]? = some (.cells #[.bool true, .bool true, .bool false, .bool false, .int .i64 0, .int .i64 0, .int .i64 0, .int .i64 0] 98 (0, 0))) := hpc
    clear hb4 y12 y3 hpc
    go_upto_region 23 with fail
    obtain ⟨z5, hz5⟩ : ∃ z5, z5 = z4.alloc (.cells #[.bool true, .bool true, .bool false, .bool false, .int .i64 0, .int .i64 0, .int .i64 0, .int .i64 0] 98) := ⟨_, rfl⟩
    rw [← hz5] at HB4 HPC ⊢
    clear hz5
    obtain ⟨y12, y3⟩ := hyy _ HB4.out
    go_quiet (fail)
    obtain ⟨z6, hz6⟩ : ∃ z6, z6 = z5.drewN nq := ⟨_, rfl⟩
    rw [← hz6]
    have HB6 : Hid (Below w.heap.size w z6) := by rw [Hid, hz6]; exact below_drawn HB4.out _
    have HP6 : Hid (z6.heap[z4.heap.size]? = some (.cells #[.bool true, .bool true, .bool false, .bool false, .int .i64 0, .int .i64 0, .int .i64 0, .int .i64 0] 98 (0, 0))) := by rw [Hid, hz6]; exact HPC.out
    clear hz6 y12 y3 HB4 HPC HB3
    obtain ⟨y12, y3⟩ := hyy _ HB6.out
    clear k1 k2 k4
    obtain ⟨y14, y2⟩ := HSN.out _ HB6.out
    have p1 : z6.cell? ⟨z4.heap.size, 1, none⟩ = some (.bool true) := by rw [cell_at HP6.out]; rfl
    go_wp2_with fail
    refine (HHD.out _).mono ?_
    rintro e z8 ⟨rfl, h8⟩
    obtain rfl : z6 = z8 := h8.symm
    clear p1 y14 y2 y12 y3 HP6
    go_wp2_with fail
    refine (HST.out _ HB6.out).mono ?_
    rintro e z7 ⟨rfl, K7, h7, hn7⟩
    have HJ7 : Hid (DJ z7 base (.pointer (some ⟨R, 0, none⟩)) c r L' K7 Y P mu x G) := h7
    have HN7 : Hid (Next (G ++ K) (G ++ K7) w z7) := (Next.of_below HB6.out (G ++ K)).trans (hn7.right (F := G))
    clear h7 hn7
    obtain ⟨y12, yf, hY⟩ := HCC.out _ _ _ HJ7.out
    have HFF : Hid (DJ (z7.setCell ⟨Y, 12, none⟩ (.int .i64 (nv + 1))) base (.pointer (some ⟨R, 0, none⟩)) c r L' K7 Y P mu x' G ∧ Next (G ++ K) (G ++ K7) w (z7.setCell ⟨Y, 12, none⟩ (.int .i64 (nv + 1)))) := HEND.out _ _ _ HJ7.out HN7.out
    go_wp2
    go_ret
    exact ⟨rfl, K7, G, HFF.out⟩
  · go_enter Try.func16, Try.ntmps16
    go_wp2_with fail
    refine (HOV.out _ (Below.refl _ _)).mono ?_
    rintro e z1 ⟨rfl, hb1⟩
    have HB1 : Hid (Below w.heap.size w z1) := hb1
    clear hb1
    go_wp2_with fail
    refine (HLA.out _ HB1.out).mono ?_
    rintro e z2 ⟨rfl, hb2⟩
    have HB2 : Hid (Below w.heap.size w z2) := below_then HB1.out hb2
    clear hb2 HB1 HOV HLA
    obtain ⟨y0, y2⟩ := HYC.out _ HB2.out
    go_wp2_with fail
    go_quiet ((go_at_call 35; refine Calls.quiet_of_same (HSL.out _)))
    obtain ⟨z3, hz3⟩ : ∃ z3, z3 = z2.drewN nq := ⟨_, rfl⟩
    rw [← hz3]
    have HB3 : Hid (Below w.heap.size w z3) := by rw [Hid, hz3]; exact below_drawn HB2.out _
    clear hz3 HB2 y0 y2 HYC
    obtain ⟨la, lcap, hyy⟩ := HNC.out
    obtain ⟨y12, y3⟩ := hyy _ HB3.out
    go_wp2_with fail
    refine (HLO.out _ HB3.out).mono ?_
    rintro e z4 ⟨rfl, hb4⟩
    have HB4 : Hid (Below w.heap.size w (z4.alloc (.cells #[.bool true, .bool false, .bool false, .bool false, .int .i64 0, .int .i64 0, .int .i64 0, .int .i64 0] 98))) := below_alloc (below_then HB3.out hb4) _
    have HS4 : Hid (w.heap.size ≤ z4.heap.size) := Nat.le_trans HB3.out.size hb4.size
    have hpc : (z4.alloc (.cells #[.bool true, .bool false, .bool false, .bool false, .int .i64 0, .int .i64 0, .int .i64 0, .int .i64 0] 98)).heap[z4.heap.size]? = some (.cells #[.bool true, .bool false, .bool false, .bool false, .int .i64 0, .int .i64 0, .int .i64 0, .int .i64 0] 98 (0, 0)) := heap_alloc_new _ _
    have HPC : Hid ((z4.alloc (.cells #[.bool true, .bool false, .bool false, .bool false, .int .i64 0, .int .i64 0, .int .i64 0, .int .i64 0] 98)).heap[z4.heap.size]? = some (.cells #[.bool true, .bool false, .bool false, .bool false, .int .i64 0, .int .i64 0, .int .i64 0, .int .i64 0] 98 (0, 0))) := hpc
    clear hb4 y12 y3 hpc
    go_upto_region 23 with fail
    obtain ⟨z5, hz5⟩ : ∃ z5, z5 = z4.alloc (.cells #[.bool true, .bool false, .bool false, .bool false, .int .i64 0, .int .i64 0, .int .i64 0, .int .i64 0] 98) := ⟨_, rfl⟩
    rw [← hz5] at HB4 HPC ⊢
    clear hz5
    obtain ⟨y12, y3⟩ := hyy _ HB4.out
    go_quiet (fail)
    obtain ⟨z6, hz6⟩ : ∃ z6, z6 = z5.drewN nq := ⟨_, rfl⟩
    rw [← hz6]
    have HB6 : Hid (Below w.heap.size w z6) := by rw [Hid, hz6]; exact below_drawn HB4.out _
    have HP6 : Hid (z6.heap[z4.heap.size]? = some (.cells #[.bool true, .bool false, .bool false, .bool false, .int .i64 0, .int .i64 0, .int .i64 0, .int .i64 0] 98 (0, 0))) := by rw [Hid, hz6]; exact HPC.out
    clear hz6 y12 y3 HB4 HPC HB3
    obtain ⟨y12, y3⟩ := hyy _ HB6.out
    clear k1 k2 k4
    obtain ⟨y14, y2⟩ := HSN.out _ HB6.out
    have p1 : z6.cell? ⟨z4.heap.size, 1, none⟩ = some (.bool false) := by rw [cell_at HP6.out]; rfl
    go_wp2_with fail
    refine (HHD.out _).mono ?_
    rintro e z8 ⟨rfl, h8⟩
    obtain rfl : z6 = z8 := h8.symm
    clear p1 y14 y2 y12 y3 HP6
    go_wp2_with fail
    refine (HST.out _ HB6.out).mono ?_
    rintro e z7 ⟨rfl, K7, h7, hn7⟩
    have HJ7 : Hid (DJ z7 base (.pointer (some ⟨R, 0, none⟩)) c r L' K7 Y P mu x G) := h7
    have HN7 : Hid (Next (G ++ K) (G ++ K7) w z7) := (Next.of_below HB6.out (G ++ K)).trans (hn7.right (F := G))
    clear h7 hn7
    obtain ⟨y12, yf, hY⟩ := HCC.out _ _ _ HJ7.out
    have HFF : Hid (DJ (z7.setCell ⟨Y, 12, none⟩ (.int .i64 (nv + 1))) base (.pointer (some ⟨R, 0, none⟩)) c r L' K7 Y P mu x' G ∧ Next (G ++ K) (G ++ K7) w (z7.setCell ⟨Y, 12, none⟩ (.int .i64 (nv + 1)))) := HEND.out _ _ _ HJ7.out HN7.out
    go_wp2
    go_ret
    exact ⟨rfl, K7, G, HFF.out⟩
end Go.Proofs.Ytbmmicfdnfpcaaa
/- The document's machine of layer 11 makes the step that the program's machine makes. -/
namespace Go.Proofs.Ytbmmicfdnfpcaaa
open Go.ChangeShapes Go.WideShapes Go.ChangeAt Go.RowKit

/-- Words are words. -/
def Gd (L : List Ac) : Prop := ∀ a, W64 (wordOf L a)
theorem gd_nil : Gd [] := fun a => by
  rw [wordOf_nil]
  unfold W64 first
  split <;> decide
theorem gd_store {c r : Nat} {L : List Ac} {t z : Int} {a : Ad} (h : Gd L) (hz : W64 z) : Gd (storeL c r L t a z) := fun x => by
  unfold storeL
  split
  · rw [wordOf_hit (Or.inl rfl)]
    unfold upd
    split
    · exact hz
    · exact h x
  · exact h x
theorem valB_w {P : Bp} {b : Bk} (h : BkOk P b) : W64 (valB P b) := by
  have h1 := h.p.st1
  have h2 := h.p.st2
  unfold valB
  split
  · unfold W64 wrap64; omega
  · split
    · next e =>
      have hm : P.W.getD b.wr noWt ∈ P.W := by rw [List.getD_eq_getElem?_getD, List.getElem?_eq_getElem (h.wr6 e)]; simp
      exact (h.p.cell _ hm).2.2
    · split
      · unfold W64; omega
      · unfold W64; omega
theorem gd_next {c r : Nat} {P : Bp} {b : Bk} {L : List Ac} {t : Int} (hk : BkOk P b) (hg : Gd L) : Gd (nextBL c r P b L t) := fun a => by
  rw [nextBL_word hk]
  split
  · unfold upd
    split
    · exact valB_w hk
    · exact hg a
  · exact hg a
theorem goes_same {c r : Nat} {P : Bp} {mu : Bool} {b : Bk} {x : Dc} (h : DR P mu b x) : goesB c r P b = goD c r P x := by
  have hk := h.ok
  have hnx := hk.nx
  have hwr := hk.wr
  have he : decide (b.nx ≠ 0) = decide (x.n ≠ P.W.length + 10) := by
    by_cases e : b.nx = 0
    · have := h.n0 e
      rw [decide_eq_false (by simpa using e), decide_eq_false (by simpa using this)]
    · have : x.n ≠ P.W.length + 10 := by
        have hcs : b.nx = 1 ∨ b.nx = 2 ∨ (b.nx = 3 ∨ b.nx = 4 ∨ b.nx = 5) ∨ (b.nx = 6 ∨ b.nx = 7 ∨ b.nx = 8) := by omega
        rcases hcs with q | q | q | q
        · have := h.n1 q; have := hk.w1 q; omega
        · have := h.n2 q; omega
        · have := h.n3 q; omega
        · have := h.n6 q; omega
      rw [decide_eq_true e, decide_eq_true this]
  unfold goesB goD
  rw [he, Bool.and_assoc]
theorem DDoes.mono {w : World} {base : Nat} {q : Value} {c r : Nat} {K : List Nat} {Y : Nat} {P : Bp} {mu : Bool} {G : List Nat} {t k k' : Int} {L L' : List Ac} {x x' : Dc} (h : DDoes w base q c r K Y P mu G t k L x) (h1 : k = k') (h2 : L = L') (h3 : x = x') : DDoes w base q c r K Y P mu G t k' L' x' := by
  subst h1 h2 h3
  exact h
theorem rdstep_go {w : World} {base : Nat} {q : Value} {c r : Nat} {L : List Ac} {K : List Nat} {Y : Nat} {P : Bp} {mu : Bool} {x : Dc} {G : List Nat} {b : Bk} (h : DJ w base q c r L K Y P mu x G) (hb : base ≤ w.heap.size) (hL : L.length < 3298534883328) (hd : DR P mu b x) (hgd : Gd L) (hwl : ∀ v ∈ x.l, W64 v) (hg : goesB c r P b = true) (t : Int) :
    DDoes w base q c r K Y P mu G t (if waitB P b (wordOf L (adB P b)) then 1 else if b.nx = 8 then 3 else 2) (accL c r P b L t) (stepD P mu x (wordOf L (adB P b))) := by
  have hk := hd.ok
  have hp := hk.p
  have hnx := hk.nx
  have hgD : goD c r P x = true := by rw [← goes_same hd]; exact hg
  obtain ⟨g0, g1, g2⟩ := goesB_iff.mp hg
  have had := adB_is hk hg
  have hcs : b.nx = 1 ∨ b.nx = 2 ∨ (b.nx = 3 ∨ b.nx = 4 ∨ b.nx = 5) ∨ b.nx = 6 ∨ b.nx = 7 ∨ b.nx = 8 := by omega
  rcases hcs with e | e | e | e | e | e
  · have hxn := hd.n1 e
    have hwd := hk.w1 e
    refine (dstep_word h hp hb hL hgD g1 (by omega) t).mono ?_ ?_ ?_
    · have hw : waitB P b (wordOf L (adB P b)) = false := by unfold waitB; simp [e]
      rw [hw, if_neg (by simp), if_neg (by omega)]
    · unfold accL adB valB ldB
      simp [e, hxn]
    · unfold stepD; rw [if_pos (by omega)]
  · have hxn := hd.n2 e
    refine (dstep_head h hp hb hL hgD g1 hxn t).mono ?_ ?_ ?_
    · have hw : waitB P b (wordOf L (adB P b)) = false := by unfold waitB; simp [e]
      rw [hw, if_neg (by simp), if_neg (by omega)]
    · unfold accL adB valB ldB
      simp [e]
    · unfold stepD; rw [if_pos (by omega)]
  · have hxn := hd.n3 e
    obtain ⟨o1, o2, o3, o4, o5⟩ := dr_lo hd e
    have hld : ldB b = true := by unfold ldB; rcases e with e | e | e <;> simp [e]
    have hac : accL c r P b L t = loadL c r L t (adB P b) := by unfold accL; rw [hld]; rfl
    have h8 : ¬ b.nx = 8 := by omega
    have hwt : ((lkD P mu x.l).hd && !overV (wordOf L (lkD P mu x.l).a) (lkD P mu x.l).st && ((lkD P mu x.l).me || !laidV (wordOf L (lkD P mu x.l).a) (lkD P mu x.l).st)) = waitB P b (wordOf L (adB P b)) := by
      rw [o2, o3, o4, o5]
      unfold waitB
      rcases e with e | e | e <;> simp [e]
    have hst : stepD P mu x (wordOf L (adB P b)) = if waitB P b (wordOf L (adB P b)) then x else ⟨x.n, x.l ++ [wordOf L (adB P b)], x.sn⟩ := by
      rw [← hwt]
      unfold stepD
      rw [if_neg (by omega), if_pos o1, o3]
    cases hw : waitB P b (wordOf L (adB P b))
    · rw [hw] at hwt
      refine (dstep_on (th := (lkD P mu x.l).th) (kn := (lkD P mu x.l).kn) (me := (lkD P mu x.l).me) (hd0 := (lkD P mu x.l).hd) (ls := (lkD P mu x.l).st) (la := (lkD P mu x.l).a) (hlo := rfl) h hp hb hL hgD g1 hxn hwl hd.len o1 (by rw [o3]; exact had) (hgd _) hwt t).mono ?_ ?_ ?_
      · rw [if_neg (by simp), if_neg h8]
      · rw [hac, o3]
      · rw [hst, hw, if_neg (by simp), o3]
    · rw [hw] at hwt
      refine (dstep_wait (th := (lkD P mu x.l).th) (kn := (lkD P mu x.l).kn) (me := (lkD P mu x.l).me) (hd0 := (lkD P mu x.l).hd) (ls := (lkD P mu x.l).st) (la := (lkD P mu x.l).a) (hlo := rfl) h hp hb hL hgD g1 hxn hwl hd.len o1 (by rw [o3]; exact had) (hgd _) hwt t).mono ?_ ?_ ?_
      · rw [if_pos rfl]
      · rw [hac, o3]
      · rw [hst, hw, if_pos rfl]
  · have hxn := hd.n6 (by omega)
    obtain ⟨k, hl, hkn⟩ := hd.l6 (by omega)
    have hwr := hk.wr6 e
    have hm : P.W.getD b.wr noWt ∈ P.W := by rw [List.getD_eq_getElem?_getD, List.getElem?_eq_getElem hwr]; simp
    refine (dstep_write h hp hb hL hgD g1 hwl hd.len hl hwr hxn ⟨(hp.cell _ hm).1, g2 _ hm⟩ t).mono ?_ ?_ ?_
    · have hw : waitB P b (wordOf L (adB P b)) = false := by unfold waitB; simp [e]
      rw [hw, if_neg (by simp), if_neg (by omega)]
    · unfold accL adB valB ldB
      simp [e]
    · unfold stepD; rw [if_neg (by omega), hl, if_neg (by simp [loT]), if_pos (by omega)]
  · have hxn := hd.n6 (by omega)
    obtain ⟨k, hl, hkn⟩ := hd.l6 (by omega)
    have hwr := hk.late (by omega)
    have h7 := hk.n7 e
    have hks : k = false ∧ x.sn = false := by rw [h7] at hkn; cases k <;> cases hx : x.sn <;> rw [hx] at hkn <;> simp at hkn ⊢
    have hada : adB P b = ⟨2, slotV (P.st - 1) P.s, 0⟩ := by unfold adB; simp [e]
    have hac : accL c r P b L t = loadL c r L t ⟨2, slotV (P.st - 1) P.s, 0⟩ := by unfold accL ldB; rw [hada]; simp [e]
    have hst : ∀ v, stepD P mu x v = ⟨x.n, x.l, overV v (P.st - 1)⟩ := fun v => by unfold stepD; rw [if_neg (by omega), hl, if_neg (by simp [loT]), if_neg (by omega), if_pos ⟨hks.1, hks.2⟩]
    have hwt : waitB P b (wordOf L (adB P b)) = !overV (wordOf L ⟨2, slotV (P.st - 1) P.s, 0⟩) (P.st - 1) := by unfold waitB; rw [hada]; simp [e]
    cases hov : overV (wordOf L ⟨2, slotV (P.st - 1) P.s, 0⟩) (P.st - 1)
    · refine (dstep_unseen h hp hb hL hgD g1 hwl hd.len hl hks.1 (by omega) hks.2 (hgd _) hov t).mono ?_ ?_ ?_
      · rw [hwt, hov]; rfl
      · rw [hac]
      · rw [hst, hada, hov]
    · refine (dstep_seen h hp hb hL hgD g1 hwl hd.len hl hks.1 (by omega) hks.2 (hgd _) hov t).mono ?_ ?_ ?_
      · rw [hwt, hov, if_neg (by simp), if_neg (by omega)]
      · rw [hac]
      · rw [hst, hada, hov]
  · have hxn := hd.n6 (by omega)
    obtain ⟨k, hl, hkn⟩ := hd.l6 (by omega)
    have hwr := hk.late (by omega)
    have h8 := hk.n8 (Or.inl e)
    refine (dstep_done h hp hb hL hgD g1 hwl hd.len hl (by omega) (by rw [← hkn]; exact h8) t).mono ?_ ?_ ?_
    · have hw : waitB P b (wordOf L (adB P b)) = false := by unfold waitB; simp [e]
      rw [hw, if_neg (by simp), if_pos e]
    · unfold accL adB valB ldB
      simp [e]
    · unfold stepD
      rw [if_neg (by omega), hl, if_neg (by simp [loT]), if_neg (by omega), if_neg (fun q => by have q1 : k = false := q.1; rw [q1, q.2, h8] at hkn; simp at hkn)]
theorem rdstep {w : World} {base : Nat} {q : Value} {c r : Nat} {L : List Ac} {K : List Nat} {Y : Nat} {P : Bp} {mu : Bool} {x : Dc} {G : List Nat} {b : Bk} (h : DJ w base q c r L K Y P mu x G) (hb : base ≤ w.heap.size) (hL : L.length < 3298534883328) (hd : DR P mu b x) (hgd : Gd L) (hwl : ∀ v ∈ x.l, W64 v) (t : Int) :
    Calls Try.prog 16 #[.pointer (some ⟨Y, 0, none⟩), q, .int .i64 t] w fun e w' => e = .returned (.int .i64 (ansBk c r P b L)) ∧ ∃ x' K' G', DJ w' base q c r (nextBL c r P b L t) K' Y P mu x' G' ∧ DR P mu (nextBk c r P b L) x' ∧ (∀ v ∈ x'.l, W64 v) ∧ Next (G ++ K) (G' ++ K') w w' := by
  by_cases hg : goesB c r P b = true
  · have h1 : ansBk c r P b L = if waitB P b (wordOf L (adB P b)) then 1 else if b.nx = 8 then 3 else 2 := by unfold ansBk; rw [if_pos hg]
    have h2 : nextBL c r P b L t = accL c r P b L t := by unfold nextBL; rw [if_pos hg]
    have h3 : nextBk c r P b L = stepB P b (wordOf L (adB P b)) := by unfold nextBk; rw [if_pos hg]
    rw [h1, h2, h3]
    refine Calls.mono (rdstep_go h hb hL hd hgd hwl hg t) ?_
    rintro e w' ⟨rfl, K', G', h4, h5⟩
    refine ⟨rfl, _, K', G', h4, dr_step hd (goesB_iff.mp hg).1 _, fun v hv => ?_, h5⟩
    unfold stepD at hv
    split at hv
    · exact hwl v hv
    · split at hv
      · split at hv
        · exact hwl v hv
        · simp only [List.mem_append, List.mem_singleton] at hv
          rcases hv with hv | hv
          · exact hwl v hv
          · rw [hv]; exact hgd _
      · split at hv
        · exact hwl v hv
        · split at hv
          · exact hwl v hv
          · exact hwl v hv
  · have h1 : ansBk c r P b L = 0 := by unfold ansBk; rw [if_neg hg]
    have h2 : nextBL c r P b L t = L := by unfold nextBL; rw [if_neg hg]
    have h3 : nextBk c r P b L = b := by unfold nextBk; rw [if_neg hg]
    rw [h1, h2, h3]
    have hgd2 : goD c r P x = false := by rw [← goes_same hd]; simpa using hg
    refine (dstep_none h hd.ok.p hgd2 t).mono ?_
    rintro e w' ⟨rfl, h4⟩
    exact ⟨rfl, x, K, G, h.below h4, hd, hwl, Next.of_below h4 _⟩
/-- How many are left. -/
theorem left_same {P : Bp} {mu : Bool} {b : Bk} {x : Dc} (h : DR P mu b x) : lfD x.n P.W.length = b.wr ∧ x.n ≤ 34 := by
  have hk := h.ok
  have hnx := hk.nx
  have hwr := hk.wr
  have hl := hk.p.len
  have hcs : b.nx = 1 ∨ b.nx = 2 ∨ (b.nx = 3 ∨ b.nx = 4 ∨ b.nx = 5) ∨ (b.nx = 6 ∨ b.nx = 7 ∨ b.nx = 8) ∨ b.nx = 0 := by omega
  unfold lfD
  rcases hcs with q | q | q | q | q
  · have h1 := h.n1 q; have := hk.w1 q; have h0 := hk.early (by omega)
    rw [if_pos (by omega)]; omega
  · have h1 := h.n2 q; have h0 := hk.early (by omega)
    rw [if_pos (by omega)]; omega
  · have h1 := h.n3 q; have h0 := hk.early (by omega)
    rw [if_neg (by omega), if_neg (by omega)]; omega
  · have h1 := h.n6 q
    rw [if_neg (by omega), if_neg (by omega)]; omega
  · have h1 := h.n0 q; have h0 := hk.late (by omega)
    rw [if_neg (by omega), if_pos (by omega)]; omega
end Go.Proofs.Ytbmmicfdnfpcaaa
/- Both machines of layer 11 and both memories under way. -/
namespace Go.Proofs.Ytbmmicfdnfpcaaa
open Go.ChangeShapes Go.WideShapes Go.ChangeAt Go.RowKit

structure QBA (w : World) (base : Nat) (p q : Value) (c r : Nat) (L M : List Ac) (X Y : Nat) (P : Bp) (mu : Bool) (b : Bk) (u : Value) (x : Dc) (R : List (Nat × Obj)) (F K G : List Nat) : Prop where
  ps : BS w base p c r L F X P b u
  ds : DJ w base q c r M K Y P mu x G
  apart : ∀ z ∈ X :: F, z ∉ G ++ K
  ulist : ∀ k, u.ownBlock = some k → k ∉ G ++ K
  kp : Kept w (X :: F) R
  kd : Kept w (G ++ K) R
structure QBW (w0 w : World) (base : Nat) (p q : Value) (c r : Nat) (L M : List Ac) (X Y : Nat) (P : Bp) (mu : Bool) (b : Bk) (u : Value) (x : Dc) (R : List (Nat × Obj)) : Prop where
  all : ∃ F K G, QBA w base p q c r L M X Y P mu b u x R F K G
  bel : Below w0.heap.size w0 w
  lo : w0.heap.size ≤ base
  size : base ≤ w.heap.size
theorem Kept.keep {w w' : World} {F G : List Nat} {R : List (Nat × Obj)} (h : Kept w F R) (hg : Kept w G R) (k : Keep G w w') : Kept w' F R := fun z hz => by
  obtain ⟨h1, h2⟩ := h z hz
  exact ⟨by rw [k.block _ (heap_lt h1) (hg z hz).2]; exact h1, h2⟩
theorem DJ.ltb {w : World} {base : Nat} {q : Value} {c r : Nat} {L : List Ac} {K : List Nat} {Y : Nat} {P : Bp} {mu : Bool} {x : Dc} {G : List Nat} (h : DJ w base q c r L K Y P mu x G) : ∀ b ∈ G ++ K, base ≤ b ∧ b < w.heap.size := fun b hb => by
  rcases List.mem_append.1 hb with h1 | h1
  · exact h.dm.lt b h1
  · exact h.ref.lt b h1
theorem DJ.keep {w w' : World} {base : Nat} {q : Value} {c r : Nat} {L : List Ac} {K F : List Nat} {Y : Nat} {P : Bp} {mu : Bool} {x : Dc} {G : List Nat} (h : DJ w base q c r L K Y P mu x G) (k : Keep F w w') (hd : ∀ z ∈ G ++ K, z ∉ F) : DJ w' base q c r L K Y P mu x G :=
  ⟨h.ref.keep k (fun b hb => hd b (by simp [hb])), h.dm.keep k (fun b hb => hd b (by simp [hb])), h.apart⟩
theorem QBW.onP {w0 w w' : World} {base : Nat} {p q : Value} {c r : Nat} {L L' M : List Ac} {X Y : Nat} {P : Bp} {mu : Bool} {b b' : Bk} {u : Value} {x : Dc} {R : List (Nat × Obj)} {F F' K G : List Nat} (hw : QBW w0 w base p q c r L M X Y P mu b u x R) (h : QBA w base p q c r L M X Y P mu b u x R F K G) (hp : BS w' base p c r L' F' X P b' u) (hn : Next (X :: F) (X :: F') w w') : QBW w0 w' base p q c r L' M X Y P mu b' u x R :=
  ⟨⟨F', K, G, hp, h.ds.keep hn.1 (fun z hz hf => h.apart z hf hz), fun z hz hd => by
    rcases hn.2 z hz with h1 | h1
    · exact h.apart z h1 hd
    · have := (h.ds.ltb z hd).2; omega, h.ulist, h.kp.next hn, h.kd.keep h.kp hn.1⟩, hw.bel.trans (hn.below hw.bel.size (fun z hz => by have := (h.ps.lt z hz).1; have := hw.lo; omega)), hw.lo, Nat.le_trans hw.size hn.1.size⟩
theorem QBW.onD {w0 w w' : World} {base : Nat} {p q : Value} {c r : Nat} {L M M' : List Ac} {X Y : Nat} {P : Bp} {mu : Bool} {b : Bk} {u : Value} {x x' : Dc} {R : List (Nat × Obj)} {F K K' G G' : List Nat} (hw : QBW w0 w base p q c r L M X Y P mu b u x R) (h : QBA w base p q c r L M X Y P mu b u x R F K G) (hd : DJ w' base q c r M' K' Y P mu x' G') (hn : Next (G ++ K) (G' ++ K') w w') : QBW w0 w' base p q c r L M' X Y P mu b u x' R :=
  ⟨⟨F, K', G', h.ps.keep hn.1 h.apart h.ulist, hd, fun z hz hd => by
    rcases hn.2 z hd with h1 | h1
    · exact h.apart z hz h1
    · have := (h.ps.lt z hz).2; omega, fun k hk hd => by
    rcases hn.2 k hd with h1 | h1
    · exact h.ulist k hk h1
    · have := (own_block h.ps.own k hk).2; omega, h.kp.keep h.kd hn.1, h.kd.next hn⟩, hw.bel.trans (hn.below hw.bel.size (fun z hz => by have := (h.ds.ltb z hz).1; have := hw.lo; omega)), hw.lo, Nat.le_trans hw.size hn.1.size⟩
theorem QBW.later {w0 w w' : World} {base : Nat} {p q : Value} {c r : Nat} {L M : List Ac} {X Y : Nat} {P : Bp} {mu : Bool} {b : Bk} {u : Value} {x : Dc} {R : List (Nat × Obj)} (hw : QBW w0 w base p q c r L M X Y P mu b u x R) (hb : Below w.heap.size w w') : QBW w0 w' base p q c r L M X Y P mu b u x R := by
  obtain ⟨F, K, G, h⟩ := hw.all
  exact ⟨⟨F, K, G, h.ps.below hb, h.ds.below hb, h.apart, h.ulist, h.kp.later hb, h.kd.later hb⟩, below_then hw.bel hb, hw.lo, Nat.le_trans hw.size hb.size⟩
theorem QBW.more {w0 w : World} {base : Nat} {p q : Value} {c r : Nat} {L M : List Ac} {X Y : Nat} {P : Bp} {mu : Bool} {b : Bk} {u : Value} {x : Dc} {R : List (Nat × Obj)} (hw : QBW w0 w base p q c r L M X Y P mu b u x R) (o : Obj) : QBW w0 (w.alloc o) base p q c r L M X Y P mu b u x ((w.heap.size, o) :: R) := by
  obtain ⟨F, K, G, h⟩ := hw.all
  exact ⟨⟨F, K, G, h.ps.below (below_a1 _ _), h.ds.below (below_a1 _ _), h.apart, h.ulist, h.kp.more (fun z hz => (h.ps.lt z hz).2) o, h.kd.more (fun z hz => (h.ds.ltb z hz).2) o⟩, below_then hw.bel (below_a1 _ _), hw.lo, by have := hw.size; simp; omega⟩
theorem QBW.less {w0 w : World} {base : Nat} {p q : Value} {c r : Nat} {L M : List Ac} {X Y : Nat} {P : Bp} {mu : Bool} {b : Bk} {u : Value} {x : Dc} {R R' : List (Nat × Obj)} (hw : QBW w0 w base p q c r L M X Y P mu b u x R) (hs : ∀ z ∈ R', z ∈ R) : QBW w0 w base p q c r L M X Y P mu b u x R' := by
  obtain ⟨F, K, G, h⟩ := hw.all
  exact ⟨⟨F, K, G, h.ps, h.ds, h.apart, h.ulist, fun z hz => h.kp z (hs z hz), fun z hz => h.kd z (hs z hz)⟩, hw.bel, hw.lo, hw.size⟩
theorem QBW.row {w0 w : World} {base : Nat} {p q : Value} {c r : Nat} {L M : List Ac} {X Y : Nat} {P : Bp} {mu : Bool} {b : Bk} {u : Value} {x : Dc} {R : List (Nat × Obj)} (hw : QBW w0 w base p q c r L M X Y P mu b u x R) {B : Nat} {o : Obj} (hz : (B, o) ∈ R) : w.heap[B]? = some o := by
  obtain ⟨F, K, G, h⟩ := hw.all
  exact (h.kp _ hz).1
theorem qbw_pstep {w0 w : World} {base : Nat} {p q : Value} {c r : Nat} {L M : List Ac} {X Y : Nat} {P : Bp} {mu : Bool} {b : Bk} {u : Value} {x : Dc} {R : List (Nat × Obj)} (hw : QBW w0 w base p q c r L M X Y P mu b u x R) (hL : L.length < 3298534883328) (hk : BkOk P b) (t : Int) :
    Calls Try.prog 15 #[.pointer (some ⟨X, 0, none⟩), p, .int .i64 t] w fun e w' => e = .returned (ansC (ansBk c r P b L) (goesB c r P b)) ∧ QBW w0 w' base p q c r (nextBL c r P b L t) M X Y P mu (nextBk c r P b L) u x R := by
  obtain ⟨F, K, G, h⟩ := hw.all
  refine (bstep h.ps hk hw.size hL t).mono ?_
  rintro e w' ⟨rfl, F', h2, hn⟩
  exact ⟨rfl, hw.onP h h2 hn⟩
theorem qbw_dstep {w0 w : World} {base : Nat} {p q : Value} {c r : Nat} {L M : List Ac} {X Y : Nat} {P : Bp} {mu : Bool} {b b0 : Bk} {u : Value} {x : Dc} {R : List (Nat × Obj)} (hw : QBW w0 w base p q c r L M X Y P mu b u x R) (hL : M.length < 3298534883328) (hd : DR P mu b0 x) (hg : Gd M) (hl : ∀ v ∈ x.l, W64 v) (t : Int) :
    Calls Try.prog 16 #[.pointer (some ⟨Y, 0, none⟩), q, .int .i64 t] w fun e w' => e = .returned (.int .i64 (ansBk c r P b0 M)) ∧ ∃ x', QBW w0 w' base p q c r L (nextBL c r P b0 M t) X Y P mu b u x' R ∧ DR P mu (nextBk c r P b0 M) x' ∧ ∀ v ∈ x'.l, W64 v := by
  obtain ⟨F, K, G, h⟩ := hw.all
  refine (rdstep h.ds hw.size hL hd hg hl t).mono ?_
  rintro e w' ⟨rfl, x', K', G', h2, h3, h4, hn⟩
  exact ⟨rfl, x', hw.onD h h2 hn, h3, h4⟩
theorem qbw_pstore {w0 w : World} {base : Nat} {p q : Value} {c r : Nat} {L M : List Ac} {X Y : Nat} {P : Bp} {mu : Bool} {b : Bk} {u : Value} {x : Dc} {R : List (Nat × Obj)} (hw : QBW w0 w base p q c r L M X Y P mu b u x R) (hL : L.length < 3298534883328) (t : Int) (a : Ad) (z : Int) :
    Calls Try.prog 13 #[p, .int .i64 t, .agg #[.int .i64 a.k, .int .i64 a.i, .int .i64 a.j], .int .i64 z] w fun e w' => e = .returned (.int .i64 (if isAd c r a then 0 else 1)) ∧ QBW w0 w' base p q c r (storeL c r L t a z) M X Y P mu b u x R := by
  obtain ⟨F, K, G, h⟩ := hw.all
  refine (store_any h.ps.mem hw.size hL t a z).mono ?_
  rintro e w' ⟨rfl, F', h2, hn⟩
  exact ⟨rfl, hw.onP h (h.ps.onMem h2 hn) (nextX hn)⟩
theorem qbw_dstore {w0 w : World} {base : Nat} {p q : Value} {c r : Nat} {L M : List Ac} {X Y : Nat} {P : Bp} {mu : Bool} {b : Bk} {u : Value} {x : Dc} {R : List (Nat × Obj)} (hw : QBW w0 w base p q c r L M X Y P mu b u x R) (hL : M.length < 3298534883328) (t : Int) (a : Ad) (z : Int) :
    Calls Try.prog 14 #[q, .int .i64 t, .agg #[.int .i64 a.k, .int .i64 a.i, .int .i64 a.j], .int .i64 z] w fun e w' => e = .returned (.int .i64 (if isAd c r a then 0 else 1)) ∧ QBW w0 w' base p q c r L (storeL c r M t a z) X Y P mu b u x R := by
  obtain ⟨F, K, G, h⟩ := hw.all
  refine (rstore_any h.ds.ref hw.size hL t a z).mono ?_
  rintro e w' ⟨rfl, K', h2, hn⟩
  exact ⟨rfl, hw.onD h (h.ds.onRef h2 hn) hn.right⟩
theorem qbw_sig {w0 w : World} {base : Nat} {p q : Value} {c r : Nat} {L M : List Ac} {X Y : Nat} {P : Bp} {mu : Bool} {b : Bk} {u : Value} {x : Dc} {R : List (Nat × Obj)} (hw : QBW w0 w base p q c r L M X Y P mu b u x R) (hp : BpOk P) :
    Calls Try.prog 17 #[.pointer (some ⟨X, 0, none⟩)] w fun e w' => e = .returned (Sg.sv P.sg) ∧ QBW w0 w' base p q c r L M X Y P mu b u x R := by
  obtain ⟨F, K, G, h⟩ := hw.all
  refine (bsig_any h.ps.row (by rw [hp.sg]; exact sgOf_ok _)).mono ?_
  rintro e w' ⟨rfl, hb⟩
  exact ⟨rfl, hw.later hb⟩
theorem qbw_left {w0 w : World} {base : Nat} {p q : Value} {c r : Nat} {L M : List Ac} {X Y : Nat} {P : Bp} {mu : Bool} {b : Bk} {u : Value} {x : Dc} {R : List (Nat × Obj)} (hw : QBW w0 w base p q c r L M X Y P mu b u x R) (hk : BkOk P b) :
    Calls Try.prog 18 #[.pointer (some ⟨X, 0, none⟩)] w fun e w' => e = .returned (.int .i64 ((P.W.length : Int) - (b.wr : Int))) ∧ QBW w0 w' base p q c r L M X Y P mu b u x R := by
  obtain ⟨F, K, G, h⟩ := hw.all
  obtain ⟨a, cap, hl⟩ := h.ps.slice
  refine (bleft_any h.ps.row hl hk.p.len hk.wr).mono ?_
  rintro e w' ⟨rfl, hb⟩
  exact ⟨rfl, hw.later hb⟩
theorem qbw_dleft {w0 w : World} {base : Nat} {p q : Value} {c r : Nat} {L M : List Ac} {X Y : Nat} {P : Bp} {mu : Bool} {b : Bk} {u : Value} {x : Dc} {R : List (Nat × Obj)} (hw : QBW w0 w base p q c r L M X Y P mu b u x R) (hd : DR P mu b x) :
    Calls Try.prog 19 #[.pointer (some ⟨Y, 0, none⟩)] w fun e w' => e = .returned (.int .i64 ((P.W.length : Int) - (b.wr : Int))) ∧ QBW w0 w' base p q c r L M X Y P mu b u x R := by
  obtain ⟨F, K, G, h⟩ := hw.all
  obtain ⟨lv, kv, hm⟩ := h.ds.dm
  have hls := left_same hd
  have := dleft_any hm hd.ok.p.len hls.2
  rw [hls.1] at this
  refine Calls.mono this ?_
  rintro e w' ⟨rfl, hb⟩
  exact ⟨rfl, hw.later hb⟩
/-- The signature that the document's machine holds. -/
theorem qbw_dsig {w0 w : World} {base : Nat} {p q : Value} {c r : Nat} {L M : List Ac} {X Y : Nat} {P : Bp} {mu : Bool} {b : Bk} {u : Value} {x : Dc} {R : List (Nat × Obj)} (hw : QBW w0 w base p q c r L M X Y P mu b u x R) : w.cell? ⟨Y, 4, none⟩ = some (bsV P.sg 0) ∧ w.cell? ⟨Y, 5, none⟩ = some (bsV P.sg 1) ∧ w.cell? ⟨Y, 6, none⟩ = some (bsV P.sg 2) ∧ w.cell? ⟨Y, 7, none⟩ = some (bsV P.sg 3) ∧ w.cell? ⟨Y, 8, none⟩ = some (bsV P.sg 4) ∧ w.cell? ⟨Y, 9, none⟩ = some (bsV P.sg 5) ∧ w.cell? ⟨Y, 10, none⟩ = some (bsV P.sg 6) ∧ w.cell? ⟨Y, 11, none⟩ = some (bsV P.sg 7) ∧ Y < w.heap.size := by
  obtain ⟨F, K, G, h⟩ := hw.all
  obtain ⟨lv, kv, hm⟩ := h.ds.dm
  obtain ⟨a, b, c, d, e, f, g, i⟩ := hm.m.sig
  exact ⟨a, b, c, d, e, f, g, i, heap_lt hm.m⟩
/-- All are made: the machine, the memory, the document's memory, the document's machine. -/
theorem qbw_new {w0 w1 wx w2 w3 w4 : World} {nb X Y : Nat} {P : Bp} {mu : Bool} {u : Value} {p q : Value} {c r : Nat} {F K G : List Nat} (hlo : w0.heap.size ≤ nb) (hX : nb ≤ X)
    (hrx : BRow w1 X P (bkNew P mu) u) (hox : w1.ownsRow nb 36 2 u P.W.length (wtC P.W)) (hnx : ∀ k, u.ownBlock = some k → k ≠ X) (hb1 : Below w0.heap.size w0 w1)
    (hbx : Below w1.heap.size w1 wx) (hm : MemAt w2 wx.heap.size p c r [] F) (hb2 : Below wx.heap.size wx w2)
    (hq : RefAt w3 w2.heap.size q c r [] K) (hb3 : Below w2.heap.size w2 w3)
    (hd : DM w4 w3.heap.size Y P mu ⟨0, [], false⟩ G) (hb4 : Below w3.heap.size w3 w4) : QBW w0 w4 nb p q c r [] [] X Y P mu (bkNew P mu) u ⟨0, [], false⟩ [] := by
  have hXl := heap_lt hrx
  have s2 := hbx.size
  have s3 := hb2.size
  have s4 := hb3.size
  have s5 := hb4.size
  have hb34 : Below w2.heap.size w2 w4 := below_then hb3 hb4
  have hps : BS w2 nb p c r [] F X P (bkNew P mu) u := bs_new2 hX hrx hox hnx hbx hm hb2 (memAt_base hm (by omega))
  have hdj : DJ w4 nb q c r [] K Y P mu ⟨0, [], false⟩ G := ⟨refAt_base (hq.below hb4) (by omega), by
    obtain ⟨lv, kv, h⟩ := hd
    exact ⟨lv, kv, h.m, own_base h.ownW (by omega), own_base h.ownL (by omega), h.G, by have := h.bY; omega⟩, fun b hb hk => by
    have h1 := (hd.lt b hb).1
    have h2 := (hq.lt b hk).2
    omega⟩
  have hlow : ∀ z ∈ G ++ K, w2.heap.size ≤ z := fun z hz => by
    rcases List.mem_append.1 hz with h | h
    · have := (hd.lt z h).1; omega
    · exact (hq.lt z h).1
  refine ⟨⟨F, K, G, hps.below hb34, hdj, fun z hz hd => ?_, fun k hk hd => ?_, fun z hz => by simp at hz, fun z hz => by simp at hz⟩, below_then (below_then (below_then hb1 hbx) hb2) hb34, hlo, by omega⟩
  · have := hlow z hd
    have := (hps.lt z hz).2
    omega
  · have := hlow k hd
    have := (own_block hox k hk).2
    omega
end Go.Proofs.Ytbmmicfdnfpcaaa
/- BackPlays: the list that is handed in, made, copied to, written over. -/
namespace Go.Proofs.Ytbmmicfdnfpcaaa
open Go.ChangeShapes Go.WideShapes Go.ChangeAt Go.RowKit

theorem run_copy_part {P : Program} (w : World) (dT sT ty elem : TypeId) (g dLen dCap : Nat) (a : Addr) (sLen sCap : Nat) (cur : Array Value) (t : TypeId) (cs : List Value) (k : Nat)
    (hu : P.underlying dT = some (.slice elem)) (hs : (P.info? elem).map (·.size) = some k)
    (hg : w.heap[g]? = some (.cells cur t (0, 0))) (hn : cs.length = Nat.min sLen dLen * k)
    (hsrc : ∀ j v, cs[j]? = some v → w.cell? (a.add j) = some v) (hfit : cs.length ≤ cur.size) (h1 : ∀ v ∈ cs, v.oneCell' = true) :
    (Builtin.copy_ #[dT, sT] ty #[.slice (some ⟨g, 0, none⟩) dLen dCap, .slice (some a) sLen sCap]).run P w =
      .ok (goInt (Nat.min sLen dLen)) (w.setRow g (cs ++ cur.toList.drop cs.length).toArray) := by
  have hl := run_loadCells_list (P := P) w a cs hsrc
  have hst := run_storeCells_at P g 0 t cs 0 cur w hg (by omega) h1
  cases hq : P.info? elem with
  | none => simp [hq] at hs
  | some i =>
    have hi : i.size = k := by simpa [hq] using hs
    simp only [Nat.add_zero, Nat.zero_add, List.take_zero, List.nil_append] at hst
    simp [Builtin.copy_, run_underlying hu, Builtin.lenOf, Builtin.firstCells, sizeOf, typeInfo, hq, hi, ← hn, hl, hst]
theorem run_copy_none2 {P : Program} (w : World) (dT sT ty elem : TypeId) (d a : Option Addr) (dLen dCap sLen sCap : Nat) (hu : P.underlying dT = some (.slice elem)) (hs : ((P.info? elem).map (·.size)).isSome = true) (hn : Nat.min sLen dLen = 0) :
    (Builtin.copy_ #[dT, sT] ty #[.slice d dLen dCap, .slice a sLen sCap]).run P w = .ok (goInt 0) w := by
  cases hq : P.info? elem with
  | none => simp [hq] at hs
  | some i =>
    have hl : ∀ (x : Addr), (loadCells x 0).run P w = .ok #[] w := fun x => by simpa using run_loadCells_list (P := P) w x [] (by simp)
    cases d <;> cases a <;> simp [Builtin.copy_, run_underlying hu, Builtin.lenOf, Builtin.firstCells, sizeOf, typeInfo, hq, hn, storeCells, hl]
/-- What a new list of n writes is made of. -/
def fresh2 (n : Nat) : Array Value := madeCells (Value.cells (.agg #[.int .i64 0, .int .i64 0])) (n * 2)
theorem fresh2_size (n : Nat) : (fresh2 n).size = n * 2 := by simp [fresh2, size_madeCells]
theorem fresh2_get (n j : Nat) (h : j < n * 2) : (fresh2 n)[j]? = some (.int .i64 0) := by
  unfold fresh2 madeCells
  have h2 : j % 2 = 0 ∨ j % 2 = 1 := by omega
  rcases h2 with e | e <;> simp [h, Value.cells, e]
theorem make_wrs11 (w : World) (n : Nat) (hn : n ≤ 8796093022209) :
    (Instr.makeSlice 25 (.int .i64 (n : Int)) (.int .i64 (n : Int))).run Try.prog w = .ok (.slice (some ⟨w.heap.size, 0, none⟩) n n) (w.alloc (.cells (fresh2 n) 36)) := by
  obtain ⟨i0, hi, hz0, hz1, hz2⟩ := info_parts info_wr
  have := run_make (P := Try.prog) w 25 36 i0 _ Try.underlying25 hi hz0 .i64 .i64 (n : Int) (n : Int) (by omega) (by omega) (by rw [hz2]; omega) (by omega)
  rw [this]
  simp [fresh2, hz1]
/-- The list that is handed in, from a place on as it was. -/
def InR (w : World) (g : Nat) (W : List Wt) (q : Nat) : Prop := ∃ cs : Array Value, w.heap[g]? = some (.cells cs 36 (0, 0)) ∧ cs.size = W.length * 2 + 2 ∧ (∀ i, q ≤ i → i < W.length → cs[i * 2]? = some (.int .i64 (W.getD i noWt).c) ∧ cs[i * 2 + 1]? = some (.int .i64 (W.getD i noWt).v)) ∧ cs[W.length * 2]? = some (.int .i64 0) ∧ cs[W.length * 2 + 1]? = some (.int .i64 0)
theorem InR.below {w w' : World} {g : Nat} {W : List Wt} {q : Nat} (h : InR w g W q) (hb : Below w.heap.size w w') : InR w' g W q := by
  obtain ⟨cs, h1, h2⟩ := h
  exact ⟨cs, row_on h1 hb, h2⟩
theorem InR.lt {w : World} {g : Nat} {W : List Wt} {q : Nat} (h : InR w g W q) : g < w.heap.size := by
  obtain ⟨cs, h1, h2⟩ := h
  exact heap_lt h1
theorem InR.wl {w : World} {g : Nat} {W : List Wt} (h : InR w g W 0) (hb : W.length ≤ 8796093022208) (cap : Nat) : WL w (.slice (some ⟨g, 0, none⟩) W.length cap) W := by
  obtain ⟨cs, h1, h2, h3, h4⟩ := h
  refine ⟨_, cap, rfl, hb, Or.inr ⟨_, rfl, heap_lt h1, fun i hi => ?_⟩⟩
  obtain ⟨k1, k2⟩ := h3 i (by omega) hi
  rw [Sg.add_at, add_pos' _ _ (by decide)]
  exact ⟨by rw [cell_at h1]; simpa using k1, by rw [cell_at h1]; simpa using k2⟩
theorem InR.cells {w : World} {g : Nat} {W : List Wt} {q : Nat} (h : InR w g W q) (i : Nat) (hq : q ≤ i) (hi : i < W.length) : w.cell? ⟨g, i * 2, none⟩ = some (.int .i64 (W.getD i noWt).c) ∧ w.cell? ⟨g, i * 2 + 1, none⟩ = some (.int .i64 (W.getD i noWt).v) := by
  obtain ⟨cs, h1, h2, h3, h4⟩ := h
  obtain ⟨k1, k2⟩ := h3 i hq hi
  exact ⟨by rw [cell_at h1]; exact k1, by rw [cell_at h1]; exact k2⟩
theorem InR.last {w : World} {g : Nat} {W : List Wt} {q : Nat} (h : InR w g W q) : w.cell? ⟨g, W.length * 2, none⟩ = some (.int .i64 0) ∧ w.cell? ⟨g, W.length * 2 + 1, none⟩ = some (.int .i64 0) := by
  obtain ⟨cs, h1, h2, h3, h4, h5⟩ := h
  exact ⟨by rw [cell_at h1]; exact h4, by rw [cell_at h1]; exact h5⟩
theorem InR.fz {w : World} {g : Nat} {W : List Wt} {q : Nat} (h : InR w g W q) (j : Nat) : w.frozen? ⟨g, j, none⟩ = false := by
  obtain ⟨cs, h1, h2⟩ := h
  exact frozen_at h1 j
theorem InR.set {w : World} {g : Nat} {W : List Wt} {q : Nat} (h : InR w g W q) (hq : q < W.length) (a b : Value) : InR ((w.setCell ⟨g, q * 2, none⟩ a).setCell ⟨g, q * 2 + 1, none⟩ b) g W (q + 1) := by
  obtain ⟨cs, h1, h2, h3, h4, h5⟩ := h
  have k1 : (w.setCell ⟨g, q * 2, none⟩ a).heap[g]? = some (.cells (cs.setIfInBounds (q * 2) a) 36 (0, 0)) := by rw [heap_set h1]
  have k2 : ((w.setCell ⟨g, q * 2, none⟩ a).setCell ⟨g, q * 2 + 1, none⟩ b).heap[g]? = some (.cells ((cs.setIfInBounds (q * 2) a).setIfInBounds (q * 2 + 1) b) 36 (0, 0)) := by rw [heap_set k1]
  refine ⟨_, k2, by simpa using h2, fun i hi hl => ?_, ?_, ?_⟩
  · obtain ⟨e1, e2⟩ := h3 i (by omega) hl
    exact ⟨by rw [Array.getElem?_setIfInBounds_ne (by omega), Array.getElem?_setIfInBounds_ne (by omega)]; exact e1, by rw [Array.getElem?_setIfInBounds_ne (by omega), Array.getElem?_setIfInBounds_ne (by omega)]; exact e2⟩
  · rw [Array.getElem?_setIfInBounds_ne (by omega), Array.getElem?_setIfInBounds_ne (by omega)]; exact h4
  · rw [Array.getElem?_setIfInBounds_ne (by omega), Array.getElem?_setIfInBounds_ne (by omega)]; exact h5
theorem in_copy (w : World) {W : List Wt} {a : Option Addr} {cap : Nat} (ty : TypeId) (hl : WL w (.slice a W.length cap) W) :
    ∃ w2, (Builtin.copy_ #[25, 25] ty #[.slice (some ⟨w.heap.size, 0, none⟩) (W.length + 1) (W.length + 1), .slice a W.length cap]).run Try.prog (w.alloc (.cells (fresh2 (W.length + 1)) 36)) = .ok (goInt (W.length : Int)) w2 ∧ InR w2 w.heap.size W 0 ∧ Below w.heap.size w w2 := by
  obtain ⟨i0, hi, hz0, hz1, hz2⟩ := info_parts info_wr
  have hinfo : (Try.prog.info? 36).map (·.size) = some 2 := by rw [hi]; simp [hz1]
  obtain ⟨a', cap', he, hm, hl⟩ := hl
  simp at he
  obtain ⟨rfl, rfl⟩ := he
  by_cases h0 : W.length = 0
  · have hW : W = [] := List.eq_nil_of_length_eq_zero h0
    have e : goInt (W.length : Int) = goInt 0 := by rw [h0]; rfl
    rw [e]
    refine ⟨_, run_copy_none2 _ _ _ _ _ _ _ _ _ _ _ Try.underlying25 (by rw [hinfo]; rfl) (by rw [h0]; rfl), ⟨_, heap_alloc_new _ _, by rw [fresh2_size, h0], fun i _ hi => by omega, by rw [fresh2_get _ _ (by omega)], by rw [fresh2_get _ _ (by omega)]⟩, below_a1 _ _⟩
  · rcases hl with h | ⟨x, rfl, hxb, hc⟩
    · exact absurd (by rw [h]; rfl) h0
    have hmin : Nat.min W.length (W.length + 1) = W.length := Nat.min_eq_left (by omega)
    have hnews : ∀ j u, (wtC W)[j]? = some u → w.cell? (x.add j) = some u := fun j u hu => by
      obtain ⟨i, hi, ⟨rfl, rfl⟩ | ⟨rfl, rfl⟩⟩ := wtC_flat hu
      · exact (hc i hi).1
      · rw [← (hc i hi).2, add_add2]
    have hlen : (wtC W).length = W.length * 2 := wtC_len _
    have hrun := run_copy_part (P := Try.prog) (w.alloc (.cells (fresh2 (W.length + 1)) 36)) 25 25 ty 36 w.heap.size (W.length + 1) (W.length + 1) x W.length cap _ 36 (wtC W) 2 Try.underlying25 hinfo (heap_alloc_new _ _) (by rw [hlen, hmin])
      (fun j u hu => ((below_a1 w _).cell (p := x.add j) (by rw [add_block]; exact hxb)).trans (hnews j u hu))
      (by rw [hlen, fresh2_size]; omega)
      (fun v hv => by
        obtain ⟨i, hi, rfl⟩ := List.getElem_of_mem hv
        obtain ⟨k, hk, ⟨_, e⟩ | ⟨_, e⟩⟩ := wtC_flat (List.getElem?_eq_getElem hi) <;> rw [e] <;> rfl)
    rw [hmin] at hrun
    refine ⟨_, hrun, ⟨_, setRow_heap _ _ _ _ _ _ (heap_alloc_new w _), ?_, fun i _ hi => ?_, ?_, ?_⟩, _root_.Go.below_setRow (below_a1 _ _) (Nat.le_refl _) _⟩
    · simp [hlen, fresh2_size]; omega
    · have hg := wtC_get W i hi
      simp only [List.getElem?_toArray]
      rw [List.getElem?_append_left (by omega), List.getElem?_append_left (by omega)]
      exact hg
    · simp only [List.getElem?_toArray]
      rw [List.getElem?_append_right (by omega), List.getElem?_drop, hlen]
      have := fresh2_get (W.length + 1) (W.length * 2 + (W.length * 2 - W.length * 2)) (by omega)
      simpa using this
    · simp only [List.getElem?_toArray]
      rw [List.getElem?_append_right (by omega), List.getElem?_drop, hlen]
      have := fresh2_get (W.length + 1) (W.length * 2 + (W.length * 2 + 1 - W.length * 2)) (by omega)
      simpa using this
end Go.Proofs.Ytbmmicfdnfpcaaa
