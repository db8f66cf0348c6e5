/- The program's machine of layer 10: head, noneUnderWay, slotIsFree, look. -/
import Derived.Test.YtfbbcjlbelnfaaaCmB
namespace Go.Proofs.Ytfbbcjlbelnfaaa
open Go.ChangeShapes Go.WideShapes Go.ChangeAt Go.RowKit
attribute [local go_sem ↓] Go.wp_at_zero Go.wp_at_succ

def hdA (st : Int) (s : Nat) : Ad := ⟨2, slotV st s, 0⟩
theorem hdA_is {c : Nat} {P : Cp} (hp : POk P) (st : Int) : isAd c P.s (hdA st P.s) = true := by
  obtain ⟨h1, h2⟩ := slotV_bd st P.s (sizeOk_iff.mpr ⟨by have := hp.s1; omega, by have := hp.s16; omega⟩)
  unfold hdA
  simp [isAd, h1, h2]
set_option maxRecDepth 10000 in
theorem mhead_any {w : World} {base : Nat} {p : Value} {c : Nat} {L : List Ac} {F : List Nat} {X Z : Nat} {P : Cp} {b : Ck} {u : Cu} (h : CS w base p c P.s L F X Z P b u) (hp : POk P) (hb : base ≤ w.heap.size) (hL : L.length < 3298534883328) (t st : Int) :
    Calls Try.prog 74 #[.pointer (some ⟨Z, 0, none⟩), p, .int .i64 t, .int .i64 st] w fun e w' => e = .returned (.int .i64 (wordOf L (hdA st P.s))) ∧ ∃ F', MemAt w' base p c P.s (loadL c P.s L t (hdA st P.s)) F' ∧ Next F F' w w' := by
  have HL : Hid (∀ w', Below w.heap.size w w' → Calls Try.prog 67 #[p, .int .i64 t, .agg #[.int .i64 2, .int .i64 (slotV st P.s), .int .i64 0]] w' fun e w'' => e = .returned (.tuple #[.int .i64 (wordOf L (hdA st P.s)), .int .i64 0]) ∧ ∃ F', MemAt w'' base p c P.s (loadL c P.s L t (hdA st P.s)) F' ∧ Next F F' w w'') := fun w' hb' => by
    have := load_any (h.ks.mem.below hb') (Nat.le_trans hb hb'.size) hL t (hdA st P.s)
    rw [if_pos (hdA_is hp st), if_pos (hdA_is hp st)] at this
    refine this.mono ?_
    rintro e w'' ⟨rfl, F', h1, h2⟩
    exact ⟨rfl, F', h1, (Next.of_below hb' _).trans h2⟩
  have HSL : Hid (∀ w, Calls Try.prog 84 #[.int .i64 st, .int .i64 (P.s : Int)] w fun e w' => e = .returned (.int .i64 (slotV st P.s)) ∧ w' = w) := slot_any st P.s
  obtain ⟨x0, x1, x2, x3, x4, x5, x6, x7⟩ := CRow.cells h.cm
  obtain ⟨M, rfl⟩ := h.ks.mem.ptr
  clear h hp
  generalize wordOf L (hdA st P.s) = v at *
  generalize loadL c P.s L t (hdA st P.s) = L' at *
  generalize slotV st P.s = sl at *
  go_enter Try.func74, Try.ntmps74
  go_wp2_with fail
  refine (HSL.out _).mono ?_
  rintro e w1 ⟨rfl, rfl⟩
  go_wp2_with fail
  refine (HL.out _ (Below.refl _ _)).mono ?_
  rintro e w2 ⟨rfl, F', hm2, hn2⟩
  have HE : Hid (MemAt w2 base (.pointer (some ⟨M, 0, none⟩)) c P.s L' F' ∧ Next F F' _ w2) := ⟨hm2, hn2⟩
  clear hm2 hn2
  go_wp2
  go_ret
  exact ⟨rfl, F', HE.out⟩
theorem CS.onMem {w w' : World} {base : Nat} {p : Value} {c r : Nat} {L L' : List Ac} {F F' : List Nat} {X Z : Nat} {P : Cp} {b : Ck} {u : Cu} (h : CS w base p c r L F X Z P b u) (hm : MemAt w' base p c r L' F') (hn : Next F F' w w') : CS w' base p c r L' F' X Z P b u :=
  h.onKS (h.ks.onMem hm hn) (nextX hn)
set_option maxRecDepth 10000 in
theorem mnone_any {w : World} {base : Nat} {p : Value} {c : Nat} {L : List Ac} {F : List Nat} {X Z : Nat} {P : Cp} {b : Ck} {u : Cu} (h : CS w base p c P.s L F X Z P b u) (hp : POk P) (hb : base ≤ w.heap.size) (hL : L.length < 3298534883328) (t : Int) :
    Calls Try.prog 51 #[.pointer (some ⟨Z, 0, none⟩), p, .int .i64 t] w fun e w' => e = .returned (.bool (overV (wordOf L (hdA u.seen P.s)) u.seen)) ∧ ∃ F', CS w' base p c P.s (loadL c P.s L t (hdA u.seen P.s)) F' X Z P b u ∧ Next F F' w w' := by
  have HH : Hid (∀ w', Below w.heap.size w w' → Calls Try.prog 74 #[.pointer (some ⟨Z, 0, none⟩), p, .int .i64 t, .int .i64 u.seen] w' fun e w'' => e = .returned (.int .i64 (wordOf L (hdA u.seen P.s))) ∧ w''.cell? ⟨Z, 14, none⟩ = some (.int .i64 u.seen) ∧ ∃ F', CS w'' base p c P.s (loadL c P.s L t (hdA u.seen P.s)) F' X Z P b u ∧ Next F F' w w'') := fun w' hb' => by
    refine (mhead_any (h.below hb') hp (Nat.le_trans hb hb'.size) hL t u.seen).mono ?_
    rintro e w'' ⟨rfl, F', h1, h2⟩
    have h3 := (h.below hb').onMem h1 h2
    exact ⟨rfl, (CRow.cells h3.cm).2.2.2.2.2.2.1, F', h3, (Next.of_below hb' _).trans h2⟩
  have HO : Hid (∀ w, Calls Try.prog 73 #[.int .i64 (wordOf L (hdA u.seen P.s)), .int .i64 u.seen] w fun e w' => e = .returned (.bool (overV (wordOf L (hdA u.seen P.s)) u.seen)) ∧ w' = w) := over_any _ _
  obtain ⟨x0, x1, x2, x3, x4, x5, x6, x7⟩ := CRow.cells h.cm
  obtain ⟨M, rfl⟩ := h.ks.mem.ptr
  clear h hp
  generalize overV (wordOf L (hdA u.seen P.s)) u.seen = ov at *
  generalize wordOf L (hdA u.seen P.s) = v at *
  generalize loadL c P.s L t (hdA u.seen P.s) = L' at *
  go_enter Try.func51, Try.ntmps51
  go_wp2
  go_region_with ((first | (go_at_call 74; refine (HH.out _ (below_drawn (Below.refl _ _) 1)).mono ?_; rintro e w2 ⟨rfl, c2, F', hm2, hn2⟩) | (go_at_call 73; refine (HO.out _).mono ?_; rintro e w' ⟨rfl, rfl⟩)))
  all_goals
    go_wp2
    go_ret
    exact ⟨rfl, F', hm2, hn2⟩
set_option maxRecDepth 10000 in
theorem mfree_any {w : World} {base : Nat} {p : Value} {c : Nat} {L : List Ac} {F : List Nat} {X Z : Nat} {P : Cp} {b : Ck} {u : Cu} (h : CS w base p c P.s L F X Z P b u) (hp : POk P) (hb : base ≤ w.heap.size) (hL : L.length < 3298534883328) (h0 : 0 ≤ u.seen) (h1 : u.seen < 1099511627776) (t : Int) :
    Calls Try.prog 52 #[.pointer (some ⟨Z, 0, none⟩), p, .int .i64 t] w fun e w' => e = .returned (.bool (freeV (wordOf L (hdA (u.seen + 1) P.s)) (u.seen + 1) P.s)) ∧ ∃ F', CS w' base p c P.s (loadL c P.s L t (hdA (u.seen + 1) P.s)) F' X Z P b u ∧ Next F F' w w' := by
  have HH : Hid (∀ w', Below w.heap.size w w' → Calls Try.prog 74 #[.pointer (some ⟨Z, 0, none⟩), p, .int .i64 t, .int .i64 (u.seen + 1)] w' fun e w'' => e = .returned (.int .i64 (wordOf L (hdA (u.seen + 1) P.s))) ∧ w''.cell? ⟨Z, 0, none⟩ = some (.int .i64 (P.s : Int)) ∧ ∃ F', CS w'' base p c P.s (loadL c P.s L t (hdA (u.seen + 1) P.s)) F' X Z P b u ∧ Next F F' w w'') := fun w' hb' => by
    refine (mhead_any (h.below hb') hp (Nat.le_trans hb hb'.size) hL t (u.seen + 1)).mono ?_
    rintro e w'' ⟨rfl, F', h1, h2⟩
    have h3 := (h.below hb').onMem h1 h2
    exact ⟨rfl, (CRow.cells h3.cm).1, F', h3, (Next.of_below hb' _).trans h2⟩
  have HO : Hid (∀ w, Calls Try.prog 75 #[.int .i64 (wordOf L (hdA (u.seen + 1) P.s)), .int .i64 (u.seen + 1), .int .i64 (P.s : Int)] w fun e w' => e = .returned (.bool (freeV (wordOf L (hdA (u.seen + 1) P.s)) (u.seen + 1) P.s)) ∧ w' = w) := free_any _ _ _ (by omega) (by omega)
  have hw : wrap64 (u.seen + 1) = u.seen + 1 := by unfold wrap64; omega
  obtain ⟨x0, x1, x2, x3, x4, x5, x6, x7⟩ := CRow.cells h.cm
  obtain ⟨M, rfl⟩ := h.ks.mem.ptr
  clear h hp
  generalize freeV (wordOf L (hdA (u.seen + 1) P.s)) (u.seen + 1) P.s = ov at *
  generalize wordOf L (hdA (u.seen + 1) P.s) = v at *
  generalize loadL c P.s L t (hdA (u.seen + 1) P.s) = L' at *
  go_enter Try.func52, Try.ntmps52
  go_wp2
  go_region_with ((first | (go_at_call 74; refine (HH.out _ (by first | exact below_drawn (Below.refl _ _) 1 | exact Below.refl _ _)).mono ?_; rintro e w2 ⟨rfl, c2, F', hm2, hn2⟩) | (go_at_call 75; refine (HO.out _).mono ?_; rintro e w' ⟨rfl, rfl⟩)))
  all_goals
    go_wp2
    go_ret
    exact ⟨rfl, F', hm2, hn2⟩
set_option maxRecDepth 10000 in
theorem mlook_one {w : World} {base : Nat} {p : Value} {c : Nat} {L : List Ac} {F : List Nat} {X Z : Nat} {P : Cp} {b : Ck} {u : Cu} (h : CS w base p c P.s L F X Z P b u) (hp : POk P) (hb : base ≤ w.heap.size) (hL : L.length < 3298534883328) (hm : P.ex.mu = false) (t : Int) :
    Calls Try.prog 33 #[.pointer (some ⟨Z, 0, none⟩), p, .int .i64 t] w fun e w' => e = .returned (ansW (if looksY P u L then 2 else 1) 0 0 true) ∧ ∃ F', CS w' base p c P.s (loadL c P.s L t (lookA P u)) F' X Z P b (lookU P u L) ∧ Next (Z :: X :: F) (Z :: X :: F') w w' := by
  have HR : Hid (∀ w', Below w.heap.size w w' → Calls Try.prog 51 #[.pointer (some ⟨Z, 0, none⟩), p, .int .i64 t] w' fun e w'' => e = .returned (.bool (looksY P u L)) ∧ ∃ F', CS w'' base p c P.s (loadL c P.s L t (lookA P u)) F' X Z P b u ∧ Next (Z :: X :: F) (Z :: X :: F') w' w'') := fun w' hb' => by
    unfold looksY lookY
    rw [show lookA P u = hdA u.seen P.s by unfold lookA lookS hdA; rw [if_neg (by simp [hm])], if_neg (by simp [hm])]
    refine (mnone_any (h.below hb') hp (Nat.le_trans hb hb'.size) hL t).mono ?_
    rintro e w'' ⟨rfl, F', h1, h2⟩
    exact ⟨rfl, F', h1, nextX (nextX h2)⟩
  have HM : Hid (∀ w, Calls Try.prog 53 #[] w fun e w' => e = .returned (.agg #[.int .i64 2, .int .i64 0, .int .i64 0, .bool true]) ∧ Below w.heap.size w w') := moved_any
  have hmf : ∀ (fn : Fn) (first cap : Array Value) (w : World), (Instr.makeFunc fn first cap).run Try.prog w = .ok (.func fn first cap) w := fun _ _ _ _ => rfl
  obtain ⟨x0, x1, x2, x3, x4, x5, x6, x7⟩ := CRow.cells h.cm
  rw [hm] at x2
  have HLT : Hid (∀ q ∈ Z :: X :: F, q < w.heap.size) := fun q hq => (h.lt q hq).2
  have hx : Z < w.heap.size := heap_lt h.cm
  obtain ⟨M, rfl⟩ := h.ks.mem.ptr
  unfold lookU ansW
  generalize looksY P u L = yy at *
  generalize loadL c P.s L t (lookA P u) = L' at *
  clear h hp hm
  cases yy
  · rw [if_neg (by simp), if_neg (by simp)]
    go_enter Try.func33, Try.ntmps33
    go_wp2_with fail
    refine (HR.out _ (below_a1 _ _)).mono ?_
    rintro e w1 ⟨rfl, F', h1, n1⟩
    obtain ⟨r1, o1, nn1⟩ := nx_row HLT.out (below_a1 _ _) (heap_alloc_new _ _) n1
    have HE : Hid (w1.heap[w.heap.size]? = some (.cells #[.int .i64 0, .int .i64 0, .int .i64 0, .bool false] 52 (0, 0)) ∧ CS w1 base (.pointer (some ⟨M, 0, none⟩)) c P.s L' F' X Z P b u ∧ w.heap.size ∉ Z :: X :: F' ∧ Next (Z :: X :: F) (Z :: X :: F') w w1) := ⟨r1, h1, o1, nn1⟩
    obtain ⟨⟨a0, a1, a2, a3⟩, g0, g1, g2, g3⟩ := ans_cells r1
    have hB1 := heap_lt r1
    clear x0 x1 x2 x3 x4 x5 x6 x7 h1 n1 r1 o1 nn1
    go_wp2
    exact ret_ans rfl rfl (ansW_set rfl HE.out.1 1 0 0 true) rfl rfl ⟨rfl, F', cs_other HE.out.2.1 HE.out.2.2.1 (Nat.le_refl _) HE.out.2.2.2 (keepWB 1 0 0 true)⟩
  · rw [if_pos rfl, if_pos rfl]
    go_enter Try.func33, Try.ntmps33
    go_wp2_with fail
    refine (HR.out _ (below_a1 _ _)).mono ?_
    rintro e w1 ⟨rfl, F', h1, n1⟩
    obtain ⟨r1, o1, nn1⟩ := nx_row HLT.out (below_a1 _ _) (heap_alloc_new _ _) n1
    have HE : Hid (w1.heap[w.heap.size]? = some (.cells #[.int .i64 0, .int .i64 0, .int .i64 0, .bool false] 52 (0, 0)) ∧ CS w1 base (.pointer (some ⟨M, 0, none⟩)) c P.s L' F' X Z P b u ∧ w.heap.size ∉ Z :: X :: F' ∧ Next (Z :: X :: F) (Z :: X :: F') w w1) := ⟨r1, h1, o1, nn1⟩
    clear x0 x1 x2 x3 x4 x5 x6 x7
    obtain ⟨x0, x1, x2, x3, x4, x5, x6, x7⟩ := CRow.cells h1.cm
    obtain ⟨f0, f1, f2, f3⟩ := CRow.fz h1.cm
    have hx1 : Z < w1.heap.size := heap_lt h1.cm
    have hB1 := heap_lt r1
    clear h1 n1 r1 o1 nn1
    go_wp2_with fail
    refine (HM.out _).mono ?_
    rintro e w2 ⟨rfl, hb2⟩
    have hne : w.heap.size ≠ Z := fun e => HE.out.2.2.1 (by simp [e])
    have hc2 := HE.out.2.1.onZ (show CAt (w1.setCell ⟨Z, 12, none⟩ (.int .i64 2)) Z P ⟨2, u.seen, u.stamp⟩ (ptr X) from (cset HE.out.2.1.cm 2 (ptr X)).1) (kkeep (Keep.refl _ _) _ _)
    have HE2 : Hid (w2.heap[w.heap.size]? = some (.cells #[.int .i64 0, .int .i64 0, .int .i64 0, .bool false] 52 (0, 0)) ∧ CS w2 base (.pointer (some ⟨M, 0, none⟩)) c P.s L' F' X Z P b ⟨2, u.seen, u.stamp⟩ ∧ w.heap.size ∉ Z :: X :: F' ∧ Next (Z :: X :: F) (Z :: X :: F') w w2) := ⟨row_on (row_set HE.out.1 hne 12 (.int .i64 2)) hb2, hc2.1.below hb2, HE.out.2.2.1, (HE.out.2.2.2.trans hc2.2).trans (Next.of_below hb2 _)⟩
    obtain ⟨⟨a0, a1, a2, a3⟩, g0, g1, g2, g3⟩ := ans_cells HE2.out.1
    have hB2 := heap_lt HE2.out.1
    clear x0 x1 x2 x3 x4 x5 x6 x7 f0 f1 f2 f3 hb2 hc2 hB1 hx1
    go_wp2
    exact ret_ans rfl rfl (ansW_set rfl HE2.out.1 2 0 0 true) rfl rfl ⟨rfl, F', cs_other HE2.out.2.1 HE2.out.2.2.1 (Nat.le_refl _) HE2.out.2.2.2 (keepWB 2 0 0 true)⟩
set_option maxRecDepth 10000 in
theorem mlook_multi {w : World} {base : Nat} {p : Value} {c : Nat} {L : List Ac} {F : List Nat} {X Z : Nat} {P : Cp} {b : Ck} {u : Cu} (h : CS w base p c P.s L F X Z P b u) (hp : POk P) (hb : base ≤ w.heap.size) (hL : L.length < 3298534883328) (h0 : 0 ≤ u.seen) (h2 : u.seen < 1099511627776) (hm : P.ex.mu = true) (t : Int) :
    Calls Try.prog 33 #[.pointer (some ⟨Z, 0, none⟩), p, .int .i64 t] w fun e w' => e = .returned (ansW (if looksY P u L then 2 else 1) 0 0 true) ∧ ∃ F', CS w' base p c P.s (loadL c P.s L t (lookA P u)) F' X Z P b (lookU P u L) ∧ Next (Z :: X :: F) (Z :: X :: F') w w' := by
  have HR : Hid (∀ w', Below w.heap.size w w' → Calls Try.prog 52 #[.pointer (some ⟨Z, 0, none⟩), p, .int .i64 t] w' fun e w'' => e = .returned (.bool (looksY P u L)) ∧ ∃ F', CS w'' base p c P.s (loadL c P.s L t (lookA P u)) F' X Z P b u ∧ Next (Z :: X :: F) (Z :: X :: F') w' w'') := fun w' hb' => by
    unfold looksY lookY
    rw [show lookA P u = hdA (u.seen + 1) P.s by unfold lookA lookS hdA; rw [if_pos hm], if_pos hm]
    refine (mfree_any (h.below hb') hp (Nat.le_trans hb hb'.size) hL h0 h2 t).mono ?_
    rintro e w'' ⟨rfl, F', h1, h2⟩
    exact ⟨rfl, F', h1, nextX (nextX h2)⟩
  have HM : Hid (∀ w, Calls Try.prog 53 #[] w fun e w' => e = .returned (.agg #[.int .i64 2, .int .i64 0, .int .i64 0, .bool true]) ∧ Below w.heap.size w w') := moved_any
  have hmf : ∀ (fn : Fn) (first cap : Array Value) (w : World), (Instr.makeFunc fn first cap).run Try.prog w = .ok (.func fn first cap) w := fun _ _ _ _ => rfl
  obtain ⟨x0, x1, x2, x3, x4, x5, x6, x7⟩ := CRow.cells h.cm
  rw [hm] at x2
  have HLT : Hid (∀ q ∈ Z :: X :: F, q < w.heap.size) := fun q hq => (h.lt q hq).2
  have hx : Z < w.heap.size := heap_lt h.cm
  obtain ⟨M, rfl⟩ := h.ks.mem.ptr
  unfold lookU ansW
  generalize looksY P u L = yy at *
  generalize loadL c P.s L t (lookA P u) = L' at *
  clear h hp hm h0 h2
  cases yy
  · rw [if_neg (by simp), if_neg (by simp)]
    go_enter Try.func33, Try.ntmps33
    go_wp2_with fail
    refine (HR.out _ (below_a1 _ _)).mono ?_
    rintro e w1 ⟨rfl, F', h1, n1⟩
    obtain ⟨r1, o1, nn1⟩ := nx_row HLT.out (below_a1 _ _) (heap_alloc_new _ _) n1
    have HE : Hid (w1.heap[w.heap.size]? = some (.cells #[.int .i64 0, .int .i64 0, .int .i64 0, .bool false] 52 (0, 0)) ∧ CS w1 base (.pointer (some ⟨M, 0, none⟩)) c P.s L' F' X Z P b u ∧ w.heap.size ∉ Z :: X :: F' ∧ Next (Z :: X :: F) (Z :: X :: F') w w1) := ⟨r1, h1, o1, nn1⟩
    obtain ⟨⟨a0, a1, a2, a3⟩, g0, g1, g2, g3⟩ := ans_cells r1
    have hB1 := heap_lt r1
    clear x0 x1 x2 x3 x4 x5 x6 x7 h1 n1 r1 o1 nn1
    go_wp2
    exact ret_ans rfl rfl (ansW_set rfl HE.out.1 1 0 0 true) rfl rfl ⟨rfl, F', cs_other HE.out.2.1 HE.out.2.2.1 (Nat.le_refl _) HE.out.2.2.2 (keepWB 1 0 0 true)⟩
  · rw [if_pos rfl, if_pos rfl]
    go_enter Try.func33, Try.ntmps33
    go_wp2_with fail
    refine (HR.out _ (below_a1 _ _)).mono ?_
    rintro e w1 ⟨rfl, F', h1, n1⟩
    obtain ⟨r1, o1, nn1⟩ := nx_row HLT.out (below_a1 _ _) (heap_alloc_new _ _) n1
    have HE : Hid (w1.heap[w.heap.size]? = some (.cells #[.int .i64 0, .int .i64 0, .int .i64 0, .bool false] 52 (0, 0)) ∧ CS w1 base (.pointer (some ⟨M, 0, none⟩)) c P.s L' F' X Z P b u ∧ w.heap.size ∉ Z :: X :: F' ∧ Next (Z :: X :: F) (Z :: X :: F') w w1) := ⟨r1, h1, o1, nn1⟩
    clear x0 x1 x2 x3 x4 x5 x6 x7
    obtain ⟨x0, x1, x2, x3, x4, x5, x6, x7⟩ := CRow.cells h1.cm
    obtain ⟨f0, f1, f2, f3⟩ := CRow.fz h1.cm
    have hx1 : Z < w1.heap.size := heap_lt h1.cm
    have hB1 := heap_lt r1
    clear h1 n1 r1 o1 nn1
    go_wp2_with fail
    refine (HM.out _).mono ?_
    rintro e w2 ⟨rfl, hb2⟩
    have hne : w.heap.size ≠ Z := fun e => HE.out.2.2.1 (by simp [e])
    have hc2 := HE.out.2.1.onZ (show CAt (w1.setCell ⟨Z, 12, none⟩ (.int .i64 2)) Z P ⟨2, u.seen, u.stamp⟩ (ptr X) from (cset HE.out.2.1.cm 2 (ptr X)).1) (kkeep (Keep.refl _ _) _ _)
    have HE2 : Hid (w2.heap[w.heap.size]? = some (.cells #[.int .i64 0, .int .i64 0, .int .i64 0, .bool false] 52 (0, 0)) ∧ CS w2 base (.pointer (some ⟨M, 0, none⟩)) c P.s L' F' X Z P b ⟨2, u.seen, u.stamp⟩ ∧ w.heap.size ∉ Z :: X :: F' ∧ Next (Z :: X :: F) (Z :: X :: F') w w2) := ⟨row_on (row_set HE.out.1 hne 12 (.int .i64 2)) hb2, hc2.1.below hb2, HE.out.2.2.1, (HE.out.2.2.2.trans hc2.2).trans (Next.of_below hb2 _)⟩
    obtain ⟨⟨a0, a1, a2, a3⟩, g0, g1, g2, g3⟩ := ans_cells HE2.out.1
    have hB2 := heap_lt HE2.out.1
    clear x0 x1 x2 x3 x4 x5 x6 x7 f0 f1 f2 f3 hb2 hc2 hB1 hx1
    go_wp2
    exact ret_ans rfl rfl (ansW_set rfl HE2.out.1 2 0 0 true) rfl rfl ⟨rfl, F', cs_other HE2.out.2.1 HE2.out.2.2.1 (Nat.le_refl _) HE2.out.2.2.2 (keepWB 2 0 0 true)⟩
theorem mlook_any {w : World} {base : Nat} {p : Value} {c : Nat} {L : List Ac} {F : List Nat} {X Z : Nat} {P : Cp} {b : Ck} {u : Cu} (h : CS w base p c P.s L F X Z P b u) (hp : POk P) (hb : base ≤ w.heap.size) (hL : L.length < 3298534883328) (h0 : 0 ≤ u.seen) (h2 : u.seen < 1099511627776) (t : Int) :
    Calls Try.prog 33 #[.pointer (some ⟨Z, 0, none⟩), p, .int .i64 t] w fun e w' => e = .returned (ansW (if looksY P u L then 2 else 1) 0 0 true) ∧ ∃ F', CS w' base p c P.s (loadL c P.s L t (lookA P u)) F' X Z P b (lookU P u L) ∧ Next (Z :: X :: F) (Z :: X :: F') w w' := by
  cases hm : P.ex.mu
  · exact mlook_one h hp hb hL hm t
  · exact mlook_multi h hp hb hL h0 h2 hm t
end Go.Proofs.Ytfbbcjlbelnfaaa
