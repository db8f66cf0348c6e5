/- The program's Step of layer 8. -/
import Derived.Test.YtfbbcjlbelnfaaaCqC
namespace Go.Proofs.Ytfbbcjlbelnfaaa
open Go.ChangeShapes Go.WideShapes Go.ChangeAt Go.RowKit
attribute [local go_sem ↓] Go.wp_at_zero Go.wp_at_succ

theorem kok_mid {P : Cp} {b : Ck} {n : Nat} (h : KOk P b n) (hs : b.st = 1 ∨ b.st = 2 ∨ b.st = 3) : KMid P b ∧ (b.st = 2 → 0 ≤ b.word ∧ b.word ≤ 7) := by
  rcases h.c with ⟨rfl, _⟩ | ⟨c, k, _⟩ | ⟨c, k, w1, w2, _⟩ | ⟨c, k, _⟩ | ⟨c, _⟩ | ⟨c, _⟩
  · rcases hs with e | e | e <;> simp [ckNew] at e
  · exact ⟨k, fun e => by omega⟩
  · exact ⟨k, fun _ => ⟨w1, w2⟩⟩
  · exact ⟨k, fun e => by omega⟩
  · omega
  · omega
theorem kok_zero {P : Cp} {b : Ck} {n : Nat} (h : KOk P b n) (hs : b.st = 0) : b = ckNew P := by
  rcases h.c with ⟨e, _⟩ | ⟨c, _⟩ | ⟨c, _⟩ | ⟨c, _⟩ | ⟨c, _⟩ | ⟨c, _⟩
  · exact e
  all_goals omega
theorem kindK_of {P : Cp} {b : Ck} {v : Int} (h : waitK b v = false) : kindK P b v = kindV (stepK P b v) ∧ errK P b v = (stepK P b v).err := by
  unfold kindK errK; rw [h]; exact ⟨rfl, rfl⟩
theorem csee_all {w : World} {X : Nat} {P : Cp} {b : Ck} {n : Nat} (h : KAt w X P b) (hk : KOk P b n) (h0 : b.st = 0) {v : Int} (hv : W64 v) :
    Calls Try.prog 69 #[.pointer (some ⟨X, 0, none⟩), .int .i64 v] w fun en w' => en = .returned (ansE (kindK P b v) (errK P b v) true) ∧ KAt w' X P (stepK P b v) ∧ Keep [X] w w' := by
  have hp := hk.p
  have hw : waitK b v = false := by unfold waitK; simp [h0]
  have hb := kok_zero hk h0
  have he : b.err = 0 := by rw [hb]; rfl
  have hst : 0 ≤ b.stamp := by rw [hb]; exact hp.z0
  have hS : stepK P b v = seeK P b v := by unfold stepK; rw [if_pos h0]
  rw [(kindK_of hw).1, (kindK_of hw).2, hS]
  by_cases hr : P.rd = Sg.nought
  · have hS2 : seeK P b v = ⟨4, v, b.stamp, b.word, b.comp, b.err⟩ := by unfold seeK; rw [if_pos (Or.inl hr)]
    rw [hS2]
    refine (csee_e h hp hv h0 hst hr).mono ?_
    rintro e w' ⟨rfl, g1, g2⟩
    exact ⟨by show Ending.returned (ansE 3 0 true) = .returned (ansE 3 b.err true); rw [he], g1, g2⟩
  · by_cases hl : v ≤ P.z
    · have hS2 : seeK P b v = ⟨4, v, b.stamp, b.word, b.comp, b.err⟩ := by unfold seeK; rw [if_pos (Or.inr hl)]
      rw [hS2]
      refine (csee_l h hp hv h0 hst hr hl).mono ?_
      rintro e w' ⟨rfl, g1, g2⟩
      exact ⟨by show Ending.returned (ansE 3 0 true) = .returned (ansE 3 b.err true); rw [he], g1, g2⟩
    · have hno : ¬ (P.rd = Sg.nought ∨ v ≤ P.z) := fun e => e.elim hr hl
      by_cases hf : farV P v = true
      · have hS2 : seeK P b v = failV ⟨b.st, v, b.stamp, b.word, b.comp, b.err⟩ 4 := by unfold seeK; rw [if_neg hno, if_pos hf]
        rw [hS2]
        exact csee_f h hp hv h0 hst hr hl hf
      · have hS2 : seeK P b v = onV P ⟨b.st, v, b.stamp, b.word, b.comp, b.err⟩ := by unfold seeK; rw [if_neg hno, if_neg hf]
        rw [hS2]
        refine (csee_g h hp hv h0 hst hr hl (by simpa using hf)).mono ?_
        rintro e w' ⟨rfl, g1, g2⟩
        exact ⟨by rw [onV_err]; show _ = Ending.returned (ansE _ b.err true); rw [he], g1, g2⟩
theorem clook_all {w : World} {X : Nat} {P : Cp} {b : Ck} {n : Nat} (h : KAt w X P b) (hk : KOk P b n) (h1 : b.st = 1) {v : Int} :
    Calls Try.prog 70 #[.pointer (some ⟨X, 0, none⟩), .int .i64 v] w fun en w' => en = .returned (ansE (kindK P b v) (errK P b v) true) ∧ KAt w' X P (stepK P b v) ∧ Keep [X] w w' := by
  have hp := hk.p
  obtain ⟨km, _⟩ := kok_mid hk (Or.inl h1)
  have he := km.e
  have hz := hp.z0
  have hlo := km.lo
  have hhi := km.hi
  have hse := km.w
  have hst : 1 ≤ b.stamp := by omega
  have hsm : b.stamp ≤ 9223372036854775807 := by omega
  have hS : stepK P b v = lookK P b v := by unfold stepK; rw [if_neg (by omega), if_pos h1]
  by_cases hL : laidV v b.stamp = true
  · have hw : waitK b v = false := by unfold waitK; rw [hL]; simp
    have hS2 : lookK P b v = onV P ⟨b.st, b.seen, b.stamp, b.word, compV b v, b.err⟩ := by unfold lookK; rw [if_pos hL]
    rw [(kindK_of hw).1, (kindK_of hw).2, hS, hS2]
    by_cases hO : overV v b.stamp = true
    · by_cases hq : b.comp = b.stamp - 1
      · have hc : compV b v = b.stamp := by unfold compV; rw [if_pos ⟨hO, hq⟩]
        rw [hc]
        refine (clook_c h h1 hst hsm hL hO hq hse).mono ?_
        rintro e w' ⟨rfl, g1, g2⟩
        exact ⟨by rw [onV_err]; show _ = Ending.returned (ansE _ b.err true); rw [he], g1, g2⟩
      · have hc : compV b v = b.comp := by unfold compV; rw [if_neg (fun e => hq e.2)]
        rw [hc]
        refine (clook_d h h1 hst hsm hL hO hq hse).mono ?_
        rintro e w' ⟨rfl, g1, g2⟩
        exact ⟨by rw [onV_err]; show _ = Ending.returned (ansE _ b.err true); rw [he], g1, g2⟩
    · have hc : compV b v = b.comp := by unfold compV; rw [if_neg (fun e => hO e.1)]
      rw [hc]
      refine (clook_n h h1 hst hsm hL (by simpa using hO) hse).mono ?_
      rintro e w' ⟨rfl, g1, g2⟩
      exact ⟨by rw [onV_err]; show _ = Ending.returned (ansE _ b.err true); rw [he], g1, g2⟩
  · have hL' : laidV v b.stamp = false := by simpa using hL
    by_cases hO : overV v b.stamp = true
    · have hw : waitK b v = false := by unfold waitK; rw [hO]; simp
      have hS2 : lookK P b v = failV b 4 := by unfold lookK; rw [if_neg hL, if_pos hO]
      rw [(kindK_of hw).1, (kindK_of hw).2, hS, hS2]
      exact clook_f h h1 hst hsm hL' hO
    · have hO' : overV v b.stamp = false := by simpa using hO
      have hw : waitK b v = true := by unfold waitK; rw [hL', hO']; simp [h1]
      have hS2 : lookK P b v = b := by unfold lookK; rw [if_neg hL, if_neg hO]
      have hkk : kindK P b v = 1 ∧ errK P b v = 0 := by unfold kindK errK; rw [hw]; exact ⟨rfl, rfl⟩
      rw [hkk.1, hkk.2, hS, hS2]
      exact clook_w h h1 hst hsm hL' hO'
theorem chold_all {w : World} {X : Nat} {P : Cp} {b : Ck} {n : Nat} (h : KAt w X P b) (hk : KOk P b n) (h2 : b.st = 2) {v : Int} :
    Calls Try.prog 71 #[.pointer (some ⟨X, 0, none⟩), .int .u64 (IntKind.u64.wrap v)] w fun en w' => en = .returned (ansE (kindK P b v) (errK P b v) true) ∧ KAt w' X P (stepK P b v) ∧ Keep [X] w w' := by
  have hp := hk.p
  obtain ⟨km, hwd⟩ := kok_mid hk (Or.inr (Or.inl h2))
  obtain ⟨w1, w2⟩ := hwd h2
  have he := km.e
  have hw : waitK b v = false := by unfold waitK; simp [h2]
  have hS : stepK P b v = holdK P b v := by unfold stepK; rw [if_neg (by omega), if_neg (by omega), if_pos h2]
  rw [(kindK_of hw).1, (kindK_of hw).2, hS]
  by_cases hH : hitV P.rd b.word.toNat v = true
  · have hS2 : holdK P b v = failV b 3 := by unfold holdK; rw [if_pos hH]
    rw [hS2]
    exact chold_h h hp h2 w1 w2 hH
  · have hS2 : holdK P b v = onV P b := by unfold holdK; rw [if_neg hH]
    rw [hS2, onV_err, he]
    exact chold_n h hp h2 w1 w2 (by simpa using hH) km.w (by have := hp.z0; have := km.lo; omega)
theorem cagain_all {w : World} {X : Nat} {P : Cp} {b : Ck} {n : Nat} (h : KAt w X P b) (hk : KOk P b n) (h3 : b.st = 3) {v : Int} (hv : W64 v) :
    Calls Try.prog 72 #[.pointer (some ⟨X, 0, none⟩), .int .i64 v] w fun en w' => en = .returned (ansE (kindK P b v) (errK P b v) true) ∧ KAt w' X P (stepK P b v) ∧ Keep [X] w w' := by
  obtain ⟨km, _⟩ := kok_mid hk (Or.inr (Or.inr h3))
  have hw : waitK b v = false := by unfold waitK; simp [h3]
  have hS : stepK P b v = againK P b v := by unfold stepK; rw [if_neg (by omega), if_neg (by omega), if_neg (by omega), if_pos h3]
  rw [(kindK_of hw).1, (kindK_of hw).2, hS]
  exact cagain_any h hk.p hv h3 km.e

theorem zero_row (w : World) : (w.alloc (.cells #[.int .i64 0, .int .i64 0, .int .i64 0, .bool false] 52)).heap[w.heap.size]? = some (.cells #[.int .i64 0, .int .i64 0, .int .i64 0, .bool false] 52 (0, 0)) := heap_alloc_new _ _
set_option maxRecDepth 10000 in
theorem cstep_none {w : World} {base : Nat} {p : Value} {c r : Nat} {L : List Ac} {F : List Nat} {X : Nat} {P : Cp} {b : Ck} (hm : MemAt w base p c r L F) (h : KAt w X P b) (hn : goesK r P b = false) (t : Int) :
    Calls Try.prog 48 #[.pointer (some ⟨X, 0, none⟩), p, .int .i64 t] w fun e w' => e = .returned (ansE 0 0 false) ∧ Below w.heap.size w w' := by
  have HG : Hid (∀ o, Calls Try.prog 66 #[.pointer (some ⟨X, 0, none⟩), p] (w.alloc o) fun e w' => e = .returned (.bool false) ∧ Below (w.alloc o).heap.size (w.alloc o) w') := fun o => by
    rw [← hn]; exact cgoes_any (hm.below (below_a1 _ _)) (h.alloc _)
  obtain ⟨M, rfl⟩ := hm.ptr
  clear hm h hn
  unfold ansE
  go_enter Try.func48, Try.ntmps48
  go_wp2_with fail
  refine (HG.out _).mono ?_
  rintro e w1 ⟨rfl, hb⟩
  have HR : Hid (w1.heap[w.heap.size]? = some (.cells #[.int .i64 0, .int .i64 0, .int .i64 0, .bool false] 52 (0, 0))) := row_on (heap_alloc_new _ _) hb
  obtain ⟨⟨a0, a1, a2, a3⟩, g0, g1, g2, g3⟩ := ans_cells HR.out
  have hB := heap_lt HR.out
  have HB : Hid (Below w.heap.size w w1) := below_then (below_a1 _ _) hb
  clear hb
  go_wp2
  exact ret_ans rfl rfl (ans_set rfl HR.out 0 false) rfl rfl ⟨rfl, below4 HB.out (Nat.le_refl _) 0 false⟩

/-- A machine beside a memory with its ring. -/
structure KMem (w : World) (base : Nat) (p : Value) (c : Nat) (L : List Ac) (F : List Nat) (X : Nat) (P : Cp) (b : Ck) : Prop where
  mem : MemAt w base p c P.s L F
  at_ : KAt w X P b
  out : X ∉ F
  lo : base ≤ X
theorem kstep_load {w w1 w2 : World} {base : Nat} {p : Value} {c : Nat} {L L' : List Ac} {F F' : List Nat} {X B : Nat} {P : Cp} {b : Ck} {o : Obj} (h : KMem w base p c L F X P b) (hb : Below w.heap.size w w1) (hB : w1.heap[B]? = some o) (hlo : w.heap.size ≤ B)
    (hm : MemAt w2 base p c P.s L' F') (hn : Next F F' w1 w2) : w2.heap[B]? = some o ∧ KMem w2 base p c L' F' X P b ∧ B ∉ F' ∧ B ≠ X ∧ Next (X :: F) (X :: F') w w2 := by
  have hx : X < w.heap.size := heap_lt h.at_
  have hF : ∀ q ∈ F, q < w.heap.size := fun q hq => (h.mem.lt q hq).2
  have hs := hb.size
  have hB1 := heap_lt hB
  refine ⟨hn.row hB (fun e => by have := hF _ e; omega), ⟨hm, (h.at_.below hb hx).keep hn.1 h.out, ?_, h.lo⟩, ?_, by omega, ?_, ?_⟩
  · intro e
    rcases hn.2 X e with h1 | h1
    · exact h.out h1
    · omega
  · intro e
    rcases hn.2 B e with h1 | h1
    · have := hF _ h1; omega
    · omega
  · exact ((Keep.of_below hb F).trans hn.1 (fun q hq => Or.inl hq)).mono (fun q hq => by simp [hq])
  · intro q hq
    rcases List.mem_cons.1 hq with rfl | hq
    · exact Or.inl (by simp)
    · rcases hn.2 q hq with h1 | h1
      · exact Or.inl (by simp [h1])
      · exact Or.inr (by omega)
theorem kstep_moves {w w2 w3 : World} {base : Nat} {p : Value} {c : Nat} {L' : List Ac} {F F' : List Nat} {X B : Nat} {P : Cp} {b b' : Ck} {o : Obj} (hB : w2.heap[B]? = some o) (h : KMem w2 base p c L' F' X P b) (hBX : B ≠ X) (hn : Next (X :: F) (X :: F') w w2)
    (ha : KAt w3 X P b') (hk : Keep [X] w2 w3) : w3.heap[B]? = some o ∧ KMem w3 base p c L' F' X P b' ∧ Next (X :: F) (X :: F') w w3 := by
  refine ⟨by rw [hk.block B (heap_lt hB) (by simpa using hBX)]; exact hB, ⟨h.mem.keep hk (fun q hq e => by simp at e; exact h.out (e ▸ hq)), ha, h.out, h.lo⟩, ?_, hn.2⟩
  exact hn.1.trans hk (fun q hq => by simp at hq; subst hq; exact Or.inl (by simp))
theorem kstep_lays {w w3 : World} {base : Nat} {p : Value} {c : Nat} {L' : List Ac} {F F' : List Nat} {X B : Nat} {P : Cp} {b : Ck} (h : KMem w3 base p c L' F' X P b) (hBX : B ≠ X) (hBF : B ∉ F') (hlo : w.heap.size ≤ B) (hn : Next (X :: F) (X :: F') w w3) (k e : Int) (y : Bool) :
    KMem (laidE w3 B k e y) base p c L' F' X P b ∧ Next (X :: F) (X :: F') w (laidE w3 B k e y) :=
  ⟨⟨h.mem.keep (keepEB k e y) (fun q hq e => by simp at e; exact hBF (e ▸ hq)), h.at_.keep (keepEB k e y) (by simpa using fun e => hBX e.symm), h.out, h.lo⟩, keepE hn.1 hlo k e y, hn.2⟩
--STEPS
set_option maxRecDepth 10000 in
set_option maxHeartbeats 1600000 in
theorem cstep_0 {w : World} {base : Nat} {p : Value} {c : Nat} {L : List Ac} {F : List Nat} {X : Nat} {P : Cp} {b : Ck} {n : Nat} (h : KMem w base p c L F X P b) (hb : base ≤ w.heap.size) (hL : L.length < 3298534883328) (hk : KOk P b n) (hs : b.st = 0) (hv : W64 (wordOf L (adK P b))) (t : Int) :
    Calls Try.prog 48 #[.pointer (some ⟨X, 0, none⟩), p, .int .i64 t] w fun e w' => e = .returned (ansE (kindK P b (wordOf L (adK P b))) (errK P b (wordOf L (adK P b))) true) ∧ ∃ F', KMem w' base p c (loadL c P.s L t (adK P b)) F' X P (stepK P b (wordOf L (adK P b))) ∧ Next (X :: F) (X :: F') w w' := by
  have ht : ¬ thr b := by unfold thr; omega
  have HG : Hid (∀ o, Calls Try.prog 66 #[.pointer (some ⟨X, 0, none⟩), p] (w.alloc o) fun e w' => e = .returned (.bool true) ∧ Below (w.alloc o).heap.size (w.alloc o) w') := fun o => by
    have hg : goesK P.s P b = true := by unfold goesK; simp [hs]
    rw [← hg]; exact cgoes_any (h.mem.below (below_a1 _ _)) (h.at_.alloc _)
  have hx : X < w.heap.size := heap_lt h.at_
  have HH : Hid (KMem w base p c L F X P b) := h
  have HA : Hid (∀ w', KAt w' X P b → Calls Try.prog 68 #[.pointer (some ⟨X, 0, none⟩)] w' fun e w'' => e = .returned (.agg (adC (adK P b))) ∧ Below w'.heap.size w' w'') := fun w' h => caddr_any h
  have HL : Hid (∀ (w' : World), Below w.heap.size w w' → Calls Try.prog 67 #[p, .int .i64 t, .agg (adC (adK P b))] w' fun e w'' => e = .returned (.tuple #[.int .i64 (wordOf L (adK P b)), .int .i64 0]) ∧ ∃ F', MemAt w'' base p c P.s (loadL c P.s L t (adK P b)) F' ∧ Next F F' w' w'') := fun w' hb' => by
    have := load_any (h.mem.below hb') (Nat.le_trans hb hb'.size) hL t (adK P b)
    rw [if_pos (adK_is hk ht), if_pos (adK_is hk ht)] at this
    exact this
  obtain ⟨M, rfl⟩ := h.mem.ptr
  have HS : Hid (∀ w2, KAt w2 X P b → Calls Try.prog 69 #[.pointer (some ⟨X, 0, none⟩), .int .i64 (wordOf L (adK P b))] w2 fun e w' => e = .returned (.agg #[.int .i64 (kindK P b (wordOf L (adK P b))), .int .i64 (errK P b (wordOf L (adK P b))), .int .i64 0, .bool true]) ∧ KAt w' X P (stepK P b (wordOf L (adK P b))) ∧ Keep [X] w2 w') := fun w2 h => csee_all h hk hs hv
  unfold ansE
  unfold adC at HA HL
  clear h
  generalize kindK P b (wordOf L (adK P b)) = kk at *
  generalize errK P b (wordOf L (adK P b)) = ee at *
  generalize stepK P b (wordOf L (adK P b)) = bb at *
  generalize wordOf L (adK P b) = v at *
  generalize loadL c P.s L t (adK P b) = L' at *
  generalize (adK P b).k = ak at *
  generalize (adK P b).i = ai at *
  generalize (adK P b).j = aj at *
  go_enter Try.func48, Try.ntmps48
  go_wp2_with fail
  refine (HG.out _).mono ?_
  rintro e w1 ⟨rfl, hb1⟩
  have HR : Hid (w1.heap[w.heap.size]? = some (.cells #[.int .i64 0, .int .i64 0, .int .i64 0, .bool false] 52 (0, 0))) := row_on (heap_alloc_new _ _) hb1
  have HB : Hid (Below w.heap.size w w1) := below_then (below_a1 _ _) hb1
  clear hb1
  go_wp2_with fail
  refine (HA.out _ (HH.out.at_.below HB.out hx)).mono ?_
  rintro e w2 ⟨rfl, hb2⟩
  have HR2 : Hid (w2.heap[w.heap.size]? = some (.cells #[.int .i64 0, .int .i64 0, .int .i64 0, .bool false] 52 (0, 0))) := row_on HR.out hb2
  have HB2 : Hid (Below w.heap.size w w2) := below_then HB.out hb2
  clear hb2
  go_wp2_with fail
  refine (HL.out _ HB2.out).mono ?_
  rintro e w3 ⟨rfl, F', hm3, hn3⟩
  obtain ⟨r3, m3, o3, n3, nx3⟩ := kstep_load HH.out HB2.out HR2.out (Nat.le_refl _) hm3 hn3
  have HR3 : Hid (w3.heap[w.heap.size]? = some (.cells #[.int .i64 0, .int .i64 0, .int .i64 0, .bool false] 52 (0, 0))) := r3
  have HM3 : Hid (KMem w3 base (.pointer (some ⟨M, 0, none⟩)) c L' F' X P b) := m3
  have HN3 : Hid (Next (X :: F) (X :: F') w w3) := nx3
  obtain ⟨x0, x1, x2, x3, x4, x5, x6, x7⟩ := m3.at_.cells
  rw [hs] at x3
  clear hm3 hn3 r3 m3 nx3
  go_wp2_with fail
  refine (HS.out _ HM3.out.at_).mono ?_
  rintro e w4 ⟨rfl, ha4, hk4⟩
  obtain ⟨r4, m4, n4⟩ := kstep_moves HR3.out HM3.out n3 HN3.out ha4 hk4
  have HR4 : Hid (w4.heap[w.heap.size]? = some (.cells #[.int .i64 0, .int .i64 0, .int .i64 0, .bool false] 52 (0, 0))) := r4
  have HM4 : Hid (KMem w4 base (.pointer (some ⟨M, 0, none⟩)) c L' F' X P bb) := m4
  have HN4 : Hid (Next (X :: F) (X :: F') w w4) := n4
  obtain ⟨⟨a0, a1, a2, a3⟩, g0, g1, g2, g3⟩ := ans_cells HR4.out
  have hB := heap_lt HR4.out
  clear ha4 hk4 r4 m4 n4 x0 x1 x2 x3 x4 x5 x6 x7
  go_wp2
  obtain ⟨f1, f2⟩ := kstep_lays HM4.out n3 o3 (Nat.le_refl _) HN4.out kk ee true
  exact ret_ans rfl rfl (ansE_set rfl HR4.out kk ee true) rfl rfl ⟨rfl, F', f1, f2⟩
set_option maxRecDepth 10000 in
set_option maxHeartbeats 1600000 in
theorem cstep_1 {w : World} {base : Nat} {p : Value} {c : Nat} {L : List Ac} {F : List Nat} {X : Nat} {P : Cp} {b : Ck} {n : Nat} (h : KMem w base p c L F X P b) (hb : base ≤ w.heap.size) (hL : L.length < 3298534883328) (hk : KOk P b n) (hs : b.st = 1) (_hv : W64 (wordOf L (adK P b))) (t : Int) :
    Calls Try.prog 48 #[.pointer (some ⟨X, 0, none⟩), p, .int .i64 t] w fun e w' => e = .returned (ansE (kindK P b (wordOf L (adK P b))) (errK P b (wordOf L (adK P b))) true) ∧ ∃ F', KMem w' base p c (loadL c P.s L t (adK P b)) F' X P (stepK P b (wordOf L (adK P b))) ∧ Next (X :: F) (X :: F') w w' := by
  have ht : ¬ thr b := by unfold thr; omega
  have HG : Hid (∀ o, Calls Try.prog 66 #[.pointer (some ⟨X, 0, none⟩), p] (w.alloc o) fun e w' => e = .returned (.bool true) ∧ Below (w.alloc o).heap.size (w.alloc o) w') := fun o => by
    have hg : goesK P.s P b = true := by unfold goesK; simp [hs]
    rw [← hg]; exact cgoes_any (h.mem.below (below_a1 _ _)) (h.at_.alloc _)
  have hx : X < w.heap.size := heap_lt h.at_
  have HH : Hid (KMem w base p c L F X P b) := h
  have HA : Hid (∀ w', KAt w' X P b → Calls Try.prog 68 #[.pointer (some ⟨X, 0, none⟩)] w' fun e w'' => e = .returned (.agg (adC (adK P b))) ∧ Below w'.heap.size w' w'') := fun w' h => caddr_any h
  have HL : Hid (∀ (w' : World), Below w.heap.size w w' → Calls Try.prog 67 #[p, .int .i64 t, .agg (adC (adK P b))] w' fun e w'' => e = .returned (.tuple #[.int .i64 (wordOf L (adK P b)), .int .i64 0]) ∧ ∃ F', MemAt w'' base p c P.s (loadL c P.s L t (adK P b)) F' ∧ Next F F' w' w'') := fun w' hb' => by
    have := load_any (h.mem.below hb') (Nat.le_trans hb hb'.size) hL t (adK P b)
    rw [if_pos (adK_is hk ht), if_pos (adK_is hk ht)] at this
    exact this
  obtain ⟨M, rfl⟩ := h.mem.ptr
  have HS : Hid (∀ w2, KAt w2 X P b → Calls Try.prog 70 #[.pointer (some ⟨X, 0, none⟩), .int .i64 (wordOf L (adK P b))] w2 fun e w' => e = .returned (.agg #[.int .i64 (kindK P b (wordOf L (adK P b))), .int .i64 (errK P b (wordOf L (adK P b))), .int .i64 0, .bool true]) ∧ KAt w' X P (stepK P b (wordOf L (adK P b))) ∧ Keep [X] w2 w') := fun w2 h => clook_all h hk hs
  unfold ansE
  unfold adC at HA HL
  clear h
  generalize kindK P b (wordOf L (adK P b)) = kk at *
  generalize errK P b (wordOf L (adK P b)) = ee at *
  generalize stepK P b (wordOf L (adK P b)) = bb at *
  generalize wordOf L (adK P b) = v at *
  generalize loadL c P.s L t (adK P b) = L' at *
  generalize (adK P b).k = ak at *
  generalize (adK P b).i = ai at *
  generalize (adK P b).j = aj at *
  go_enter Try.func48, Try.ntmps48
  go_wp2_with fail
  refine (HG.out _).mono ?_
  rintro e w1 ⟨rfl, hb1⟩
  have HR : Hid (w1.heap[w.heap.size]? = some (.cells #[.int .i64 0, .int .i64 0, .int .i64 0, .bool false] 52 (0, 0))) := row_on (heap_alloc_new _ _) hb1
  have HB : Hid (Below w.heap.size w w1) := below_then (below_a1 _ _) hb1
  clear hb1
  go_wp2_with fail
  refine (HA.out _ (HH.out.at_.below HB.out hx)).mono ?_
  rintro e w2 ⟨rfl, hb2⟩
  have HR2 : Hid (w2.heap[w.heap.size]? = some (.cells #[.int .i64 0, .int .i64 0, .int .i64 0, .bool false] 52 (0, 0))) := row_on HR.out hb2
  have HB2 : Hid (Below w.heap.size w w2) := below_then HB.out hb2
  clear hb2
  go_wp2_with fail
  refine (HL.out _ HB2.out).mono ?_
  rintro e w3 ⟨rfl, F', hm3, hn3⟩
  obtain ⟨r3, m3, o3, n3, nx3⟩ := kstep_load HH.out HB2.out HR2.out (Nat.le_refl _) hm3 hn3
  have HR3 : Hid (w3.heap[w.heap.size]? = some (.cells #[.int .i64 0, .int .i64 0, .int .i64 0, .bool false] 52 (0, 0))) := r3
  have HM3 : Hid (KMem w3 base (.pointer (some ⟨M, 0, none⟩)) c L' F' X P b) := m3
  have HN3 : Hid (Next (X :: F) (X :: F') w w3) := nx3
  obtain ⟨x0, x1, x2, x3, x4, x5, x6, x7⟩ := m3.at_.cells
  rw [hs] at x3
  clear hm3 hn3 r3 m3 nx3
  go_wp2_with fail
  refine (HS.out _ HM3.out.at_).mono ?_
  rintro e w4 ⟨rfl, ha4, hk4⟩
  obtain ⟨r4, m4, n4⟩ := kstep_moves HR3.out HM3.out n3 HN3.out ha4 hk4
  have HR4 : Hid (w4.heap[w.heap.size]? = some (.cells #[.int .i64 0, .int .i64 0, .int .i64 0, .bool false] 52 (0, 0))) := r4
  have HM4 : Hid (KMem w4 base (.pointer (some ⟨M, 0, none⟩)) c L' F' X P bb) := m4
  have HN4 : Hid (Next (X :: F) (X :: F') w w4) := n4
  obtain ⟨⟨a0, a1, a2, a3⟩, g0, g1, g2, g3⟩ := ans_cells HR4.out
  have hB := heap_lt HR4.out
  clear ha4 hk4 r4 m4 n4 x0 x1 x2 x3 x4 x5 x6 x7
  go_wp2
  obtain ⟨f1, f2⟩ := kstep_lays HM4.out n3 o3 (Nat.le_refl _) HN4.out kk ee true
  exact ret_ans rfl rfl (ansE_set rfl HR4.out kk ee true) rfl rfl ⟨rfl, F', f1, f2⟩
set_option maxRecDepth 10000 in
set_option maxHeartbeats 1600000 in
theorem cstep_2 {w : World} {base : Nat} {p : Value} {c : Nat} {L : List Ac} {F : List Nat} {X : Nat} {P : Cp} {b : Ck} {n : Nat} (h : KMem w base p c L F X P b) (hb : base ≤ w.heap.size) (hL : L.length < 3298534883328) (hk : KOk P b n) (hs : b.st = 2) (_hv : W64 (wordOf L (adK P b))) (t : Int) :
    Calls Try.prog 48 #[.pointer (some ⟨X, 0, none⟩), p, .int .i64 t] w fun e w' => e = .returned (ansE (kindK P b (wordOf L (adK P b))) (errK P b (wordOf L (adK P b))) true) ∧ ∃ F', KMem w' base p c (loadL c P.s L t (adK P b)) F' X P (stepK P b (wordOf L (adK P b))) ∧ Next (X :: F) (X :: F') w w' := by
  have ht : ¬ thr b := by unfold thr; omega
  have HG : Hid (∀ o, Calls Try.prog 66 #[.pointer (some ⟨X, 0, none⟩), p] (w.alloc o) fun e w' => e = .returned (.bool true) ∧ Below (w.alloc o).heap.size (w.alloc o) w') := fun o => by
    have hg : goesK P.s P b = true := by unfold goesK; simp [hs]
    rw [← hg]; exact cgoes_any (h.mem.below (below_a1 _ _)) (h.at_.alloc _)
  have hx : X < w.heap.size := heap_lt h.at_
  have HH : Hid (KMem w base p c L F X P b) := h
  have HA : Hid (∀ w', KAt w' X P b → Calls Try.prog 68 #[.pointer (some ⟨X, 0, none⟩)] w' fun e w'' => e = .returned (.agg (adC (adK P b))) ∧ Below w'.heap.size w' w'') := fun w' h => caddr_any h
  have HL : Hid (∀ (w' : World), Below w.heap.size w w' → Calls Try.prog 67 #[p, .int .i64 t, .agg (adC (adK P b))] w' fun e w'' => e = .returned (.tuple #[.int .i64 (wordOf L (adK P b)), .int .i64 0]) ∧ ∃ F', MemAt w'' base p c P.s (loadL c P.s L t (adK P b)) F' ∧ Next F F' w' w'') := fun w' hb' => by
    have := load_any (h.mem.below hb') (Nat.le_trans hb hb'.size) hL t (adK P b)
    rw [if_pos (adK_is hk ht), if_pos (adK_is hk ht)] at this
    exact this
  obtain ⟨M, rfl⟩ := h.mem.ptr
  have HS : Hid (∀ w2, KAt w2 X P b → Calls Try.prog 71 #[.pointer (some ⟨X, 0, none⟩), .int .u64 (IntKind.u64.wrap (wordOf L (adK P b)))] w2 fun e w' => e = .returned (.agg #[.int .i64 (kindK P b (wordOf L (adK P b))), .int .i64 (errK P b (wordOf L (adK P b))), .int .i64 0, .bool true]) ∧ KAt w' X P (stepK P b (wordOf L (adK P b))) ∧ Keep [X] w2 w') := fun w2 h => chold_all h hk hs
  unfold ansE
  unfold adC at HA HL
  clear h
  generalize kindK P b (wordOf L (adK P b)) = kk at *
  generalize errK P b (wordOf L (adK P b)) = ee at *
  generalize stepK P b (wordOf L (adK P b)) = bb at *
  generalize wordOf L (adK P b) = v at *
  generalize loadL c P.s L t (adK P b) = L' at *
  generalize (adK P b).k = ak at *
  generalize (adK P b).i = ai at *
  generalize (adK P b).j = aj at *
  go_enter Try.func48, Try.ntmps48
  go_wp2_with fail
  refine (HG.out _).mono ?_
  rintro e w1 ⟨rfl, hb1⟩
  have HR : Hid (w1.heap[w.heap.size]? = some (.cells #[.int .i64 0, .int .i64 0, .int .i64 0, .bool false] 52 (0, 0))) := row_on (heap_alloc_new _ _) hb1
  have HB : Hid (Below w.heap.size w w1) := below_then (below_a1 _ _) hb1
  clear hb1
  go_wp2_with fail
  refine (HA.out _ (HH.out.at_.below HB.out hx)).mono ?_
  rintro e w2 ⟨rfl, hb2⟩
  have HR2 : Hid (w2.heap[w.heap.size]? = some (.cells #[.int .i64 0, .int .i64 0, .int .i64 0, .bool false] 52 (0, 0))) := row_on HR.out hb2
  have HB2 : Hid (Below w.heap.size w w2) := below_then HB.out hb2
  clear hb2
  go_wp2_with fail
  refine (HL.out _ HB2.out).mono ?_
  rintro e w3 ⟨rfl, F', hm3, hn3⟩
  obtain ⟨r3, m3, o3, n3, nx3⟩ := kstep_load HH.out HB2.out HR2.out (Nat.le_refl _) hm3 hn3
  have HR3 : Hid (w3.heap[w.heap.size]? = some (.cells #[.int .i64 0, .int .i64 0, .int .i64 0, .bool false] 52 (0, 0))) := r3
  have HM3 : Hid (KMem w3 base (.pointer (some ⟨M, 0, none⟩)) c L' F' X P b) := m3
  have HN3 : Hid (Next (X :: F) (X :: F') w w3) := nx3
  obtain ⟨x0, x1, x2, x3, x4, x5, x6, x7⟩ := m3.at_.cells
  rw [hs] at x3
  clear hm3 hn3 r3 m3 nx3
  go_wp2_with fail
  refine (HS.out _ HM3.out.at_).mono ?_
  rintro e w4 ⟨rfl, ha4, hk4⟩
  obtain ⟨r4, m4, n4⟩ := kstep_moves HR3.out HM3.out n3 HN3.out ha4 hk4
  have HR4 : Hid (w4.heap[w.heap.size]? = some (.cells #[.int .i64 0, .int .i64 0, .int .i64 0, .bool false] 52 (0, 0))) := r4
  have HM4 : Hid (KMem w4 base (.pointer (some ⟨M, 0, none⟩)) c L' F' X P bb) := m4
  have HN4 : Hid (Next (X :: F) (X :: F') w w4) := n4
  obtain ⟨⟨a0, a1, a2, a3⟩, g0, g1, g2, g3⟩ := ans_cells HR4.out
  have hB := heap_lt HR4.out
  clear ha4 hk4 r4 m4 n4 x0 x1 x2 x3 x4 x5 x6 x7
  go_wp2
  obtain ⟨f1, f2⟩ := kstep_lays HM4.out n3 o3 (Nat.le_refl _) HN4.out kk ee true
  exact ret_ans rfl rfl (ansE_set rfl HR4.out kk ee true) rfl rfl ⟨rfl, F', f1, f2⟩
set_option maxRecDepth 10000 in
set_option maxHeartbeats 1600000 in
theorem cstep_3 {w : World} {base : Nat} {p : Value} {c : Nat} {L : List Ac} {F : List Nat} {X : Nat} {P : Cp} {b : Ck} {n : Nat} (h : KMem w base p c L F X P b) (hb : base ≤ w.heap.size) (hL : L.length < 3298534883328) (hk : KOk P b n) (hs : b.st = 3) (hv : W64 (wordOf L (adK P b))) (t : Int) :
    Calls Try.prog 48 #[.pointer (some ⟨X, 0, none⟩), p, .int .i64 t] w fun e w' => e = .returned (ansE (kindK P b (wordOf L (adK P b))) (errK P b (wordOf L (adK P b))) true) ∧ ∃ F', KMem w' base p c (loadL c P.s L t (adK P b)) F' X P (stepK P b (wordOf L (adK P b))) ∧ Next (X :: F) (X :: F') w w' := by
  have ht : ¬ thr b := by unfold thr; omega
  have HG : Hid (∀ o, Calls Try.prog 66 #[.pointer (some ⟨X, 0, none⟩), p] (w.alloc o) fun e w' => e = .returned (.bool true) ∧ Below (w.alloc o).heap.size (w.alloc o) w') := fun o => by
    have hg : goesK P.s P b = true := by unfold goesK; simp [hs]
    rw [← hg]; exact cgoes_any (h.mem.below (below_a1 _ _)) (h.at_.alloc _)
  have hx : X < w.heap.size := heap_lt h.at_
  have HH : Hid (KMem w base p c L F X P b) := h
  have HA : Hid (∀ w', KAt w' X P b → Calls Try.prog 68 #[.pointer (some ⟨X, 0, none⟩)] w' fun e w'' => e = .returned (.agg (adC (adK P b))) ∧ Below w'.heap.size w' w'') := fun w' h => caddr_any h
  have HL : Hid (∀ (w' : World), Below w.heap.size w w' → Calls Try.prog 67 #[p, .int .i64 t, .agg (adC (adK P b))] w' fun e w'' => e = .returned (.tuple #[.int .i64 (wordOf L (adK P b)), .int .i64 0]) ∧ ∃ F', MemAt w'' base p c P.s (loadL c P.s L t (adK P b)) F' ∧ Next F F' w' w'') := fun w' hb' => by
    have := load_any (h.mem.below hb') (Nat.le_trans hb hb'.size) hL t (adK P b)
    rw [if_pos (adK_is hk ht), if_pos (adK_is hk ht)] at this
    exact this
  obtain ⟨M, rfl⟩ := h.mem.ptr
  have HS : Hid (∀ w2, KAt w2 X P b → Calls Try.prog 72 #[.pointer (some ⟨X, 0, none⟩), .int .i64 (wordOf L (adK P b))] w2 fun e w' => e = .returned (.agg #[.int .i64 (kindK P b (wordOf L (adK P b))), .int .i64 (errK P b (wordOf L (adK P b))), .int .i64 0, .bool true]) ∧ KAt w' X P (stepK P b (wordOf L (adK P b))) ∧ Keep [X] w2 w') := fun w2 h => cagain_all h hk hs hv
  unfold ansE
  unfold adC at HA HL
  clear h
  generalize kindK P b (wordOf L (adK P b)) = kk at *
  generalize errK P b (wordOf L (adK P b)) = ee at *
  generalize stepK P b (wordOf L (adK P b)) = bb at *
  generalize wordOf L (adK P b) = v at *
  generalize loadL c P.s L t (adK P b) = L' at *
  generalize (adK P b).k = ak at *
  generalize (adK P b).i = ai at *
  generalize (adK P b).j = aj at *
  go_enter Try.func48, Try.ntmps48
  go_wp2_with fail
  refine (HG.out _).mono ?_
  rintro e w1 ⟨rfl, hb1⟩
  have HR : Hid (w1.heap[w.heap.size]? = some (.cells #[.int .i64 0, .int .i64 0, .int .i64 0, .bool false] 52 (0, 0))) := row_on (heap_alloc_new _ _) hb1
  have HB : Hid (Below w.heap.size w w1) := below_then (below_a1 _ _) hb1
  clear hb1
  go_wp2_with fail
  refine (HA.out _ (HH.out.at_.below HB.out hx)).mono ?_
  rintro e w2 ⟨rfl, hb2⟩
  have HR2 : Hid (w2.heap[w.heap.size]? = some (.cells #[.int .i64 0, .int .i64 0, .int .i64 0, .bool false] 52 (0, 0))) := row_on HR.out hb2
  have HB2 : Hid (Below w.heap.size w w2) := below_then HB.out hb2
  clear hb2
  go_wp2_with fail
  refine (HL.out _ HB2.out).mono ?_
  rintro e w3 ⟨rfl, F', hm3, hn3⟩
  obtain ⟨r3, m3, o3, n3, nx3⟩ := kstep_load HH.out HB2.out HR2.out (Nat.le_refl _) hm3 hn3
  have HR3 : Hid (w3.heap[w.heap.size]? = some (.cells #[.int .i64 0, .int .i64 0, .int .i64 0, .bool false] 52 (0, 0))) := r3
  have HM3 : Hid (KMem w3 base (.pointer (some ⟨M, 0, none⟩)) c L' F' X P b) := m3
  have HN3 : Hid (Next (X :: F) (X :: F') w w3) := nx3
  obtain ⟨x0, x1, x2, x3, x4, x5, x6, x7⟩ := m3.at_.cells
  rw [hs] at x3
  clear hm3 hn3 r3 m3 nx3
  go_wp2_with fail
  refine (HS.out _ HM3.out.at_).mono ?_
  rintro e w4 ⟨rfl, ha4, hk4⟩
  obtain ⟨r4, m4, n4⟩ := kstep_moves HR3.out HM3.out n3 HN3.out ha4 hk4
  have HR4 : Hid (w4.heap[w.heap.size]? = some (.cells #[.int .i64 0, .int .i64 0, .int .i64 0, .bool false] 52 (0, 0))) := r4
  have HM4 : Hid (KMem w4 base (.pointer (some ⟨M, 0, none⟩)) c L' F' X P bb) := m4
  have HN4 : Hid (Next (X :: F) (X :: F') w w4) := n4
  obtain ⟨⟨a0, a1, a2, a3⟩, g0, g1, g2, g3⟩ := ans_cells HR4.out
  have hB := heap_lt HR4.out
  clear ha4 hk4 r4 m4 n4 x0 x1 x2 x3 x4 x5 x6 x7
  go_wp2
  obtain ⟨f1, f2⟩ := kstep_lays HM4.out n3 o3 (Nat.le_refl _) HN4.out kk ee true
  exact ret_ans rfl rfl (ansE_set rfl HR4.out kk ee true) rfl rfl ⟨rfl, F', f1, f2⟩
theorem cstep_some {w : World} {base : Nat} {p : Value} {c : Nat} {L : List Ac} {F : List Nat} {X : Nat} {P : Cp} {b : Ck} {n : Nat} (h : KMem w base p c L F X P b) (hb : base ≤ w.heap.size) (hL : L.length < 3298534883328) (hk : KOk P b n) (ht : ¬ thr b) (hv : W64 (wordOf L (adK P b))) (t : Int) :
    Calls Try.prog 48 #[.pointer (some ⟨X, 0, none⟩), p, .int .i64 t] w fun e w' => e = .returned (ansE (kindK P b (wordOf L (adK P b))) (errK P b (wordOf L (adK P b))) true) ∧ ∃ F', KMem w' base p c (loadL c P.s L t (adK P b)) F' X P (stepK P b (wordOf L (adK P b))) ∧ Next (X :: F) (X :: F') w w' := by
  rcases kok_st hk with e | e | e | e | e | e
  · exact cstep_0 h hb hL hk e hv t
  · exact cstep_1 h hb hL hk e hv t
  · exact cstep_2 h hb hL hk e hv t
  · exact cstep_3 h hb hL hk e hv t
  · exact absurd (Or.inl e) ht
  · exact absurd (Or.inr e) ht
--END STEPS
end Go.Proofs.Ytfbbcjlbelnfaaa
