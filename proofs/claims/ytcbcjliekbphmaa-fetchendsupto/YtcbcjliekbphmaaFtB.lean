/- The program's machine of layer 9: Step. -/
import Derived.Test.YtcbcjliekbphmaaFtA
namespace Go.Proofs.Ytcbcjliekbphmaa
open Go.ChangeShapes Go.WideShapes Go.ChangeAt Go.RowKit
attribute [local go_sem ↓] Go.wp_at_zero Go.wp_at_succ

def nextFP (c r : Nat) (P : Cp) (L : List Ac) : Cp := if goesF c r P then (if P.read then P else lookP P (wordOf L (cellA P))) else P
def nextFB (c r : Nat) (P : Cp) (b : Ck) (L : List Ac) : Ck := if goesF c r P then (if P.read then nextK r P b L else b) else b
def nextFL (c r : Nat) (P : Cp) (b : Ck) (L : List Ac) (t : Int) : List Ac := if goesF c r P then (if P.read then nextKL c r P b L t else loadL c r L t (cellA P)) else L
def ansF (c r : Nat) (P : Cp) (b : Ck) (L : List Ac) : Int := if goesF c r P then (if P.read then ansKK r P b L else 2) else 0
def errF (c r : Nat) (P : Cp) (b : Ck) (L : List Ac) : Int := if goesF c r P then (if P.read then errKK r P b L else 0) else 0
def valF (c r : Nat) (P : Cp) (b : Ck) (L : List Ac) : Int := if goesF c r P then (if P.read then (if ansKK r P b L = 3 then P.val else 0) else 0) else 0
def accF (c r : Nat) (P : Cp) (b : Ck) : Bool := if goesF c r P then (if P.read then goesK r P b else true) else false
theorem kstep_w {w : World} {base : Nat} {p : Value} {c r : Nat} {L : List Ac} {F : List Nat} {X : Nat} {P : Cp} {b : Ck} {n : Nat} (h : KS w base p c r L F X P b) (hb : base ≤ w.heap.size) (hL : L.length < 3298534883328) (hk : KOk P b n) (hv : goesK r P b = true → W64 (wordOf L (adK P b))) (t : Int) :
    Calls Try.prog 37 #[.pointer (some ⟨X, 0, none⟩), p, .int .i64 t] w fun e w' => e = .returned (ansE (ansKK r P b L) (errKK r P b L) (goesK r P b)) ∧ ∃ F', KS w' base p c r (nextKL c r P b L t) F' X P (nextK r P b L) ∧ Next (X :: F) (X :: F') w w' := by
  by_cases hgo : goesK r P b = true
  · unfold ansKK errKK nextKL nextK
    rw [if_pos hgo, if_pos hgo, if_pos hgo, if_pos hgo, hgo]
    obtain ⟨h2, rfl⟩ := goesK_iff.mp hgo
    refine (cstep_some ⟨h.mem, h.at_, h.out, h.lo⟩ hb hL hk h2 (hv hgo) t).mono ?_
    rintro e w' ⟨rfl, F', h3, h4⟩
    exact ⟨rfl, F', ⟨h3.mem, h3.at_, h3.out, h3.lo⟩, h4⟩
  · unfold ansKK errKK nextKL nextK
    have hgo' : goesK r P b = false := by simpa using hgo
    rw [if_neg hgo, if_neg hgo, if_neg hgo, if_neg hgo, hgo']
    refine (cstep_none h.mem h.at_ hgo' t).mono ?_
    rintro e w' ⟨rfl, hb'⟩
    exact ⟨rfl, F, h.below hb', Next.of_below hb' _⟩
theorem fstep_none {w : World} {base : Nat} {p : Value} {c r : Nat} {L : List Ac} {F : List Nat} {X : Nat} {P : Cp} {b : Ck} (hm : MemAt w base p c r L F) (h : KAt w X P b) (hn : goesF c r P = false) (t : Int) :
    Calls Try.prog 15 #[.pointer (some ⟨X, 0, none⟩), p, .int .i64 t] w fun e w' => e = .returned (ansW 0 0 0 false) ∧ Below w.heap.size w w' := by
  have HG : Hid (∀ o, Calls Try.prog 35 #[.pointer (some ⟨X, 0, none⟩), p] (w.alloc o) fun e w' => e = .returned (.bool false) ∧ Below (w.alloc o).heap.size (w.alloc o) w') := fun o => by
    rw [← hn]; exact fgoes_any (hm.below (below_a1 _ _)) (h.alloc _)
  obtain ⟨M, rfl⟩ := hm.ptr
  clear hm h hn
  unfold ansW
  go_enter Try.func15, Try.ntmps15
  go_wp2_with fail
  refine (HG.out _).mono ?_
  rintro e w1 ⟨rfl, hb⟩
  have HR : Hid (w1.heap[w.heap.size]? = some (.cells #[.int .i64 0, .int .i64 0, .int .i64 0, .bool false] 49 (0, 0))) := row_on (heap_alloc_new _ _) hb
  obtain ⟨⟨a0, a1, a2, a3⟩, g0, g1, g2, g3⟩ := ans_cells HR.out
  have hB := heap_lt HR.out
  have HB : Hid (Below w.heap.size w w1) := below_then (below_a1 _ _) hb
  clear hb
  go_wp2
  exact ret_ans rfl rfl (ans_set rfl HR.out 0 false) rfl rfl ⟨rfl, below4 HB.out (Nat.le_refl _) 0 false⟩
/-- The answer's block, fresh, through a step of what lies beside it. -/
theorem fs_row {w w1 w2 : World} {F F' : List Nat} {X : Nat} {o : Obj} (hlt : ∀ q ∈ X :: F, q < w.heap.size) (hb : Below w.heap.size w w1) (hr : w1.heap[w.heap.size]? = some o) (hn : Next (X :: F) (X :: F') w1 w2) : w2.heap[w.heap.size]? = some o ∧ w.heap.size ∉ X :: F' ∧ Next (X :: F) (X :: F') w w2 := by
  have h1 := heap_lt hr
  have h2 := hb.size
  have hno : w.heap.size ∉ X :: F := fun e => by have := hlt _ e; omega
  refine ⟨hn.row hr hno, fun e => ?_, (Keep.of_below hb _).trans hn.1 (fun q hq => Or.inl hq), fun q hq => ?_⟩
  · rcases hn.2 _ e with h3 | h3
    · exact hno h3
    · omega
  · rcases hn.2 q hq with h3 | h3
    · exact Or.inl h3
    · exact Or.inr (by omega)
set_option maxRecDepth 10000 in
theorem fstep_look {w : World} {base : Nat} {p : Value} {c r : Nat} {L : List Ac} {F : List Nat} {X : Nat} {P : Cp} {b : Ck} (h : KS w base p c r L F X P b) (hb : base ≤ w.heap.size) (hL : L.length < 3298534883328) (h0 : 0 ≤ P.cell) (hg : goesF c r P = true) (hr : P.read = false) (t : Int) :
    Calls Try.prog 15 #[.pointer (some ⟨X, 0, none⟩), p, .int .i64 t] w fun e w' => e = .returned (ansW 2 0 0 true) ∧ ∃ F', KS w' base p c r (loadL c r L t (cellA P)) F' X (lookP P (wordOf L (cellA P))) b ∧ Next (X :: F) (X :: F') w w' := by
  have h1 : P.cell < (c : Int) := by unfold goesF at hg; simp at hg; exact hg.2
  have HG : Hid (∀ o, Calls Try.prog 35 #[.pointer (some ⟨X, 0, none⟩), p] (w.alloc o) fun e w' => e = .returned (.bool true) ∧ Below (w.alloc o).heap.size (w.alloc o) w') := fun o => by
    rw [← hg]; exact fgoes_any (h.mem.below (below_a1 _ _)) (h.at_.alloc _)
  have HK : Hid (∀ w', Below w.heap.size w w' → Calls Try.prog 36 #[.pointer (some ⟨X, 0, none⟩), p, .int .i64 t] w' fun e w'' => e = .returned (.agg #[.int .i64 2, .int .i64 0, .int .i64 0, .bool true]) ∧ ∃ F', KS w'' base p c r (loadL c r L t (cellA P)) F' X (lookP P (wordOf L (cellA P))) b ∧ Next (X :: F) (X :: F') w' w'') := fun w' hb' => flook_any (h.below hb') (Nat.le_trans hb hb'.size) hL h0 h1 t
  have HT : Hid (∀ w', Below w.heap.size w w' → w'.cell? ⟨X, 26, none⟩ = some (.bool false)) := fun w' hb' => by
    have := (h.below hb').at_.tail.2.2.1; rw [hr] at this; exact this
  have HLT : Hid (∀ q ∈ X :: F, q < w.heap.size) := fun q hq => (h.lt q hq).2
  have hx : X < w.heap.size := heap_lt h.at_
  obtain ⟨M, rfl⟩ := h.mem.ptr
  clear h hg hr h0 h1
  unfold ansW
  generalize lookP P (wordOf L (cellA P)) = P' at *
  generalize loadL c r L t (cellA P) = L' at *
  go_enter Try.func15, Try.ntmps15
  go_wp2_with fail
  refine (HG.out _).mono ?_
  rintro e w1 ⟨rfl, hb1⟩
  have HR : Hid (w1.heap[w.heap.size]? = some (.cells #[.int .i64 0, .int .i64 0, .int .i64 0, .bool false] 49 (0, 0))) := row_on (heap_alloc_new _ _) hb1
  have HB : Hid (Below w.heap.size w w1) := below_then (below_a1 _ _) hb1
  have t2 := HT.out _ HB.out
  have hx1 : X < w1.heap.size := Nat.lt_of_lt_of_le hx HB.out.size
  clear hb1
  go_wp2_with fail
  refine (HK.out _ HB.out).mono ?_
  rintro e w2 ⟨rfl, F', k2, n2⟩
  obtain ⟨r2, o2, nn2⟩ := fs_row HLT.out HB.out HR.out n2
  have HK2 : Hid (KS w2 base (.pointer (some ⟨M, 0, none⟩)) c r L' F' X P' b ∧ w.heap.size ∉ X :: F' ∧ Next (X :: F) (X :: F') w w2) := ⟨k2, o2, nn2⟩
  have HR2 : Hid (w2.heap[w.heap.size]? = some (.cells #[.int .i64 0, .int .i64 0, .int .i64 0, .bool false] 49 (0, 0))) := r2
  obtain ⟨⟨a0, a1, a2, a3⟩, g0, g1, g2, g3⟩ := ans_cells HR2.out
  have hB := heap_lt HR2.out
  clear k2 n2 r2 o2 nn2 t2
  go_wp2
  exact ret_ans rfl rfl (ansW_set rfl HR2.out 2 0 0 true) rfl rfl ⟨rfl, F', ks_other HK2.out.1 HK2.out.2.1 (Nat.le_refl _) HK2.out.2.2 (keepWB 2 0 0 true)⟩
theorem ansW_cells {w : World} {B : Nat} {k e v : Int} {y : Bool} (h : w.heap[B]? = some (.cells #[.int .i64 k, .int .i64 e, .int .i64 v, .bool y] 49 (0, 0))) :
    (w.cell? ⟨B, 0, none⟩ = some (.int .i64 k) ∧ w.cell? ⟨B, 1, none⟩ = some (.int .i64 e) ∧ w.cell? ⟨B, 2, none⟩ = some (.int .i64 v) ∧ w.cell? ⟨B, 3, none⟩ = some (.bool y)) ∧
    (w.frozen? ⟨B, 0, none⟩ = false ∧ w.frozen? ⟨B, 1, none⟩ = false ∧ w.frozen? ⟨B, 2, none⟩ = false ∧ w.frozen? ⟨B, 3, none⟩ = false) :=
  ⟨⟨by rw [cell_at h]; rfl, by rw [cell_at h]; rfl, by rw [cell_at h]; rfl, by rw [cell_at h]; rfl⟩, frozen_at h 0, frozen_at h 1, frozen_at h 2, frozen_at h 3⟩
set_option maxRecDepth 10000 in
theorem fstep_hold {w : World} {base : Nat} {p : Value} {c r : Nat} {L : List Ac} {F : List Nat} {X : Nat} {P : Cp} {b : Ck} {n : Nat} (h : KS w base p c r L F X P b) (hb : base ≤ w.heap.size) (hL : L.length < 3298534883328) (hk : KOk P b n) (hv : goesK r P b = true → W64 (wordOf L (adK P b))) (hg : goesF c r P = true) (hr : P.read = true) (t : Int) :
    Calls Try.prog 15 #[.pointer (some ⟨X, 0, none⟩), p, .int .i64 t] w fun e w' => e = .returned (ansW (ansKK r P b L) (errKK r P b L) (if ansKK r P b L = 3 then P.val else 0) (goesK r P b)) ∧ ∃ F', KS w' base p c r (nextKL c r P b L t) F' X P (nextK r P b L) ∧ Next (X :: F) (X :: F') w w' := by
  have HG : Hid (∀ o, Calls Try.prog 35 #[.pointer (some ⟨X, 0, none⟩), p] (w.alloc o) fun e w' => e = .returned (.bool true) ∧ Below (w.alloc o).heap.size (w.alloc o) w') := fun o => by
    rw [← hg]; exact fgoes_any (h.mem.below (below_a1 _ _)) (h.at_.alloc _)
  have HK : Hid (∀ w', Below w.heap.size w w' → Calls Try.prog 37 #[.pointer (some ⟨X, 0, none⟩), p, .int .i64 t] w' fun e w'' => e = .returned (.agg #[.int .i64 (ansKK r P b L), .int .i64 (errKK r P b L), .int .i64 0, .bool (goesK r P b)]) ∧ ∃ F', KS w'' base p c r (nextKL c r P b L t) F' X P (nextK r P b L) ∧ Next (X :: F) (X :: F') w' w'') := fun w' hb' => kstep_w (h.below hb') (Nat.le_trans hb hb'.size) hL hk hv t
  have HT : Hid (∀ w', Below w.heap.size w w' → w'.cell? ⟨X, 26, none⟩ = some (.bool true)) := fun w' hb' => by
    have := (h.below hb').at_.tail.2.2.1; rw [hr] at this; exact this
  have HLT : Hid (∀ q ∈ X :: F, q < w.heap.size) := fun q hq => (h.lt q hq).2
  have hx : X < w.heap.size := heap_lt h.at_
  obtain ⟨M, rfl⟩ := h.mem.ptr
  clear h hg hr hv hk
  unfold ansW
  generalize nextK r P b L = b' at *
  generalize nextKL c r P b L t = L' at *
  generalize ansKK r P b L = kk at *
  generalize errKK r P b L = ee at *
  generalize goesK r P b = gg at *
  by_cases hk3 : kk = 3
  · subst hk3
    rw [if_pos rfl]
    go_enter Try.func15, Try.ntmps15
    go_wp2_with fail
    refine (HG.out _).mono ?_
    rintro e w1 ⟨rfl, hb1⟩
    have HR : Hid (w1.heap[w.heap.size]? = some (.cells #[.int .i64 0, .int .i64 0, .int .i64 0, .bool false] 49 (0, 0))) := row_on (heap_alloc_new _ _) hb1
    have HB : Hid (Below w.heap.size w w1) := below_then (below_a1 _ _) hb1
    have t2 := HT.out _ HB.out
    have hx1 : X < w1.heap.size := Nat.lt_of_lt_of_le hx HB.out.size
    clear hb1
    go_wp2_with fail
    refine (HK.out _ HB.out).mono ?_
    rintro e w2 ⟨rfl, F', k2, n2⟩
    obtain ⟨r2, o2, nn2⟩ := fs_row HLT.out HB.out HR.out n2
    have HK2 : Hid (KS w2 base (.pointer (some ⟨M, 0, none⟩)) c r L' F' X P b' ∧ w.heap.size ∉ X :: F' ∧ Next (X :: F) (X :: F') w w2) := ⟨k2, o2, nn2⟩
    have HR2 : Hid (w2.heap[w.heap.size]? = some (.cells #[.int .i64 0, .int .i64 0, .int .i64 0, .bool false] 49 (0, 0))) := r2
    obtain ⟨⟨a0, a1, a2, a3⟩, g0, g1, g2, g3⟩ := ans_cells HR2.out
    have hB := heap_lt HR2.out
    have tv := k2.at_.tail.2.2.2
    have hx2 : X < w2.heap.size := heap_lt k2.at_
    clear k2 n2 r2 o2 nn2 t2
    go_wp2
    have q := ks_other HK2.out.1 HK2.out.2.1 (Nat.le_refl _) HK2.out.2.2 (keepWB 3 ee P.val gg)
    exact ret_ans rfl rfl (row_on (ansW_set rfl HR2.out 3 ee P.val gg) (below_a1 _ _)) rfl rfl ⟨rfl, F', q.1.below (below_a1 _ _), q.2.trans (Next.of_below (below_a1 _ _) _)⟩
  · rw [if_neg hk3]
    have hd : (kk == 3) = false := by simpa using hk3
    go_enter Try.func15, Try.ntmps15
    go_wp2_with fail
    refine (HG.out _).mono ?_
    rintro e w1 ⟨rfl, hb1⟩
    have HR : Hid (w1.heap[w.heap.size]? = some (.cells #[.int .i64 0, .int .i64 0, .int .i64 0, .bool false] 49 (0, 0))) := row_on (heap_alloc_new _ _) hb1
    have HB : Hid (Below w.heap.size w w1) := below_then (below_a1 _ _) hb1
    have t2 := HT.out _ HB.out
    have hx1 : X < w1.heap.size := Nat.lt_of_lt_of_le hx HB.out.size
    clear hb1
    go_wp2_with fail
    refine (HK.out _ HB.out).mono ?_
    rintro e w2 ⟨rfl, F', k2, n2⟩
    obtain ⟨r2, o2, nn2⟩ := fs_row HLT.out HB.out HR.out n2
    have HK2 : Hid (KS w2 base (.pointer (some ⟨M, 0, none⟩)) c r L' F' X P b' ∧ w.heap.size ∉ X :: F' ∧ Next (X :: F) (X :: F') w w2) := ⟨k2, o2, nn2⟩
    have HR2 : Hid (w2.heap[w.heap.size]? = some (.cells #[.int .i64 0, .int .i64 0, .int .i64 0, .bool false] 49 (0, 0))) := r2
    obtain ⟨⟨a0, a1, a2, a3⟩, g0, g1, g2, g3⟩ := ans_cells HR2.out
    have hB := heap_lt HR2.out
    clear k2 n2 r2 o2 nn2 t2
    go_wp2
    have q := ks_other HK2.out.1 HK2.out.2.1 (Nat.le_refl _) HK2.out.2.2 (keepWB kk ee 0 gg)
    exact ret_ans rfl rfl (row_on (ansW_set rfl HR2.out kk ee 0 gg) (below_a1 _ _)) rfl rfl ⟨rfl, F', q.1.below (below_a1 _ _), q.2.trans (Next.of_below (below_a1 _ _) _)⟩
theorem fstep {w : World} {base : Nat} {p : Value} {c r : Nat} {L : List Ac} {F : List Nat} {X : Nat} {P : Cp} {b : Ck} {n : Nat} (h : KS w base p c r L F X P b) (hb : base ≤ w.heap.size) (hL : L.length < 3298534883328) (hk : KOk P b n) (h0 : 0 ≤ P.cell) (hv : goesF c r P = true → P.read = true → goesK r P b = true → W64 (wordOf L (adK P b))) (t : Int) :
    Calls Try.prog 15 #[.pointer (some ⟨X, 0, none⟩), p, .int .i64 t] w fun e w' => e = .returned (ansW (ansF c r P b L) (errF c r P b L) (valF c r P b L) (accF c r P b)) ∧ ∃ F', KS w' base p c r (nextFL c r P b L t) F' X (nextFP c r P L) (nextFB c r P b L) ∧ Next (X :: F) (X :: F') w w' := by
  unfold ansF errF valF accF nextFL nextFP nextFB
  by_cases hg : goesF c r P = true
  · simp only [if_pos hg]
    by_cases hr : P.read = true
    · simp only [if_pos hr]
      exact fstep_hold h hb hL hk (hv hg hr) hg hr t
    · simp only [if_neg hr]
      exact fstep_look h hb hL h0 hg (by simpa using hr) t
  · simp only [if_neg hg]
    refine (fstep_none h.mem h.at_ (by simpa using hg) t).mono ?_
    rintro e w' ⟨rfl, hb'⟩
    exact ⟨rfl, F, h.below hb', Next.of_below hb' _⟩
end Go.Proofs.Ytcbcjliekbphmaa
