/- The program's machine of layer 9: Step. -/
import Derived.Test.YtcbcjliekbphmaaFtA
import Derived.Test.YtcbcjliekbphmaaJSigRSigF
import Derived.Test.YtcbcjliekbphmaaJFcSFcE
namespace Go.Proofs.Ytcbcjliekbphmaa
open Go.ChangeShapes Go.WideShapes Go.ChangeAt Go.RowKit
attribute [local go_sem ↓] Go.wp_at_zero Go.wp_at_succ

def nextFP (c r : Nat) (P : Cp) (L : List Ac) : Cp := if goesF c r P then (if P.read then P else lookP P (wordOf L (cellA P))) else P
def nextFB (c r : Nat) (P : Cp) (b : Ck) (L : List Ac) : Ck := if goesF c r P then (if P.read then nextK r P b L else b) else b
def nextFL (c r : Nat) (P : Cp) (b : Ck) (L : List Ac) (t : Int) : List Ac := if goesF c r P then (if P.read then nextKL c r P b L t else loadL c r L t (cellA P)) else L
def ansF (c r : Nat) (P : Cp) (b : Ck) (L : List Ac) : Int := if goesF c r P then (if P.read then ansKK r P b L else 2) else 0
def errF (c r : Nat) (P : Cp) (b : Ck) (L : List Ac) : Int := if goesF c r P then (if P.read then errKK r P b L else 0) else 0
def valF (c r : Nat) (P : Cp) (b : Ck) (L : List Ac) : Int := if goesF c r P then (if P.read then (if ansKK r P b L = 3 then P.val else 0) else 0) else 0
def accF (c r : Nat) (P : Cp) (b : Ck) : Bool := if goesF c r P then (if P.read then goesK r P b else true) else false
theorem kstep_w {w : World} {base : Nat} {p : Value} {c r : Nat} {L : List Ac} {F : List Nat} {X : Nat} {P : Cp} {b : Ck} {n : Nat} (h : KS w base p c r L F X P b) (hb : base ≤ w.heap.size) (hL : L.length < 3298534883328) (hk : KOk P b n) (hv : goesK r P b = true → W64 (wordOf L (adK P b))) (t : Int) :
    Calls Try.prog 37 #[.pointer (some ⟨X, 0, none⟩), p, .int .i64 t] w fun e w' => e = .returned (ansE (ansKK r P b L) (errKK r P b L) (goesK r P b)) ∧ ∃ F', KS w' base p c r (nextKL c r P b L t) F' X P (nextK r P b L) ∧ Next (X :: F) (X :: F') w w' := by
  by_cases hgo : goesK r P b = true
  · unfold ansKK errKK nextKL nextK
    rw [if_pos hgo, if_pos hgo, if_pos hgo, if_pos hgo, hgo]
    obtain ⟨h2, rfl⟩ := goesK_iff.mp hgo
    refine (cstep_some ⟨h.mem, h.at_, h.out, h.lo⟩ hb hL hk h2 (hv hgo) t).mono ?_
    rintro e w' ⟨rfl, F', h3, h4⟩
    exact ⟨rfl, F', ⟨h3.mem, h3.at_, h3.out, h3.lo⟩, h4⟩
  · unfold ansKK errKK nextKL nextK
    have hgo' : goesK r P b = false := by simpa using hgo
    rw [if_neg hgo, if_neg hgo, if_neg hgo, if_neg hgo, hgo']
    refine (cstep_none h.mem h.at_ hgo' t).mono ?_
    rintro e w' ⟨rfl, hb'⟩
    exact ⟨rfl, F, h.below hb', Next.of_below hb' _⟩
theorem fstep_none {w : World} {base : Nat} {p : Value} {c r : Nat} {L : List Ac} {F : List Nat} {X : Nat} {P : Cp} {b : Ck} (hm : MemAt w base p c r L F) (h : KAt w X P b) (hn : goesF c r P = false) (t : Int) :
    Calls Try.prog 15 #[.pointer (some ⟨X, 0, none⟩), p, .int .i64 t] w fun e w' => e = .returned (ansW 0 0 0 false) ∧ Below w.heap.size w w' := by
  have HG : Hid (∀ o, Calls Try.prog 35 #[.pointer (some ⟨X, 0, none⟩), p] (w.alloc o) fun e w' => e = .returned (.bool false) ∧ Below (w.alloc o).heap.size (w.alloc o) w') := fun o => by
    rw [← hn]; exact fgoes_any (hm.below (below_a1 _ _)) (h.alloc _)
  obtain ⟨M, rfl⟩ := hm.ptr
  clear hm h hn
  unfold ansW
  go_enter Try.func15, Try.ntmps15
  go_wp2_with fail
  refine (HG.out _).mono ?_
  rintro e w1 ⟨rfl, hb⟩
  have HR : Hid (w1.heap[w.heap.size]? = some (.cells #[.int .i64 0, .int .i64 0, .int .i64 0, .bool false] 49 (0, 0))) := row_on (heap_alloc_new _ _) hb
  obtain ⟨⟨a0, a1, a2, a3⟩, g0, g1, g2, g3⟩ := ans_cells HR.out
  have hB := heap_lt HR.out
  have HB : Hid (Below w.heap.size w w1) := below_then (below_a1 _ _) hb
  clear hb
  go_wp2
  exact ret_ans rfl rfl (ans_set rfl HR.out 0 false) rfl rfl ⟨rfl, below4 HB.out (Nat.le_refl _) 0 false⟩
/-- The answer's block, fresh, through a step of what lies beside it. -/
theorem fs_row {w w1 w2 : World} {F F' : List Nat} {X : Nat} {o : Obj} (hlt : ∀ q ∈ X :: F, q < w.heap.size) (hb : Below w.heap.size w w1) (hr : w1.heap[w.heap.size]? = some o) (hn : Next (X :: F) (X :: F') w1 w2) : w2.heap[w.heap.size]? = some o ∧ w.heap.size ∉ X :: F' ∧ Next (X :: F) (X :: F') w w2 := by
  have h1 := heap_lt hr
  have h2 := hb.size
  have hno : w.heap.size ∉ X :: F := fun e => by have := hlt _ e; omega
  refine ⟨hn.row hr hno, fun e => ?_, (Keep.of_below hb _).trans hn.1 (fun q hq => Or.inl hq), fun q hq => ?_⟩
  · rcases hn.2 _ e with h3 | h3
    · exact hno h3
    · omega
  · rcases hn.2 q hq with h3 | h3
    · exact Or.inl h3
    · exact Or.inr (by omega)
set_option maxRecDepth 10000 in
theorem fstep_look {w : World} {base : Nat} {p : Value} {c r : Nat} {L : List Ac} {F : List Nat} {X : Nat} {P : Cp} {b : Ck} (h : KS w base p c r L F X P b) (hb : base ≤ w.heap.size) (hL : L.length < 3298534883328) (h0 : 0 ≤ P.cell) (hg : goesF c r P = true) (hr : P.read = false) (t : Int) :
    Calls Try.prog 15 #[.pointer (some ⟨X, 0, none⟩), p, .int .i64 t] w fun e w' => e = .returned (ansW 2 0 0 true) ∧ ∃ F', KS w' base p c r (loadL c r L t (cellA P)) F' X (lookP P (wordOf L (cellA P))) b ∧ Next (X :: F) (X :: F') w w' := by
  have h1 : P.cell < (c : Int) := by unfold goesF at hg; simp at hg; exact hg.2
  have HG : Hid (∀ o, Calls Try.prog 35 #[.pointer (some ⟨X, 0, none⟩), p] (w.alloc o) fun e w' => e = .returned (.bool true) ∧ Below (w.alloc o).heap.size (w.alloc o) w') := fun o => by
    rw [← hg]; exact fgoes_any (h.mem.below (below_a1 _ _)) (h.at_.alloc _)
  have HK : Hid (∀ w', Below w.heap.size w w' → Calls Try.prog 36 #[.pointer (some ⟨X, 0, none⟩), p, .int .i64 t] w' fun e w'' => e = .returned (.agg #[.int .i64 2, .int .i64 0, .int .i64 0, .bool true]) ∧ ∃ F', KS w'' base p c r (loadL c r L t (cellA P)) F' X (lookP P (wordOf L (cellA P))) b ∧ Next (X :: F) (X :: F') w' w'') := fun w' hb' => flook_any (h.below hb') (Nat.le_trans hb hb'.size) hL h0 h1 t
  have HT : Hid (∀ w', Below w.heap.size w w' → w'.cell? ⟨X, 26, none⟩ = some (.bool false)) := fun w' hb' => by
    have := (h.below hb').at_.tail.2.2.1; rw [hr] at this; exact this
  have HLT : Hid (∀ q ∈ X :: F, q < w.heap.size) := fun q hq => (h.lt q hq).2
  have hx : X < w.heap.size := heap_lt h.at_
  obtain ⟨M, rfl⟩ := h.mem.ptr
  clear h hg hr h0 h1
  unfold ansW
  generalize lookP P (wordOf L (cellA P)) = P' at *
  generalize loadL c r L t (cellA P) = L' at *
  go_enter Try.func15, Try.ntmps15
  go_wp2_with fail
  refine (HG.out _).mono ?_
  rintro e w1 ⟨rfl, hb1⟩
  have HR : Hid (w1.heap[w.heap.size]? = some (.cells #[.int .i64 0, .int .i64 0, .int .i64 0, .bool false] 49 (0, 0))) := row_on (heap_alloc_new _ _) hb1
  have HB : Hid (Below w.heap.size w w1) := below_then (below_a1 _ _) hb1
  have t2 := HT.out _ HB.out
  have hx1 : X < w1.heap.size := Nat.lt_of_lt_of_le hx HB.out.size
  clear hb1
  go_wp2_with fail
  refine (HK.out _ HB.out).mono ?_
  rintro e w2 ⟨rfl, F', k2, n2⟩
  obtain ⟨r2, o2, nn2⟩ := fs_row HLT.out HB.out HR.out n2
  have HK2 : Hid (KS w2 base (.pointer (some ⟨M, 0, none⟩)) c r L' F' X P' b ∧ w.heap.size ∉ X :: F' ∧ Next (X :: F) (X :: F') w w2) := ⟨k2, o2, nn2⟩
  have HR2 : Hid (w2.heap[w.heap.size]? = some (.cells #[.int .i64 0, .int .i64 0, .int .i64 0, .bool false] 49 (0, 0))) := r2
  obtain ⟨⟨a0, a1, a2, a3⟩, g0, g1, g2, g3⟩ := ans_cells HR2.out
  have hB := heap_lt HR2.out
  clear k2 n2 r2 o2 nn2 t2
  go_wp2
  exact ret_ans rfl rfl (ansW_set rfl HR2.out 2 0 0 true) rfl rfl ⟨rfl, F', ks_other HK2.out.1 HK2.out.2.1 (Nat.le_refl _) HK2.out.2.2 (keepWB 2 0 0 true)⟩
theorem ansW_cells {w : World} {B : Nat} {k e v : Int} {y : Bool} (h : w.heap[B]? = some (.cells #[.int .i64 k, .int .i64 e, .int .i64 v, .bool y] 49 (0, 0))) :
    (w.cell? ⟨B, 0, none⟩ = some (.int .i64 k) ∧ w.cell? ⟨B, 1, none⟩ = some (.int .i64 e) ∧ w.cell? ⟨B, 2, none⟩ = some (.int .i64 v) ∧ w.cell? ⟨B, 3, none⟩ = some (.bool y)) ∧
    (w.frozen? ⟨B, 0, none⟩ = false ∧ w.frozen? ⟨B, 1, none⟩ = false ∧ w.frozen? ⟨B, 2, none⟩ = false ∧ w.frozen? ⟨B, 3, none⟩ = false) :=
  ⟨⟨by rw [cell_at h]; rfl, by rw [cell_at h]; rfl, by rw [cell_at h]; rfl, by rw [cell_at h]; rfl⟩, frozen_at h 0, frozen_at h 1, frozen_at h 2, frozen_at h 3⟩
set_option maxRecDepth 10000 in
theorem fstep_hold {w : World} {base : Nat} {p : Value} {c r : Nat} {L : List Ac} {F : List Nat} {X : Nat} {P : Cp} {b : Ck} {n : Nat} (h : KS w base p c r L F X P b) (hb : base ≤ w.heap.size) (hL : L.length < 3298534883328) (hk : KOk P b n) (hv : goesK r P b = true → W64 (wordOf L (adK P b))) (hg : goesF c r P = true) (hr : P.read = true) (t : Int) :
    Calls Try.prog 15 #[.pointer (some ⟨X, 0, none⟩), p, .int .i64 t] w fun e w' => e = .returned (ansW (ansKK r P b L) (errKK r P b L) (if ansKK r P b L = 3 then P.val else 0) (goesK r P b)) ∧ ∃ F', KS w' base p c r (nextKL c r P b L t) F' X P (nextK r P b L) ∧ Next (X :: F) (X :: F') w w' := by
  have HG : Hid (∀ o, Calls Try.prog 35 #[.pointer (some ⟨X, 0, none⟩), p] (w.alloc o) fun e w' => e = .returned (.bool true) ∧ Below (w.alloc o).heap.size (w.alloc o) w') := fun o => by
    rw [← hg]; exact fgoes_any (h.mem.below (below_a1 _ _)) (h.at_.alloc _)
  have HK : Hid (∀ w', Below w.heap.size w w' → Calls Try.prog 37 #[.pointer (some ⟨X, 0, none⟩), p, .int .i64 t] w' fun e w'' => e = .returned (.agg #[.int .i64 (ansKK r P b L), .int .i64 (errKK r P b L), .int .i64 0, .bool (goesK r P b)]) ∧ ∃ F', KS w'' base p c r (nextKL c r P b L t) F' X P (nextK r P b L) ∧ Next (X :: F) (X :: F') w' w'') := fun w' hb' => kstep_w (h.below hb') (Nat.le_trans hb hb'.size) hL hk hv t
  have HT : Hid (∀ w', Below w.heap.size w w' → w'.cell? ⟨X, 26, none⟩ = some (.bool true)) := fun w' hb' => by
    have := (h.below hb').at_.tail.2.2.1; rw [hr] at this; exact this
  have HLT : Hid (∀ q ∈ X :: F, q < w.heap.size) := fun q hq => (h.lt q hq).2
  have hx : X < w.heap.size := heap_lt h.at_
  obtain ⟨M, rfl⟩ := h.mem.ptr
  clear h hg hr hv hk
  unfold ansW
  generalize nextK r P b L = b' at *
  generalize nextKL c r P b L t = L' at *
  generalize ansKK r P b L = kk at *
  generalize errKK r P b L = ee at *
  generalize goesK r P b = gg at *
  by_cases hk3 : kk = 3
  · subst hk3
    rw [if_pos rfl]
    go_enter Try.func15, Try.ntmps15
    go_wp2_with fail
    refine (HG.out _).mono ?_
    rintro e w1 ⟨rfl, hb1⟩
    have HR : Hid (w1.heap[w.heap.size]? = some (.cells #[.int .i64 0, .int .i64 0, .int .i64 0, .bool false] 49 (0, 0))) := row_on (heap_alloc_new _ _) hb1
    have HB : Hid (Below w.heap.size w w1) := below_then (below_a1 _ _) hb1
    have t2 := HT.out _ HB.out
    have hx1 : X < w1.heap.size := Nat.lt_of_lt_of_le hx HB.out.size
    clear hb1
    go_wp2_with fail
    refine (HK.out _ HB.out).mono ?_
    rintro e w2 ⟨rfl, F', k2, n2⟩
    obtain ⟨r2, o2, nn2⟩ := fs_row HLT.out HB.out HR.out n2
    have HK2 : Hid (KS w2 base (.pointer (some ⟨M, 0, none⟩)) c r L' F' X P b' ∧ w.heap.size ∉ X :: F' ∧ Next (X :: F) (X :: F') w w2) := ⟨k2, o2, nn2⟩
    have HR2 : Hid (w2.heap[w.heap.size]? = some (.cells #[.int .i64 0, .int .i64 0, .int .i64 0, .bool false] 49 (0, 0))) := r2
    obtain ⟨⟨a0, a1, a2, a3⟩, g0, g1, g2, g3⟩ := ans_cells HR2.out
    have hB := heap_lt HR2.out
    have tv := k2.at_.tail.2.2.2
    have hx2 : X < w2.heap.size := heap_lt k2.at_
    clear k2 n2 r2 o2 nn2 t2
    go_wp2
    have q := ks_other HK2.out.1 HK2.out.2.1 (Nat.le_refl _) HK2.out.2.2 (keepWB 3 ee P.val gg)
    exact ret_ans rfl rfl (row_on (ansW_set rfl HR2.out 3 ee P.val gg) (below_a1 _ _)) rfl rfl ⟨rfl, F', q.1.below (below_a1 _ _), q.2.trans (Next.of_below (below_a1 _ _) _)⟩
  · rw [if_neg hk3]
    have hd : (kk == 3) = false := by simpa using hk3
    go_enter Try.func15, Try.ntmps15
    go_wp2_with fail
    refine (HG.out _).mono ?_
    rintro e w1 ⟨rfl, hb1⟩
    have HR : Hid (w1.heap[w.heap.size]? = some (.cells #[.int .i64 0, .int .i64 0, .int .i64 0, .bool false] 49 (0, 0))) := row_on (heap_alloc_new _ _) hb1
    have HB : Hid (Below w.heap.size w w1) := below_then (below_a1 _ _) hb1
    have t2 := HT.out _ HB.out
    have hx1 : X < w1.heap.size := Nat.lt_of_lt_of_le hx HB.out.size
    clear hb1
    go_wp2_with fail
    refine (HK.out _ HB.out).mono ?_
    rintro e w2 ⟨rfl, F', k2, n2⟩
    obtain ⟨r2, o2, nn2⟩ := fs_row HLT.out HB.out HR.out n2
    have HK2 : Hid (KS w2 base (.pointer (some ⟨M, 0, none⟩)) c r L' F' X P b' ∧ w.heap.size ∉ X :: F' ∧ Next (X :: F) (X :: F') w w2) := ⟨k2, o2, nn2⟩
    have HR2 : Hid (w2.heap[w.heap.size]? = some (.cells #[.int .i64 0, .int .i64 0, .int .i64 0, .bool false] 49 (0, 0))) := r2
    obtain ⟨⟨a0, a1, a2, a3⟩, g0, g1, g2, g3⟩ := ans_cells HR2.out
    have hB := heap_lt HR2.out
    clear k2 n2 r2 o2 nn2 t2
    go_wp2
    have q := ks_other HK2.out.1 HK2.out.2.1 (Nat.le_refl _) HK2.out.2.2 (keepWB kk ee 0 gg)
    exact ret_ans rfl rfl (row_on (ansW_set rfl HR2.out kk ee 0 gg) (below_a1 _ _)) rfl rfl ⟨rfl, F', q.1.below (below_a1 _ _), q.2.trans (Next.of_below (below_a1 _ _) _)⟩
theorem fstep {w : World} {base : Nat} {p : Value} {c r : Nat} {L : List Ac} {F : List Nat} {X : Nat} {P : Cp} {b : Ck} {n : Nat} (h : KS w base p c r L F X P b) (hb : base ≤ w.heap.size) (hL : L.length < 3298534883328) (hk : KOk P b n) (h0 : 0 ≤ P.cell) (hv : goesF c r P = true → P.read = true → goesK r P b = true → W64 (wordOf L (adK P b))) (t : Int) :
    Calls Try.prog 15 #[.pointer (some ⟨X, 0, none⟩), p, .int .i64 t] w fun e w' => e = .returned (ansW (ansF c r P b L) (errF c r P b L) (valF c r P b L) (accF c r P b)) ∧ ∃ F', KS w' base p c r (nextFL c r P b L t) F' X (nextFP c r P L) (nextFB c r P b L) ∧ Next (X :: F) (X :: F') w w' := by
  unfold ansF errF valF accF nextFL nextFP nextFB
  by_cases hg : goesF c r P = true
  · simp only [if_pos hg]
    by_cases hr : P.read = true
    · simp only [if_pos hr]
      exact fstep_hold h hb hL hk (hv hg hr) hg hr t
    · simp only [if_neg hr]
      exact fstep_look h hb hL h0 hg (by simpa using hr) t
  · simp only [if_neg hg]
    refine (fstep_none h.mem h.at_ (by simpa using hg) t).mono ?_
    rintro e w' ⟨rfl, hb'⟩
    exact ⟨rfl, F, h.below hb', Next.of_below hb' _⟩
end Go.Proofs.Ytcbcjliekbphmaa
/- A machine of layer 9 beside its memory under way; the example at the head of layer 9's statements. -/
namespace Go.Proofs.Ytcbcjliekbphmaa
open Go.ChangeShapes Go.WideShapes Go.ChangeAt Go.RowKit
attribute [local go_sem ↓] Go.wp_at_zero Go.wp_at_succ

def nextFN (c r : Nat) (P : Cp) (b : Ck) (L : List Ac) (n : Nat) : Nat := if goesF c r P then (if P.read then nextN r P b L n else n) else n
theorem kok_nextF {c r : Nat} {P : Cp} {b : Ck} {L : List Ac} {n : Nat} (h : KOk P b n) (hg : Gd L) : KOk (nextFP c r P L) (nextFB c r P b L) (nextFN c r P b L n) := by
  unfold nextFP nextFB nextFN
  split
  · split
    · exact kok_next h hg
    · exact kok_look h _
  · exact h
theorem gd_nextF {c r : Nat} {P : Cp} {b : Ck} {L : List Ac} {t : Int} (hg : Gd L) : Gd (nextFL c r P b L t) := by
  unfold nextFL
  split
  · split
    · exact gd_next hg
    · exact gd_load hg
  · exact hg
theorem nextFL_len (c r : Nat) (P : Cp) (b : Ck) (L : List Ac) (t : Int) : (nextFL c r P b L t).length ≤ L.length + 1 := by
  unfold nextFL
  split
  · split
    · exact nextKL_len c r P b L t
    · unfold loadL
      split <;> simp
  · omega
theorem wordOf_nextFL (c r : Nat) (P : Cp) (b : Ck) (L : List Ac) (t : Int) : wordOf (nextFL c r P b L t) = wordOf L := by
  unfold nextFL
  split
  · split
    · unfold nextKL
      split
      · exact wordOf_load _ _ _ _ _
      · rfl
    · exact wordOf_load _ _ _ _ _
  · rfl
theorem nextFP_cell (c r : Nat) (P : Cp) (L : List Ac) : (nextFP c r P L).cell = P.cell ∧ (nextFP c r P L).s = P.s ∧ (nextFP c r P L).z = P.z ∧ (nextFP c r P L).rd = P.rd := by
  unfold nextFP
  split
  · split <;> exact ⟨rfl, rfl, rfl, rfl⟩
  · exact ⟨rfl, rfl, rfl, rfl⟩
theorem kway_fstep {w0 w : World} {base : Nat} {p : Value} {c r : Nat} {L : List Ac} {X : Nat} {P : Cp} {b : Ck} {n : Nat} {R : List (Nat × Obj)} (h : KWay w0 w base p c r L X P b n R) (h0 : 0 ≤ P.cell) (hL : L.length < 3298534883328) (t : Int) :
    Calls Try.prog 15 #[.pointer (some ⟨X, 0, none⟩), p, .int .i64 t] w fun e w' => e = .returned (ansW (ansF c r P b L) (errF c r P b L) (valF c r P b L) (accF c r P b)) ∧ KWay w0 w' base p c r (nextFL c r P b L t) X (nextFP c r P L) (nextFB c r P b L) (nextFN c r P b L n) R := by
  obtain ⟨F, h1, hr⟩ := h.ps
  refine (fstep h1 h.size hL h.ok h0 (fun _ _ _ => h.gd _) t).mono ?_
  rintro e w' ⟨rfl, F', h2, hn⟩
  exact ⟨rfl, ⟨F', h2, hr.next hn⟩, h.bel.trans (hn.below h.bel.size (fun q hq => by have := (h1.lt q hq).1; have := h.lo; omega)), h.lo, Nat.le_trans h.size hn.1.size, kok_nextF h.ok h.gd, gd_nextF h.gd⟩
theorem kway_fstart {w0 w : World} {base : Nat} {p : Value} {c r : Nat} {L : List Ac} {X : Nat} {P : Cp} {b : Ck} {n : Nat} {R : List (Nat × Obj)} (h : KWay w0 w base p c r L X P b n R) : Calls Try.prog 25 #[.pointer (some ⟨X, 0, none⟩)] w fun e w' => e = .returned (.tuple #[.int .i64 (if b.st = 4 then b.comp else 0), .int .i64 (if b.st = 4 then b.seen else 0), .bool (decide (b.st = 4))]) ∧ KWay w0 w' base p c r L X P b n R := by
  obtain ⟨F, h1, hr⟩ := h.ps
  refine (fstart_any h1.at_).mono ?_
  rintro e w' ⟨rfl, hb⟩
  exact ⟨rfl, h.later hb⟩
def fsP : Cp := newP 4 0 Sg.nought 3
theorem fsP_ok : POk fsP := ⟨by decide, by decide, by decide, by decide, Sg.ok_put Sg.ok_nought _ (Sg.sigN_lt _)⟩
def fsL0 : List Ac := storeL 4 4 [] 0 ⟨4, 3, 0⟩ 77
def fsL1 : List Ac := nextFL 4 4 fsP (ckNew fsP) fsL0 5
def fsP1 : Cp := lookP fsP 77
def fsB2 : Ck := ⟨4, 0, 0, 0, 0, 0⟩
def fsL2 : List Ac := nextFL 4 4 fsP1 (ckNew fsP) fsL1 5
theorem fs1 : nextFP 4 4 fsP fsL0 = fsP1 ∧ nextFB 4 4 fsP (ckNew fsP) fsL0 = ckNew fsP ∧ ansF 4 4 fsP (ckNew fsP) fsL0 = 2 ∧ errF 4 4 fsP (ckNew fsP) fsL0 = 0 ∧ valF 4 4 fsP (ckNew fsP) fsL0 = 0 ∧ accF 4 4 fsP (ckNew fsP) = true ∧ nextFN 4 4 fsP (ckNew fsP) fsL0 0 = 0 := ⟨rfl, rfl, rfl, rfl, rfl, rfl, rfl⟩
theorem fs2s : stepK fsP1 (ckNew fsP) 0 = fsB2 := by
  unfold stepK seeK
  rw [if_pos (show (ckNew fsP).st = 0 from rfl), if_pos (Or.inr (by decide))]
  rfl
theorem fs2w : wordOf fsL1 (adK fsP1 (ckNew fsP)) = 0 := rfl
theorem fs2k : nextK 4 fsP1 (ckNew fsP) fsL1 = fsB2 := by
  unfold nextK
  rw [fs2w, fs2s]
  rfl
theorem fs2a : ansKK 4 fsP1 (ckNew fsP) fsL1 = 3 ∧ errKK 4 fsP1 (ckNew fsP) fsL1 = 0 := by
  unfold ansKK errKK kindK errK
  rw [fs2w, fs2s]
  exact ⟨rfl, rfl⟩
theorem fs2 : nextFP 4 4 fsP1 fsL1 = fsP1 ∧ nextFB 4 4 fsP1 (ckNew fsP) fsL1 = fsB2 ∧ ansF 4 4 fsP1 (ckNew fsP) fsL1 = 3 ∧ errF 4 4 fsP1 (ckNew fsP) fsL1 = 0 ∧ valF 4 4 fsP1 (ckNew fsP) fsL1 = 77 ∧ accF 4 4 fsP1 (ckNew fsP) = true := by
  have hg : goesF 4 4 fsP1 = true := rfl
  have hr : fsP1.read = true := rfl
  unfold nextFP nextFB ansF errF valF accF
  rw [if_pos hg, if_pos hg, if_pos hg, if_pos hg, if_pos hg, if_pos hg, if_pos hr, if_pos hr, if_pos hr, if_pos hr, if_pos hr, if_pos hr, fs2k, fs2a.1, fs2a.2]
  exact ⟨rfl, rfl, rfl, rfl, rfl, rfl⟩
def ansOW (k e v : Int) (y : Bool) : Obj := .cells #[.int .i64 k, .int .i64 e, .int .i64 v, .bool y] 49 (0, 0)
set_option maxRecDepth 10000 in
set_option maxHeartbeats 3200000 in
theorem fshown_any (w : World) : Calls Try.prog 6 #[] w fun e w' => e = .returned (.bool true) ∧ Below w.heap.size w w' := by
  have HN : Hid (∀ w : World, Calls Try.prog 10 #[.int .i64 4, .int .i64 4] w fun e w' => ∃ p F, e = .returned (.tuple #[p, .int .i64 0]) ∧ p ≠ .pointer none ∧ MemAt w' w.heap.size p 4 4 [] F ∧ Below w.heap.size w w') := fun w => new_yes w 4 4 (by decide) (by decide)
  have HO : Hid (∀ (w : World), Calls Try.prog 27 #[.slice none 0 0] w fun e w' => e = .returned (.agg #[.int .u64 0, .int .u64 0, .int .u64 0, .int .u64 0, .int .u64 0, .int .u64 0, .int .u64 0, .int .u64 0]) ∧ Below w.heap.size w w') := fun w => Sg.of_any w _ [] ⟨none, 0, rfl, by decide, Or.inl rfl⟩
  have HF : Hid (∀ w : World, Calls Try.prog 7 #[.int .i64 4, .int .i64 0, .agg #[.int .u64 0, .int .u64 0, .int .u64 0, .int .u64 0, .int .u64 0, .int .u64 0, .int .u64 0, .int .u64 0], .int .i64 3] w fun e w' => ∃ X, e = .returned (.tuple #[.pointer (some ⟨X, 0, none⟩), .int .i64 0]) ∧ w.heap.size ≤ X ∧ KAt w' X fsP (ckNew fsP) ∧ Below w.heap.size w w') := fun w => fnew_yes w (s := 4) (z := 0) (rd := Sg.nought) (cell := 3) (by decide) (by decide) (by decide) (by decide) Sg.ok_nought (by decide) (by decide)
  have HG : Hid (∀ w : World, Calls Try.prog 7 #[.int .i64 4, .int .i64 0, .agg #[.int .u64 0, .int .u64 0, .int .u64 0, .int .u64 0, .int .u64 0, .int .u64 0, .int .u64 0, .int .u64 0], .int .i64 1024] w fun e w' => e = .returned (.tuple #[.pointer none, .int .i64 1]) ∧ Below w.heap.size w w') := fun w => fnew_no w 4 0 Sg.nought 1024 Sg.ok_nought (by decide)
  go_enter Try.func6, Try.ntmps6
  go_wp2_with fail
  refine (HN.out _).mono ?_
  rintro e w1 ⟨p, F1, rfl, _, hm1, hb1⟩
  obtain ⟨M, rfl⟩ := hm1.ptr
  have HM1 : Hid (MemAt w1 w.heap.size (.pointer (some ⟨M, 0, none⟩)) 4 4 [] F1 ∧ Below w.heap.size w w1) := ⟨hm1, hb1⟩
  clear hm1 hb1
  go_wp2_with fail
  refine (HO.out _).mono ?_
  rintro e w2 ⟨rfl, hb2⟩
  have HM2 : Hid (MemAt w2 w.heap.size (.pointer (some ⟨M, 0, none⟩)) 4 4 [] F1 ∧ Below w.heap.size w w2) := ⟨HM1.out.1.below hb2, below_then HM1.out.2 hb2⟩
  clear hb2 HM1
  go_wp2_with fail
  refine (HF.out _).mono ?_
  rintro e w3 ⟨X, rfl, hX3, hx3, hb3⟩
  have HW3 : Hid (KWay w w3 w.heap.size (.pointer (some ⟨M, 0, none⟩)) 4 4 [] X fsP (ckNew fsP) 0 []) := kway_new fsP_ok HM2.out.1 HM2.out.2 (Nat.le_refl _) HM2.out.2.size hX3 hx3 hb3 (fun z hz => by simp at hz)
  clear hX3 hx3 hb3 HM2
  go_wp2_with fail
  refine (HO.out _).mono ?_
  rintro e w4 ⟨rfl, hb4⟩
  have HW4 : Hid (KWay w w4 w.heap.size (.pointer (some ⟨M, 0, none⟩)) 4 4 [] X fsP (ckNew fsP) 0 []) := HW3.out.later hb4
  clear hb4 HW3
  go_wp2_with fail
  refine (HG.out _).mono ?_
  rintro e w5 ⟨rfl, hb5⟩
  have HW5 : Hid (KWay w w5 w.heap.size (.pointer (some ⟨M, 0, none⟩)) 4 4 [] X fsP (ckNew fsP) 0 []) := HW4.out.later hb5
  clear hb5 HW4
  have H6 : Hid (Calls Try.prog 13 #[.pointer (some ⟨M, 0, none⟩), .int .i64 0, .agg #[.int .i64 4, .int .i64 3, .int .i64 0], .int .i64 77] w5 fun e w' => e = .returned (.int .i64 0) ∧ KWay w w' w.heap.size (.pointer (some ⟨M, 0, none⟩)) 4 4 fsL0 X fsP (ckNew fsP) 0 []) := kway_store HW5.out (by decide) 0 ⟨4, 3, 0⟩ 77 (by unfold W64; decide)
  go_wp2_with fail
  refine H6.out.mono ?_
  rintro e w6 ⟨rfl, h6⟩
  have HW6 : Hid (KWay w w6 w.heap.size (.pointer (some ⟨M, 0, none⟩)) 4 4 fsL0 X fsP (ckNew fsP) 0 []) := h6
  clear h6 H6 HW5
  have HT7 : Hid (Calls Try.prog 15 #[.pointer (some ⟨X, 0, none⟩), .pointer (some ⟨M, 0, none⟩), .int .i64 5] w6 fun e w' => e = .returned (.agg #[.int .i64 2, .int .i64 0, .int .i64 0, .bool true]) ∧ KWay w w' w.heap.size (.pointer (some ⟨M, 0, none⟩)) 4 4 fsL1 X fsP1 (ckNew fsP) 0 []) := by
    have := kway_fstep HW6.out (by decide) (by decide) 5
    obtain ⟨a1, a2, a3, a4, a5, a6, a7⟩ := fs1
    rw [a1, a2, a3, a4, a5, a6, a7] at this
    exact this
  go_wp2_with fail
  refine HT7.out.mono ?_
  rintro e w7 ⟨rfl, h7⟩
  have HW7 : Hid (KWay w (w7.alloc (.cells #[.int .i64 2, .int .i64 0, .int .i64 0, .bool true] 49)) w.heap.size (.pointer (some ⟨M, 0, none⟩)) 4 4 fsL1 X fsP1 (ckNew fsP) 0 ((w7.heap.size, ansOW 2 0 0 true) :: [])) := h7.more _
  clear h7 HT7 HW6
  have HT8 : Hid (Calls Try.prog 15 #[.pointer (some ⟨X, 0, none⟩), .pointer (some ⟨M, 0, none⟩), .int .i64 5] (w7.alloc (.cells #[.int .i64 2, .int .i64 0, .int .i64 0, .bool true] 49)) fun e w' => e = .returned (.agg #[.int .i64 3, .int .i64 0, .int .i64 77, .bool true]) ∧ KWay w w' w.heap.size (.pointer (some ⟨M, 0, none⟩)) 4 4 fsL2 X fsP1 fsB2 (nextFN 4 4 fsP1 (ckNew fsP) fsL1 0) ((w7.heap.size, ansOW 2 0 0 true) :: [])) := by
    have := kway_fstep HW7.out (by decide) (by decide) 5
    obtain ⟨a1, a2, a3, a4, a5, a6⟩ := fs2
    rw [a1, a2, a3, a4, a5, a6] at this
    exact this
  go_wp2_with fail
  refine HT8.out.mono ?_
  rintro e w8 ⟨rfl, h8⟩
  generalize nextFN 4 4 fsP1 (ckNew fsP) fsL1 0 = nn at *
  have HW8 : Hid (KWay w (w8.alloc (.cells #[.int .i64 3, .int .i64 0, .int .i64 77, .bool true] 49)) w.heap.size (.pointer (some ⟨M, 0, none⟩)) 4 4 fsL2 X fsP1 fsB2 nn ((w8.heap.size, ansOW 3 0 77 true) :: ((w7.heap.size, ansOW 2 0 0 true) :: []))) := h8.more _
  clear h8 HT8 HW7
  have HTS : Hid (Calls Try.prog 25 #[.pointer (some ⟨X, 0, none⟩)] (w8.alloc (.cells #[.int .i64 3, .int .i64 0, .int .i64 77, .bool true] 49)) fun e w' => e = .returned (.tuple #[.int .i64 0, .int .i64 0, .bool true]) ∧ KWay w w' w.heap.size (.pointer (some ⟨M, 0, none⟩)) 4 4 fsL2 X fsP1 fsB2 nn ((w8.heap.size, ansOW 3 0 77 true) :: ((w7.heap.size, ansOW 2 0 0 true) :: []))) := kway_fstart HW8.out
  go_wp2_with fail
  refine HTS.out.mono ?_
  rintro e w9 ⟨rfl, h9⟩
  have HW9 : Hid (Below w.heap.size w w9) := h9.bel
  obtain ⟨⟨a0, _, _, _⟩, _⟩ := ansW_cells (k := 2) (e := 0) (v := 0) (y := true) (h9.row (B := w7.heap.size) (o := ansOW 2 0 0 true) (by simp))
  obtain ⟨⟨a1, _, a2, _⟩, _⟩ := ansW_cells (k := 3) (e := 0) (v := 77) (y := true) (h9.row (B := w8.heap.size) (o := ansOW 3 0 77 true) (by simp))
  clear h9 HTS HW8
  go_wp2
  go_ret
  exact ⟨rfl, HW9.out⟩
end Go.Proofs.Ytcbcjliekbphmaa
