/- The program's machine of layer 11: goesOver, Step. -/
import Derived.Test.YtbmmicfdnfpcaaaBkI
import Derived.Test.YtbmmicfdnfpcaaaBkD
import Derived.Test.YtbmmicfdnfpcaaaBkE
import Derived.Test.YtbmmicfdnfpcaaaBkG
import Derived.Test.YtbmmicfdnfpcaaaBkL
namespace Go.Proofs.Ytbmmicfdnfpcaaa
open Go.ChangeShapes Go.WideShapes Go.ChangeAt Go.RowKit
attribute [local go_sem ↓] Go.wp_at_zero Go.wp_at_succ

set_option maxRecDepth 10000 in
theorem bgoes_any {w : World} {base : Nat} {p : Value} {c r : Nat} {L : List Ac} {F : List Nat} {Z : Nat} {P : Bp} {b : Bk} {lv : Value} (h : BS w base p c r L F Z P b lv) (hk : BkOk P b) :
    Calls Try.prog 32 #[.pointer (some ⟨Z, 0, none⟩), p] w fun e w' => e = .returned (.bool (goesB c r P b)) ∧ Below w.heap.size w w' := by
  have HS : Hid (∀ w', Below w.heap.size w w' → Calls Try.prog 52 #[p] w' fun e w'' => e = .returned (.tuple #[.int .i64 (c : Int), .int .i64 (r : Int)]) ∧ Below w.heap.size w w'') := fun w' k => (sizes_any (h.mem.below k)).mono fun _ _ q => ⟨q.1, below_then k q.2⟩
  have hx : Z < w.heap.size := heap_lt h.row
  obtain ⟨M, rfl⟩ := h.mem.ptr
  have HC : Hid (∀ w' B, Below w.heap.size w w' → w'.cell? ⟨B, 0, none⟩ = some (.int .i64 (c : Int)) → Calls Try.prog 54 #[lv, .func (.func 53) #[] #[.pointer (some ⟨B, 0, none⟩)]] w' fun e w'' => e = .returned (.bool (lack P.W c)) ∧ Below w.heap.size w w'') := fun w' B k hB => (cont_any (own_keep h.own (Keep.of_below k []) (fun _ _ => by simp)) hk.p.len c B hB).mono fun _ _ q => ⟨q.1, below_then k q.2⟩
  have HR : Hid (∀ w', Below w.heap.size w w' → BRow w' Z P b lv) := fun w' k => h.row.below k hx
  obtain ⟨x0, x1, x2, x11, x12, x13, x14, x15⟩ := BRaw.cells h.row
  have HF1 : ∀ w, (binOp .eql 80 .nilFunc .nilFunc).run Try.prog w = .ok (.bool true) w := fun _ => rfl
  have HF2 : ∀ (fn : FuncId) w, (binOp .eql 80 (.func (.func fn) #[] #[]) .nilFunc).run Try.prog w = .ok (.bool false) w := fun _ _ => rfl
  have hmf : ∀ (fn : Fn) (first cap : Array Value) (w : World), (Instr.makeFunc fn first cap).run Try.prog w = .ok (.func fn first cap) w := fun _ _ _ _ => rfl
  rw [goesB_lack]
  by_cases e0 : b.nx = 0
  · have d0 : decide (b.nx ≠ 0) = false := decide_eq_false (by omega)
    rw [d0]
    have ef : fnB b.nx = .nilFunc := by rw [e0]; rfl
    rw [ef] at x11
    clear h hk
    go_enter Try.func32, Try.ntmps32
    go_wp2
    go_ret
    exact ⟨by simp, Below.refl _ _⟩
  · have d0 : decide (b.nx ≠ 0) = true := decide_eq_true e0
    rw [d0]
    have hn8 := hk.nx
    obtain ⟨fn, ef⟩ : ∃ fn, fnB b.nx = .func (.func fn) #[] #[] := by
      have : b.nx = 1 ∨ b.nx = 2 ∨ b.nx = 3 ∨ b.nx = 4 ∨ b.nx = 5 ∨ b.nx = 6 ∨ b.nx = 7 ∨ b.nx = 8 := by omega
      rcases this with e | e | e | e | e | e | e | e <;> rw [e] <;> exact ⟨_, rfl⟩
    rw [ef] at x11
    have HSL : Hid (∃ a cap, lv = .slice a P.W.length cap) := h.slice
    clear h hk
    obtain ⟨la, lcap, hlv⟩ := HSL.out
    subst hlv
    generalize lack P.W c = lk at *
    by_cases er : r = P.s
    · have dr : decide (r = P.s) = true := decide_eq_true er
      rw [dr]
      subst er
      go_enter Try.func32, Try.ntmps32
      go_wp2_with fail
      refine (HS.out _ (by first | exact Below.refl _ _ | exact below_a1 _ _)).mono ?_
      rintro e w1 ⟨rfl, hb1⟩
      have HB : Hid (Below w.heap.size w w1) := hb1
      clear x0 x1 x2 x11 x12 x13 x14 x15
      obtain ⟨x0, x1, x2, x11, x12, x13, x14, x15⟩ := BRaw.cells (HR.out _ hb1)
      have hx1 : Z < w1.heap.size := Nat.lt_of_lt_of_le hx hb1.size
      clear hb1
      go_wp2_with fail
      refine (HC.out _ _ (below_alloc HB.out _) (by rw [cell_at (heap_alloc_new _ _)]; rfl)).mono ?_
      rintro e w2 ⟨rfl, hb2⟩
      have HB2 : Hid (Below w.heap.size w w2) := hb2
      clear hb2
      go_wp2
      go_ret
      exact ⟨by simp, HB2.out⟩
    · have dr : decide (r = P.s) = false := decide_eq_false er
      have er' : ¬ (r : Int) = (P.s : Int) := by omega
      have er2 : ((r : Int) == (P.s : Int)) = false := by simp; omega
      rw [dr]
      go_enter Try.func32, Try.ntmps32
      go_wp2_with fail
      refine (HS.out _ (by first | exact Below.refl _ _ | exact below_a1 _ _)).mono ?_
      rintro e w1 ⟨rfl, hb1⟩
      have HB : Hid (Below w.heap.size w w1) := hb1
      clear x0 x1 x2 x11 x12 x13 x14 x15
      obtain ⟨x0, x1, x2, x11, x12, x13, x14, x15⟩ := BRaw.cells (HR.out _ hb1)
      have hx1 : Z < w1.heap.size := Nat.lt_of_lt_of_le hx hb1.size
      clear hb1
      go_wp2
      first | (go_ret; exact ⟨by simp, below_alloc HB.out _⟩) | (go_quiet (fail); go_wp2; go_ret; exact ⟨by simp, below_drawn (below_alloc HB.out _) _⟩)
theorem bstep_none {w : World} {base : Nat} {p : Value} {c r : Nat} {L : List Ac} {F : List Nat} {Z : Nat} {P : Bp} {b : Bk} {lv : Value} (h : BS w base p c r L F Z P b lv) (hk : BkOk P b) (hn : goesB c r P b = false) (t : Int) :
    Calls Try.prog 15 #[.pointer (some ⟨Z, 0, none⟩), p, .int .i64 t] w fun e w' => e = .returned (ansC 0 false) ∧ Below w.heap.size w w' := by
  have HG : Hid (∀ o, Calls Try.prog 32 #[.pointer (some ⟨Z, 0, none⟩), p] (w.alloc o) fun e w' => e = .returned (.bool false) ∧ Below (w.alloc o).heap.size (w.alloc o) w') := fun o => by
    rw [← hn]; exact bgoes_any (h.below (below_a1 _ _)) hk
  obtain ⟨M, rfl⟩ := h.mem.ptr
  clear h hk hn
  unfold ansC
  go_enter Try.func15, Try.ntmps15
  go_wp2_with fail
  refine (HG.out _).mono ?_
  rintro e w1 ⟨rfl, hb⟩
  have HR : Hid (w1.heap[w.heap.size]? = some (.cells #[.int .i64 0, .int .i64 0, .int .i64 0, .bool false] 52 (0, 0))) := row_on (heap_alloc_new _ _) hb
  obtain ⟨⟨a0, a1, a2, a3⟩, g0, g1, g2, g3⟩ := ans_cells HR.out
  have hB := heap_lt HR.out
  have HB : Hid (Below w.heap.size w w1) := below_then (below_a1 _ _) hb
  clear hb
  go_wp2
  exact ret_ans rfl rfl (ans_set rfl HR.out 0 false) rfl rfl ⟨rfl, below4 HB.out (Nat.le_refl _) 0 false⟩
set_option maxRecDepth 10000 in
set_option maxHeartbeats 1600000 in
theorem bstep_by {w : World} {base : Nat} {p : Value} {c r : Nat} {L L' : List Ac} {F : List Nat} {Z : Nat} {P : Bp} {b b' : Bk} {lv : Value} (h : BS w base p c r L F Z P b lv) (hk : BkOk P b) (hg : goesB c r P b = true) (hb : base ≤ w.heap.size) (t k : Int) (fn : FuncId) (ef : fnB b.nx = .func (.func fn) #[] #[])
    (HC : ∀ w', Below w.heap.size w w' → Does fn w' base p c r F Z P lv t k L' b') :
    Calls Try.prog 15 #[.pointer (some ⟨Z, 0, none⟩), p, .int .i64 t] w fun e w' => e = .returned (ansM k) ∧ ∃ F', BS w' base p c r L' F' Z P b' lv ∧ Next (Z :: F) (Z :: F') w w' := by
  have HG : Hid (∀ o, Calls Try.prog 32 #[.pointer (some ⟨Z, 0, none⟩), p] (w.alloc o) fun e w' => e = .returned (.bool true) ∧ Below (w.alloc o).heap.size (w.alloc o) w') := fun o => by
    rw [← hg]; exact bgoes_any (h.below (below_a1 _ _)) hk
  have HT : Hid (∀ w', Below w.heap.size w w' → w'.cell? ⟨Z, 11, none⟩ = some (fnB b.nx)) := fun w' hb' => (BRaw.cells (h.below hb').row).2.2.2.1
  have HA : Hid (∀ w', Below (w.alloc (.cells #[.int .i64 0, .int .i64 0, .int .i64 0, .bool false] 52)).heap.size (w.alloc (.cells #[.int .i64 0, .int .i64 0, .int .i64 0, .bool false] 52)) w' → AS w w' base p c r L F F Z P b lv) := fun w' k => AS.new h hb k
  have hx : Z < w.heap.size := heap_lt h.row
  obtain ⟨M, rfl⟩ := h.mem.ptr
  have HE : Hid (∀ w' w'' F', AS w w' base (.pointer (some ⟨M, 0, none⟩)) c r L F F Z P b lv → BS w'' base (.pointer (some ⟨M, 0, none⟩)) c r L' F' Z P b' lv → Next (Z :: F) (Z :: F') w' w'' → AS w w'' base (.pointer (some ⟨M, 0, none⟩)) c r L' F F' Z P b' lv) := fun w' w'' F' ha hbs hn =>
    ⟨ha.an.keep hn.1 ha.no, hbs, ha.nx.trans hn, fun e => by
      rcases hn.2 _ e with h1 | h1
      · exact ha.no h1
      · have := heap_lt ha.an; omega, ha.nl, ha.hb⟩
  have hnx := hk.nx
  have hn0 := (goesB_iff.mp hg).1
  have hc : b.nx = 1 ∨ b.nx = 2 ∨ b.nx = 3 ∨ b.nx = 4 ∨ b.nx = 5 ∨ b.nx = 6 ∨ b.nx = 7 ∨ b.nx = 8 := by omega
  unfold Does at HC
  unfold ansM at *
  rcases hc with e | e | e | e | e | e | e | e
  all_goals
    rw [e] at ef HT
    simp [fnB] at ef
    subst ef
    simp only [fnB] at HT
    have HC2 := HC
    clear h hg hk e HC hnx hn0
    go_enter Try.func15, Try.ntmps15
    go_wp2_with fail
    refine (HG.out _).mono ?_
    rintro e w1 ⟨rfl, hb1⟩
    have Q1 : Hid (AS w w1 base (.pointer (some ⟨M, 0, none⟩)) c r L F F Z P b lv) := HA.out _ hb1
    have HB : Hid (Below w.heap.size w w1) := below_then (below_a1 _ _) hb1
    have t2 := HT.out _ HB.out
    have hx1 : Z < w1.heap.size := Nat.lt_of_lt_of_le hx HB.out.size
    clear hb1
    go_wp2_with fail
    refine (HC2 _ HB.out).mono ?_
    rintro e w2 ⟨rfl, F2, k2, n2⟩
    have Q2 : Hid (AS w w2 base (.pointer (some ⟨M, 0, none⟩)) c r L' F F2 Z P b' lv) := HE.out _ _ _ Q1.out k2 n2
    clear k2 n2 t2
    obtain ⟨⟨a0, a1, a2, a3⟩, g0, g1, g2, g3⟩ := ans_cells Q2.out.an
    have hB := heap_lt Q2.out.an
    go_wp2
    exact ret_ans rfl rfl (ans_set rfl Q2.out.an k true) rfl rfl ⟨rfl, F2, Q2.out.fin k true⟩
/-- A step, whatever it is. -/
theorem bstep {w : World} {base : Nat} {p : Value} {c r : Nat} {L : List Ac} {F : List Nat} {Z : Nat} {P : Bp} {b : Bk} {lv : Value} (h : BS w base p c r L F Z P b lv) (hk : BkOk P b) (hb : base ≤ w.heap.size) (hL : L.length < 3298534883328) (t : Int) :
    Calls Try.prog 15 #[.pointer (some ⟨Z, 0, none⟩), p, .int .i64 t] w fun e w' => e = .returned (ansC (ansBk c r P b L) (goesB c r P b)) ∧ ∃ F', BS w' base p c r (nextBL c r P b L t) F' Z P (nextBk c r P b L) lv ∧ Next (Z :: F) (Z :: F') w w' := by
  by_cases hg : goesB c r P b = true
  · obtain ⟨h0, er, hc⟩ := goesB_iff.mp hg
    subst er
    have hnx := hk.nx
    have key : ∀ (k : Int) (L' : List Ac) (b' : Bk), ansBk c P.s P b L = k → nextBL c P.s P b L t = L' → nextBk c P.s P b L = b' → ∀ fn, fnB b.nx = .func (.func fn) #[] #[] → (∀ w', Below w.heap.size w w' → Does fn w' base p c P.s F Z P lv t k L' b') →
        Calls Try.prog 15 #[.pointer (some ⟨Z, 0, none⟩), p, .int .i64 t] w fun e w' => e = .returned (ansC (ansBk c P.s P b L) (goesB c P.s P b)) ∧ ∃ F', BS w' base p c P.s (nextBL c P.s P b L t) F' Z P (nextBk c P.s P b L) lv ∧ Next (Z :: F) (Z :: F') w w' := fun k L' b' e1 e2 e3 fn ef HC => by
      rw [e1, e2, e3, hg]
      exact bstep_by h hk hg hb t k fn ef HC
    have hle : ∀ w', Below w.heap.size w w' → base ≤ w'.heap.size := fun w' k => Nat.le_trans hb k.size
    have hcs : b.nx = 1 ∨ b.nx = 2 ∨ b.nx = 3 ∨ b.nx = 4 ∨ b.nx = 5 ∨ b.nx = 6 ∨ b.nx = 7 ∨ b.nx = 8 := by omega
    rcases hcs with e | e | e | e | e | e | e | e
    · refine key _ _ _ ?_ ?_ ?_ 27 (by rw [e]; rfl) (fun w' k => blayw_any (h.below k) (hle w' k) hL hk e t)
      · simp [ansBk, hg, waitB, e]
      · simp [nextBL, hg, accL, ldB, adB, valB, e]
      · simp [nextBk, hg, stepB, waitB, e]
    · refine key _ _ _ ?_ ?_ ?_ 47 (by rw [e]; rfl) (fun w' k => blayh_any (h.below k) (hle w' k) hL hk t)
      · simp [ansBk, hg, waitB, e]
      · simp [nextBL, hg, accL, ldB, adB, valB, e]
      · simp [nextBk, hg, stepB, waitB, e]
    · refine key _ _ _ ?_ ?_ ?_ 74 (by rw [e]; rfl) (fun w' k => blook_any (h.below k) (hle w' k) hL hk e t)
      · have : adB P b = hdB P b.old := by simp [adB, e, hdB]
        unfold ansBk
        rw [if_pos hg, this]
        unfold waitB
        rw [if_pos e]
        cases overV (wordOf L (hdB P b.old)) b.old <;> cases laidV (wordOf L (hdB P b.old)) b.old <;> simp [e]
      · simp [nextBL, hg, accL, ldB, adB, e, hdB]
      · have : adB P b = hdB P b.old := by simp [adB, e, hdB]
        unfold nextBk
        rw [if_pos hg, this]
        unfold stepB waitB
        rw [if_pos e]
        cases overV (wordOf L (hdB P b.old)) b.old <;> cases laidV (wordOf L (hdB P b.old)) b.old <;> simp [e]
    · refine key _ _ _ ?_ ?_ ?_ 85 (by rw [e]; rfl) (fun w' k => bhold_any (h.below k) (hle w' k) hL hk e t)
      · simp [ansBk, hg, waitB, e]
      · simp [nextBL, hg, accL, ldB, adB, e, wdB]
      · simp [nextBk, hg, stepB, waitB, e, adB, wdB]
    · refine key _ _ _ ?_ ?_ ?_ 86 (by rw [e]; rfl) (fun w' k => bold_any (h.below k) (hle w' k) hL hk t)
      · have : adB P b = hdB P b.old := by simp [adB, e, hdB]
        unfold ansBk
        rw [if_pos hg, this]
        unfold waitB
        cases hov : overV (wordOf L (hdB P b.old)) b.old <;> simp [e]
      · simp [nextBL, hg, accL, ldB, adB, e, hdB]
      · have : adB P b = hdB P b.old := by simp [adB, e, hdB]
        unfold nextBk
        rw [if_pos hg, this]
        unfold stepB waitB
        cases hov : overV (wordOf L (hdB P b.old)) b.old <;> simp [e]
    · refine key _ _ _ ?_ ?_ ?_ 71 (by rw [e]; rfl) (fun w' k => bwrite_any (h.below k) (hle w' k) hL hk hc e t)
      · simp [ansBk, hg, waitB, e]
      · simp [nextBL, hg, accL, ldB, adB, valB, e]
      · simp [nextBk, hg, stepB, waitB, e]
    · refine key _ _ _ ?_ ?_ ?_ 72 (by rw [e]; rfl) (fun w' k => ball_any (h.below k) (hle w' k) hL hk t)
      · have : adB P b = hdB P (P.st - 1) := by simp [adB, e, hdB]
        unfold ansBk
        rw [if_pos hg, this]
        unfold waitB
        cases hov : overV (wordOf L (hdB P (P.st - 1))) (P.st - 1) <;> simp [e]
      · simp [nextBL, hg, accL, ldB, adB, e, hdB]
      · have : adB P b = hdB P (P.st - 1) := by simp [adB, e, hdB]
        unfold nextBk
        rw [if_pos hg, this]
        unfold stepB waitB
        cases hov : overV (wordOf L (hdB P (P.st - 1))) (P.st - 1) <;> simp [e]
    · refine key _ _ _ ?_ ?_ ?_ 73 (by rw [e]; rfl) (fun w' k => bcomp_any (h.below k) (hle w' k) hL hk t)
      · simp [ansBk, hg, waitB, e]
      · simp [nextBL, hg, accL, ldB, adB, valB, e]
      · simp [nextBk, hg, stepB, waitB, e]
  · have hf : goesB c r P b = false := by simpa using hg
    refine (bstep_none h hk hf t).mono ?_
    rintro e w' ⟨rfl, hb'⟩
    unfold ansBk nextBL nextBk
    rw [hf]
    exact ⟨rfl, F, h.below hb', Next.of_below hb' _⟩
end Go.Proofs.Ytbmmicfdnfpcaaa
