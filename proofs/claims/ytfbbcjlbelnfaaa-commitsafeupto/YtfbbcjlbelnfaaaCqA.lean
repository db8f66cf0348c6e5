/- The program's machine of layer 8: New, Start, goesOver, addr, overrunBy, fail, toNextWord, toNextStamp. -/
import Derived.Test.YtfbbcjlbelnfaaaJSigMCqM
import Derived.Test.YtfbbcjlbelnfaaaSigB
import Derived.Test.YtfbbcjlbelnfaaaRngA
import Derived.Test.YtfbbcjlbelnfaaaJMemGMemH
import Derived.OwnWalk
namespace Go.Proofs.Ytfbbcjlbelnfaaa
open Go.ChangeShapes Go.WideShapes Go.ChangeAt Go.RowKit
attribute [local go_sem ↓] Go.wp_at_zero Go.wp_at_succ

def rdV (rd : List Nat) (j : Nat) : Value := .int .u64 ((rd.getD j 0 : Nat) : Int)
def ckC (P : Cp) (b : Ck) : Array Value := #[.int .i64 (P.s : Int), .int .i64 P.z, rdV P.rd 0, rdV P.rd 1, rdV P.rd 2, rdV P.rd 3, rdV P.rd 4, rdV P.rd 5, rdV P.rd 6, rdV P.rd 7, .bool P.last, .int .i64 b.st, .int .i64 b.seen, .int .i64 b.stamp, .int .i64 b.word, .int .i64 b.comp]
/-- A machine in a block of its own. -/
def KAt (w : World) (X : Nat) (P : Cp) (b : Ck) : Prop := w.heap[X]? = some (.cells (ckC P b) 140 (0, 0))
theorem KAt.keep {w w' : World} {X : Nat} {P : Cp} {b : Ck} {F : List Nat} (h : KAt w X P b) (k : Keep F w w') (hx : X ∉ F) : KAt w' X P b := by
  unfold KAt; rw [k.block _ (heap_lt h) hx]; exact h
theorem KAt.below {w w' : World} {X : Nat} {P : Cp} {b : Ck} {B : Nat} (h : KAt w X P b) (k : Below B w w') (hx : X < B) : KAt w' X P b := by
  unfold KAt; rw [k.block _ hx]; exact h
theorem KAt.cells {w : World} {X : Nat} {P : Cp} {b : Ck} (h : KAt w X P b) : w.cell? ⟨X, 0, none⟩ = some (.int .i64 (P.s : Int)) ∧ w.cell? ⟨X, 1, none⟩ = some (.int .i64 P.z) ∧ w.cell? ⟨X, 10, none⟩ = some (.bool P.last) ∧ w.cell? ⟨X, 11, none⟩ = some (.int .i64 b.st) ∧ w.cell? ⟨X, 12, none⟩ = some (.int .i64 b.seen) ∧ w.cell? ⟨X, 13, none⟩ = some (.int .i64 b.stamp) ∧ w.cell? ⟨X, 14, none⟩ = some (.int .i64 b.word) ∧ w.cell? ⟨X, 15, none⟩ = some (.int .i64 b.comp) :=
  ⟨by rw [cell_at h]; rfl, by rw [cell_at h]; rfl, by rw [cell_at h]; rfl, by rw [cell_at h]; rfl, by rw [cell_at h]; rfl, by rw [cell_at h]; rfl, by rw [cell_at h]; rfl, by rw [cell_at h]; rfl⟩
theorem KAt.fz {w : World} {X : Nat} {P : Cp} {b : Ck} (h : KAt w X P b) : w.frozen? ⟨X, 11, none⟩ = false ∧ w.frozen? ⟨X, 12, none⟩ = false ∧ w.frozen? ⟨X, 13, none⟩ = false ∧ w.frozen? ⟨X, 14, none⟩ = false ∧ w.frozen? ⟨X, 15, none⟩ = false :=
  ⟨frozen_at h 11, frozen_at h 12, frozen_at h 13, frozen_at h 14, frozen_at h 15⟩
theorem KAt.read {w : World} {X : Nat} {P : Cp} {b : Ck} (h : KAt w X P b) (j : Nat) (hj : j < 8) : w.cell? ⟨X, 2 + j, none⟩ = some (rdV P.rd j) := by
  rw [cell_at h]
  rcases j with _ | _ | _ | _ | _ | _ | _ | _ | j
  all_goals first
    | rfl
    | omega
theorem rd_cells {rd : List Nat} (h : rd.length = 8) : #[rdV rd 0, rdV rd 1, rdV rd 2, rdV rd 3, rdV rd 4, rdV rd 5, rdV rd 6, rdV rd 7] = Sg.sc rd := by
  obtain ⟨a0, a1, a2, a3, a4, a5, a6, a7, rfl⟩ : ∃ a0 a1 a2 a3 a4 a5 a6 a7, rd = [a0, a1, a2, a3, a4, a5, a6, a7] := by
    rcases rd with _ | ⟨a0, _ | ⟨a1, _ | ⟨a2, _ | ⟨a3, _ | ⟨a4, _ | ⟨a5, _ | ⟨a6, _ | ⟨a7, _ | ⟨a8, r⟩⟩⟩⟩⟩⟩⟩⟩⟩ <;> simp at h
    exact ⟨a0, a1, a2, a3, a4, a5, a6, a7, rfl⟩
  rfl
theorem kset {w : World} {X : Nat} {P : Cp} {b : Ck} (h : KAt w X P b) (v : Int) :
    KAt (w.setCell ⟨X, 11, none⟩ (.int .i64 v)) X P ⟨v, b.seen, b.stamp, b.word, b.comp, b.err⟩ ∧ KAt (w.setCell ⟨X, 12, none⟩ (.int .i64 v)) X P ⟨b.st, v, b.stamp, b.word, b.comp, b.err⟩ ∧ KAt (w.setCell ⟨X, 13, none⟩ (.int .i64 v)) X P ⟨b.st, b.seen, v, b.word, b.comp, b.err⟩ ∧
    KAt (w.setCell ⟨X, 14, none⟩ (.int .i64 v)) X P ⟨b.st, b.seen, b.stamp, v, b.comp, b.err⟩ ∧ KAt (w.setCell ⟨X, 15, none⟩ (.int .i64 v)) X P ⟨b.st, b.seen, b.stamp, b.word, v, b.err⟩ :=
  ⟨by unfold KAt; rw [heap_set h]; rfl, by unfold KAt; rw [heap_set h]; rfl, by unfold KAt; rw [heap_set h]; rfl, by unfold KAt; rw [heap_set h]; rfl, by unfold KAt; rw [heap_set h]; rfl⟩
theorem KAt.err {w : World} {X : Nat} {P : Cp} {b : Ck} (h : KAt w X P b) (e : Int) : KAt w X P ⟨b.st, b.seen, b.stamp, b.word, b.comp, e⟩ := h
theorem kkeep {w0 w : World} {X : Nat} (k : Keep [X] w0 w) (i : Nat) (v : Value) : Keep [X] w0 (w.setCell ⟨X, i, none⟩ v) := k.setCell _ _ (Or.inl (by simp))

set_option maxRecDepth 10000 in
theorem nexts_any {w : World} {X : Nat} {P : Cp} {b : Ck} (h : KAt w X P b) (hb : b.seen ≤ 9223372036854775807) (h0 : 0 ≤ b.stamp) :
    Calls Try.prog 98 #[.pointer (some ⟨X, 0, none⟩)] w fun e w' => e = .returned (.bool (decide (b.stamp < b.seen))) ∧ KAt w' X P (if b.stamp < b.seen then ⟨1, b.seen, b.stamp + 1, b.word, b.comp, b.err⟩ else b) ∧ Keep [X] w w' := by
  obtain ⟨x0, x1, x2, x3, x4, x5, x6, x7⟩ := h.cells
  obtain ⟨f3, f4, f5, f6, f7⟩ := h.fz
  have hx : X < w.heap.size := heap_lt h
  have HX : Hid (KAt w X P b) := h
  clear h
  obtain ⟨st, seen, stamp, word, comp, err⟩ := b
  simp only at *
  by_cases e : stamp < seen
  · have d : decide (stamp < seen) = true := by simpa using e
    have d' : decide (seen ≤ stamp) = false := by simp; omega
    have hw : wrap64 (stamp + 1) = stamp + 1 := by unfold wrap64; omega
    rw [if_pos e, d]
    go_enter Try.func98, Try.ntmps98
    go_wp2
    go_quiet (fail)
    go_wp2
    go_ret
    exact ⟨rfl, (kset (kset HX.out (stamp + 1)).2.2.1 1).1, kkeep (kkeep ((Keep.refl _ _).drewN _) _ _) _ _⟩
  · have d : decide (stamp < seen) = false := by simpa using e
    have d' : decide (seen ≤ stamp) = true := by simp; omega
    rw [if_neg e, d]
    go_enter Try.func98, Try.ntmps98
    go_wp2
    go_quiet (fail)
    go_wp2
    go_ret
    exact ⟨rfl, HX.out, (Keep.refl _ _).drewN _⟩

set_option maxRecDepth 10000 in
theorem nextw_any {w : World} {X : Nat} {P : Cp} {b : Ck} (h : KAt w X P b) (h1 : -1 ≤ b.word) (h2 : b.word ≤ 7) :
    Calls Try.prog 97 #[.pointer (some ⟨X, 0, none⟩)] w fun e w' => e = .returned (.bool (decide (nxW P.rd (b.word + 1).toNat < 8))) ∧ KAt w' X P (if nxW P.rd (b.word + 1).toNat < 8 then ⟨2, b.seen, b.stamp, (nxW P.rd (b.word + 1).toNat : Int), b.comp, b.err⟩ else ⟨b.st, b.seen, b.stamp, 8, b.comp, b.err⟩) ∧ Keep [X] w w' := by
  obtain ⟨x0, x1, x2, x3, x4, x5, x6, x7⟩ := h.cells
  obtain ⟨f3, f4, f5, f6, f7⟩ := h.fz
  have hx : X < w.heap.size := heap_lt h
  have HX : Hid (KAt w X P b) := h
  clear h
  obtain ⟨st, seen, stamp, word, comp, err⟩ := b
  simp only at *
  obtain ⟨k, hk⟩ : ∃ k : Nat, word + 1 = (k : Int) := ⟨(word + 1).toNat, by omega⟩
  have hk8 : k ≤ 8 := by omega
  have hkk : (word + 1).toNat = k := by omega
  have hw : wrap64 (word + 1) = (k : Int) := by unfold wrap64; omega
  rw [hkk]
  clear hkk
  generalize hR : decide (nxW P.rd k < 8) = R
  generalize hB : (if nxW P.rd k < 8 then (⟨2, seen, stamp, (nxW P.rd k : Int), comp, err⟩ : Ck) else ⟨st, seen, stamp, 8, comp, err⟩) = bb
  have HR : Hid (decide (nxW P.rd k < 8) = R) := hR
  have HB : Hid ((if nxW P.rd k < 8 then (⟨2, seen, stamp, (nxW P.rd k : Int), comp, err⟩ : Ck) else ⟨st, seen, stamp, 8, comp, err⟩) = bb) := hB
  clear hR hB
  go_enter Try.func97, Try.ntmps97
  go_wp2
  go_loopw [2] (fun _ wr => ∃ q : Nat, q ≤ 8 ∧ nxW P.rd q = nxW P.rd k ∧ KAt wr X P ⟨st, seen, stamp, (q : Int), comp, err⟩ ∧ Keep [X] w wr) (fun _ wr => 8 - (intOf ((wr.cell? ⟨X, 14, none⟩).getD (.bool false))).toNat)
  case atStart => exact ⟨k, hk8, rfl, (kset HX.out _).2.2.2.1, kkeep (Keep.refl _ _) _ _⟩
  case round =>
    obtain ⟨q, hq, hn, ha, hkp⟩ := hrel
    clear x0 x1 x2 x3 x4 x5 x6 x7 f3 f4 f5 f6 f7
    obtain ⟨x0, x1, x2, x3, x4, x5, x6, x7⟩ := ha.cells
    obtain ⟨f3, f4, f5, f6, f7⟩ := ha.fz
    simp only at x6
    have HA : Hid (KAt wr X P ⟨st, seen, stamp, (q : Int), comp, err⟩) := ha
    have HK : Hid (Keep [X] w wr) := hkp
    have hxr : X < wr.heap.size := heap_lt ha
    clear hkp
    by_cases hlt : q < 8
    · have d1 : decide ((q : Int) < 8) = true := by simp; omega
      have hrd := ha.read q hlt
      clear ha
      unfold rdV at hrd
      have hr8 : (q : Int) < 8 := by omega
      by_cases hr : P.rd.getD q 0 = 0
      · rw [hr] at hrd
        have hn2 : nxW P.rd (q + 1) = nxW P.rd k := by rw [← hn, nxW_no hlt hr]
        clear hr
        go_wp2
        go_quiet (fail)
        go_wp2
        go_roundw
        case rel => exact ⟨q + 1, by omega, hn2, by rw [show ((q + 1 : Nat) : Int) = (q : Int) + 1 by omega]; exact (kset (w := wr.drewN _) HA.out _).2.2.2.1, kkeep (HK.out.drewN _) _ _⟩
        case measure =>
          have hm := (kset (w := wr.drewN nq) HA.out ((q : Int) + 1)).2.2.2.1.cells.2.2.2.2.2.2.1
          rw [x6, hm]; simp [intOf]; omega
      · have HE : Hid (nxW P.rd k = q) := by rw [← hn, nxW_yes hlt hr]; exact rfl
        clear hn
        generalize P.rd.getD q 0 = z at *
        have d2 : decide ((z : Int) = 0) = false := decide_eq_false (by omega)
        go_wp2
        go_quiet (fail)
        go_wp2
        go_ret
        rw [← HR.out, ← HB.out, HE.out, if_pos hlt]
        exact ⟨by simp [hlt], (kset (w := wr.drewN _) HA.out 2).1, kkeep (HK.out.drewN _) _ _⟩
    · obtain rfl : q = 8 := by omega
      have d1 : decide (((8 : Nat) : Int) < 8) = false := by simp
      have HE : Hid (nxW P.rd k = 8) := by rw [← hn, nxW_end]; exact rfl
      clear ha hn
      go_wp2
      go_ret
      rw [← HR.out, ← HB.out, HE.out, if_neg (by omega)]
      exact ⟨rfl, HA.out, HK.out⟩

set_option maxRecDepth 10000 in
theorem cnew_yes (w : World) {P : Cp} (h : POk P) : Calls Try.prog 46 #[.int .i64 (P.s : Int), .int .i64 P.z, Sg.sv P.rd, .bool P.last] w fun e w' => e = .returned (.tuple #[.pointer (some ⟨w.heap.size + 1, 0, none⟩), .int .i64 0]) ∧ KAt w' (w.heap.size + 1) P (ckNew P) ∧ Below w.heap.size w w' := by
  have d1 : decide ((P.s : Int) < 1) = false := decide_eq_false (by have := h.s1; omega)
  have d2 : decide ((16 : Int) < (P.s : Int)) = false := decide_eq_false (by have := h.s16; omega)
  have d3 : decide (P.z < 0) = false := decide_eq_false (by have := h.z0; omega)
  have hc := rd_cells h.rd.1
  unfold Sg.sv
  rw [← hc]
  clear h hc
  go_enter Try.func46, Try.ntmps46
  go_wp2
  go_ret2
  exact ⟨rfl, heap_alloc2_new _ _ _, below_alloc (below_a1 _ _) _⟩
theorem cnew_no (w : World) (s z : Int) (rd : List Nat) (last : Bool) (h : ¬ (1 ≤ s ∧ s ≤ 16 ∧ 0 ≤ z)) : Calls Try.prog 46 #[.int .i64 s, .int .i64 z, Sg.sv rd, .bool last] w fun e w' => e = .returned (.tuple #[.pointer none, .int .i64 1]) ∧ Below w.heap.size w w' := by
  unfold Sg.sv
  generalize Sg.sc rd = cs
  by_cases h1 : s < 1
  · have d1 : decide (s < 1) = true := decide_eq_true h1
    clear h h1
    go_enter Try.func46, Try.ntmps46
    go_wp2
    go_ret2
    exact ⟨rfl, below_a1 _ _⟩
  · have d1 : decide (s < 1) = false := decide_eq_false h1
    by_cases h2 : 16 < s
    · have d2 : decide (16 < s) = true := decide_eq_true h2
      clear h h1 h2
      go_enter Try.func46, Try.ntmps46
      go_wp2
      go_ret2
      exact ⟨rfl, below_a1 _ _⟩
    · have d2 : decide (16 < s) = false := decide_eq_false h2
      have d3 : decide (z < 0) = true := decide_eq_true (by omega)
      clear h h1 h2
      go_enter Try.func46, Try.ntmps46
      go_wp2
      go_ret2
      exact ⟨rfl, below_a1 _ _⟩
theorem cstart_any {w : World} {X : Nat} {P : Cp} {b : Ck} (h : KAt w X P b) : Calls Try.prog 49 #[.pointer (some ⟨X, 0, none⟩)] w fun e w' => e = .returned (.tuple #[.int .i64 (if b.st = 4 then b.comp else 0), .int .i64 (if b.st = 4 then b.seen else 0), .bool (decide (b.st = 4))]) ∧ Below w.heap.size w w' := by
  obtain ⟨x0, x1, x2, x3, x4, x5, x6, x7⟩ := h.cells
  obtain ⟨st, seen, stamp, word, comp, err⟩ := b
  simp only at x3 x4 x5 x6 x7 ⊢
  by_cases e : st = 4
  · subst e
    clear h
    go_enter Try.func49, Try.ntmps49
    go_wp2
    first | (go_ret3; exact ⟨rfl, Below.refl _ _⟩) | (go_quiet (fail); go_wp2; go_ret3; exact ⟨rfl, below_drawn (Below.refl _ _) _⟩)
  · have d : decide (st = 4) = false := decide_eq_false e
    rw [if_neg e, if_neg e, d]
    clear h
    go_enter Try.func49, Try.ntmps49
    go_wp2
    first | (go_ret3; exact ⟨rfl, Below.refl _ _⟩) | (go_quiet (fail); go_wp2; go_ret3; exact ⟨rfl, below_drawn (Below.refl _ _) _⟩)
def goesK (r : Nat) (P : Cp) (b : Ck) : Bool := !decide (b.st = 4) && !decide (b.st = 5) && decide (r = P.s)
theorem cgoes_any {w : World} {base : Nat} {p : Value} {c r : Nat} {L : List Ac} {F : List Nat} {X : Nat} {P : Cp} {b : Ck} (hm : MemAt w base p c r L F) (h : KAt w X P b) :
    Calls Try.prog 66 #[.pointer (some ⟨X, 0, none⟩), p] w fun e w' => e = .returned (.bool (goesK r P b)) ∧ Below w.heap.size w w' := by
  have HS : Hid (Calls Try.prog 39 #[p] w fun e w' => e = .returned (.tuple #[.int .i64 (c : Int), .int .i64 (r : Int)]) ∧ Below w.heap.size w w') := sizes_any hm
  obtain ⟨M, rfl⟩ := hm.ptr
  have HX : Hid (KAt w X P b) := h
  have hx : X < w.heap.size := heap_lt h
  obtain ⟨x0, x1, x2, x3, x4, x5, x6, x7⟩ := h.cells
  have hd : ((r : Int) == (P.s : Int)) = decide (r = P.s) := by rw [Bool.eq_iff_iff]; simp; try omega
  clear hm h
  unfold goesK
  by_cases e4 : b.st = 4
  · have d4 : decide (b.st = 4) = true := decide_eq_true e4
    rw [d4]
    rw [e4] at x3
    clear e4 d4
    go_enter Try.func66, Try.ntmps66
    go_wp2
    go_ret
    exact ⟨rfl, Below.refl _ _⟩
  · have d4 : decide (b.st = 4) = false := decide_eq_false e4
    by_cases e5 : b.st = 5
    · have d5 : decide (b.st = 5) = true := decide_eq_true e5
      rw [d4, d5]
      rw [e5] at x3
      clear e4 e5 d4 d5
      go_enter Try.func66, Try.ntmps66
      go_wp2
      go_ret
      exact ⟨rfl, Below.refl _ _⟩
    · have d5 : decide (b.st = 5) = false := decide_eq_false e5
      rw [d4, d5]
      have q4 : (b.st == 4) = false := by simpa using e4
      have q5 : (b.st == 5) = false := by simpa using e5
      clear d4 d5
      go_enter Try.func66, Try.ntmps66
      go_wp2_with fail
      refine HS.out.mono ?_
      rintro e w1 ⟨rfl, hb⟩
      clear x0 x1 x2 x3 x4 x5 x6 x7
      obtain ⟨x0, x1, x2, x3, x4, x5, x6, x7⟩ := (HX.out.below hb hx).cells
      have HB : Hid (Below w.heap.size w w1) := hb
      clear hb
      go_wp2
      go_ret
      exact ⟨rfl, HB.out⟩
theorem overrun_any {w : World} {X : Nat} {P : Cp} {b : Ck} (h : KAt w X P b) (hp : POk P) {v : Int} (hv : W64 v) :
    Calls Try.prog 86 #[.pointer (some ⟨X, 0, none⟩), .int .i64 v] w fun e w' => e = .returned (.bool (farV P v)) ∧ Below w.heap.size w w' := by
  obtain ⟨x0, x1, x2, x3, x4, x5, x6, x7⟩ := h.cells
  obtain ⟨v1, v2⟩ := hv
  have hz := hp.z0
  have hz1 := hp.z1
  have hs := hp.s16
  unfold farV
  by_cases e : P.z < v
  · have hw : wrap64 (v - P.z) = v - P.z := by unfold wrap64; omega
    have d : decide (P.z < v) = true := decide_eq_true e
    rw [d]
    clear h hp
    go_enter Try.func86, Try.ntmps86
    go_wp2
    first | (go_ret; exact ⟨rfl, Below.refl _ _⟩) | (go_quiet (fail); go_wp2; first | (go_ret; exact ⟨rfl, below_drawn (Below.refl _ _) _⟩) | (go_quiet (fail); go_wp2; go_ret; exact ⟨rfl, below_drawn (below_drawn (Below.refl _ _) _) _⟩))
  · have d : decide (P.z < v) = false := decide_eq_false e
    rw [d]
    clear h hp
    go_enter Try.func86, Try.ntmps86
    go_wp2
    first | (go_ret; exact ⟨rfl, Below.refl _ _⟩) | (go_quiet (fail); go_wp2; go_ret; exact ⟨rfl, below_drawn (Below.refl _ _) _⟩)
end Go.Proofs.Ytfbbcjlbelnfaaa
