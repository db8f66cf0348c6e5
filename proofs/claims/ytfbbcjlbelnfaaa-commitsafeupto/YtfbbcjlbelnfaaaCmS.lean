/- A machine of layer 10 and its memory under way; the law's example. -/
import Derived.Test.YtfbbcjlbelnfaaaCmD
namespace Go.Proofs.Ytfbbcjlbelnfaaa
open Go.ChangeShapes Go.WideShapes Go.ChangeAt Go.RowKit
attribute [local go_sem ↓] Go.wp_at_zero Go.wp_at_succ

structure MW (w0 w : World) (base : Nat) (p : Value) (c r : Nat) (L : List Ac) (Z : Nat) (P : Cp) (b : Ck) (u : Cu) (R : List (Nat × Obj)) : Prop where
  all : ∃ X F, CS w base p c r L F X Z P b u ∧ Kept w (Z :: X :: F) R
  bel : Below w0.heap.size w0 w
  lo : w0.heap.size ≤ base
  size : base ≤ w.heap.size
theorem MW.later {w0 w w' : World} {base : Nat} {p : Value} {c r : Nat} {L : List Ac} {Z : Nat} {P : Cp} {b : Ck} {u : Cu} {R : List (Nat × Obj)} (h : MW w0 w base p c r L Z P b u R) (hb : Below w.heap.size w w') : MW w0 w' base p c r L Z P b u R := by
  obtain ⟨X, F, h1, h2⟩ := h.all
  exact ⟨⟨X, F, h1.below hb, h2.later hb⟩, below_then h.bel hb, h.lo, Nat.le_trans h.size hb.size⟩
theorem MW.more {w0 w : World} {base : Nat} {p : Value} {c r : Nat} {L : List Ac} {Z : Nat} {P : Cp} {b : Ck} {u : Cu} {R : List (Nat × Obj)} (h : MW w0 w base p c r L Z P b u R) (o : Obj) : MW w0 (w.alloc o) base p c r L Z P b u ((w.heap.size, o) :: R) := by
  obtain ⟨X, F, h1, h2⟩ := h.all
  exact ⟨⟨X, F, h1.below (below_a1 _ _), h2.more (fun q hq => (h1.lt q hq).2) o⟩, below_then h.bel (below_a1 _ _), h.lo, by have := h.size; simp; omega⟩
theorem MW.row {w0 w : World} {base : Nat} {p : Value} {c r : Nat} {L : List Ac} {Z : Nat} {P : Cp} {b : Ck} {u : Cu} {R : List (Nat × Obj)} (h : MW w0 w base p c r L Z P b u R) {B : Nat} {o : Obj} (hz : (B, o) ∈ R) : w.heap[B]? = some o := by
  obtain ⟨X, F, h1, h2⟩ := h.all
  exact (h2 _ hz).1
theorem mw_step {w0 w : World} {base : Nat} {p : Value} {c r : Nat} {L : List Ac} {Z : Nat} {P : Cp} {b : Ck} {u : Cu} {R : List (Nat × Obj)} (h : MW w0 w base p c r L Z P b u R) (hL : L.length < 3298534883328) (hk : COk P b u) (hg : Gd L) (t : Int) :
    Calls Try.prog 15 #[.pointer (some ⟨Z, 0, none⟩), p, .int .i64 t] w fun e w' => e = .returned (ansW (ansZ r P b u L) (errZ r P b u L) (valZ r P u L) (goesC r P u)) ∧ MW w0 w' base p c r (nextCL c r P b u L t) Z P (nextCB r P b u L) (nextU r P b u L) R := by
  obtain ⟨X, F, h1, h2⟩ := h.all
  refine (mstep h1 h.size hL hk (fun _ _ => hg _) t).mono ?_
  rintro e w' ⟨rfl, F', X', h3, hn⟩
  exact ⟨rfl, ⟨X', F', h3, h2.next hn⟩, h.bel.trans (hn.below h.bel.size (fun q hq => by have := (h1.lt q hq).1; have := h.lo; omega)), h.lo, Nat.le_trans h.size hn.1.size⟩
theorem mw_stamp {w0 w : World} {base : Nat} {p : Value} {c r : Nat} {L : List Ac} {Z : Nat} {P : Cp} {b : Ck} {u : Cu} {R : List (Nat × Obj)} (h : MW w0 w base p c r L Z P b u R) :
    Calls Try.prog 24 #[.pointer (some ⟨Z, 0, none⟩)] w fun e w' => e = .returned (.tuple #[.int .i64 u.stamp, .bool (u.stamp != 0)]) ∧ MW w0 w' base p c r L Z P b u R := by
  obtain ⟨X, F, h1, h2⟩ := h.all
  refine (mstamp_any h1.cm).mono ?_
  rintro e w' ⟨rfl, hb⟩
  exact ⟨rfl, h.later hb⟩
theorem mw_peek {w0 w : World} {base : Nat} {p : Value} {c r : Nat} {L : List Ac} {Z : Nat} {P : Cp} {b : Ck} {u : Cu} {R : List (Nat × Obj)} (h : MW w0 w base p c r L Z P b u R) :
    Calls Try.prog 25 #[p, .agg #[.int .i64 1, .int .i64 0, .int .i64 0]] w fun e w' => e = .returned (.tuple #[.int .i64 (wordOf L nwA), .int .i64 0]) ∧ MW w0 w' base p c r L Z P b u R := by
  obtain ⟨X, F, h1, h2⟩ := h.all
  have := peek_any h1.ks.mem nwA
  rw [if_pos (show isAd c r nwA = true from rfl), if_pos (show isAd c r nwA = true from rfl)] at this
  refine Calls.mono this ?_
  rintro e w' ⟨rfl, hb⟩
  exact ⟨rfl, h.later hb⟩
theorem mw_new {w0 w1 w2 : World} {base : Nat} {p : Value} {c r : Nat} {F : List Nat} {X Z : Nat} {P : Cp} (hm : MemAt w1 base p c r [] F) (hb : Below w0.heap.size w0 w1) (hlo : w0.heap.size ≤ base) (hs : base ≤ w1.heap.size) (hX : w1.heap.size ≤ X) (hZ : w1.heap.size ≤ Z) (hne : Z ≠ X) (hz : CAt w2 Z P cuNew (ptr X)) (hx : KAt w2 X P (ckNew P)) (hb2 : Below w1.heap.size w1 w2) : MW w0 w2 base p c r [] Z P (ckNew P) cuNew [] :=
  ⟨⟨X, F, ⟨⟨hm.below hb2, hx, fun e => by have := (hm.lt _ e).2; omega, by omega⟩, hz, fun e => by
    rcases List.mem_cons.1 e with e | e
    · exact hne e
    · have := (hm.lt _ e).2; omega, by omega⟩, fun z hz => by simp at hz⟩, below_then hb hb2, hlo, Nat.le_trans hs hb2.size⟩
def mhP : Cp := ⟨4, 0, Sg.nought, false, ⟨9, false, false, false, 0, false, 0⟩⟩
theorem mhP_ok : POk mhP := ⟨by decide, by decide, by decide, by decide, Sg.ok_nought⟩
def mhB : Ck := ⟨4, 0, 0, 0, 0, 0⟩
def mhL1 : List Ac := nextCL 4 4 mhP (ckNew mhP) cuNew [] 5
def mhL2 : List Ac := nextCL 4 4 mhP mhB ⟨2, 0, 0⟩ mhL1 5
theorem mh1s : stepK mhP (ckNew mhP) 0 = mhB := by
  unfold stepK seeK
  rw [if_pos (show (ckNew mhP).st = 0 from rfl), if_pos (Or.inr (by decide))]
  rfl
theorem mh1w : wordOf [] (adK mhP (ckNew mhP)) = 0 := rfl
theorem mh1k : nextK 4 mhP (ckNew mhP) [] = mhB := by
  unfold nextK
  rw [mh1w, mh1s]
  rfl
theorem mh1a : ansKK 4 mhP (ckNew mhP) [] = 3 ∧ errKK 4 mhP (ckNew mhP) [] = 0 := by
  unfold ansKK errKK kindK errK
  rw [mh1w, mh1s]
  exact ⟨rfl, rfl⟩
theorem mh1 : nextU 4 mhP (ckNew mhP) cuNew [] = ⟨2, 0, 0⟩ ∧ nextCB 4 mhP (ckNew mhP) cuNew [] = mhB ∧ ansZ 4 mhP (ckNew mhP) cuNew [] = 2 ∧ errZ 4 mhP (ckNew mhP) cuNew [] = 0 ∧ valZ 4 mhP cuNew [] = 0 ∧ goesC 4 mhP cuNew = true := by
  unfold nextU nextCB ansZ errZ valZ holdU holdA holdE
  rw [mh1k, mh1a.1, mh1a.2]
  exact ⟨rfl, rfl, rfl, rfl, rfl, rfl⟩
theorem mhw1 : wordOf mhL1 nwA = 0 := rfl
theorem mh2 : nextU 4 mhP mhB ⟨2, 0, 0⟩ mhL1 = ⟨3, 0, 1⟩ ∧ nextCB 4 mhP mhB ⟨2, 0, 0⟩ mhL1 = mhB ∧ ansZ 4 mhP mhB ⟨2, 0, 0⟩ mhL1 = 3 ∧ errZ 4 mhP mhB ⟨2, 0, 0⟩ mhL1 = 0 ∧ valZ 4 mhP ⟨2, 0, 0⟩ mhL1 = 1 ∧ goesC 4 mhP ⟨2, 0, 0⟩ = true := by
  unfold nextU nextCB ansZ errZ valZ swapU swapB swapsY
  rw [mhw1]
  exact ⟨rfl, rfl, rfl, rfl, rfl, rfl⟩
theorem mhw2 : wordOf mhL2 nwA = 1 := rfl
theorem mhg : COk mhP (ckNew mhP) cuNew := cok_new mhP_ok rfl (by decide) (by decide)
def ansOW (k e v : Int) (y : Bool) : Obj := .cells #[.int .i64 k, .int .i64 e, .int .i64 v, .bool y] 52 (0, 0)
theorem ansW_cells {w : World} {B : Nat} {k e v : Int} {y : Bool} (h : w.heap[B]? = some (.cells #[.int .i64 k, .int .i64 e, .int .i64 v, .bool y] 52 (0, 0))) :
    (w.cell? ⟨B, 0, none⟩ = some (.int .i64 k) ∧ w.cell? ⟨B, 1, none⟩ = some (.int .i64 e) ∧ w.cell? ⟨B, 2, none⟩ = some (.int .i64 v) ∧ w.cell? ⟨B, 3, none⟩ = some (.bool y)) ∧
    (w.frozen? ⟨B, 0, none⟩ = false ∧ w.frozen? ⟨B, 1, none⟩ = false ∧ w.frozen? ⟨B, 2, none⟩ = false ∧ w.frozen? ⟨B, 3, none⟩ = false) :=
  ⟨⟨by rw [cell_at h]; rfl, by rw [cell_at h]; rfl, by rw [cell_at h]; rfl, by rw [cell_at h]; rfl⟩, frozen_at h 0, frozen_at h 1, frozen_at h 2, frozen_at h 3⟩
set_option maxRecDepth 10000 in
set_option maxHeartbeats 3200000 in
theorem mshown_any (w : World) : Calls Try.prog 6 #[] w fun e w' => e = .returned (.bool true) ∧ Below w.heap.size w w' := by
  have HN : Hid (∀ w : World, Calls Try.prog 10 #[.int .i64 4, .int .i64 4] w fun e w' => ∃ p F, e = .returned (.tuple #[p, .int .i64 0]) ∧ p ≠ .pointer none ∧ MemAt w' w.heap.size p 4 4 [] F ∧ Below w.heap.size w w') := fun w => new_yes w 4 4 (by decide) (by decide)
  have HF : Hid (∀ w : World, Calls Try.prog 7 #[.agg #[.int .i64 0, .int .i64 4, .int .i64 0, .int .i64 9, .bool false, .int .i64 0, .slice none 0 0], .int .i64 0, .agg #[.int .u64 0, .int .u64 0, .int .u64 0, .int .u64 0, .int .u64 0, .int .u64 0, .int .u64 0, .int .u64 0]] w fun e w' => ∃ Z X, e = .returned (.tuple #[.pointer (some ⟨Z, 0, none⟩), .int .i64 0]) ∧ w.heap.size ≤ Z ∧ w.heap.size ≤ X ∧ Z ≠ X ∧ CAt w' Z mhP cuNew (ptr X) ∧ KAt w' X mhP (ckNew mhP) ∧ Below w.heap.size w w') := fun w => mnew_yes w mhP_ok rfl (by decide) (by decide) 0 0 0 (.slice none 0 0)
  have HG : Hid (∀ w : World, Calls Try.prog 7 #[.agg #[.int .i64 0, .int .i64 4, .int .i64 0, .int .i64 0, .bool false, .int .i64 0, .slice none 0 0], .int .i64 0, .agg #[.int .u64 0, .int .u64 0, .int .u64 0, .int .u64 0, .int .u64 0, .int .u64 0, .int .u64 0, .int .u64 0]] w fun e w' => e = .returned (.tuple #[.pointer none, .int .i64 1]) ∧ Below w.heap.size w w') := fun w => mnew_no w 0 4 0 0 false 0 (.slice none 0 0) 0 Sg.nought Sg.ok_nought (by decide)
  go_enter Try.func6, Try.ntmps6
  go_wp2_with fail
  refine (HN.out _).mono ?_
  rintro e w1 ⟨p, F1, rfl, _, hm1, hb1⟩
  obtain ⟨M, rfl⟩ := hm1.ptr
  have HM1 : Hid (MemAt w1 w.heap.size (.pointer (some ⟨M, 0, none⟩)) 4 4 [] F1 ∧ Below w.heap.size w w1) := ⟨hm1, hb1⟩
  clear hm1 hb1
  go_wp2_with fail
  refine (HF.out _).mono ?_
  rintro e w3 ⟨Z, X, rfl, hZ3, hX3, hne3, hz3, hx3, hb3⟩
  have HW3 : Hid (MW w w3 w.heap.size (.pointer (some ⟨M, 0, none⟩)) 4 4 [] Z mhP (ckNew mhP) cuNew []) := mw_new HM1.out.1 HM1.out.2 (Nat.le_refl _) HM1.out.2.size hX3 hZ3 hne3 hz3 hx3 hb3
  clear hZ3 hX3 hne3 hz3 hx3 hb3 HM1
  go_wp2_with fail
  refine (HG.out _).mono ?_
  rintro e w5 ⟨rfl, hb5⟩
  have HW5 : Hid (MW w w5 w.heap.size (.pointer (some ⟨M, 0, none⟩)) 4 4 [] Z mhP (ckNew mhP) cuNew []) := HW3.out.later hb5
  clear hb5 HW3
  have HT7 : Hid (Calls Try.prog 15 #[.pointer (some ⟨Z, 0, none⟩), .pointer (some ⟨M, 0, none⟩), .int .i64 5] w5 fun e w' => e = .returned (.agg #[.int .i64 2, .int .i64 0, .int .i64 0, .bool true]) ∧ MW w w' w.heap.size (.pointer (some ⟨M, 0, none⟩)) 4 4 mhL1 Z mhP mhB ⟨2, 0, 0⟩ []) := by
    have := mw_step HW5.out (by decide) mhg gd_nil 5
    obtain ⟨a1, a2, a3, a4, a5, a6⟩ := mh1
    rw [a1, a2, a3, a4, a5, a6] at this
    exact this
  go_wp2_with fail
  refine HT7.out.mono ?_
  rintro e w7 ⟨rfl, h7⟩
  have HW7 : Hid (MW w (w7.alloc (.cells #[.int .i64 2, .int .i64 0, .int .i64 0, .bool true] 52)) w.heap.size (.pointer (some ⟨M, 0, none⟩)) 4 4 mhL1 Z mhP mhB ⟨2, 0, 0⟩ ((w7.heap.size, ansOW 2 0 0 true) :: [])) := h7.more _
  clear h7 HT7 HW5
  have HT8 : Hid (Calls Try.prog 15 #[.pointer (some ⟨Z, 0, none⟩), .pointer (some ⟨M, 0, none⟩), .int .i64 5] (w7.alloc (.cells #[.int .i64 2, .int .i64 0, .int .i64 0, .bool true] 52)) fun e w' => e = .returned (.agg #[.int .i64 3, .int .i64 0, .int .i64 1, .bool true]) ∧ MW w w' w.heap.size (.pointer (some ⟨M, 0, none⟩)) 4 4 mhL2 Z mhP mhB ⟨3, 0, 1⟩ ((w7.heap.size, ansOW 2 0 0 true) :: [])) := by
    have hk1 : COk mhP mhB ⟨2, 0, 0⟩ := by
      have := cok_next (r := 4) (L := []) mhg (fun _ _ => gd_nil _)
      obtain ⟨a1, a2, _⟩ := mh1
      rw [a1, a2] at this
      exact this
    have := mw_step HW7.out (by decide) hk1 (gd_nextC mhg gd_nil) 5
    obtain ⟨a1, a2, a3, a4, a5, a6⟩ := mh2
    rw [a1, a2, a3, a4, a5, a6] at this
    exact this
  go_wp2_with fail
  refine HT8.out.mono ?_
  rintro e w8 ⟨rfl, h8⟩
  have HW8 : Hid (MW w (w8.alloc (.cells #[.int .i64 3, .int .i64 0, .int .i64 1, .bool true] 52)) w.heap.size (.pointer (some ⟨M, 0, none⟩)) 4 4 mhL2 Z mhP mhB ⟨3, 0, 1⟩ ((w8.heap.size, ansOW 3 0 1 true) :: ((w7.heap.size, ansOW 2 0 0 true) :: []))) := h8.more _
  clear h8 HT8 HW7
  have HTS : Hid (Calls Try.prog 24 #[.pointer (some ⟨Z, 0, none⟩)] (w8.alloc (.cells #[.int .i64 3, .int .i64 0, .int .i64 1, .bool true] 52)) fun e w' => e = .returned (.tuple #[.int .i64 1, .bool true]) ∧ MW w w' w.heap.size (.pointer (some ⟨M, 0, none⟩)) 4 4 mhL2 Z mhP mhB ⟨3, 0, 1⟩ ((w8.heap.size, ansOW 3 0 1 true) :: ((w7.heap.size, ansOW 2 0 0 true) :: []))) := mw_stamp HW8.out
  go_wp2_with fail
  refine HTS.out.mono ?_
  rintro e w9 ⟨rfl, h9⟩
  have HTP : Hid (Calls Try.prog 25 #[.pointer (some ⟨M, 0, none⟩), .agg #[.int .i64 1, .int .i64 0, .int .i64 0]] w9 fun e w' => e = .returned (.tuple #[.int .i64 1, .int .i64 0]) ∧ MW w w' w.heap.size (.pointer (some ⟨M, 0, none⟩)) 4 4 mhL2 Z mhP mhB ⟨3, 0, 1⟩ ((w8.heap.size, ansOW 3 0 1 true) :: ((w7.heap.size, ansOW 2 0 0 true) :: []))) := by
    have := mw_peek h9
    rw [mhw2] at this
    exact this
  clear h9 HTS HW8
  go_wp2_with fail
  refine HTP.out.mono ?_
  rintro e w10 ⟨rfl, h10⟩
  have HW10 : Hid (Below w.heap.size w w10) := h10.bel
  obtain ⟨⟨a0, _, _, _⟩, _⟩ := ansW_cells (k := 2) (e := 0) (v := 0) (y := true) (h10.row (B := w7.heap.size) (o := ansOW 2 0 0 true) (by simp))
  obtain ⟨⟨a1, _, a2, _⟩, _⟩ := ansW_cells (k := 3) (e := 0) (v := 1) (y := true) (h10.row (B := w8.heap.size) (o := ansOW 3 0 1 true) (by simp))
  clear h10 HTP
  go_wp2
  go_ret
  exact ⟨rfl, HW10.out⟩
end Go.Proofs.Ytfbbcjlbelnfaaa
