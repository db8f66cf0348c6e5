/- CheckWhy walked. -/
import Derived.Test.YtemdgknfedaaiaaChkE
import Derived.Test.YtemdgknfedaaiaaActL
import Derived.Test.YtemdgknfedaaiaaGroA
namespace Go.Proofs.Ytemdgknfedaaiaa
open Go.ChangeShapes Go.WideShapes Go.ChangeAt Go.RowKit
attribute [local go_sem ↓] Go.wp_at_zero Go.wp_at_succ

def ansOE (k e : Int) (y : Bool) : Obj := .cells #[.int .i64 k, .int .i64 e, .int .i64 0, .bool y] 50 (0, 0)
theorem ansE_cells {w : World} {B : Nat} {k e : Int} {y : Bool} (h : w.heap[B]? = some (.cells #[.int .i64 k, .int .i64 e, .int .i64 0, .bool y] 50 (0, 0))) :
    w.cell? ⟨B, 0, none⟩ = some (.int .i64 k) ∧ w.cell? ⟨B, 1, none⟩ = some (.int .i64 e) ∧ w.cell? ⟨B, 2, none⟩ = some (.int .i64 0) ∧ w.cell? ⟨B, 3, none⟩ = some (.bool y) :=
  ⟨by rw [cell_at h]; rfl, by rw [cell_at h]; rfl, by rw [cell_at h]; rfl, by rw [cell_at h]; rfl⟩
theorem own_one {w : World} {base : Nat} {v : Value} {x : Ac} (h : w.ownsRow base 72 8 v 1 (logC [x])) : ∃ g cap, v = .slice (some ⟨g, 0, none⟩) 1 cap ∧ g < w.heap.size ∧ base ≤ g ∧ w.cell? ⟨g, 2, none⟩ = some (.int .i64 x.a.k) ∧ w.cell? ⟨g, 3, none⟩ = some (.int .i64 x.a.i) ∧ w.cell? ⟨g, 4, none⟩ = some (.int .i64 x.a.j) ∧ w.cell? ⟨g, 6, none⟩ = some (.int .i64 x.v) := by
  rcases id h.2 with ⟨e, h0⟩ | ⟨g, cp, cur, e, hb, hg, _⟩
  · omega
  · subst e
    rw [logC_one] at h
    exact ⟨g, cp, rfl, heap_lt hg, hb, own_cells h 2 _ rfl, own_cells h 3 _ rfl, own_cells h 4 _ rfl, own_cells h 6 _ rfl⟩
/-- ErrConflict is told where a word that was loaded shares a bit with what was read. -/
theorem err3 {P : Cp} {b : Ck} {n : Nat} {v : Int} (h : KOk P b n) (ht : ¬ thr b) (he : (stepK P b v).err = 3) : b.st = 2 ∧ hitV P.rd b.word.toNat v = true ∧ 0 ≤ b.word ∧ b.word ≤ 7 := by
  rcases kok_st h with e | e | e | e | e | e
  · exfalso
    have hb := kok_zero h e
    unfold stepK seeK at he
    rw [if_pos e] at he
    split at he
    · simp only [hb, ckNew] at he; omega
    · split at he
      · simp [failV] at he
      · rw [onV_err] at he; simp only [hb, ckNew] at he; omega
  · exfalso
    have hm := (kok_mid h (Or.inl e)).1.e
    unfold stepK lookK at he
    rw [if_neg (by omega), if_pos e] at he
    split at he
    · rw [onV_err] at he; simp only at he; omega
    · split at he
      · simp [failV] at he
      · omega
  · have hm := kok_mid h (Or.inr (Or.inl e))
    unfold stepK holdK at he
    rw [if_neg (by omega), if_neg (by omega), if_pos e] at he
    split at he
    · next hh => exact ⟨e, hh, hm.2 e⟩
    · rw [onV_err, hm.1.e] at he; omega
  · exfalso
    have hm := (kok_mid h (Or.inr (Or.inr e))).1.e
    unfold stepK againK at he
    rw [if_neg (by omega), if_neg (by omega), if_neg (by omega), if_pos e] at he
    split at he
    · simp [failV] at he
    · rw [onV_err] at he; omega
  · exact absurd (Or.inl e) ht
  · exact absurd (Or.inr e) ht
/-- The answers that a step has. -/
theorem ans_cases {P : Cp} {b : Ck} {n : Nat} {L : List Ac} (h : KOk P b n) (hg : Gd L) :
    (goesK P.s P b = false ∧ ansKK P.s P b L = 0 ∧ errKK P.s P b L = 0 ∧ nextN P.s P b L n = n) ∨
    (goesK P.s P b = true ∧ ansKK P.s P b L = 1 ∧ errKK P.s P b L = 0 ∧ nextN P.s P b L n = n) ∨
    (goesK P.s P b = true ∧ ansKK P.s P b L = 2 ∧ errKK P.s P b L = 0 ∧ nextN P.s P b L n = n + 1) ∨
    (goesK P.s P b = true ∧ ansKK P.s P b L = 3 ∧ errKK P.s P b L = 0 ∧ nextN P.s P b L n = n + 1) ∨
    (goesK P.s P b = true ∧ ansKK P.s P b L = 4 ∧ errKK P.s P b L = 4 ∧ nextN P.s P b L n = n + 1) ∨
    (goesK P.s P b = true ∧ ansKK P.s P b L = 4 ∧ errKK P.s P b L = 3 ∧ nextN P.s P b L n = n + 1 ∧ b.st = 2 ∧ hitV P.rd b.word.toNat (wordOf L (adK P b)) = true ∧ 0 ≤ b.word ∧ b.word ≤ 7) := by
  unfold ansKK errKK nextN
  by_cases e : goesK P.s P b = true
  · refine Or.inr ?_
    have ht := (goesK_iff.mp e).1
    have hk := kok_step h (hg (adK P b)) ht
    rw [if_pos e, if_pos e, if_pos e]
    by_cases ew : waitK b (wordOf L (adK P b)) = true
    · refine Or.inl ⟨e, ?_, ?_, ?_⟩
      · unfold kindK; rw [if_pos ew]
      · unfold errK; rw [if_pos ew]
      · rw [if_pos ew]
    · refine Or.inr ?_
      have ew' : waitK b (wordOf L (adK P b)) = false := by simpa using ew
      rw [(kindK_of ew').1, (kindK_of ew').2, if_neg ew]
      rw [if_neg ew] at hk
      unfold kindV
      rcases kok_st hk with c | c | c | c | c | c
      · have hz := kok_zero hk c
        exact Or.inl ⟨e, by rw [if_neg (by omega), if_neg (by omega)], by rw [hz]; rfl, rfl⟩
      · exact Or.inl ⟨e, by rw [if_neg (by omega), if_neg (by omega)], (kok_mid hk (Or.inl c)).1.e, rfl⟩
      · exact Or.inl ⟨e, by rw [if_neg (by omega), if_neg (by omega)], (kok_mid hk (Or.inr (Or.inl c))).1.e, rfl⟩
      · exact Or.inl ⟨e, by rw [if_neg (by omega), if_neg (by omega)], (kok_mid hk (Or.inr (Or.inr c))).1.e, rfl⟩
      · refine Or.inr (Or.inl ⟨e, by rw [if_pos c], ?_, rfl⟩)
        rcases hk.c with ⟨z, _⟩ | ⟨z, _⟩ | ⟨z, _⟩ | ⟨z, _⟩ | ⟨_, _, z⟩ | ⟨z, _⟩
        · rw [z] at c; simp [ckNew] at c
        · omega
        · omega
        · omega
        · exact z
        · omega
      · refine Or.inr (Or.inr ?_)
        have hee : (stepK P b (wordOf L (adK P b))).err = 3 ∨ (stepK P b (wordOf L (adK P b))).err = 4 := by
          rcases hk.c with ⟨z, _⟩ | ⟨z, _⟩ | ⟨z, _⟩ | ⟨z, _⟩ | ⟨z, _⟩ | ⟨_, _, z⟩
          · rw [z] at c; simp [ckNew] at c
          · omega
          · omega
          · omega
          · omega
          · exact z
        rcases hee with z | z
        · exact Or.inr ⟨e, by rw [if_neg (by omega), if_pos c], z, rfl, err3 h ht z⟩
        · exact Or.inl ⟨e, by rw [if_neg (by omega), if_pos c], z, rfl⟩
  · exact Or.inl ⟨by simpa using e, by rw [if_neg e], by rw [if_neg e], by rw [if_neg e]⟩
/-- What a step adds to the log. -/
theorem drop_next {c n : Nat} {P : Cp} {b : Ck} {L : List Ac} {t : Int} (h : KOk P b n) : (nextKL c P.s P b L t).drop L.length = if goesK P.s P b then [Ac.mk t 1 (adK P b) 0 (wordOf L (adK P b)) false] else [] := by
  unfold nextKL loadL
  by_cases e : goesK P.s P b = true
  · rw [if_pos e, if_pos e, if_pos (adK_is h (goesK_iff.mp e).1)]
    simp
  · rw [if_neg e, if_neg e]
    simp
--WHY
def whyC (raw z : Int) (rd : List Nat) (last : Bool) (v : Value) : Array Value := #[.int .i64 raw, .int .i64 z, rdV rd 0, rdV rd 1, rdV rd 2, rdV rd 3, rdV rd 4, rdV rd 5, rdV rd 6, rdV rd 7, .bool last, v]
def rdO (rd : List Nat) : Obj := .cells #[rdV rd 0, rdV rd 1, rdV rd 2, rdV rd 3, rdV rd 4, rdV rd 5, rdV rd 6, rdV rd 7] 24 (0, 0)
theorem rdO_read {w : World} {B : Nat} {rd : List Nat} (h : w.heap[B]? = some (rdO rd)) (j : Nat) (hj : j < 8) : w.cell? ⟨B, j, none⟩ = some (.int .u64 ((rd.getD j 0 : Nat) : Int)) := by
  unfold rdO at h
  rw [cell_at h]
  rcases j with _ | _ | _ | _ | _ | _ | _ | _ | j
  all_goals first
    | rfl
    | omega
/-- A machine, and then a memory, that are new. -/
theorem kway_new2 {w0 w2 w3 : World} {p : Value} {c r : Nat} {F : List Nat} {X : Nat} {P : Cp} {R : List (Nat × Obj)} (hp : POk P) (hb : Below w0.heap.size w0 w2) (hX : w0.heap.size ≤ X) (hx : KAt w2 X P (ckNew P)) (hR : ∀ z ∈ R, w2.heap[z.1]? = some z.2 ∧ z.1 ≠ X) (hm : MemAt w3 w2.heap.size p c r [] F) (hb3 : Below w2.heap.size w2 w3) : KWay w0 w3 w0.heap.size p c r [] X P (ckNew P) 0 R :=
  ⟨⟨F, ⟨memAt_low hm hb.size, hx.below hb3 (heap_lt hx), fun e => by have := (hm.lt _ e).1; have := heap_lt hx; omega, hX⟩, fun z hz => by
    obtain ⟨k1, k2⟩ := hR z hz
    have := heap_lt k1
    refine ⟨by rw [hb3.block _ this]; exact k1, fun e => ?_⟩
    rcases List.mem_cons.1 e with e | e
    · exact k2 e
    · have := (hm.lt _ e).1; omega⟩, below_then hb hb3, Nat.le_refl _, Nat.le_trans hb.size hb3.size, kok_new hp, gd_nil⟩
set_option maxRecDepth 10000 in
theorem why_no (w : World) (raw z : Int) (rd : List Nat) (last : Bool) (a : Option Addr) (n cap : Nat) (hz : z < 0) : Calls Try.prog 5 #[.agg (whyC raw z rd last (.slice a n cap))] w fun e w' => e = .returned (.bool true) ∧ Below w.heap.size w w' := by
  have HS : Hid (∀ w, Calls Try.prog 7 #[] w fun e w' => e = .returned (.bool true) ∧ Below w.heap.size w w') := cshown_any
  have HP : Hid (∀ w : World, Calls Try.prog 22 #[.int .i64 raw, .int .i64 16] w fun e w' => e = .returned (.int .i64 (raw % 16)) ∧ w' = w) := fun w => gpick_any raw 16 (by decide) (by decide) w
  have d0 : decide (z < 0) = true := decide_eq_true hz
  clear hz
  unfold whyC rdV
  generalize hq0 : rd.getD 0 0 = n0 at *
  generalize hq1 : rd.getD 1 0 = n1 at *
  generalize hq2 : rd.getD 2 0 = n2 at *
  generalize hq3 : rd.getD 3 0 = n3 at *
  generalize hq4 : rd.getD 4 0 = n4 at *
  generalize hq5 : rd.getD 5 0 = n5 at *
  generalize hq6 : rd.getD 6 0 = n6 at *
  generalize hq7 : rd.getD 7 0 = n7 at *
  go_enter Try.func5, Try.ntmps5
  go_wp2_with fail
  refine (HS.out _).mono ?_
  rintro e w1 ⟨rfl, hb1⟩
  have HB1 : Hid (Below w.heap.size w w1) := below_then (below_alloc (below_a1 _ _) _) hb1
  clear hb1
  go_wp2_with fail
  refine (HP.out _).mono ?_
  rintro e y1 ⟨rfl, rfl⟩
  go_wp2
  go_ret
  exact ⟨rfl, HB1.out⟩
set_option maxRecDepth 100000 in
set_option maxHeartbeats 6400000 in
theorem why_walk (w : World) (raw z : Int) (hz0 : 0 ≤ z) (hz1 : z ≤ 9223372036854775807) (rd : List Nat) (hrd : Sg.Ok rd) (last : Bool) (v : Value) (S : List At) (hv : BLst w v S) :
    Calls Try.prog 5 #[.agg (whyC raw z rd last v)] w fun e w' => e = .returned (.bool true) ∧ Below w.heap.size w w' := by
  have HS : Hid (∀ w, Calls Try.prog 7 #[] w fun e w' => e = .returned (.bool true) ∧ Below w.heap.size w w') := cshown_any
  obtain ⟨s, hs1, hs16, hse⟩ : ∃ s : Nat, 1 ≤ s ∧ s ≤ 16 ∧ raw % 16 = (s : Int) - 1 := ⟨(raw % 16 + 1).toNat, by omega, by omega, by omega⟩
  have HP : Hid (∀ w : World, Calls Try.prog 22 #[.int .i64 raw, .int .i64 16] w fun e w' => e = .returned (.int .i64 ((s : Int) - 1)) ∧ w' = w) := fun w => by rw [← hse]; exact gpick_any raw 16 (by decide) (by decide) w
  have HN : Hid (∀ w : World, Calls Try.prog 10 #[.int .i64 1, .int .i64 (s : Int)] w fun e w' => ∃ p F, e = .returned (.tuple #[p, .int .i64 0]) ∧ p ≠ .pointer none ∧ MemAt w' w.heap.size p 1 s [] F ∧ Below w.heap.size w w') := fun w => new_yes w 1 s (by decide) ⟨hs1, hs16⟩
  obtain ⟨P, hP⟩ : ∃ P : Cp, P = ⟨s, z, rd, last⟩ := ⟨_, rfl⟩
  have hp : POk P := by rw [hP]; exact ⟨hs1, hs16, hz0, hz1, hrd⟩
  obtain rfl : P.s = s := by rw [hP]
  obtain rfl : P.z = z := by rw [hP]
  obtain rfl : P.rd = rd := by rw [hP]
  obtain rfl : P.last = last := by rw [hP]
  have HB : Hid (∀ w : World, Calls Try.prog 8 #[.int .i64 (P.s : Int), .int .i64 P.z, .agg #[rdV P.rd 0, rdV P.rd 1, rdV P.rd 2, rdV P.rd 3, rdV P.rd 4, rdV P.rd 5, rdV P.rd 6, rdV P.rd 7], .bool P.last] w fun e w' => e = .returned (.tuple #[.pointer (some ⟨w.heap.size + 1, 0, none⟩), .int .i64 0]) ∧ KAt w' (w.heap.size + 1) P (ckNew P) ∧ Below w.heap.size w w') := fun w => by
    rw [rd_cells hp.rd.1]; exact cnew_yes w hp
  obtain ⟨va, vcap, rfl, hbig, hfit, hl⟩ := hv
  have HC : Hid (∀ q, q < S.length → ∃ x, va = some x ∧ x.block < w.heap.size ∧ Row6 w (x.add (q * 6)) (S.getD q noAt)) := by
    intro q hq
    rcases hl with rfl | ⟨x, hx, hxb, hcc⟩
    · exact absurd hq (by simp)
    · exact ⟨x, hx, hxb, hcc q hq⟩
  have HF : Hid (∀ i, i < S.length → W64 (S.getD i noAt).v) := hfit
  have HO : Hid (rdO P.rd = .cells #[rdV P.rd 0, rdV P.rd 1, rdV P.rd 2, rdV P.rd 3, rdV P.rd 4, rdV P.rd 5, rdV P.rd 6, rdV P.rd 7] 24 (0, 0)) := rfl
  have HP0 : Hid (POk P) := hp
  have d0 : decide (P.z < 0) = false := decide_eq_false (by omega)
  clear hl hfit hse hP hrd hz0 hz1 hp
  generalize hn : S.length = n at *
  clear hn
  have w1 : wrap64 (1 + ((P.s : Int) - 1)) = (P.s : Int) := by unfold wrap64; omega
  have w1b : 1 + ((P.s : Int) - 1) = (P.s : Int) := by omega
  unfold whyC
  unfold rdV at HB HO ⊢
  generalize hq0 : P.rd.getD 0 0 = n0 at *
  generalize hq1 : P.rd.getD 1 0 = n1 at *
  generalize hq2 : P.rd.getD 2 0 = n2 at *
  generalize hq3 : P.rd.getD 3 0 = n3 at *
  generalize hq4 : P.rd.getD 4 0 = n4 at *
  generalize hq5 : P.rd.getD 5 0 = n5 at *
  generalize hq6 : P.rd.getD 6 0 = n6 at *
  generalize hq7 : P.rd.getD 7 0 = n7 at *
  clear hq0 hq1 hq2 hq3 hq4 hq5 hq6 hq7
  go_enter Try.func5, Try.ntmps5
  go_wp2_with fail
  refine (HS.out _).mono ?_
  rintro e y1 ⟨rfl, hb1⟩
  have HR1 : Hid (y1.heap[w.heap.size + 1]? = some (.cells #[.int .u64 ((n0 : Nat) : Int), .int .u64 ((n1 : Nat) : Int), .int .u64 ((n2 : Nat) : Int), .int .u64 ((n3 : Nat) : Int), .int .u64 ((n4 : Nat) : Int), .int .u64 ((n5 : Nat) : Int), .int .u64 ((n6 : Nat) : Int), .int .u64 ((n7 : Nat) : Int)] 24 (0, 0))) := row_on (heap_alloc2_new _ _ _) hb1
  have HB1 : Hid (Below w.heap.size w y1) := below_then (below_alloc (below_a1 _ _) _) hb1
  clear hb1
  go_wp2_with fail
  refine (HP.out _).mono ?_
  rintro e y2 ⟨rfl, rfl⟩
  obtain ⟨r0, r1, r2, r3, r4, r5, r6, r7⟩ := cells8 HR1.out
  go_wp2_with fail
  refine (HB.out _).mono ?_
  rintro e y3 ⟨rfl, hx3, hb3⟩
  have HX3 : Hid (KAt y3 (y2.heap.size + 1) P (ckNew P) ∧ Below w.heap.size w y3 ∧ w.heap.size ≤ y2.heap.size + 1 ∧ y3.heap[w.heap.size + 1]? = some (rdO P.rd) ∧ w.heap.size + 1 ≠ y2.heap.size + 1) := ⟨hx3, below_then HB1.out hb3, by have := HB1.out.size; omega, by rw [HO.out]; exact row_on HR1.out hb3, by have := heap_lt HR1.out; omega⟩
  generalize y2.heap.size + 1 = X at *
  clear hx3 hb3 HB1 HR1 r0 r1 r2 r3 r4 r5 r6 r7
  go_wp2_with fail
  refine (HN.out _).mono ?_
  rintro e y4 ⟨p, F4, rfl, _, hm4, hb4⟩
  obtain ⟨M, rfl⟩ := hm4.ptr
  have HE4 : Hid (KWay w y4 w.heap.size (.pointer (some ⟨M, 0, none⟩)) 1 P.s [] X P (ckNew P) 0 [(w.heap.size + 1, rdO P.rd)]) :=
    kway_new2 HP0.out HX3.out.2.1 HX3.out.2.2.1 HX3.out.1 (fun z hz => by
      obtain rfl : z = (w.heap.size + 1, rdO P.rd) := by simpa using hz
      exact ⟨HX3.out.2.2.2.1, HX3.out.2.2.2.2⟩) hm4 hb4
  clear hm4 hb4 HX3
  go_wp2
  go_loopw [14, 15] (fun sv iv wr => ∃ (q k : Nat) (L : List Ac) (b : Ck), sv = .int .i64 k ∧ iv = .int .i64 q ∧ q ≤ n ∧ L.length ≤ q ∧ KWay w wr w.heap.size (.pointer (some ⟨M, 0, none⟩)) 1 P.s L X P b k [(w.heap.size + 1, rdO P.rd)]) (fun _ iv _ => n - (intOf iv).toNat)
  case atStart => exact ⟨0, 0, [], ckNew P, rfl, rfl, by omega, Nat.le_refl _, HE4.out⟩
  case round =>
    obtain ⟨q, k, L, b, rfl, rfl, hq, hlen, he⟩ := hrel
    have HE : Hid (KWay w wr w.heap.size (.pointer (some ⟨M, 0, none⟩)) 1 P.s L X P b k [(w.heap.size + 1, rdO P.rd)]) := he
    have hL : L.length < 3298534883328 := by omega
    clear he HE4
    by_cases hlt : q < n
    · obtain ⟨x, rfl, hxb, hrow⟩ := HC.out q hlt
      have hrow2 := hrow.later HE.out.bel (by rw [add_block]; exact hxb)
      have hfit := HF.out q hlt
      have d1 : decide ((q : Int) < (n : Int)) = true := by simp; omega
      have hx1 : (q : Int) < (n : Int) := by omega
      generalize S.getD q noAt = atx at hrow2 hfit hrow
      obtain ⟨ak, at', ⟨ka, ai, aj⟩, av⟩ := atx
      obtain ⟨c0, c1, c2, c3, c4, c5⟩ := hrow2
      rw [add_pos' _ _ (by decide)] at c1 c2 c3 c4 c5
      simp only at c0 c1 c2 c3 c4 c5 hfit
      clear hrow
      by_cases hk1 : ak = 1
      · subst hk1
        have HST : Hid (Calls Try.prog 12 #[(.pointer (some ⟨M, 0, none⟩)), .int .i64 (-1), .agg #[.int .i64 ka, .int .i64 ai, .int .i64 aj], .int .i64 av] wr.drew fun e w' => e = .returned (.int .i64 (if isAd 1 P.s ⟨ka, ai, aj⟩ then 0 else 1)) ∧ KWay w w' w.heap.size (.pointer (some ⟨M, 0, none⟩)) 1 P.s (storeL 1 P.s L (-1) ⟨ka, ai, aj⟩ av) X P b k [(w.heap.size + 1, rdO P.rd)]) := kway_store (HE.out.later (below_drawn (Below.refl _ _) 1)) hL (-1) ⟨ka, ai, aj⟩ av hfit
        have HLEN2 : Hid ((storeL 1 P.s L (-1) ⟨ka, ai, aj⟩ av).length ≤ q + 1) := by have h1 := storeL_len1 1 P.s L (-1) ⟨ka, ai, aj⟩ av; rw [Hid]; omega
        generalize storeL 1 P.s L (-1) ⟨ka, ai, aj⟩ av = L' at *
        generalize (if isAd 1 P.s ⟨ka, ai, aj⟩ = true then (0 : Int) else 1) = ea at *
        go_wp2_with fail
        go_region_with ((go_at_call 12; refine HST.out.mono ?_; rintro e y6 ⟨rfl, h6⟩))
        all_goals
          have HW6 : Hid (KWay w y6 w.heap.size (.pointer (some ⟨M, 0, none⟩)) 1 P.s L' X P b k [(w.heap.size + 1, rdO P.rd)]) := h6
          clear h6 c0 c1 c2 c3 c4 c5
          go_wp2
          go_roundw
          case rel => exact ⟨q + 1, k, L', b, rfl, by go_num, by omega, HLEN2.out, HW6.out⟩
          case measure => simp [intOf]; omega
      · have dk : decide (ak = 1) = false := by simpa using hk1
        have HCN : Hid (Calls Try.prog 20 #[.pointer (some ⟨M, 0, none⟩)] wr fun e w' => e = .returned (.int .i64 (L.length : Int)) ∧ w' = wr) := by
          obtain ⟨F, h1, _⟩ := HE.out.ps
          exact count_any h1.mem
        have HLEN2 : Hid ((nextKL 1 P.s P b L 1).length ≤ q + 1) := by have h1 := nextKL_len 1 P.s P b L 1; rw [Hid]; omega
        have hL' : (nextKL 1 P.s P b L 1).length ≤ 3298534883328 := by have h1 := HLEN2.out; omega
        have HDR : Hid ((nextKL 1 P.s P b L 1).drop ((L.length : Int)).toNat = if goesK P.s P b then [Ac.mk 1 1 (adK P b) 0 (wordOf L (adK P b)) false] else []) := by rw [Int.toNat_natCast]; exact drop_next HE.out.ok
        have HT : Hid (Calls Try.prog 14 #[.pointer (some ⟨X, 0, none⟩), (.pointer (some ⟨M, 0, none⟩)), .int .i64 1] wr fun e w' => e = .returned (.agg #[.int .i64 (ansKK P.s P b L), .int .i64 (errKK P.s P b L), .int .i64 0, .bool (goesK P.s P b)]) ∧ KWay w w' w.heap.size (.pointer (some ⟨M, 0, none⟩)) 1 P.s (nextKL 1 P.s P b L 1) X P (nextK P.s P b L) (nextN P.s P b L k) [(w.heap.size + 1, rdO P.rd)]) := kway_step HE.out hL 1
        have hstep : nextN P.s P b L k ≤ 2 + 9 * P.s := kok_len (kok_next HE.out.ok HE.out.gd)
        have hcs := ans_cases HE.out.ok HE.out.gd
        generalize nextKL 1 P.s P b L 1 = L' at *
        generalize nextK P.s P b L = b' at *
        generalize ansKK P.s P b L = kk at *
        generalize errKK P.s P b L = ee at *
        generalize nextN P.s P b L k = nn at *
        generalize hgg : goesK P.s P b = gg at *
        have hw9 : wrap64 (9 * (P.s : Int)) = 9 * (P.s : Int) := by unfold wrap64; omega
        have hw2 : wrap64 (2 + 9 * (P.s : Int)) = 2 + 9 * (P.s : Int) := by unfold wrap64; omega
        rcases hcs with ⟨rfl, rfl, rfl, rfl⟩ | ⟨rfl, rfl, rfl, rfl⟩ | ⟨rfl, rfl, rfl, hnn⟩ | ⟨rfl, rfl, rfl, hnn⟩ | ⟨rfl, rfl, rfl, hnn⟩ | ⟨rfl, rfl, rfl, hnn, hcf⟩
        · clear hgg
          rw [if_neg (by simp)] at HDR
          have e9 : decide (2 + 9 * (P.s : Int) < (nn : Int)) = false := decide_eq_false (by omega)
          go_wp2_with fail
          refine HCN.out.mono ?_
          rintro e wr' ⟨rfl, rfl⟩
          clear c0 c1 c2 c3 c4 c5
          go_wp2_with fail
          refine HT.out.mono ?_
          rintro e y6 ⟨rfl, h6⟩
          have HW6 : Hid (KWay w (y6.alloc (.cells #[.int .i64 0, .int .i64 0, .int .i64 0, .bool false] 50)) w.heap.size (.pointer (some ⟨M, 0, none⟩)) 1 P.s L' X P b' (nn) [(y6.heap.size, ansOE 0 0 false), (w.heap.size + 1, rdO P.rd)]) := h6.more _
          clear h6
          have HLG : Hid (Calls Try.prog 18 #[(.pointer (some ⟨M, 0, none⟩)), .int .i64 (L.length : Int)] (y6.alloc (.cells #[.int .i64 0, .int .i64 0, .int .i64 0, .bool false] 50)) fun e w' => ∃ v, e = .returned v ∧ w'.ownsRow (y6.alloc (.cells #[.int .i64 0, .int .i64 0, .int .i64 0, .bool false] 50)).heap.size 72 8 v 0 (logC []) ∧ Below (y6.alloc (.cells #[.int .i64 0, .int .i64 0, .int .i64 0, .bool false] 50)).heap.size (y6.alloc (.cells #[.int .i64 0, .int .i64 0, .int .i64 0, .bool false] 50)) w') := by
            obtain ⟨F, h1, _⟩ := HW6.out.ps
            have := log_any h1.mem hL' (L.length : Int)
            rw [HDR.out] at this
            exact this
          go_wp2_with fail
          refine HLG.out.mono ?_
          rintro e y7 ⟨v7, rfl, ho7, hb7⟩
          have HW7 : Hid (KWay w y7 w.heap.size (.pointer (some ⟨M, 0, none⟩)) 1 P.s L' X P b' (nn) [(y6.heap.size, ansOE 0 0 false), (w.heap.size + 1, rdO P.rd)]) := HW6.out.later hb7
          obtain ⟨a7, cap7, rfl⟩ := own_slice ho7
          clear HW6 HLG hb7 ho7 HT HCN HDR HC HF HS HP HN HB HO
          obtain ⟨a0, a1, a2, a3⟩ := ansE_cells (k := 0) (e := 0) (y := false) (HW7.out.row (B := y6.heap.size) (o := ansOE 0 0 false) (by simp))
          go_wp2
          go_roundw
          case rel => exact ⟨q + 1, nn, L', b', rfl, by go_num, by omega, HLEN2.out, HW7.out.less (fun z hz => by simp at hz; subst hz; simp)⟩
          case measure => simp [intOf]; omega
        · clear hgg
          rw [if_pos rfl] at HDR
          have e9 : decide (2 + 9 * (P.s : Int) < (nn : Int)) = false := decide_eq_false (by omega)
          go_wp2_with fail
          refine HCN.out.mono ?_
          rintro e wr' ⟨rfl, rfl⟩
          clear c0 c1 c2 c3 c4 c5
          go_wp2_with fail
          refine HT.out.mono ?_
          rintro e y6 ⟨rfl, h6⟩
          have HW6 : Hid (KWay w (y6.alloc (.cells #[.int .i64 1, .int .i64 0, .int .i64 0, .bool true] 50)) w.heap.size (.pointer (some ⟨M, 0, none⟩)) 1 P.s L' X P b' (nn) [(y6.heap.size, ansOE 1 0 true), (w.heap.size + 1, rdO P.rd)]) := h6.more _
          clear h6
          have HLG : Hid (Calls Try.prog 18 #[(.pointer (some ⟨M, 0, none⟩)), .int .i64 (L.length : Int)] (y6.alloc (.cells #[.int .i64 1, .int .i64 0, .int .i64 0, .bool true] 50)) fun e w' => ∃ v, e = .returned v ∧ w'.ownsRow (y6.alloc (.cells #[.int .i64 1, .int .i64 0, .int .i64 0, .bool true] 50)).heap.size 72 8 v 1 (logC [Ac.mk 1 1 (adK P b) 0 (wordOf L (adK P b)) false]) ∧ Below (y6.alloc (.cells #[.int .i64 1, .int .i64 0, .int .i64 0, .bool true] 50)).heap.size (y6.alloc (.cells #[.int .i64 1, .int .i64 0, .int .i64 0, .bool true] 50)) w') := by
            obtain ⟨F, h1, _⟩ := HW6.out.ps
            have := log_any h1.mem hL' (L.length : Int)
            rw [HDR.out] at this
            exact this
          go_wp2_with fail
          refine HLG.out.mono ?_
          rintro e y7 ⟨v7, rfl, ho7, hb7⟩
          have HW7 : Hid (KWay w y7 w.heap.size (.pointer (some ⟨M, 0, none⟩)) 1 P.s L' X P b' (nn) [(y6.heap.size, ansOE 1 0 true), (w.heap.size + 1, rdO P.rd)]) := HW6.out.later hb7
          obtain ⟨g7, cap7, rfl, hg7, hg7b, l0, l1, l2, l3⟩ := own_one ho7
          clear hg7 hg7b l0 l1 l2 l3
          clear HW6 HLG hb7 ho7 HT HCN HDR HC HF HS HP HN HB HO
          obtain ⟨a0, a1, a2, a3⟩ := ansE_cells (k := 1) (e := 0) (y := true) (HW7.out.row (B := y6.heap.size) (o := ansOE 1 0 true) (by simp))
          go_wp2
          go_roundw
          case rel => exact ⟨q + 1, nn, L', b', rfl, by go_num, by omega, HLEN2.out, HW7.out.less (fun z hz => by simp at hz; subst hz; simp)⟩
          case measure => simp [intOf]; omega
        · clear hgg
          rw [if_pos rfl] at HDR
          have e9 : decide (2 + 9 * (P.s : Int) < (nn : Int)) = false := decide_eq_false (by omega)
          have wk : wrap64 (nn : Int) = (nn : Int) := by unfold wrap64; omega
          have hkn : (k : Int) + 1 = (nn : Int) := by omega
          clear hnn hstep
          go_wp2_with fail
          refine HCN.out.mono ?_
          rintro e wr' ⟨rfl, rfl⟩
          clear c0 c1 c2 c3 c4 c5
          go_wp2_with fail
          refine HT.out.mono ?_
          rintro e y6 ⟨rfl, h6⟩
          have HW6 : Hid (KWay w (y6.alloc (.cells #[.int .i64 2, .int .i64 0, .int .i64 0, .bool true] 50)) w.heap.size (.pointer (some ⟨M, 0, none⟩)) 1 P.s L' X P b' (nn) [(y6.heap.size, ansOE 2 0 true), (w.heap.size + 1, rdO P.rd)]) := h6.more _
          clear h6
          have HLG : Hid (Calls Try.prog 18 #[(.pointer (some ⟨M, 0, none⟩)), .int .i64 (L.length : Int)] (y6.alloc (.cells #[.int .i64 2, .int .i64 0, .int .i64 0, .bool true] 50)) fun e w' => ∃ v, e = .returned v ∧ w'.ownsRow (y6.alloc (.cells #[.int .i64 2, .int .i64 0, .int .i64 0, .bool true] 50)).heap.size 72 8 v 1 (logC [Ac.mk 1 1 (adK P b) 0 (wordOf L (adK P b)) false]) ∧ Below (y6.alloc (.cells #[.int .i64 2, .int .i64 0, .int .i64 0, .bool true] 50)).heap.size (y6.alloc (.cells #[.int .i64 2, .int .i64 0, .int .i64 0, .bool true] 50)) w') := by
            obtain ⟨F, h1, _⟩ := HW6.out.ps
            have := log_any h1.mem hL' (L.length : Int)
            rw [HDR.out] at this
            exact this
          go_wp2_with fail
          refine HLG.out.mono ?_
          rintro e y7 ⟨v7, rfl, ho7, hb7⟩
          have HW7 : Hid (KWay w y7 w.heap.size (.pointer (some ⟨M, 0, none⟩)) 1 P.s L' X P b' (nn) [(y6.heap.size, ansOE 2 0 true), (w.heap.size + 1, rdO P.rd)]) := HW6.out.later hb7
          obtain ⟨g7, cap7, rfl, hg7, hg7b, l0, l1, l2, l3⟩ := own_one ho7
          clear hg7 hg7b l0 l1 l2 l3
          clear HW6 HLG hb7 ho7 HT HCN HDR HC HF HS HP HN HB HO
          obtain ⟨a0, a1, a2, a3⟩ := ansE_cells (k := 2) (e := 0) (y := true) (HW7.out.row (B := y6.heap.size) (o := ansOE 2 0 true) (by simp))
          go_wp2
          go_roundw
          case rel => exact ⟨q + 1, nn, L', b', by rw [wk], by go_num, by omega, HLEN2.out, HW7.out.less (fun z hz => by simp at hz; subst hz; simp)⟩
          case measure => simp [intOf]; omega
        · clear hgg
          rw [if_pos rfl] at HDR
          have e9 : decide (2 + 9 * (P.s : Int) < (nn : Int)) = false := decide_eq_false (by omega)
          have wk : wrap64 (nn : Int) = (nn : Int) := by unfold wrap64; omega
          have hkn : (k : Int) + 1 = (nn : Int) := by omega
          clear hnn hstep
          go_wp2_with fail
          refine HCN.out.mono ?_
          rintro e wr' ⟨rfl, rfl⟩
          clear c0 c1 c2 c3 c4 c5
          go_wp2_with fail
          refine HT.out.mono ?_
          rintro e y6 ⟨rfl, h6⟩
          have HW6 : Hid (KWay w (y6.alloc (.cells #[.int .i64 3, .int .i64 0, .int .i64 0, .bool true] 50)) w.heap.size (.pointer (some ⟨M, 0, none⟩)) 1 P.s L' X P b' (nn) [(y6.heap.size, ansOE 3 0 true), (w.heap.size + 1, rdO P.rd)]) := h6.more _
          clear h6
          have HLG : Hid (Calls Try.prog 18 #[(.pointer (some ⟨M, 0, none⟩)), .int .i64 (L.length : Int)] (y6.alloc (.cells #[.int .i64 3, .int .i64 0, .int .i64 0, .bool true] 50)) fun e w' => ∃ v, e = .returned v ∧ w'.ownsRow (y6.alloc (.cells #[.int .i64 3, .int .i64 0, .int .i64 0, .bool true] 50)).heap.size 72 8 v 1 (logC [Ac.mk 1 1 (adK P b) 0 (wordOf L (adK P b)) false]) ∧ Below (y6.alloc (.cells #[.int .i64 3, .int .i64 0, .int .i64 0, .bool true] 50)).heap.size (y6.alloc (.cells #[.int .i64 3, .int .i64 0, .int .i64 0, .bool true] 50)) w') := by
            obtain ⟨F, h1, _⟩ := HW6.out.ps
            have := log_any h1.mem hL' (L.length : Int)
            rw [HDR.out] at this
            exact this
          go_wp2_with fail
          refine HLG.out.mono ?_
          rintro e y7 ⟨v7, rfl, ho7, hb7⟩
          have HW7 : Hid (KWay w y7 w.heap.size (.pointer (some ⟨M, 0, none⟩)) 1 P.s L' X P b' (nn) [(y6.heap.size, ansOE 3 0 true), (w.heap.size + 1, rdO P.rd)]) := HW6.out.later hb7
          obtain ⟨g7, cap7, rfl, hg7, hg7b, l0, l1, l2, l3⟩ := own_one ho7
          clear hg7 hg7b l0 l1 l2 l3
          clear HW6 HLG hb7 ho7 HT HCN HDR HC HF HS HP HN HB HO
          obtain ⟨a0, a1, a2, a3⟩ := ansE_cells (k := 3) (e := 0) (y := true) (HW7.out.row (B := y6.heap.size) (o := ansOE 3 0 true) (by simp))
          go_wp2
          go_roundw
          case rel => exact ⟨q + 1, nn, L', b', by rw [wk], by go_num, by omega, HLEN2.out, HW7.out.less (fun z hz => by simp at hz; subst hz; simp)⟩
          case measure => simp [intOf]; omega
        · clear hgg
          rw [if_pos rfl] at HDR
          have e9 : decide (2 + 9 * (P.s : Int) < (nn : Int)) = false := decide_eq_false (by omega)
          have wk : wrap64 (nn : Int) = (nn : Int) := by unfold wrap64; omega
          have hkn : (k : Int) + 1 = (nn : Int) := by omega
          clear hnn hstep
          go_wp2_with fail
          refine HCN.out.mono ?_
          rintro e wr' ⟨rfl, rfl⟩
          clear c0 c1 c2 c3 c4 c5
          go_wp2_with fail
          refine HT.out.mono ?_
          rintro e y6 ⟨rfl, h6⟩
          have HW6 : Hid (KWay w (y6.alloc (.cells #[.int .i64 4, .int .i64 4, .int .i64 0, .bool true] 50)) w.heap.size (.pointer (some ⟨M, 0, none⟩)) 1 P.s L' X P b' (nn) [(y6.heap.size, ansOE 4 4 true), (w.heap.size + 1, rdO P.rd)]) := h6.more _
          clear h6
          have HLG : Hid (Calls Try.prog 18 #[(.pointer (some ⟨M, 0, none⟩)), .int .i64 (L.length : Int)] (y6.alloc (.cells #[.int .i64 4, .int .i64 4, .int .i64 0, .bool true] 50)) fun e w' => ∃ v, e = .returned v ∧ w'.ownsRow (y6.alloc (.cells #[.int .i64 4, .int .i64 4, .int .i64 0, .bool true] 50)).heap.size 72 8 v 1 (logC [Ac.mk 1 1 (adK P b) 0 (wordOf L (adK P b)) false]) ∧ Below (y6.alloc (.cells #[.int .i64 4, .int .i64 4, .int .i64 0, .bool true] 50)).heap.size (y6.alloc (.cells #[.int .i64 4, .int .i64 4, .int .i64 0, .bool true] 50)) w') := by
            obtain ⟨F, h1, _⟩ := HW6.out.ps
            have := log_any h1.mem hL' (L.length : Int)
            rw [HDR.out] at this
            exact this
          go_wp2_with fail
          refine HLG.out.mono ?_
          rintro e y7 ⟨v7, rfl, ho7, hb7⟩
          have HW7 : Hid (KWay w y7 w.heap.size (.pointer (some ⟨M, 0, none⟩)) 1 P.s L' X P b' (nn) [(y6.heap.size, ansOE 4 4 true), (w.heap.size + 1, rdO P.rd)]) := HW6.out.later hb7
          obtain ⟨g7, cap7, rfl, hg7, hg7b, l0, l1, l2, l3⟩ := own_one ho7
          clear hg7 hg7b l0 l1 l2 l3
          clear HW6 HLG hb7 ho7 HT HCN HDR HC HF HS HP HN HB HO
          obtain ⟨a0, a1, a2, a3⟩ := ansE_cells (k := 4) (e := 4) (y := true) (HW7.out.row (B := y6.heap.size) (o := ansOE 4 4 true) (by simp))
          go_wp2
          go_roundw
          case rel => exact ⟨q + 1, nn, L', b', by rw [wk], by go_num, by omega, HLEN2.out, HW7.out.less (fun z hz => by simp at hz; subst hz; simp)⟩
          case measure => simp [intOf]; omega
        · clear hgg
          rw [if_pos rfl] at HDR
          have e9 : decide (2 + 9 * (P.s : Int) < (nn : Int)) = false := decide_eq_false (by omega)
          have wk : wrap64 (nn : Int) = (nn : Int) := by unfold wrap64; omega
          have hkn : (k : Int) + 1 = (nn : Int) := by omega
          obtain ⟨hs2, hhit, hj0, hj7⟩ := hcf
          obtain ⟨j, hj⟩ : ∃ j : Nat, b.word = (j : Int) := ⟨b.word.toNat, by omega⟩
          have hj8 : j < 8 := by omega
          have hj8' : (j : Int) < 8 := by omega
          have hak : (adK P b).k = 3 ∧ (adK P b).j = (j : Int) := by unfold adK; rw [if_neg (by omega), if_pos hs2]; exact ⟨rfl, hj⟩
          rw [hj, Int.toNat_natCast] at hhit
          unfold hitV at hhit
          have hbt := wrapU_bd (wordOf L (adK P b))
          have hrl := HP0.out.rd.2 j
          have HRD : Hid (∀ {w : World} {B : Nat}, w.heap[B]? = some (rdO P.rd) → w.cell? ⟨B, j, none⟩ = some (.int .u64 ((P.rd.getD j 0 : Nat) : Int))) := fun h => rdO_read h j hj8
          generalize wordOf L (adK P b) = vv at *
          generalize hzz : (IntKind.u64.wrap vv).toNat = zz at *
          have hbits : bits .and .u64 (zz : Int) ((P.rd.getD j 0 : Nat) : Int) = ((zz &&& P.rd.getD j 0 : Nat) : Int) := bits_and_u64_nat _ _ hbt.1 hrl
          generalize P.rd.getD j 0 = yy at *
          have hnz : (((zz &&& yy : Nat) : Int) == 0) = false := by
            have h1 : (zz &&& yy) ≠ 0 := by simpa using hhit
            simp only [beq_eq_false_iff_ne, ne_eq]; omega
          have hwv := hbt.2.symm
          generalize (zz &&& yy : Nat) = qq at *
          clear hzz hbt hrl hhit
          clear hnn hstep
          go_wp2_with fail
          refine HCN.out.mono ?_
          rintro e wr' ⟨rfl, rfl⟩
          clear c0 c1 c2 c3 c4 c5
          go_wp2_with fail
          refine HT.out.mono ?_
          rintro e y6 ⟨rfl, h6⟩
          have HW6 : Hid (KWay w (y6.alloc (.cells #[.int .i64 4, .int .i64 3, .int .i64 0, .bool true] 50)) w.heap.size (.pointer (some ⟨M, 0, none⟩)) 1 P.s L' X P b' (nn) [(y6.heap.size, ansOE 4 3 true), (w.heap.size + 1, rdO P.rd)]) := h6.more _
          clear h6
          have HLG : Hid (Calls Try.prog 18 #[(.pointer (some ⟨M, 0, none⟩)), .int .i64 (L.length : Int)] (y6.alloc (.cells #[.int .i64 4, .int .i64 3, .int .i64 0, .bool true] 50)) fun e w' => ∃ v, e = .returned v ∧ w'.ownsRow (y6.alloc (.cells #[.int .i64 4, .int .i64 3, .int .i64 0, .bool true] 50)).heap.size 72 8 v 1 (logC [Ac.mk 1 1 (adK P b) 0 vv false]) ∧ Below (y6.alloc (.cells #[.int .i64 4, .int .i64 3, .int .i64 0, .bool true] 50)).heap.size (y6.alloc (.cells #[.int .i64 4, .int .i64 3, .int .i64 0, .bool true] 50)) w') := by
            obtain ⟨F, h1, _⟩ := HW6.out.ps
            have := log_any h1.mem hL' (L.length : Int)
            rw [HDR.out] at this
            exact this
          go_wp2_with fail
          refine HLG.out.mono ?_
          rintro e y7 ⟨v7, rfl, ho7, hb7⟩
          have HW7 : Hid (KWay w y7 w.heap.size (.pointer (some ⟨M, 0, none⟩)) 1 P.s L' X P b' (nn) [(y6.heap.size, ansOE 4 3 true), (w.heap.size + 1, rdO P.rd)]) := HW6.out.later hb7
          obtain ⟨g7, cap7, rfl, hg7, hg7b, l0, l1, l2, l3⟩ := own_one ho7
          clear hg7b
          clear HW6 HLG hb7 ho7 HT HCN HDR HC HF HS HP HN HB HO
          obtain ⟨a0, a1, a2, a3⟩ := ansE_cells (k := 4) (e := 3) (y := true) (HW7.out.row (B := y6.heap.size) (o := ansOE 4 3 true) (by simp))
          simp only at l0 l1 l2 l3
          rw [hak.1] at l0
          rw [hak.2] at l2
          have hrd7 := HRD.out (HW7.out.row (B := w.heap.size + 1) (o := rdO P.rd) (by simp))
          have hlt7 := heap_lt (HW7.out.row (B := w.heap.size + 1) (o := rdO P.rd) (by simp))
          go_wp2_with fail
          go_quiet (fail)
          go_wp2
          go_roundw
          case rel => exact ⟨q + 1, nn, L', b', by rw [wk], by go_num, by omega, HLEN2.out, (HW7.out.later (below_drawn (below_a1 _ _) _)).less (fun z hz => by simp at hz; subst hz; simp)⟩
          case measure => simp [intOf]; omega
    · obtain rfl : q = n := by omega
      have d1 : decide ((q : Int) < (q : Int)) = false := by simp
      go_wp2
      go_ret
      exact ⟨rfl, HE.out.bel⟩
--END WHY
end Go.Proofs.Ytemdgknfedaaiaa
