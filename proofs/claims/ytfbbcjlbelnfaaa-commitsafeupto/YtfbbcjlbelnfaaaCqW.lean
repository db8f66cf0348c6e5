/- CheckWhy walked. -/
import Derived.Test.YtfbbcjlbelnfaaaJCqSCqE
import Derived.Test.YtfbbcjlbelnfaaaActL
import Derived.Test.YtfbbcjlbelnfaaaGroA
namespace Go.Proofs.Ytfbbcjlbelnfaaa
open Go.ChangeShapes Go.WideShapes Go.ChangeAt Go.RowKit
attribute [local go_sem ↓] Go.wp_at_zero Go.wp_at_succ

def ansOE (k e : Int) (y : Bool) : Obj := .cells #[.int .i64 k, .int .i64 e, .int .i64 0, .bool y] 52 (0, 0)
theorem ansE_cells {w : World} {B : Nat} {k e : Int} {y : Bool} (h : w.heap[B]? = some (.cells #[.int .i64 k, .int .i64 e, .int .i64 0, .bool y] 52 (0, 0))) :
    w.cell? ⟨B, 0, none⟩ = some (.int .i64 k) ∧ w.cell? ⟨B, 1, none⟩ = some (.int .i64 e) ∧ w.cell? ⟨B, 2, none⟩ = some (.int .i64 0) ∧ w.cell? ⟨B, 3, none⟩ = some (.bool y) :=
  ⟨by rw [cell_at h]; rfl, by rw [cell_at h]; rfl, by rw [cell_at h]; rfl, by rw [cell_at h]; rfl⟩
theorem own_one {w : World} {base : Nat} {v : Value} {x : Ac} (h : w.ownsRow base 103 8 v 1 (logC [x])) : ∃ g cap, v = .slice (some ⟨g, 0, none⟩) 1 cap ∧ g < w.heap.size ∧ base ≤ g ∧ w.cell? ⟨g, 2, none⟩ = some (.int .i64 x.a.k) ∧ w.cell? ⟨g, 3, none⟩ = some (.int .i64 x.a.i) ∧ w.cell? ⟨g, 4, none⟩ = some (.int .i64 x.a.j) ∧ w.cell? ⟨g, 6, none⟩ = some (.int .i64 x.v) := by
  rcases id h.2 with ⟨e, h0⟩ | ⟨g, cp, cur, e, hb, hg, _⟩
  · omega
  · subst e
    rw [logC_one] at h
    exact ⟨g, cp, rfl, heap_lt hg, hb, own_cells h 2 _ rfl, own_cells h 3 _ rfl, own_cells h 4 _ rfl, own_cells h 6 _ rfl⟩
/-- ErrConflict is told where a word that was loaded shares a bit with what was read. -/
theorem err3 {P : Cp} {b : Ck} {n : Nat} {v : Int} (h : KOk P b n) (ht : ¬ thr b) (he : (stepK P b v).err = 3) : b.st = 2 ∧ hitV P.rd b.word.toNat v = true ∧ 0 ≤ b.word ∧ b.word ≤ 7 := by
  rcases kok_st h with e | e | e | e | e | e
  · exfalso
    have hb := kok_zero h e
    unfold stepK seeK at he
    rw [if_pos e] at he
    split at he
    · simp only [hb, ckNew] at he; omega
    · split at he
      · simp [failV] at he
      · rw [onV_err] at he; simp only [hb, ckNew] at he; omega
  · exfalso
    have hm := (kok_mid h (Or.inl e)).1.e
    unfold stepK lookK at he
    rw [if_neg (by omega), if_pos e] at he
    split at he
    · rw [onV_err] at he; simp only at he; omega
    · split at he
      · simp [failV] at he
      · omega
  · have hm := kok_mid h (Or.inr (Or.inl e))
    unfold stepK holdK at he
    rw [if_neg (by omega), if_neg (by omega), if_pos e] at he
    split at he
    · next hh => exact ⟨e, hh, hm.2 e⟩
    · rw [onV_err, hm.1.e] at he; omega
  · exfalso
    have hm := (kok_mid h (Or.inr (Or.inr e))).1.e
    unfold stepK againK at he
    rw [if_neg (by omega), if_neg (by omega), if_neg (by omega), if_pos e] at he
    split at he
    · simp [failV] at he
    · rw [onV_err] at he; omega
  · exact absurd (Or.inl e) ht
  · exact absurd (Or.inr e) ht
/-- The answers that a step has. -/
theorem ans_cases {P : Cp} {b : Ck} {n : Nat} {L : List Ac} (h : KOk P b n) (hg : Gd L) :
    (goesK P.s P b = false ∧ ansKK P.s P b L = 0 ∧ errKK P.s P b L = 0 ∧ nextN P.s P b L n = n) ∨
    (goesK P.s P b = true ∧ ansKK P.s P b L = 1 ∧ errKK P.s P b L = 0 ∧ nextN P.s P b L n = n) ∨
    (goesK P.s P b = true ∧ ansKK P.s P b L = 2 ∧ errKK P.s P b L = 0 ∧ nextN P.s P b L n = n + 1) ∨
    (goesK P.s P b = true ∧ ansKK P.s P b L = 3 ∧ errKK P.s P b L = 0 ∧ nextN P.s P b L n = n + 1) ∨
    (goesK P.s P b = true ∧ ansKK P.s P b L = 4 ∧ errKK P.s P b L = 4 ∧ nextN P.s P b L n = n + 1) ∨
    (goesK P.s P b = true ∧ ansKK P.s P b L = 4 ∧ errKK P.s P b L = 3 ∧ nextN P.s P b L n = n + 1 ∧ b.st = 2 ∧ hitV P.rd b.word.toNat (wordOf L (adK P b)) = true ∧ 0 ≤ b.word ∧ b.word ≤ 7) := by
  unfold ansKK errKK nextN
  by_cases e : goesK P.s P b = true
  · refine Or.inr ?_
    have ht := (goesK_iff.mp e).1
    have hk := kok_step h (hg (adK P b)) ht
    rw [if_pos e, if_pos e, if_pos e]
    by_cases ew : waitK b (wordOf L (adK P b)) = true
    · refine Or.inl ⟨e, ?_, ?_, ?_⟩
      · unfold kindK; rw [if_pos ew]
      · unfold errK; rw [if_pos ew]
      · rw [if_pos ew]
    · refine Or.inr ?_
      have ew' : waitK b (wordOf L (adK P b)) = false := by simpa using ew
      rw [(kindK_of ew').1, (kindK_of ew').2, if_neg ew]
      rw [if_neg ew] at hk
      unfold kindV
      rcases kok_st hk with c | c | c | c | c | c
      · have hz := kok_zero hk c
        exact Or.inl ⟨e, by rw [if_neg (by omega), if_neg (by omega)], by rw [hz]; rfl, rfl⟩
      · exact Or.inl ⟨e, by rw [if_neg (by omega), if_neg (by omega)], (kok_mid hk (Or.inl c)).1.e, rfl⟩
      · exact Or.inl ⟨e, by rw [if_neg (by omega), if_neg (by omega)], (kok_mid hk (Or.inr (Or.inl c))).1.e, rfl⟩
      · exact Or.inl ⟨e, by rw [if_neg (by omega), if_neg (by omega)], (kok_mid hk (Or.inr (Or.inr c))).1.e, rfl⟩
      · refine Or.inr (Or.inl ⟨e, by rw [if_pos c], ?_, rfl⟩)
        rcases hk.c with ⟨z, _⟩ | ⟨z, _⟩ | ⟨z, _⟩ | ⟨z, _⟩ | ⟨_, _, z⟩ | ⟨z, _⟩
        · rw [z] at c; simp [ckNew] at c
        · omega
        · omega
        · omega
        · exact z
        · omega
      · refine Or.inr (Or.inr ?_)
        have hee : (stepK P b (wordOf L (adK P b))).err = 3 ∨ (stepK P b (wordOf L (adK P b))).err = 4 := by
          rcases hk.c with ⟨z, _⟩ | ⟨z, _⟩ | ⟨z, _⟩ | ⟨z, _⟩ | ⟨z, _⟩ | ⟨_, _, z⟩
          · rw [z] at c; simp [ckNew] at c
          · omega
          · omega
          · omega
          · omega
          · exact z
        rcases hee with z | z
        · exact Or.inr ⟨e, by rw [if_neg (by omega), if_pos c], z, rfl, err3 h ht z⟩
        · exact Or.inl ⟨e, by rw [if_neg (by omega), if_pos c], z, rfl⟩
  · exact Or.inl ⟨by simpa using e, by rw [if_neg e], by rw [if_neg e], by rw [if_neg e]⟩
/-- What a step adds to the log. -/
theorem drop_next {c n : Nat} {P : Cp} {b : Ck} {L : List Ac} {t : Int} (h : KOk P b n) : (nextKL c P.s P b L t).drop L.length = if goesK P.s P b then [Ac.mk t 1 (adK P b) 0 (wordOf L (adK P b)) false] else [] := by
  unfold nextKL loadL
  by_cases e : goesK P.s P b = true
  · rw [if_pos e, if_pos e, if_pos (adK_is h (goesK_iff.mp e).1)]
    simp
  · rw [if_neg e, if_neg e]
    simp
--WHY
def whyC (raw z : Int) (rd : List Nat) (last : Bool) (v : Value) : Array Value := #[.int .i64 raw, .int .i64 z, rdV rd 0, rdV rd 1, rdV rd 2, rdV rd 3, rdV rd 4, rdV rd 5, rdV rd 6, rdV rd 7, .bool last, v]
def rdO (rd : List Nat) : Obj := .cells #[rdV rd 0, rdV rd 1, rdV rd 2, rdV rd 3, rdV rd 4, rdV rd 5, rdV rd 6, rdV rd 7] 27 (0, 0)
theorem rdO_read {w : World} {B : Nat} {rd : List Nat} (h : w.heap[B]? = some (rdO rd)) (j : Nat) (hj : j < 8) : w.cell? ⟨B, j, none⟩ = some (.int .u64 ((rd.getD j 0 : Nat) : Int)) := by
  unfold rdO at h
  rw [cell_at h]
  rcases j with _ | _ | _ | _ | _ | _ | _ | _ | j
  all_goals first
    | rfl
    | omega
/-- A machine, and then a memory, that are new. -/
theorem kway_new2 {w0 w2 w3 : World} {p : Value} {c r : Nat} {F : List Nat} {X : Nat} {P : Cp} {R : List (Nat × Obj)} (hp : POk P) (hb : Below w0.heap.size w0 w2) (hX : w0.heap.size ≤ X) (hx : KAt w2 X P (ckNew P)) (hR : ∀ z ∈ R, w2.heap[z.1]? = some z.2 ∧ z.1 ≠ X) (hm : MemAt w3 w2.heap.size p c r [] F) (hb3 : Below w2.heap.size w2 w3) : KWay w0 w3 w0.heap.size p c r [] X P (ckNew P) 0 R :=
  ⟨⟨F, ⟨memAt_low hm hb.size, hx.below hb3 (heap_lt hx), fun e => by have := (hm.lt _ e).1; have := heap_lt hx; omega, hX⟩, fun z hz => by
    obtain ⟨k1, k2⟩ := hR z hz
    have := heap_lt k1
    refine ⟨by rw [hb3.block _ this]; exact k1, fun e => ?_⟩
    rcases List.mem_cons.1 e with e | e
    · exact k2 e
    · have := (hm.lt _ e).1; omega⟩, below_then hb hb3, Nat.le_refl _, Nat.le_trans hb.size hb3.size, kok_new hp, gd_nil⟩