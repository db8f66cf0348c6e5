/- A collection is called: the table of calls is searched; the program's do. -/
import Derived.Test.YtgbmnngmfcneaaaPlG
import Derived.Laws.EntriesVeiled
namespace Go.Proofs.Ytgbmnngmfcneaaa.Pl
open Go.ChangeShapes Go.WideShapes Go.ChangeAt Go.RowKit
attribute [local go_sem ↓] Go.wp_at_zero Go.wp_at_succ

/-- The table of calls: kind, call, arguments, function. -/
def tabV : List (Int × Int × Int × FuncId) := [(1, 1, 2, 56), (1, 2, 1, 57), (2, 3, 1, 58), (2, 2, 0, 59), (2, 5, 0, 60), (3, 2, 1, 61), (3, 3, 2, 62), (3, 4, 1, 63), (3, 5, 0, 60), (4, 1, 1, 64), (4, 4, 1, 65), (4, 6, 1, 66), (4, 7, 0, 67), (4, 8, 1, 68), (4, 5, 0, 60)]
def tabC : List Value := tabV.flatMap fun x => [.int .i64 x.1, .int .i64 x.2.1, .int .i64 x.2.2.1, .func (.func x.2.2.2) #[] #[]]
set_option maxRecDepth 10000 in
set_option maxHeartbeats 4000000 in
theorem known_any (w : World) : Calls Try.prog 45 #[] w fun e w' => ∃ g, e = .returned (.slice (some ⟨g, 0, none⟩) 15 15) ∧ Below w.heap.size w w' ∧ w'.heap[g]? = some (.cells tabC.toArray 94 (0, 0)) := by
  go_enter Try.func45, Try.ntmps45
  go_wp2_with fail
  go_ret
  exact ⟨w.heap.size, rfl, below_a1 _ _, heap_alloc_new _ _⟩
def nthT (j : Nat) : Int × Int × Int × FuncId := tabV.getD j (0, 0, 0, 0)
theorem tab_cells {w : World} {g : Nat} (h : w.heap[g]? = some (.cells tabC.toArray 94 (0, 0))) (j : Nat) (hj : j < 15) : w.cell? ⟨g, j * 4, none⟩ = some (.int .i64 (nthT j).1) ∧ w.cell? ⟨g, j * 4 + 1, none⟩ = some (.int .i64 (nthT j).2.1) ∧ w.cell? ⟨g, j * 4 + 2, none⟩ = some (.int .i64 (nthT j).2.2.1) ∧ w.cell? ⟨g, j * 4 + 3, none⟩ = some (.func (.func (nthT j).2.2.2) #[] #[]) := by
  rw [cell_at h, cell_at h, cell_at h, cell_at h]
  match j, hj with
  | 0, _ => exact ⟨rfl, rfl, rfl, rfl⟩
  | 1, _ => exact ⟨rfl, rfl, rfl, rfl⟩
  | 2, _ => exact ⟨rfl, rfl, rfl, rfl⟩
  | 3, _ => exact ⟨rfl, rfl, rfl, rfl⟩
  | 4, _ => exact ⟨rfl, rfl, rfl, rfl⟩
  | 5, _ => exact ⟨rfl, rfl, rfl, rfl⟩
  | 6, _ => exact ⟨rfl, rfl, rfl, rfl⟩
  | 7, _ => exact ⟨rfl, rfl, rfl, rfl⟩
  | 8, _ => exact ⟨rfl, rfl, rfl, rfl⟩
  | 9, _ => exact ⟨rfl, rfl, rfl, rfl⟩
  | 10, _ => exact ⟨rfl, rfl, rfl, rfl⟩
  | 11, _ => exact ⟨rfl, rfl, rfl, rfl⟩
  | 12, _ => exact ⟨rfl, rfl, rfl, rfl⟩
  | 13, _ => exact ⟨rfl, rfl, rfl, rfl⟩
  | 14, _ => exact ⟨rfl, rfl, rfl, rfl⟩
/-- What a call answers, with its error, and what it leaves. -/
def actV (c : Co) (call : Int) (a : List Int) : (Int × Int × Int) × Co := if arV c.kd call = (a.length : Int) then (((doV c call a).1.1, (doV c call a).1.2, 0), (doV c call a).2) else ((0, 0, 1), c)
def Did3 (w : World) (B g o : Nat) (L : List Value) (v p : Value) (x : (Int × Int × Int) × Co) : Ending → World → Prop := fun e w' => e = .returned (.tuple #[.int .i64 x.1.1, .int .i64 x.1.2.1, .int .i64 x.1.2.2]) ∧ ∃ v' p', ColAt w' B g o ((L.set (o + 2) v').set (o + 3) p') x.2 v' p' ∧ Keep (g :: (v.ownBlock.toList ++ p.ownBlock.toList)) w w' ∧ Fr w v v' ∧ Fr w p p'
/-- An entry that is hit. -/
theorem hit_any {w : World} {B g o : Nat} {L : List Value} {c : Co} {v p va : Value} {a : List Int} (call : Int) (h : ColAt w B g o L c v p) (ha : Nl w va a) (hB : B ≤ w.heap.size) (hd : a.length ≠ 0 → ∀ x n cp, va = .slice (some x) n cp → v.ownBlock ≠ some x.block) (j : Nat) (hj : j < 15) (h1 : (nthT j).1 = c.kd) (h2 : (nthT j).2.1 = call) (h3 : (nthT j).2.2.1 = (a.length : Int)) :
    arV c.kd call = (a.length : Int) ∧ Calls Try.prog (nthT j).2.2.2 #[.pointer (some ⟨g, o, none⟩), va] w (Did w B g o L v p (doV c call a)) := by
  have hal : ∀ n : Nat, ((n : Nat) : Int) = (a.length : Int) → a.length = n := fun n h => by omega
  have e0 : ∀ n : Nat, (n : Int) + ((0 : Nat) : Int) = (n : Int) := fun n => by omega
  have e1 : ∀ n : Nat, ((0 : Nat) : Int) + (n : Int) = (n : Int) := fun n => by omega
  match j, hj with
  | 0, _ =>
    have hk : c.kd = 1 := h1.symm
    obtain rfl : (1 : Int) = call := h2
    exact ⟨by rw [hk, ← h3]; rfl, by rw [show doV c 1 a = cntV c 1 a by rw [doV, if_pos hk]]; exact addnum_any h ha (hal 2 h3) hk (hd (by rw [hal 2 h3]; decide))⟩
  | 1, _ =>
    have hk : c.kd = 1 := h1.symm
    obtain rfl : (2 : Int) = call := h2
    exact ⟨by rw [hk, ← h3]; rfl, by rw [show doV c 2 a = cntV c 2 a by rw [doV, if_pos hk]]; exact getnum_any h ha (hal 1 h3)⟩
  | 2, _ =>
    have hk : c.kd = 2 := h1.symm
    obtain rfl : (3 : Int) = call := h2
    exact ⟨by rw [hk, ← h3]; rfl, by rw [show doV c 3 a = queV c 3 a by rw [doV, if_neg (by omega), if_pos hk]]; exact putlast_any h ha (hal 1 h3) hk hB⟩
  | 3, _ =>
    have hk : c.kd = 2 := h1.symm
    obtain rfl : (2 : Int) = call := h2
    exact ⟨by rw [hk, ← h3]; rfl, by rw [show doV c 2 a = queV c 2 a by rw [doV, if_neg (by omega), if_pos hk]]; exact getfirst_any h hk ha.w64⟩
  | 4, _ =>
    have hk : c.kd = 2 := h1.symm
    obtain rfl : (5 : Int) = call := h2
    refine ⟨by rw [hk, ← h3]; rfl, ?_⟩
    rw [show doV c 5 a = queV c 5 a by rw [doV, if_neg (by omega), if_pos hk]]
    have := count_any h va
    rw [h.ok.p0 (by omega), List.length_nil, e0] at this
    exact this
  | 5, _ =>
    have hk : c.kd = 3 := h1.symm
    obtain rfl : (2 : Int) = call := h2
    exact ⟨by rw [hk, ← h3]; rfl, by rw [show doV c 2 a = dicV c 2 a by rw [doV, if_neg (by omega), if_neg (by omega), if_pos hk]]; exact getval_any h ha (hal 1 h3) hk⟩
  | 6, _ =>
    have hk : c.kd = 3 := h1.symm
    obtain rfl : (3 : Int) = call := h2
    exact ⟨by rw [hk, ← h3]; rfl, by rw [show doV c 3 a = dicV c 3 a by rw [doV, if_neg (by omega), if_neg (by omega), if_pos hk]]; exact putval_any h ha (hal 2 h3) hk hB⟩
  | 7, _ =>
    have hk : c.kd = 3 := h1.symm
    obtain rfl : (4 : Int) = call := h2
    exact ⟨by rw [hk, ← h3]; rfl, by rw [show doV c 4 a = dicV c 4 a by rw [doV, if_neg (by omega), if_neg (by omega), if_pos hk]]; exact delpair_any h ha (hal 1 h3) hk⟩
  | 8, _ =>
    have hk : c.kd = 3 := h1.symm
    obtain rfl : (5 : Int) = call := h2
    refine ⟨by rw [hk, ← h3]; rfl, ?_⟩
    rw [show doV c 5 a = dicV c 5 a by rw [doV, if_neg (by omega), if_neg (by omega), if_pos hk]]
    have := count_any h va
    rw [h.ok.v0 (by omega), List.length_nil, e1] at this
    exact this
  | 9, _ =>
    have hk : c.kd = 4 := h1.symm
    obtain rfl : (1 : Int) = call := h2
    exact ⟨by rw [hk, ← h3]; rfl, by rw [show doV c 1 a = chaV c 1 a by rw [doV, if_neg (by omega), if_neg (by omega), if_neg (by omega)]]; exact addkey_any h ha (hal 1 h3) hk hB⟩
  | 10, _ =>
    have hk : c.kd = 4 := h1.symm
    obtain rfl : (4 : Int) = call := h2
    exact ⟨by rw [hk, ← h3]; rfl, by rw [show doV c 4 a = chaV c 4 a by rw [doV, if_neg (by omega), if_neg (by omega), if_neg (by omega)]]; exact delkey_any h ha (hal 1 h3) hk⟩
  | 11, _ =>
    have hk : c.kd = 4 := h1.symm
    obtain rfl : (6 : Int) = call := h2
    exact ⟨by rw [hk, ← h3]; rfl, by rw [show doV c 6 a = chaV c 6 a by rw [doV, if_neg (by omega), if_neg (by omega), if_neg (by omega)]]; exact haskey_any h ha (hal 1 h3) hk⟩
  | 12, _ =>
    have hk : c.kd = 4 := h1.symm
    obtain rfl : (7 : Int) = call := h2
    exact ⟨by rw [hk, ← h3]; rfl, by rw [show doV c 7 a = chaV c 7 a by rw [doV, if_neg (by omega), if_neg (by omega), if_neg (by omega)]]; exact least_any h va a⟩
  | 13, _ =>
    have hk : c.kd = 4 := h1.symm
    obtain rfl : (8 : Int) = call := h2
    exact ⟨by rw [hk, ← h3]; rfl, by rw [show doV c 8 a = chaV c 8 a by rw [doV, if_neg (by omega), if_neg (by omega), if_neg (by omega)]]; exact nextk_any h ha (hal 1 h3) hk⟩
  | 14, _ =>
    have hk : c.kd = 4 := h1.symm
    obtain rfl : (5 : Int) = call := h2
    refine ⟨by rw [hk, ← h3]; rfl, ?_⟩
    rw [show doV c 5 a = chaV c 5 a by rw [doV, if_neg (by omega), if_neg (by omega), if_neg (by omega)]]
    have := count_any h va
    rw [h.ok.p0 (by omega), List.length_nil, e0] at this
    exact this
/-- Where none is hit, there is no such call. -/
theorem no_hit {kd call : Int} {n : Nat} (h : ∀ j, j < 15 → ¬ ((nthT j).1 = kd ∧ (nthT j).2.1 = call ∧ (nthT j).2.2.1 = (n : Int))) : arV kd call ≠ (n : Int) := by
  intro e
  unfold arV at e
  split at e
  · unfold ar1 at e
    split at e
    · exact h 0 (by decide) ⟨(‹kd = 1›).symm, (‹call = 1›).symm, e⟩
    · split at e
      · exact h 1 (by decide) ⟨(‹kd = 1›).symm, (‹call = 2›).symm, e⟩
      · omega
  · split at e
    · unfold ar2 at e
      split at e
      · exact h 2 (by decide) ⟨(‹kd = 2›).symm, (‹call = 3›).symm, e⟩
      · split at e
        · exact h 3 (by decide) ⟨(‹kd = 2›).symm, (‹call = 2›).symm, e⟩
        · split at e
          · exact h 4 (by decide) ⟨(‹kd = 2›).symm, (‹call = 5›).symm, e⟩
          · omega
    · split at e
      · unfold ar3 at e
        split at e
        · exact h 5 (by decide) ⟨(‹kd = 3›).symm, (‹call = 2›).symm, e⟩
        · split at e
          · exact h 6 (by decide) ⟨(‹kd = 3›).symm, (‹call = 3›).symm, e⟩
          · split at e
            · exact h 7 (by decide) ⟨(‹kd = 3›).symm, (‹call = 4›).symm, e⟩
            · split at e
              · exact h 8 (by decide) ⟨(‹kd = 3›).symm, (‹call = 5›).symm, e⟩
              · omega
      · split at e
        · unfold ar4 at e
          split at e
          · exact h 9 (by decide) ⟨(‹kd = 4›).symm, (‹call = 1›).symm, e⟩
          · split at e
            · exact h 10 (by decide) ⟨(‹kd = 4›).symm, (‹call = 4›).symm, e⟩
            · split at e
              · exact h 11 (by decide) ⟨(‹kd = 4›).symm, (‹call = 6›).symm, e⟩
              · split at e
                · exact h 12 (by decide) ⟨(‹kd = 4›).symm, (‹call = 7›).symm, e⟩
                · split at e
                  · exact h 13 (by decide) ⟨(‹kd = 4›).symm, (‹call = 8›).symm, e⟩
                  · split at e
                    · exact h 14 (by decide) ⟨(‹kd = 4›).symm, (‹call = 5›).symm, e⟩
                    · omega
        · omega
end Go.Proofs.Ytgbmnngmfcneaaa.Pl
