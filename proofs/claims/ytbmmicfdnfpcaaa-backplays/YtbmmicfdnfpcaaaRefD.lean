/- The document's Log, and when two lists of accesses are the same. -/
import Derived.Test.YtbmmicfdnfpcaaaRefC
namespace Go.Proofs.Ytbmmicfdnfpcaaa
open Go.ChangeShapes Go.WideShapes Go.ChangeAt Go.RowKit

theorem cut_next {L : List Ac} {k q : Nat} (hq : q < L.length) (h : k ≤ q) : (L.take (q + 1)).drop k = (L.take q).drop k ++ [L[q]] := by
  rw [take_snoc L q hq, List.drop_append_of_le_length (by rw [List.length_take]; omega)]
theorem cut_none {L : List Ac} {k q : Nat} (h : q < k) : (L.take (q + 1)).drop k = [] ∧ (L.take q).drop k = [] :=
  ⟨List.drop_eq_nil_of_le (by rw [List.length_take]; omega), List.drop_eq_nil_of_le (by rw [List.length_take]; omega)⟩

/-- A list of accesses lies behind a slice. -/
def LLst (w : World) (v : Value) (L : List Ac) : Prop := ∃ a cap, v = .slice a L.length cap ∧ L.length ≤ 3298534883328 ∧ (L = [] ∨ ∃ x, a = some x ∧ ∀ i, (h : i < L.length) → Row8 w (x.add (i * 8)) (acC L[i]))
theorem own_llst {w : World} {base : Nat} {v : Value} {L : List Ac} (h : w.ownsRow base 92 8 v L.length (logC L)) (hL : L.length ≤ 3298534883328) : LLst w v L := by
  by_cases h0 : L = []
  · obtain ⟨a, cap, rfl⟩ := own_slice h
    exact ⟨a, cap, rfl, hL, Or.inl h0⟩
  · obtain ⟨g, cap, rfl, _, _⟩ := h.form (List.length_pos_iff.2 h0)
    refine ⟨_, _, rfl, hL, Or.inr ⟨_, rfl, fun i hi => ?_⟩⟩
    have e : (⟨g, 0, none⟩ : Addr).add (i * 8) = ⟨g, i * 8, none⟩ := by unfold Addr.add; split <;> simp_all
    rw [e]
    exact own_row8 h i hi

/-- Two lists that are the same are found the same. -/
theorem accesses_same (w : World) (v u : Value) (L : List Ac) (hv : LLst w v L) (hu : LLst w u L) :
    Calls Try.prog 20 #[v, u] w fun e w' => e = .returned (.bool true) ∧ ∃ n, w' = w.drewN n := by
  obtain ⟨a, ca, rfl, hbig, hl⟩ := hv
  obtain ⟨b, cb, rfl, hbig2, hm⟩ := hu
  clear hbig2
  have HX : Hid (∀ i, (h : i < L.length) → ∃ x y, a = some x ∧ b = some y ∧ Row8 w (x.add (i * 8)) (acC L[i]) ∧ Row8 w (y.add (i * 8)) (acC L[i])) := fun i hi => by
    rcases hl with rfl | ⟨x, hx, hcx⟩
    · simp at hi
    · rcases hm with rfl | ⟨y, hy, hcy⟩
      · simp at hi
      · exact ⟨x, y, hx, hy, hcx i hi, hcy i hi⟩
  clear hl hm
  obtain ⟨n, hn⟩ : ∃ n, L.length = n := ⟨_, rfl⟩
  have HLN : Hid (L.length = n) := hn
  rw [hn] at hbig ⊢
  clear hn
  have hne : ((n : Int) != (n : Int)) = false := by simp
  go_enter Try.func20, Try.ntmps20
  go_wp2
  go_loopw [5] (fun i wr => ∃ j : Nat, j ≤ n ∧ i = .int .i64 j ∧ ∃ q, wr = w.drewN q) (fun i _ => n - (intOf i).toNat)
  case atStart => exact ⟨0, Nat.zero_le _, rfl, 0, rfl⟩
  case round =>
    obtain ⟨j, hj, rfl, hwr⟩ := hrel
    have HW : Hid (∃ q, wr = w.drewN q) := hwr
    clear hwr
    by_cases hlt : j < n
    · have hjL : j < L.length := by rw [HLN.out]; exact hlt
      obtain ⟨x, y, rfl, rfl, hrx, hry⟩ := HX.out j hjL
      have hrx' : Row8 wr (x.add (j * 8)) (acC L[j]) := by obtain ⟨q, rfl⟩ := HW.out; exact hrx
      have hry' : Row8 wr (y.add (j * 8)) (acC L[j]) := by obtain ⟨q, rfl⟩ := HW.out; exact hry
      clear hrx hry
      have hx1 : (j : Int) < (n : Int) := by omega
      have hd : decide ((j : Int) < (n : Int)) = true := by simp; omega
      generalize L[j] = z at *
      obtain ⟨yt, yk, ⟨ya, yb, yc⟩, yo, yv, yy⟩ := z
      obtain ⟨d0, d1, d2, d3, d4, d5, d6, d7⟩ := row8_cells hrx' rfl
      obtain ⟨e0, e1, e2, e3, e4, e5, e6, e7⟩ := row8_cells hry' rfl
      simp only [acC, List.getElem_toArray, List.getElem_cons_zero, List.getElem_cons_succ] at d0 d1 d2 d3 d4 d5 d6 d7 e0 e1 e2 e3 e4 e5 e6 e7
      clear hrx' hry'
      go_wp2
      go_quiet (fail)
      go_wp2
      go_roundw
      case rel => exact ⟨j + 1, by omega, by go_num, by obtain ⟨q, rfl⟩ := HW.out; exact ⟨_, World.drewN_drewN _ _ _⟩⟩
      case measure => simp [intOf]; omega
    · obtain rfl : j = n := by omega
      go_wp2
      go_ret
      exact ⟨rfl, HW.out⟩
end Go.Proofs.Ytbmmicfdnfpcaaa
