/- A chain in cells, as numbers: nodes, links, keys. -/
import Derived.Test.YtaffkcliepfcmaaChM
namespace Go.Proofs.Ytaffkcliepfcmaa.Ch
open Go.ChangeShapes Go.WideShapes Go.ChangeAt Go.RowKit

theorem nth_set {C : List Int} {j : Nat} {v : Int} (hj : j < C.length) (q : Nat) : nth (C.set j v) q = if q = j then v else nth C q := by
  unfold nth
  rw [List.getD_eq_getElem?_getD, List.getElem?_set, List.getD_eq_getElem?_getD]
  by_cases h : j = q
  · subst h; simp [hj]
  · rw [if_neg h, if_neg (fun e => h e.symm)]
/-- The cells of a node. -/
def ky (i : Nat) : Nat := 1 + 2 * i
def nx (i : Nat) : Nat := 2 + 2 * i
/-- The first of a row of nodes (0: there is none). -/
def hd (L : List Nat) : Int := match L with | [] => 0 | i :: _ => (i : Int)
/-- Each node's NEXT leads to the one behind it. -/
def Lk (C : List Int) : List Nat → Prop
  | [] => True
  | i :: l => nth C (nx i) = hd l ∧ Lk C l
/-- The cell of the link behind a row (from the cell 0 on). -/
def lc (L : List Nat) : Nat := match L.getLast? with | none => 0 | some i => nx i
theorem lk_congr {C C' : List Int} : ∀ {L : List Nat}, Lk C L → (∀ i ∈ L, nth C' (nx i) = nth C (nx i)) → Lk C' L
  | [], _, _ => trivial
  | i :: l, h, e => ⟨by rw [e i (by simp)]; exact h.1, lk_congr h.2 (fun j hj => e j (by simp [hj]))⟩
/-- The rows behind L1 become others. -/
theorem lk_swap {C C' : List Int} {M M' : List Nat} : ∀ {L1 : List Nat}, Lk C (L1 ++ M) → (∀ i ∈ L1.dropLast, nth C' (nx i) = nth C (nx i)) → (∀ i, L1.getLast? = some i → nth C' (nx i) = hd M') → Lk C' M' → Lk C' (L1 ++ M')
  | [], _, _, _, h => h
  | [i], _, _, hl, h => ⟨hl i rfl, h⟩
  | i :: j :: l, hk, hn, hl, h => by
    refine ⟨?_, lk_swap (L1 := j :: l) hk.2 (fun q hq => hn q (by simp [hq])) (fun q hq => hl q (by simpa using hq)) h⟩
    rw [hn i (by simp)]
    exact hk.1
theorem lk_tail {C : List Int} {M : List Nat} : ∀ {L1 : List Nat}, Lk C (L1 ++ M) → Lk C M
  | [], h => h
  | _ :: _, h => lk_tail h.2
theorem lk_last {C : List Int} {M : List Nat} : ∀ {L1 : List Nat} {i : Nat}, Lk C (L1 ++ M) → L1.getLast? = some i → nth C (nx i) = hd M
  | [], _, _, e => by simp at e
  | [j], i, h, e => by
    simp at e
    subst e
    exact h.1
  | _ :: j :: l, i, h, e => lk_last (L1 := j :: l) h.2 (by simpa using e)
/-- The keys of nodes. -/
def kys (C : List Int) (L : List Nat) : List Int := L.map (fun i => nth C (ky i))
/-- The cells say a chain: L its nodes, Fr the free ones. -/
structure CInv (n : Nat) (C : List Int) (L Fr : List Nat) : Prop where
  len : C.length = 2 * n + 3
  head : nth C 0 = hd L
  free : nth C 1 = hd Fr
  lk : Lk C L
  fk : Lk C Fr
  used : ∃ u : Nat, nth C 2 = u ∧ u ≤ n ∧ (L ++ Fr).length = u ∧ (L ++ Fr).Nodup ∧ ∀ i ∈ L ++ Fr, 1 ≤ i ∧ i ≤ u
  rise : (kys C L).Pairwise (· < ·)
theorem CInv.node {n : Nat} {C : List Int} {L Fr : List Nat} (h : CInv n C L Fr) : ∀ i ∈ L ++ Fr, 1 ≤ i ∧ i ≤ n := by
  obtain ⟨u, _, h2, _, _, h5⟩ := h.used
  intro i hi
  have := h5 i hi
  omega
theorem CInv.most {n : Nat} {C : List Int} {L Fr : List Nat} (h : CInv n C L Fr) : L.length ≤ n := by
  obtain ⟨u, _, h2, h3, _, _⟩ := h.used
  rw [List.length_append] at h3
  omega
theorem lead_node {n i : Nat} (h : 1 ≤ i ∧ i ≤ n) : leadV (i : Int) (n : Int) = i := by
  unfold leadV
  rw [if_neg (by omega)]
theorem lead_0 (n : Int) : leadV 0 n = 0 := by unfold leadV; rw [if_pos (by omega)]
theorem key_nat (i : Nat) : (keyV (i : Int)).toNat = ky i := by unfold keyV ky; omega
theorem nxt_nat (i : Nat) : (nxtV (i : Int)).toNat = nx i := by unfold nxtV keyV nx; omega
theorem nxt_int (i : Nat) : nxtV (i : Int) = ((nx i : Nat) : Int) := by unfold nxtV keyV nx; omega
theorem key_int (i : Nat) : keyV (i : Int) = ((ky i : Nat) : Int) := by unfold keyV ky; omega
end Go.Proofs.Ytaffkcliepfcmaa.Ch
