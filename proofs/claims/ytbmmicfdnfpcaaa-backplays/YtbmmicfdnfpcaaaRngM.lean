/- The document's words of layer 4, as plain numbers: a stamp's slot, whether it is over, laid, whether a slot is free. -/
import Derived.WalkKit
import Derived.Test.YtbmmicfdnfpcaaaMemM
namespace Go.Proofs.Ytbmmicfdnfpcaaa

def sizeOk (s : Int) : Bool := decide (1 ≤ s) && decide (s ≤ 16)
def slotV (st s : Int) : Int := if sizeOk s then st % s else 0
def laidV (h st : Int) : Bool := h / 2 == st
def overV (h st : Int) : Bool := decide (st < 1) || (decide (h / 2 > st) || laidV h st && (h % 2 == 1))
def freeV (h st s : Int) : Bool := sizeOk s && (decide (st ≤ s) || overV h (st - s))
theorem sizeOk_iff {s : Int} : sizeOk s = true ↔ 1 ≤ s ∧ s ≤ 16 := by simp [sizeOk]
theorem slotV_bd (st s : Int) (h : sizeOk s = true) : 0 ≤ slotV st s ∧ slotV st s < s := by
  have hs := sizeOk_iff.mp h
  unfold slotV
  rw [if_pos h]
  exact ⟨Int.emod_nonneg _ (by omega), Int.emod_lt_of_pos _ (by omega)⟩

/-- How far a stamp's entry has come; an entry; the entries that the ring has room for. -/
def markV (h st : Int) : Int := if overV h st then 3 else if laidV h st then 2 else 1
structure En where
  st : Int
  m : Int
  sg : Int → Int
def sgC (g : Int → Int) : Array Value := ((List.range 8).map fun (q : Nat) => Value.int .u64 (g (q : Int))).toArray
def enC (e : En) : Array Value := #[.int .i64 e.st, .int .i64 e.m, .int .u64 (e.sg 0), .int .u64 (e.sg 1), .int .u64 (e.sg 2), .int .u64 (e.sg 3), .int .u64 (e.sg 4), .int .u64 (e.sg 5), .int .u64 (e.sg 6), .int .u64 (e.sg 7)]
def sgV (f : Ad → Int) (sl : Int) : Int → Int := fun j => IntKind.u64.wrap (f ⟨3, sl, j⟩)
def headV' (f : Ad → Int) (r st : Int) : Int := f ⟨2, slotV st r, 0⟩
def entryV (f : Ad → Int) (r st : Int) : En := ⟨st, markV (headV' f r st) st, if laidV (headV' f r st) st then sgV f (slotV st r) else fun _ => 0⟩
def lastV (f : Ad → Int) : Int := max (f ⟨1, 0, 0⟩) 0
def beforeV (f : Ad → Int) (r : Int) : Int := max (lastV f - r) 0
def manyV (f : Ad → Int) (r : Int) : Nat := (lastV f - beforeV f r).toNat
def entsV (f : Ad → Int) (r : Int) : List En := (List.range (manyV f r)).map fun (i : Nat) => entryV f r (beforeV f r + 1 + i)
theorem sgC_eq (g : Int → Int) : sgC g = #[.int .u64 (g 0), .int .u64 (g 1), .int .u64 (g 2), .int .u64 (g 3), .int .u64 (g 4), .int .u64 (g 5), .int .u64 (g 6), .int .u64 (g 7)] := rfl
theorem sgC_size (g : Int → Int) : (sgC g).size = 8 := by simp [sgC]
theorem sgC_one (g : Int → Int) : (sgC g).all (·.oneCell') = true := by rw [sgC_eq]; simp [Value.oneCell']
theorem sgC_set (g : Int → Int) (j : Nat) (hj : j < 8) : (sgC fun q => if q < (j : Int) then g q else 0).setIfInBounds j (.int .u64 (g j)) = sgC fun q => if q < ((j + 1 : Nat) : Int) then g q else 0 :=
  map_set_range hj (by simp only; rw [if_pos (by omega)]) (fun q hq => by
    simp only
    by_cases h : (q : Int) < (j : Int)
    · rw [if_pos (show (q : Int) < ((j + 1 : Nat) : Int) by omega), if_pos h]
    · rw [if_neg (show ¬ (q : Int) < ((j + 1 : Nat) : Int) by omega), if_neg h])
theorem sgC_get (g : Int → Int) (j : Nat) (hj : j < 8) : (sgC g)[j]? = some (.int .u64 (g j)) := by simp [sgC, hj]
theorem sgC_all (g : Int → Int) : (sgC fun q => if q < ((8 : Nat) : Int) then g q else 0) = sgC g := rfl
theorem sgC_none (g : Int → Int) : (sgC fun q => if q < ((0 : Nat) : Int) then g q else 0) = sgC fun _ => 0 := rfl
theorem enC_size (e : En) : (enC e).size = 10 := rfl
theorem enC_one (e : En) : (enC e).all (·.oneCell') = true := by simp [enC, Value.oneCell']
theorem entsV_len (f : Ad → Int) (r : Int) : (entsV f r).length = manyV f r := by simp [entsV]
theorem manyV_le (f : Ad → Int) (r : Int) (h : 0 ≤ r) : (manyV f r : Int) ≤ r := by unfold manyV beforeV; omega
end Go.Proofs.Ytbmmicfdnfpcaaa
