/- Texts of programs as plain data: names, numbers, words, tokens, lines. -/
import Derived.Test.YtbjopdmchmekpaaDoorAsM
import Derived.Lib.ParseIntB
namespace Go.Proofs.YtbjopdmchmekpaaDoor

def isB (b : UInt8) : Bool := b == 32 || b == 9
def isDg (b : UInt8) : Bool := decide (48 ≤ b.toNat) && decide (b.toNat ≤ 57)
def isLt (b : UInt8) : Bool := decide (97 ≤ b.toNat) && decide (b.toNat ≤ 122) || decide (65 ≤ b.toNat) && decide (b.toNat ≤ 90) || b == 95
def nameV (t : List UInt8) : Bool := match t with
  | [] => false
  | a :: r => decide (r.length ≤ 15) && !isDg a && (a :: r).all fun b => isLt b || isDg b
def numV (t : List UInt8) : Option Int := match Lib.parseIntB 64 t with
  | .ok v => if Lib.itoa v = t then some v else none
  | _ => none
def wordI (t : List UInt8) : Option Nat := wordT.findIdx? (· == t)
def ldC (c : Nat) : Bool := decide (c = 24 ∨ c = 25 ∨ c = 26)

def nB (b : UInt8) : Bool := !isB b
/-- The tokens of a line's text that stands at a place. -/
def tokV (l : List UInt8) (p : Nat) : List (List UInt8 × Nat) :=
  match h : l.dropWhile isB with
  | [] => []
  | a :: r => (a :: r.takeWhile nB, p + (l.takeWhile isB).length) :: tokV (r.dropWhile nB) (p + (l.takeWhile isB).length + (1 + (r.takeWhile nB).length))
termination_by l.length
decreasing_by
  have h1 : (l.dropWhile isB).length ≤ l.length := (List.dropWhile_sublist _).length_le
  have h2 : (r.dropWhile nB).length ≤ r.length := (List.dropWhile_sublist _).length_le
  rw [h] at h1
  simp only [List.length_cons] at h1
  omega
theorem tokV_nil {l : List UInt8} (p : Nat) (h : l.dropWhile isB = []) : tokV l p = [] := by
  rw [tokV]
  split
  · rfl
  · rename_i a r e
    rw [h] at e
    cases e
theorem tokV_cons {l : List UInt8} {a : UInt8} {r : List UInt8} (p : Nat) (h : l.dropWhile isB = a :: r) : tokV l p = (a :: r.takeWhile nB, p + (l.takeWhile isB).length) :: tokV (r.dropWhile nB) (p + (l.takeWhile isB).length + (1 + (r.takeWhile nB).length)) := by
  rw [tokV]
  split
  · rename_i e
    rw [h] at e
    cases e
  · rename_i a' r' e
    rw [h] at e
    obtain ⟨rfl, rfl⟩ := List.cons.inj e
    rfl

/-! ### reading a text -/
/-- What was read: instructions, operands that name labels (of which instruction, the name, its place, the place behind), how many bytes, labels. -/
structure PS where
  ops : List (Int × Int)
  us : List (Nat × List UInt8 × Nat × Nat)
  size : Nat
  labs : List (List UInt8 × Nat)
def lab (L : List (List UInt8 × Nat)) (n : List UInt8) : Option Nat := (L.find? fun x => x.1 == n).map (·.2)
theorem lab_app (L : List (List UInt8 × Nat)) (n m : List UInt8) (k : Nat) : lab (L ++ [(n, k)]) m = (lab L m).or (if n == m then some k else none) := by
  unfold lab
  rw [List.find?_append]
  cases L.find? fun x => x.1 == m with
  | some x => simp
  | none => by_cases h : n == m <;> simp [h]
/-- An operand that names a label. -/
def nuse (i b : Nat) : Option (List UInt8 × Nat) → List (Nat × List UInt8 × Nat × Nat)
  | some (n, q) => [(i, n, q, b)]
  | none => []
def addI (st : PS) (c : Nat) (v : Int) (nm : Option (List UInt8 × Nat)) : PS :=
  ⟨st.ops ++ [((c : Int), v)], st.us ++ nuse st.ops.length (st.size + (1 + wdC c)) nm, st.size + (1 + wdC c), st.labs⟩
/-- An instruction whose operand is read. -/
def moreV (st : PS) (p c : Nat) (v : Int) (nm : Option (List UInt8 × Nat)) : List (List UInt8 × Nat) → Except (Int × Nat) PS
  | (_, q) :: _ => .error (9, q)
  | [] => if 512 < st.size + (1 + wdC c) then .error (2, p) else .ok (addI st c v nm)
def instV (st : PS) : List (List UInt8 × Nat) → Except (Int × Nat) PS
  | [] => .ok st
  | (x, p) :: r => match wordI x with
    | none => .error (9, p)
    | some c => if wdC c = 0 then moreV st p c 0 none r else match r with
      | [] => .error (9, p + x.length)
      | (y, q) :: r2 => if ldC c && nameV y then moreV st p c 0 (some (y, q)) r2 else match numV y with
        | none => .error (9, q)
        | some v => if loC c ≤ v ∧ v ≤ hiC c then moreV st p c v none r2 else .error (12, q)
def lineV (st : PS) (t : List (List UInt8 × Nat)) : Except (Int × Nat) PS := match t with
  | [] => .ok st
  | (x, p) :: r => if x.getLast? = some 58 then
      if nameV x.dropLast then (if lab st.labs x.dropLast = none then instV { st with labs := st.labs ++ [(x.dropLast, st.size)] } r else .error (11, p)) else .error (9, p)
    else instV st t
/-- The lines of a text from a place on. -/
def linesV (st : PS) : Nat → List UInt8 → Nat → Except (Int × Nat) PS
  | 0, _, _ => .ok st
  | k + 1, l, p => match lineV st (tokV ((l.takeWhile (· != 10)).takeWhile (· != 35)) p) with
    | .error e => .error e
    | .ok st' => match l.dropWhile (· != 10) with
      | [] => .ok st'
      | _ :: t => linesV st' k t (p + (l.takeWhile (· != 10)).length + 1)
/-- Numbers for names. -/
def resU (L : List (List UInt8 × Nat)) : List (Nat × List UInt8 × Nat × Nat) → List (Int × Int) → Except (Int × Nat) (List (Int × Int))
  | [], l => .ok l
  | (i, n, q, b) :: us, l => match lab L n with
    | none => .error (11, q)
    | some k => resU L us (l.set i (((l.getD i (0, 0)).1), if (l.getD i (0, 0)).1 = 26 then (k : Int) else (k : Int) - (b : Int)))
def parV (l : List UInt8) : Except (Int × Nat) (List (Int × Int)) := match linesV ⟨[], [], 0, []⟩ (l.length + 1) l 0 with
  | .error e => .error e
  | .ok st => resU st.labs st.us st.ops
def ansP : Except (Int × Nat) (List (Int × Int)) → List Int × Int × Int
  | .error (e, p) => ([], e, p)
  | .ok l => (allB l, 0, 0)
end Go.Proofs.YtbjopdmchmekpaaDoor
