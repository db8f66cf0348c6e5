/- A call of a row of counters (layer 15) as plain data: how it goes on, what the document says of it, and that both are the same. -/
import Derived.Test.YthnegagpmkblfaaGreatDoorJCoMPgR
namespace Go.Proofs.YthnegagpmkblfaaGreatDoor.Tl.Ct
open Go.ChangeShapes Go.WideShapes Go.ChangeAt Go.RowKit

/-- How many arguments a call has; -1: it is none. -/
def arV (call : Int) : Int := if call = 1 then 2 else if call = 2 then 1 else -1
def rightV (base most call : Int) (n : Nat) : Bool := takesV base most (arV call) n
structure Mc where
  first : Wn
  told : Wn
  writes : Bool
  by_ : Int
end Go.Proofs.YthnegagpmkblfaaGreatDoor.Tl.Ct
/- A call of a queue (layer 16) as plain data: how it goes on, what the document says of it, and that both are the same. -/
namespace Go.Proofs.YthnegagpmkblfaaGreatDoor.Tl.Qu
open Go.ChangeShapes Go.WideShapes Go.ChangeAt Go.RowKit

/-- How many arguments a call has; -1: it is none. -/
def arV (call : Int) : Int := if call = 3 then 1 else if call = 2 then 0 else if call = 5 then 0 else -1
def rightV (base most call : Int) (n : Nat) : Bool := takesV base most (arV call) n
/-- A word without its sign. -/
def uW (z : Int) : Int := z % 18446744073709551616
/-- The slot behind FIRST by k. -/
def behV (f k n : Int) : Int := (uW f % n + uW k % n) % n
structure Mc where
  base : Int
  most : Int
  call : Int
  told : Int
  last : Wn
  first : Int
  len : Int
  val : Int
def getT (m : Mc) : Wn := if m.len = 0 ∨ m.most = 0 then endW 0 1 else if m.told = 2 then readW (m.base + (2 + behV m.first 0 m.most)) else if m.told = 3 then putW m.base (behV m.first 1 m.most) else if m.told = 4 then putW (m.base + 1) (wrap64 (m.len - 1)) else endW m.val 0
end Go.Proofs.YthnegagpmkblfaaGreatDoor.Tl.Qu
/- A call of a dict (layer 17) as plain data: how it goes on, what the document says of it, and that both are the same. -/
namespace Go.Proofs.YthnegagpmkblfaaGreatDoor.Tl.Di
open Go.ChangeShapes Go.WideShapes Go.ChangeAt Go.RowKit

/-- How many arguments a call has; -1: it is none. -/
def arV (call : Int) : Int := if call = 3 then 2 else if call = 2 then 1 else if call = 4 then 1 else if call = 5 then 0 else -1
def rightV (base most call : Int) (n : Nat) : Bool := takesV base most (arV call) n
/-- A word without its sign. -/
def uW (z : Int) : Int := z % 18446744073709551616
/-- A look for a key under way. -/
structure Se where
  key : Int
  most : Int
  left : Int
  slot : Int
  asked : Int
  free : Int
  found : Int
def nxtV (n i : Int) : Int := if i + 1 = n then 0 else i + 1
def walkS (s : Se) : Se := { s with slot := nxtV s.most s.slot, asked := 0, left := s.left - 1 }
def freeS (s : Se) : Se := if s.free = -1 then { s with free := s.slot } else s
def askS (s : Se) : Se × Int × Bool := if 0 < s.left then ({ s with asked := 1 }, 1 + 3 * s.slot, true) else ({ s with left := 0 }, 0, false)
/-- It goes on by a word: the cell that is read next, or none. -/
def goS (s : Se) (v : Int) : Se × Int × Bool :=
  if 0 < s.left then
    (if s.asked = 0 then ({ s with asked := 1 }, 1 + 3 * s.slot, true)
    else if s.asked = 1 then (if v = 1 then ({ s with asked := 2 }, 2 + 3 * s.slot, true) else if v = 0 then ({ freeS s with left := 0 }, 0, false) else askS (walkS (freeS s)))
    else if v = s.key then ({ s with found := s.slot, left := 0 }, 0, false) else askS (walkS s))
  else ({ s with left := 0 }, 0, false)
structure OkS (s : Se) : Prop where
  l : 0 ≤ s.left ∧ s.left ≤ 16
  st : 0 ≤ s.slot ∧ s.slot ≤ 16
  ls : 0 < s.left → s.slot < s.most
  m : 0 ≤ s.most ∧ s.most ≤ 16
  a : s.asked = 0 ∨ s.asked = 1 ∨ s.asked = 2
  f : -1 ≤ s.free ∧ s.free ≤ 15
  d : -1 ≤ s.found ∧ s.found ≤ 15
structure Mc where
  base : Int
  most : Int
  call : Int
  se : Se
  told : Int
  last : Wn
  val : Int
  cnt : Int
def clV (s p : Int) : Int := 1 + 3 * s + p
def getT (m : Mc) (v : Int) : Wn := if m.se.found = -1 then endW 0 1 else if m.told = 1 then readW (m.base + clV m.se.found 2) else endW v 0
def chgT (m : Mc) : Wn := if m.told = 1 then putW (m.base + clV m.se.found 2) m.val else endW 0 0
def putS (m : Mc) (v : Int) : Mc × Wn :=
  if m.se.found = -1 then
    (if m.told = 1 then (m, readW (m.base + 0))
    else if m.told = 2 then (if m.most ≤ v ∨ m.se.free = -1 then (m, endW 0 2) else ({ m with cnt := v }, putW (m.base + clV m.se.free 0) 1))
    else if m.told = 3 then (m, putW (m.base + clV m.se.free 1) m.se.key)
    else if m.told = 4 then (m, putW (m.base + clV m.se.free 2) m.val)
    else if m.told = 5 then (m, putW (m.base + 0) (wrap64 (m.cnt + 1))) else (m, endW 0 0))
  else (m, chgT m)
def delT (m : Mc) (v : Int) : Wn := if m.se.found = -1 then endW 0 1 else if m.told = 1 then putW (m.base + clV m.se.found 0) 2 else if m.told = 2 then readW (m.base + 0) else if m.told = 3 then putW (m.base + 0) (wrap64 (v - 1)) else endW 0 0
def lenT (m : Mc) (v : Int) : Wn := if m.told = 1 then readW (m.base + 0) else endW v 0
/-- Behind the look. -/
def afterM (m : Mc) (v : Int) : Mc × Wn := if m.call = 2 then (m, getT m v) else if m.call = 3 then putS m v else if m.call = 4 then (m, delT m v) else (m, lenT m v)
def stepM (m : Mc) (v : Int) : Mc × Wn :=
  if (goS m.se v).2.2 = true then ({ m with se := (goS m.se v).1 }, readW (m.base + (goS m.se v).2.1))
  else afterM { m with se := (goS m.se v).1, told := m.told + 1 } v
/-! ### the document's -/
/-! ### the look, and the document's -/
end Go.Proofs.YthnegagpmkblfaaGreatDoor.Tl.Di
/- A call of a chain (layer 18) as plain data: a tree of wants; and that it wants what the document says. -/
namespace Go.Proofs.YthnegagpmkblfaaGreatDoor.Tl.Ch
open Go.ChangeShapes Go.WideShapes Go.ChangeAt Go.RowKit

/-- How many arguments a call has; -1: it is none. -/
def arV (call : Int) : Int := if call = 1 then 1 else if call = 4 then 1 else if call = 6 then 1 else if call = 8 then 1 else if call = 7 then 0 else if call = 5 then 0 else -1
def rightV (base most call : Int) (n : Nat) : Bool := takesV base most (arV call) n
/-- A call: a want, and what comes behind it, by what was read. -/
inductive T where
  | fin (x : Wn) : T
  | on (x : Wn) (g : Int → T) : T
/-- Where a way ended. -/
structure Wy where
  cell : Int
  link : Int
  stop : Bool
  node : Int
  key : Int
def keyV (i : Int) : Int := 1 + 2 * i
def nxtV (i : Int) : Int := keyV i + 1
/-! ### the document's -/
inductive Gx where
  | more (c : Int) : Gx
  | over (w : Wy) (r : List Int) : Gx
def behV (b : Int) (E : Wy → List Int → Int → Wn) (x : Gx) (wr : Int) : Wn :=
  match x with
  | .more c => readW (b + c)
  | .over w r => E w r wr
/-! ### both are the same -/
/-- A tree wants what is asked for (D: by what is read from here on, and how many writes are told), its cells are its own, and it ends in time. -/
def Ok (b s : Int) : T → Nat → (List Int → Int → Wn) → Prop
  | .fin x, _, D => x = D [] 0 ∧ x.kind = 6 ∧ x.cell = 0 ∧ (x.code = 0 ∨ x.val = 0)
  | .on x g, n, D => x = D [] 0 ∧ 1 ≤ n ∧ (b ≤ x.cell ∧ x.cell < b + s) ∧ ((x.kind = 2 ∧ ∀ v, Sx v → Ok b s (g v) (n - 1) (fun R k => D (v :: R) k)) ∨ (x.kind = 3 ∧ ∀ v, Ok b s (g v) (n - 1) (fun R k => D R (k + 1))))
theorem Ok.congr {b s : Int} {t : T} {n : Nat} {D D' : List Int → Int → Wn} (h : Ok b s t n D) (e : ∀ R k, 0 ≤ k → D R k = D' R k) : Ok b s t n D' := by
  induction t generalizing n D D' with
  | fin x =>
    obtain ⟨h1, h2⟩ := h
    exact ⟨by rw [h1, e _ _ (by omega)], h2⟩
  | on x g ih =>
    obtain ⟨h1, h2, h3, h4⟩ := h
    refine ⟨by rw [h1, e _ _ (by omega)], h2, h3, ?_⟩
    rcases h4 with ⟨h4, h5⟩ | ⟨h4, h5⟩
    · exact Or.inl ⟨h4, fun v hv => ih v (h5 v hv) (fun R k hk => e _ _ hk)⟩
    · exact Or.inr ⟨h4, fun v => ih v (h5 v) (fun R k hk => e _ _ (by omega))⟩
/-! ### the machine -/
/-- A call under way: what it told last, what comes next, and (of no weight) how many wants it may still tell. -/
structure Mc where
  last : Wn
  g : Option (Int → T)
  n : Nat
end Go.Proofs.YthnegagpmkblfaaGreatDoor.Tl.Ch
