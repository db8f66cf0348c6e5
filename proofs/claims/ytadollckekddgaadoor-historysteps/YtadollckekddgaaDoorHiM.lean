/- Histories (layer 23) as plain data: events, transactions, what an event makes of all. -/
import Derived.Test.YtadollckekddgaaDoorBlk
namespace Go.Proofs.YtadollckekddgaaDoor.Hi
set_option linter.unusedVariables false

/-- An event. -/
structure Ev where
  at_ : Int
  th : Int
  tx : Int
  kd : Int
  cl : Int
  vl : Int
  ow : Bool
  sr : Int
  sn : Int
  sp : Int
  sg : Nat → Int
  er : Int
/-- An access. -/
structure Ac where
  cell : Int
  val : Int
  wr : Bool
  deriving DecidableEq
/-- A transaction, as the program holds it. -/
structure Tr where
  th : Int
  bg : Int
  en : Int
  st : Int
  sn : Int
  er : Int
  sg : Int
  ac : List Ac
  deriving DecidableEq
/-- All of them, as far as a list was gone through. -/
structure Pa where
  at_ : Int
  txs : List Tr
  pub : List Nat
  co : Int
  deriving DecidableEq
def tr0 : Tr := ⟨0, 0, 0, 0, 0, 0, 0, []⟩
def nt (l : List Tr) (i : Nat) : Tr := l.getD i tr0
theorem nt_get {l : List Tr} {i : Nat} (h : i < l.length) : l[i] = nt l i := by simp [nt, h]
theorem nt_set {l : List Tr} {i j : Nat} {t : Tr} (h : i < l.length) : nt (l.set i t) j = if j = i then t else nt l j := by
  unfold nt
  simp only [List.getD_eq_getElem?_getD, List.getElem?_set]
  by_cases e : i = j
  · subst e; simp [h]
  · rw [if_neg e, if_neg (fun e' => e e'.symm)]
theorem nt_snoc {l : List Tr} {j : Nat} {t : Tr} (h : j ≤ l.length) : nt (l ++ [t]) j = if j = l.length then t else nt l j := by
  unfold nt
  simp only [List.getD_eq_getElem?_getD]
  by_cases e : j = l.length
  · subst e; simp
  · rw [if_neg e, List.getElem?_append_left (by omega)]
def Pa.upd (p : Pa) (i : Nat) (t : Tr) : Pa := { p with txs := p.txs.set i t }

def beginD (x : Tr) (e : Ev) : Option Tr := if x.sg = 0 then some { x with sg := 1, sn := e.sn } else none
def touchD (x : Tr) (e : Ev) : Option Tr := if x.sg = 1 ∧ 0 ≤ e.cl ∧ e.cl < 1024 then some { x with sn := if e.kd = 3 then x.sn else max x.sn e.sn, ac := x.ac ++ [⟨e.cl, e.vl, decide (e.kd = 3)⟩] } else none
def endD (x : Tr) (e : Ev) : Option Tr := if x.sg = 1 then some { x with sg := 3, en := e.at_, er := e.er } else none
def openD (p : Pa) (e : Ev) : Option Pa := if e.tx = p.txs.length then some { p with txs := p.txs ++ [⟨e.th, e.at_, -1, 0, p.pub.length, 0, 0, []⟩] } else none
def publishD (p : Pa) (i : Nat) (e : Ev) : Option Pa :=
  if (nt p.txs i).sg = 1 ∧ e.sp = (p.pub.length : Int) + 1 then some { p with txs := p.txs.set i { nt p.txs i with sg := 2, en := e.at_, st := e.sp, sn := e.sp - 1 }, pub := p.pub ++ [i] } else none
def finishD (p : Pa) (i : Nat) (e : Ev) : Option Pa :=
  if (nt p.txs i).sg = 2 ∧ e.sp = (nt p.txs i).st ∧ e.sp = p.co + 1 then some { p with txs := p.txs.set i { nt p.txs i with sg := 3 }, co := p.co + 1 } else none
/-- An event of a transaction that is there. -/
def kindD (p : Pa) (i : Nat) (e : Ev) : Option Pa :=
  if e.kd = 1 then (beginD (nt p.txs i) e).map (p.upd i)
  else if e.kd = 2 ∨ e.kd = 3 then (touchD (nt p.txs i) e).map (p.upd i)
  else if e.kd = 4 then publishD p i e
  else if e.kd = 5 then finishD p i e
  else if e.kd = 6 then (endD (nt p.txs i) e).map (p.upd i)
  else none
def takeD (p : Pa) (e : Ev) : Option Pa :=
  if e.at_ < p.at_ then none
  else if e.kd = 7 then openD { p with at_ := e.at_ } e
  else if e.tx < 0 ∨ (p.txs.length : Int) ≤ e.tx then none
  else if e.th ≠ (nt p.txs e.tx.toNat).th then none
  else kindD { p with at_ := e.at_ } e.tx.toNat e
def pa0 : Pa := ⟨0, [], [], 0⟩
def readD (H : List Ev) : Option Pa := H.foldl (fun o e => o.bind (takeD · e)) (some pa0)
theorem readD_snoc (H : List Ev) (e : Ev) : readD (H ++ [e]) = (readD H).bind (takeD · e) := by simp [readD]
theorem foldl_none (H : List Ev) : H.foldl (fun o e => o.bind (takeD · e)) none = none := by
  induction H with
  | nil => rfl
  | cons e l ih => simpa using ih
theorem readD_none {H : List Ev} (R : List Ev) (h : readD H = none) : readD (H ++ R) = none := by
  unfold readD at h ⊢
  rw [List.foldl_append, h, foldl_none]
/-- How many of the first events are a history. -/
def goodFrom (p : Pa) : List Ev → Nat
  | [] => 0
  | e :: l => match takeD p e with
    | none => 0
    | some q => goodFrom q l + 1
def good (H : List Ev) : Nat := goodFrom pa0 H
def ev0 : Ev := ⟨0, 0, 0, 0, 0, 0, false, 0, 0, 0, fun _ => 0, 0⟩
def ne (H : List Ev) (i : Nat) : Ev := H.getD i ev0
theorem ne_get {H : List Ev} {i : Nat} (h : i < H.length) : H[i] = ne H i := by simp [ne, h]
theorem take_ne {H : List Ev} {j : Nat} (h : j < H.length) : H.take (j + 1) = H.take j ++ [ne H j] := by
  rw [List.take_add_one]
  simp [ne, h]
theorem read_step {H : List Ev} {j : Nat} {p : Pa} (h : j < H.length) (hp : readD (H.take j) = some p) : readD (H.take (j + 1)) = takeD p (ne H j) := by
  rw [take_ne h, readD_snoc, hp]; rfl
theorem goodFrom_le (p : Pa) (l : List Ev) : goodFrom p l ≤ l.length := by
  induction l generalizing p with
  | nil => simp [goodFrom]
  | cons e l ih =>
    unfold goodFrom
    split
    · omega
    · rename_i q _
      have := ih q
      simp
      omega
theorem good_le (H : List Ev) : good H ≤ H.length := goodFrom_le _ _
theorem goodFrom_fold (p : Pa) (l : List Ev) : ∀ j, j ≤ l.length → ((l.take j).foldl (fun o e => o.bind (takeD · e)) (some p) ≠ none ↔ j ≤ goodFrom p l) := by
  induction l generalizing p with
  | nil => intro j hj; simp [goodFrom]; simpa using hj
  | cons e l ih =>
    intro j hj
    cases j with
    | zero => simp
    | succ j =>
      unfold goodFrom
      simp only [List.take_succ_cons, List.foldl_cons, Option.bind_some]
      cases hq : takeD p e with
      | none => simp only [foldl_none]; simp
      | some q =>
        have := ih q j (by simpa using hj)
        exact this.trans (by show j ≤ goodFrom q l ↔ j + 1 ≤ goodFrom q l + 1; omega)
theorem good_iff {H : List Ev} {j : Nat} (h : j ≤ H.length) : readD (H.take j) ≠ none ↔ j ≤ good H := goodFrom_fold _ _ j h
/-- The place of the first event that may not come, met in the walk. -/
theorem good_at {H : List Ev} {j : Nat} {p : Pa} (h : j < H.length) (hp : readD (H.take j) = some p) (hn : takeD p (ne H j) = none) : good H = j := by
  have h1 : j ≤ good H := (good_iff (by omega)).1 (by rw [hp]; simp)
  have h2 : ¬ j + 1 ≤ good H := fun hc => (good_iff (by omega)).2 hc (by rw [read_step h hp, hn])
  omega
theorem read_bad {H : List Ev} {j : Nat} {p : Pa} (h : j < H.length) (hp : readD (H.take j) = some p) (hn : takeD p (ne H j) = none) : readD H = none := by
  have := readD_none (H.drop (j + 1)) (by rw [read_step h hp, hn])
  rwa [List.take_append_drop] at this

/-! ### orders -/
def okOrd (m : Nat) (o : List Int) : Bool := decide (o.length = m) && o.all (fun x => decide (0 ≤ x) && decide (x < (m : Int))) && decide o.Nodup
/-- The last write of a cell. -/
def lastW (l : List Ac) (c : Int) : Option Int := l.foldl (fun o a => if a.wr = true ∧ a.cell = c then some a.val else o) none
theorem lastW_snoc (l : List Ac) (a : Ac) (c : Int) : lastW (l ++ [a]) c = if a.wr = true ∧ a.cell = c then some a.val else lastW l c := by simp [lastW]
/-- What a transaction leaves of the cells. -/
def leaveD (x : Tr) (m : Int → Int) : Int → Int := fun c => if x.st = 0 then m c else (lastW x.ac c).getD (m c)
def agreesFrom (m : Int → Int) (own : List Ac) : List Ac → Bool
  | [] => true
  | a :: l => (a.wr || a.val == (lastW own a.cell).getD (m a.cell)) && agreesFrom m (own ++ [a]) l
def agreesD (m : Int → Int) (x : Tr) : Bool := agreesFrom m [] x.ac
def legalFrom (m : Int → Int) : List Tr → Bool
  | [] => true
  | x :: l => agreesD m x && legalFrom (leaveD x m) l
def legalD (l : List Tr) : Bool := legalFrom (fun _ => 0) l
def finalD (l : List Tr) : Int → Int := l.foldl (fun m x => leaveD x m) (fun _ => 0)
/-- From the back: the least moment at which one behind was done. -/
def timBack : List Tr → Int × Bool
  | [] => (9223372036854775807, true)
  | x :: l => let r := timBack l; if r.2 = false ∨ r.1 < x.bg then (r.1, false) else (if 0 ≤ x.en then min r.1 x.en else r.1, true)
def timelyD (l : List Tr) : Bool := (timBack l).2
def pick (l : List Tr) (o : List Int) : List Tr := o.map fun i => nt l i.toNat
end Go.Proofs.YtadollckekddgaaDoor.Hi
