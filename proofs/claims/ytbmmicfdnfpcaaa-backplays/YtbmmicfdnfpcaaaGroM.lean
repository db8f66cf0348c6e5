/- carouselgrow's ring as plain data: writes, entries, how they lie. -/
import Derived.Test.YtbmmicfdnfpcaaaSigB
namespace Go.Proofs.Ytbmmicfdnfpcaaa
open Go

structure Wt where
  c : Int
  v : Int
structure GE where
  w : List Wt
  s : List Nat
  b : Nat
structure GR where
  size : Nat
  l : List GE
  laid : Nat
  done : Nat
def noWt : Wt := ⟨0, 0⟩
def noGE : GE := ⟨[], Sg.nought, 0⟩
def wtC (W : List Wt) : List Value := W.flatMap fun x => [.int .i64 x.c, .int .i64 x.v]
theorem wtC_len (W : List Wt) : (wtC W).length = W.length * 2 := by
  induction W with
  | nil => rfl
  | cons x W ih => simp only [wtC, List.flatMap_cons, List.length_append, List.length_cons, List.length_nil] at ih ⊢; omega
theorem wtC_app (W V : List Wt) : wtC (W ++ V) = wtC W ++ wtC V := by simp [wtC]
theorem wtC_get (W : List Wt) (i : Nat) (hi : i < W.length) : (wtC W)[i * 2]? = some (.int .i64 (W.getD i noWt).c) ∧ (wtC W)[i * 2 + 1]? = some (.int .i64 (W.getD i noWt).v) := by
  induction W generalizing i with
  | nil => simp at hi
  | cons x W ih =>
    have e : wtC (x :: W) = [.int .i64 x.c, .int .i64 x.v] ++ wtC W := rfl
    rw [e]
    cases i with
    | zero => exact ⟨rfl, rfl⟩
    | succ i =>
      have := ih i (by simpa using hi)
      rw [List.getElem?_append_right (by simp; omega), List.getElem?_append_right (by simp; omega)]
      simp only [List.length_cons, List.length_nil]
      rw [show (i + 1) * 2 - (0 + 1 + 1) = i * 2 by omega, show (i + 1) * 2 + 1 - (0 + 1 + 1) = i * 2 + 1 by omega]
      exact this
/-- The cells of an entry whose writes lie behind u. -/
def geC (u : Value) (e : GE) : List Value := u :: ((Sg.sc e.s).toList ++ [.int .i64 (e.b : Int)])
theorem geC_len (u : Value) (e : GE) (h : Sg.Ok e.s) : (geC u e).length = 10 := by
  have := Sg.sc_size e.s
  have h8 := h.1
  simp [geC]
  omega
def gesC : List Value → List GE → List Value
  | u :: us, e :: l => geC u e ++ gesC us l
  | _, _ => []
theorem gesC_len : ∀ (us : List Value) (l : List GE), us.length = l.length → (∀ e ∈ l, Sg.Ok e.s) → (gesC us l).length = l.length * 10
  | [], [], _, _ => rfl
  | u :: us, e :: l, h, ho => by
    have := gesC_len us l (by simpa using h) (fun e he => ho e (by simp [he]))
    have h2 := geC_len u e (ho e (by simp))
    simp only [gesC, List.length_append, List.length_cons]
    omega
  | [], _ :: _, h, _ => by simp at h
  | _ :: _, [], h, _ => by simp at h
theorem gesC_app : ∀ (us : List Value) (l : List GE) (u : Value) (e : GE), us.length = l.length → gesC (us ++ [u]) (l ++ [e]) = gesC us l ++ geC u e
  | [], [], u, e, _ => by simp [gesC]
  | v :: us, x :: l, u, e, h => by
    have := gesC_app us l u e (by simpa using h)
    simp only [List.cons_append, gesC, this, List.append_assoc]
  | [], _ :: _, _, _, h => by simp at h
  | _ :: _, [], _, _, h => by simp at h
theorem gesC_get : ∀ (us : List Value) (l : List GE), us.length = l.length → (∀ e ∈ l, Sg.Ok e.s) → ∀ i j, i < l.length → j < 10 → (gesC us l)[i * 10 + j]? = (geC (us.getD i (.slice none 0 0)) (l.getD i noGE))[j]?
  | [], [], _, _, i, j, hi, _ => by simp at hi
  | u :: us, e :: l, h, ho, i, j, hi, hj => by
    have h2 := geC_len u e (ho e (by simp))
    simp only [gesC]
    cases i with
    | zero =>
      rw [List.getElem?_append_left (by omega)]
      simp
    | succ i =>
      rw [List.getElem?_append_right (by omega), h2, show (i + 1) * 10 + j - 10 = i * 10 + j by omega]
      simpa using gesC_get us l (by simpa using h) (fun e he => ho e (by simp [he])) i j (by simpa using hi) hj
  | [], _ :: _, h, _, _, _, _, _ => by simp at h
  | _ :: _, [], h, _, _, _, _, _ => by simp at h
/-- One more write of an entry is written back. -/
def bump (l : List GE) (i : Nat) : List GE := l.set i ⟨(l.getD i noGE).w, (l.getD i noGE).s, (l.getD i noGE).b + 1⟩
theorem geC_bump (u : Value) (e : GE) (h : Sg.Ok e.s) : (geC u e).set 9 (.int .i64 ((e.b : Int) + 1)) = geC u ⟨e.w, e.s, e.b + 1⟩ := by
  have h1 : (Sg.sc e.s).toList.length = 8 := by simp [Sg.sc_size, h.1]
  unfold geC
  rw [List.set_cons_succ, List.set_append_right _ _ (by omega), h1]
  simp
theorem gesC_bump : ∀ (us : List Value) (l : List GE), us.length = l.length → (∀ e ∈ l, Sg.Ok e.s) → ∀ i, i < l.length → (gesC us l).set (i * 10 + 9) (.int .i64 (((l.getD i noGE).b : Int) + 1)) = gesC us (bump l i)
  | [], [], _, _, i, hi => by simp at hi
  | u :: us, e :: l, h, ho, i, hi => by
    have h2 := geC_len u e (ho e (by simp))
    cases i with
    | zero =>
      have := geC_bump u e (ho e (by simp))
      simp only [gesC, bump, List.getD_cons_zero, List.set_cons_zero]
      rw [List.set_append_left _ _ (by omega)]
      simpa using this
    | succ i =>
      have := gesC_bump us l (by simpa using h) (fun e he => ho e (by simp [he])) i (by simpa using hi)
      simp only [gesC, bump, List.getD_cons_succ, List.set_cons_succ]
      rw [List.set_append_right _ _ (by omega), h2, show (i + 1) * 10 + 9 - 10 = i * 10 + 9 by omega, this]
      rfl
  | [], _ :: _, h, _, _, _ => by simp at h
  | _ :: _, [], h, _, _, _ => by simp at h
/-- What fit makes of writes. -/
def fitW (S : List Wt) (c : Int) : List Wt := (S.take 4).map fun x => ⟨x.c % c, x.v⟩
theorem fitW_len (S : List Wt) (c : Int) : (fitW S c).length ≤ 4 := by simp [fitW]; omega
/-- The signature of writes. -/
def sigW (W : List Wt) : List Nat := W.foldl (fun s x => Sg.put s (Sg.sigN x.c)) Sg.nought
end Go.Proofs.Ytbmmicfdnfpcaaa
