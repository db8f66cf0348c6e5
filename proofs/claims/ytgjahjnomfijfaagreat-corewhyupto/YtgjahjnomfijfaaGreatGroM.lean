/- carouselgrow's ring as plain data: writes, entries, how they lie. -/
import Derived.Test.YtgjahjnomfijfaaGreatSigB
namespace Go.Proofs.YtgjahjnomfijfaaGreat
open Go
structure Wt where
 c : Int
 v : Int
structure GE where
 w : List Wt
 s : List Nat
 b : Nat
structure GR where
 size : Nat
 l : List GE
 laid : Nat
 done : Nat
def noWt : Wt := ⟨0, 0⟩
def noGE : GE := ⟨[], Sg.nought, 0⟩
def wtC (W : List Wt) : List Value := W.flatMap fun x => [.int .i64 x.c, .int .i64 x.v]
theorem wtC_len (W : List Wt) : (wtC W).length = W.length * 2 := by
 induction W with
 | nil => rfl
 | cons x W ih => simp only [wtC, List.flatMap_cons, List.length_append, List.length_cons, List.length_nil] at ih ⊢; omega
theorem wtC_get (W : List Wt) (i : Nat) (hi : i < W.length) : (wtC W)[i * 2]? = some (.int .i64 (W.getD i noWt).c) ∧ (wtC W)[i * 2 + 1]? = some (.int .i64 (W.getD i noWt).v) := by
 induction W generalizing i with
 | nil => simp at hi
 | cons x W ih =>
  have e : wtC (x :: W) = [.int .i64 x.c, .int .i64 x.v] ++ wtC W := rfl
  rw [e]
  cases i with
  | zero => exact ⟨rfl, rfl⟩
  | succ i =>
   have := ih i (by simpa using hi)
   rw [List.getElem?_append_right (by simp; omega), List.getElem?_append_right (by simp; omega)]
   simp only [List.length_cons, List.length_nil]
   rw [show (i + 1) * 2 - (0 + 1 + 1) = i * 2 by omega, show (i + 1) * 2 + 1 - (0 + 1 + 1) = i * 2 + 1 by omega]
   exact this
def geC (u : Value) (e : GE) : List Value := u :: ((Sg.sc e.s).toList ++ [.int .i64 (e.b : Int)])
def gesC : List Value → List GE → List Value
 | u :: us, e :: l => geC u e ++ gesC us l
 | _, _ => []
def bump (l : List GE) (i : Nat) : List GE := l.set i ⟨(l.getD i noGE).w, (l.getD i noGE).s, (l.getD i noGE).b + 1⟩
def fitW (S : List Wt) (c : Int) : List Wt := (S.take 4).map fun x => ⟨x.c % c, x.v⟩
def sigW (W : List Wt) : List Nat := W.foldl (fun s x => Sg.put s (Sg.sigN x.c)) Sg.nought
end Go.Proofs.YtgjahjnomfijfaaGreat
