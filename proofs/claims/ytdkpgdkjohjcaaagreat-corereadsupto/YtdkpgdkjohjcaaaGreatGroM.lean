/- carouselgrow's ring as plain data: writes, entries, how they lie. -/
import Derived.Test.YtdkpgdkjohjcaaaGreatJHashSigB
namespace Go.Proofs.YtdkpgdkjohjcaaaGreat
open Go
structure Wt where
 c:Int
 v:Int
def noWt:Wt:=⟨0,0⟩
def wtC (W:List Wt):List Value:=W.flatMap fun x => [.int .i64 x.c,.int .i64 x.v]
theorem wtC_len (W:List Wt):(wtC W).length=W.length * 2:=by
 induction W with
 | nil=>rfl
 | cons x W ih=>simp only [wtC,List.flatMap_cons,List.length_append,List.length_cons,List.length_nil] at ih ⊢; omega
theorem wtC_get (W:List Wt) (i:Nat) (hi:i < W.length):(wtC W)[i * 2]? = some (.int .i64 (W.getD i noWt).c)∧(wtC W)[i * 2+1]? = some (.int .i64 (W.getD i noWt).v):=by
 induction W generalizing i with
 | nil=>simp at hi
 | cons x W ih =>
  have e:wtC (x :: W) = [.int .i64 x.c,.int .i64 x.v] ++ wtC W:=rfl
  rw [e]
  cases i with
  | zero=>exact ⟨rfl,rfl⟩
  | succ i =>
   have:=ih i (by simpa using hi)
   rw [List.getElem?_append_right (by simp; omega),List.getElem?_append_right (by simp; omega)]
   simp only [List.length_cons,List.length_nil]
   rw [show (i+1) * 2 - (0+1+1)=i * 2 by omega,show (i+1) * 2+1 - (0+1+1)=i * 2+1 by omega]
   exact this
end Go.Proofs.YtdkpgdkjohjcaaaGreat
