/- Layer 6 as plain data: the cells that Read was told, and the signatures of what was read and of what is written. -/
import Derived.Test.YtbeaaapkjoegoaaGreatJBlkTabA
import Derived.Test.YtbeaaapkjoegoaaGreatJSigRSigF
namespace Go.Proofs.YtbeaaapkjoegoaaGreat.Tl
set_option linter.unusedVariables false

/-- The cells that were told, one more of them. -/
def told (T : List Int) (c : Int) : List Int := if right c && !T.contains c then T ++ [c] else T
structure Told (T : List Int) : Prop where
  one : T.Nodup
  ok : ∀ c ∈ T, right c = true
theorem Told.nil : Told [] := ⟨List.nodup_nil, fun c h => by simp at h⟩
theorem nodup_len (n : Nat) : ∀ l : List Int, l.Nodup → (∀ x ∈ l, 0 ≤ x ∧ x < (n : Int)) → l.length ≤ n := by
  induction n with
  | zero =>
    intro l _ h
    cases l with
    | nil => simp
    | cons a l => have := h a (by simp); omega
  | succ n ih =>
    intro l hn h
    have h1 := ih (l.erase (n : Int)) (hn.erase _) (fun x hx => by
      have := (hn.mem_erase_iff).1 hx
      have := h x this.2
      omega)
    rw [List.length_erase] at h1
    split at h1 <;> omega
theorem Told.len {T : List Int} (h : Told T) : T.length ≤ 1024 := nodup_len 1024 T h.one (fun x hx => by
  have := h.ok x hx
  simp [right] at this
  omega)

/-- What Reads is behind a Read. -/
def readR (r : List Nat) (c : Int) : List Nat := if right c then Sg.put r (Sg.sigN c) else r
theorem readR_ok {r : List Nat} (h : Sg.Ok r) (c : Int) : Sg.Ok (readR r c) := by
  unfold readR
  split
  · exact Sg.ok_put h _ (Sg.sigN_lt c)
  · exact h
/-- The signature of what is written. -/
def wrS (s : Tb) : List Nat := Sg.ofAll (s.R.map (·.c))
theorem wrS_ok (s : Tb) : Sg.Ok (wrS s) := Sg.ok_ofAll _
/-- What Write answers. -/
def writeE (s : Tb) (c : Int) : Int := if putE s c = 2 then 5 else putE s c
end Go.Proofs.YtbeaaapkjoegoaaGreat.Tl