/- Layer 6 as plain data: the cells that Read was told, and the signatures of what was read and of what is written. -/
import Derived.Test.YtfpnpkpjkcmoaaaTabM
import Derived.Test.YtfpnpkpjkcmoaaaSigF
namespace Go.Proofs.Ytfpnpkpjkcmoaaa
set_option linter.unusedVariables false

/-- The cells that were told, one more of them. -/
def told (T : List Int) (c : Int) : List Int := if right c && !T.contains c then T ++ [c] else T
structure Told (T : List Int) : Prop where
  one : T.Nodup
  ok : ∀ c ∈ T, right c = true
theorem Told.nil : Told [] := ⟨List.nodup_nil, fun c h => by simp at h⟩
theorem told_ok {T : List Int} (h : Told T) (c : Int) : Told (told T c) := by
  unfold told
  split
  · next e =>
    simp only [Bool.and_eq_true, Bool.not_eq_true', List.contains_eq_mem, decide_eq_false_iff_not] at e
    refine ⟨List.nodup_append.2 ⟨h.one, by simp, fun a ha b hb => ?_⟩, fun d hd => ?_⟩
    · simp only [List.mem_cons, List.not_mem_nil, or_false] at hb
      subst hb
      intro e'
      exact e.2 (e' ▸ ha)
    · rcases List.mem_append.1 hd with h1 | h1
      · exact h.ok d h1
      · simp only [List.mem_cons, List.not_mem_nil, or_false] at h1
        rw [h1]; exact e.1
  · exact h
theorem nodup_len (n : Nat) : ∀ l : List Int, l.Nodup → (∀ x ∈ l, 0 ≤ x ∧ x < (n : Int)) → l.length ≤ n := by
  induction n with
  | zero =>
    intro l _ h
    cases l with
    | nil => simp
    | cons a l => have := h a (by simp); omega
  | succ n ih =>
    intro l hn h
    have h1 := ih (l.erase (n : Int)) (hn.erase _) (fun x hx => by
      have := (hn.mem_erase_iff).1 hx
      have := h x this.2
      omega)
    rw [List.length_erase] at h1
    split at h1 <;> omega
theorem Told.len {T : List Int} (h : Told T) : T.length ≤ 1024 := nodup_len 1024 T h.one (fun x hx => by
  have := h.ok x hx
  simp [right] at this
  omega)

/-- What Reads is behind a Read. -/
def readR (r : List Nat) (c : Int) : List Nat := if right c then Sg.put r (Sg.sigN c) else r
theorem readR_ok {r : List Nat} (h : Sg.Ok r) (c : Int) : Sg.Ok (readR r c) := by
  unfold readR
  split
  · exact Sg.ok_put h _ (Sg.sigN_lt c)
  · exact h
theorem ofAll_snoc (T : List Int) (c : Int) : Sg.ofAll (T ++ [c]) = Sg.put (Sg.ofAll T) (Sg.sigN c) := by
  unfold Sg.ofAll; rw [List.foldl_append]; rfl
theorem ofAll_bit (T : List Int) (c : Int) (h : c ∈ T) : Sg.bit (Sg.ofAll T) (Sg.sigN c) = true := by
  suffices hs : ∀ (T : List Int) (s : List Nat), Sg.Ok s → (c ∈ T ∨ Sg.bit s (Sg.sigN c) = true) → Sg.bit (T.foldl (fun s c => Sg.put s (Sg.sigN c)) s) (Sg.sigN c) = true from hs T _ Sg.ok_nought (Or.inl h)
  intro T
  induction T with
  | nil => intro s _ h; rcases h with h | h; simp at h; exact h
  | cons d T ih =>
    intro s hs h
    refine ih _ (Sg.ok_put hs _ (Sg.sigN_lt d)) ?_
    rcases h with h | h
    · rcases List.mem_cons.1 h with rfl | h
      · right; rw [Sg.bit_put hs _ _ (Sg.sigN_lt _)]; simp
      · exact Or.inl h
    · right; rw [Sg.bit_put hs _ _ (Sg.sigN_lt _), h]; simp
theorem ofAll_told (T : List Int) (c : Int) : Sg.ofAll (told T c) = readR (Sg.ofAll T) c := by
  unfold told readR
  cases right c with
  | false => simp
  | true =>
    by_cases h : c ∈ T
    · simp [h, Sg.put_had (Sg.ok_ofAll T) _ (Sg.sigN_lt c) (ofAll_bit T c h)]
    · simp [h, ofAll_snoc]
/-- The signature of what is written. -/
def wrS (s : Tb) : List Nat := Sg.ofAll (s.R.map (·.c))
theorem wrS_ok (s : Tb) : Sg.Ok (wrS s) := Sg.ok_ofAll _
/-- What Write answers. -/
def writeE (s : Tb) (c : Int) : Int := if putE s c = 2 then 5 else putE s c
end Go.Proofs.Ytfpnpkpjkcmoaaa
