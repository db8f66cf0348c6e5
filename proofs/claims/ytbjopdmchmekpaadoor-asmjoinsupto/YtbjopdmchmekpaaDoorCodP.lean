/- Programs as plain data: Decode, Encode, and what follows. -/
import Derived.Test.YtbjopdmchmekpaaDoorCodM
import Derived.Laws.BytesArg
namespace Go.Proofs.YtbjopdmchmekpaaDoor

def decG (s : ByteArray) : Nat → Nat → List (Int × Int) → List (Int × Int) × Int × Int
  | 0, _, l => (l, 0, 0)
  | k + 1, p, l => if s.size ≤ p then (l, 0, 0) else match atV (fr s p) (s.size - p) with
    | none => ([], 10, p)
    | some (c, x) => decG s k (p + (1 + wdC c)) (l ++ [((c : Int), x)])
def decV (s : ByteArray) : List (Int × Int) × Int × Int := if 512 < s.size then ([], 2, 0) else decG s (s.size + 1) 0 []
def encG : List (Int × Int) → Nat → List Int → List Int × Int × Int
  | [], _, b => (b, 0, 0)
  | (c, x) :: t, i, b => if ¬ (0 ≤ c ∧ c ≤ 40) then ([], 10, i) else if ¬ (loC c.toNat ≤ x ∧ x ≤ hiC c.toNat) then ([], 12, i)
    else if 512 < b.length + (1 + wdC c.toNat) then ([], 2, i) else encG t (i + 1) (b ++ bytesI c.toNat x)
def encV (l : List (Int × Int)) : List Int × Int × Int := encG l 0 []

theorem decG_len (s : ByteArray) (k p : Nat) (l : List (Int × Int)) (h : l.length ≤ p) (hp : p ≤ s.size) : (decG s k p l).1.length ≤ s.size := by
  induction k generalizing p l with
  | zero => simp only [decG]; omega
  | succ k ih =>
    unfold decG
    split
    · simp only; omega
    · split
      · simp
      · rename_i c x hat
        obtain ⟨_, _, h3⟩ := at_code hat
        exact ih _ _ (by simp; omega) (by omega)
theorem decV_len (s : ByteArray) : (decV s).1.length ≤ 512 := by
  unfold decV
  split
  · simp
  · have := decG_len s (s.size + 1) 0 [] (by simp) (by omega)
    omega

/-! ### there and back -/
/-- The bytes of a list of instructions. -/
def allB (l : List (Int × Int)) : List Int := l.flatMap fun o => bytesI o.1.toNat o.2
def okL (l : List (Int × Int)) : Prop := ∀ o ∈ l, okI o.1 o.2
theorem encG_ok {l : List (Int × Int)} {i : Nat} {b : List Int} (h : (encG l i b).2.1 = 0) : okL l ∧ (encG l i b).1 = b ++ allB l ∧ (encG l i b).2.2 = 0 ∧ (l = [] ∨ (b ++ allB l).length ≤ 512) := by
  induction l generalizing i b with
  | nil => exact ⟨fun o ho => (by cases ho), by simp [encG, allB], rfl, Or.inl rfl⟩
  | cons o t ih =>
    obtain ⟨c, x⟩ := o
    unfold encG at h ⊢
    split at h
    · simp at h
    · rename_i h1
      split at h
      · simp at h
      · rename_i h2
        split at h
        · simp at h
        · rename_i h3
          rw [if_neg h1, if_neg h2, if_neg h3]
          obtain ⟨a1, a2, a3, a4⟩ := ih h
          have e : b ++ bytesI c.toNat x ++ allB t = b ++ allB ((c, x) :: t) := by simp [allB]
          refine ⟨fun o ho => ?_, by rw [a2, e], a3, Or.inr ?_⟩
          · rcases List.mem_cons.1 ho with rfl | ho
            · have h1' := Classical.not_not.1 h1
              have h2' := Classical.not_not.1 h2
              exact ⟨h1'.1, h1'.2, h2'.1, h2'.2⟩
            · exact a1 o ho
          · rcases a4 with rfl | a4
            · simp [allB, bytesI_len] at *
              omega
            · rwa [e] at a4
theorem enc_all {l : List (Int × Int)} (h : okL l) {i : Nat} {b : List Int} (h5 : (b ++ allB l).length ≤ 512) : encG l i b = (b ++ allB l, 0, 0) := by
  induction l generalizing i b with
  | nil => simp [encG, allB]
  | cons o t ih =>
    obtain ⟨c, x⟩ := o
    obtain ⟨o1, o2, o3, o4⟩ := h (c, x) (by simp)
    simp only at o1 o2 o3 o4
    have e : b ++ bytesI c.toNat x ++ allB t = b ++ allB ((c, x) :: t) := by simp [allB]
    have hl : b.length + (1 + wdC c.toNat) ≤ 512 := by
      rw [← e] at h5
      simp only [List.length_append, bytesI_len] at h5
      omega
    unfold encG
    rw [if_neg (by omega), if_neg (by omega), if_neg (by omega), ih (fun o ho => h o (by simp [ho])) (by rw [e]; exact h5), e]
theorem encG_len (l : List (Int × Int)) (i : Nat) (b : List Int) (h : b.length ≤ 512) : (encG l i b).1.length ≤ 512 := by
  induction l generalizing i b with
  | nil => exact h
  | cons o t ih =>
    obtain ⟨c, x⟩ := o
    unfold encG
    split
    · simp
    · split
      · simp
      · split
        · simp
        · rename_i h3
          exact ih _ _ (by rw [List.length_append, bytesI_len]; omega)
theorem encV_len (l : List (Int × Int)) : (encV l).1.length ≤ 512 := encG_len l 0 [] (by simp)
theorem byt_str (l : List Int) (h : ∀ x ∈ l, 0 ≤ x ∧ x < 256) (i : Nat) (x : Int) (hi : l[i]? = some x) : (byt (strOfNums l) i : Int) = x := by
  have hx := h x (List.mem_of_getElem? hi)
  have e : (strOfNums l)[i]? = some (UInt8.ofNat x.toNat) := by
    have h1 : (strOfNums l).data.toList[i]? = some (UInt8.ofNat x.toNat) := by rw [strOfNums_data, List.getElem?_map, hi]; rfl
    have hlt : i < (strOfNums l).size := by
      have := (List.getElem?_eq_some_iff.1 hi).1
      rw [strOfNums_size]; exact this
    rw [getElem?_pos (strOfNums l) i hlt]
    rw [Array.getElem?_toList] at h1
    have h2 := Array.getElem?_eq_some_iff.1 h1
    obtain ⟨_, h3⟩ := h2
    rw [← h3]
    rfl
  unfold byt
  rw [e]
  simp only [Option.elim_some, UInt8.toNat_ofNat']
  omega
theorem lay_bd (x : Int) (n : Nat) : ∀ y ∈ layN x n, 0 ≤ y ∧ y < 256 := by
  intro y hy
  unfold layN at hy
  simp only [List.mem_map, List.mem_range] at hy
  obtain ⟨j, _, rfl⟩ := hy
  omega
theorem bytesI_bd {c : Nat} (hc : c ≤ 40) (x : Int) : ∀ y ∈ bytesI c x, 0 ≤ y ∧ y < 256 := by
  intro y hy
  rcases List.mem_cons.1 hy with rfl | hy
  · omega
  · exact lay_bd _ _ y hy
theorem allB_bd {l : List (Int × Int)} (h : okL l) : ∀ y ∈ allB l, 0 ≤ y ∧ y < 256 := by
  intro y hy
  simp only [allB, List.mem_flatMap] at hy
  obtain ⟨o, ho, hy⟩ := hy
  obtain ⟨o1, o2, _, _⟩ := h o ho
  exact bytesI_bd (by omega) _ y hy
theorem dec_all (s : ByteArray) (hb : List Int) (hs : s = strOfNums hb) (hbd : ∀ y ∈ hb, 0 ≤ y ∧ y < 256) (l : List (Int × Int)) (h : okL l) (pre : List Int) (he : hb = pre ++ allB l) (acc : List (Int × Int)) (k : Nat) (hk : l.length < k) :
    decG s k pre.length acc = (acc ++ l, 0, 0) := by
  have hz : s.size = hb.length := by rw [hs, strOfNums_size]
  induction l generalizing pre acc k with
  | nil =>
    obtain ⟨k, rfl⟩ : ∃ k', k = k' + 1 := ⟨k - 1, by simp at hk; omega⟩
    unfold decG
    rw [if_pos (by rw [hz, he]; simp [allB])]
    simp
  | cons o t ih =>
    obtain ⟨c, x⟩ := o
    have ho := h (c, x) (by simp)
    have ho' : okI ((c.toNat : Nat) : Int) x := by
      obtain ⟨o1, o2, o3, o4⟩ := ho
      simp only at o1 o2
      exact ⟨by omega, by omega, by rw [Int.toNat_natCast]; exact o3, by rw [Int.toNat_natCast]; exact o4⟩
    have hc : ((c.toNat : Nat) : Int) = c := Int.toNat_of_nonneg ho.1
    obtain ⟨k, rfl⟩ : ∃ k', k = k' + 1 := ⟨k - 1, by simp at hk; omega⟩
    have e : hb = (pre ++ bytesI c.toNat x) ++ allB t := by rw [he]; simp [allB]
    have hlen : hb.length = pre.length + (1 + wdC c.toNat) + (allB t).length := by rw [e]; simp [bytesI_len]; omega
    unfold decG
    rw [if_neg (by omega)]
    have hat : atV (fr s pre.length) (s.size - pre.length) = some (c.toNat, x) := by
      refine at_bytes ho' (by omega) fun i hi => ?_
      have h1 : (bytesI c.toNat x)[i]? = hb[pre.length + i]? := by
        rw [e, List.getElem?_append_left (by simp [bytesI_len]; omega), List.getElem?_append_right (by omega)]
        congr 1
        omega
      rw [h1]
      have h2 : hb[pre.length + i]? = some (hb[pre.length + i]'(by omega)) := List.getElem?_eq_getElem (by omega)
      rw [h2]
      unfold fr
      rw [hs, byt_str hb hbd _ _ h2]
    rw [hat]
    simp only
    have h3 : pre.length + (1 + wdC c.toNat) = (pre ++ bytesI c.toNat x).length := by simp [bytesI_len]
    rw [h3, ih (fun o ho => h o (by simp [ho])) _ e _ _ (by simp at hk; omega), hc]
    simp
/-- What Encode gives Decode takes. -/
theorem dec_enc {l : List (Int × Int)} (h : (encV l).2.1 = 0) : decV (strOfNums (encV l).1) = (l, 0, 0) ∧ (encV l).2.2 = 0 := by
  obtain ⟨h1, h2, h3, h4⟩ := encG_ok h
  refine ⟨?_, h3⟩
  have h5 : (encV l).1 = allB l := by unfold encV; rw [h2]; rfl
  have h6 : (allB l).length ≤ 512 := by
    rcases h4 with rfl | h4
    · simp [allB]
    · simpa using h4
  have hlen : l.length ≤ (allB l).length := by
    clear h h1 h2 h3 h4 h5 h6
    induction l with
    | nil => simp
    | cons o t ih =>
      have : (allB (o :: t)).length = (bytesI o.1.toNat o.2).length + (allB t).length := by simp [allB]
      rw [this, bytesI_len]
      simp
      omega
  rw [h5]
  unfold decV
  rw [strOfNums_size, if_neg (by omega)]
  have := dec_all (strOfNums (allB l)) (allB l) rfl (allB_bd h1) l h1 [] (by simp) [] ((allB l).length + 1) (by omega)
  simpa using this
/-- The bytes of a text, as numbers. -/
def bl (s : ByteArray) : List Int := (List.range s.size).map fun i => (byt s i : Int)
theorem bl_len (s : ByteArray) : (bl s).length = s.size := by simp [bl]
theorem bl_get (s : ByteArray) (i : Nat) (h : i < s.size) : (bl s)[i]? = some (byt s i : Int) := by simp [bl, h]
theorem str_bl (s : ByteArray) : strOfNums (bl s) = s := by
  have h : (strOfNums (bl s)).data = s.data := by
    apply Array.ext'
    rw [strOfNums_data]
    apply List.ext_getElem?
    intro i
    rw [List.getElem?_map]
    by_cases hi : i < s.size
    · rw [bl_get s i hi, byt_at s i hi]
      have hi' : i < s.data.size := hi
      simp only [Option.map_some, Int.toNat_natCast, UInt8.ofNat_toNat]
      rw [Array.getElem?_toList, Array.getElem?_eq_getElem hi']
      rfl
    · rw [List.getElem?_eq_none (by rw [bl_len]; omega)]
      have hi' : ¬ i < s.data.size := hi
      rw [Array.getElem?_toList, Array.getElem?_eq_none (by omega)]
      rfl
  cases hs : strOfNums (bl s)
  cases s
  rw [hs] at h
  simp only at h
  rw [h]
theorem dec_ok (s : ByteArray) (k p : Nat) (acc : List (Int × Int)) (hk : s.size < p + k) (hp : p ≤ s.size) (h : (decG s k p acc).2.1 = 0) :
    ∃ t, (decG s k p acc).1 = acc ++ t ∧ okL t ∧ allB t = (bl s).drop p ∧ (decG s k p acc).2.2 = 0 := by
  induction k generalizing p acc with
  | zero => omega
  | succ k ih =>
    unfold decG at h ⊢
    split at h
    · rename_i h1
      rw [if_pos h1]
      refine ⟨[], by simp, fun o ho => (by cases ho), ?_, rfl⟩
      rw [List.drop_eq_nil_of_le (by rw [bl_len]; exact h1)]
      rfl
    · rename_i h1
      rw [if_neg h1]
      split at h
      · simp at h
      · rename_i c x hat
        obtain ⟨h2, h3, h4, h5⟩ := at_some (fr_lt s p) hat
        obtain ⟨t, t1, t2, t3, t4⟩ := ih _ _ (by omega) (by omega) h
        refine ⟨((c : Int), x) :: t, by rw [t1]; simp, fun o ho => ?_, ?_, t4⟩
        · rcases List.mem_cons.1 ho with rfl | ho
          · exact h4
          · exact t2 o ho
        · have e : allB (((c : Int), x) :: t) = bytesI c x ++ allB t := by simp [allB]
          rw [e, t3]
          apply List.ext_getElem?
          intro i
          rw [List.getElem?_drop]
          by_cases hi : i < 1 + wdC c
          · rw [List.getElem?_append_left (by rw [bytesI_len]; exact hi), h5 i hi, bl_get _ _ (by omega)]
            rfl
          · rw [List.getElem?_append_right (by rw [bytesI_len]; omega), bytesI_len, List.getElem?_drop]
            congr 1
            omega
/-- What Decode takes Encode gives again. -/
theorem enc_dec {s : ByteArray} (h : (decV s).2.1 = 0) : encV (decV s).1 = (bl s, 0, 0) ∧ (decV s).2.2 = 0 := by
  unfold decV at h ⊢
  split at h
  · simp at h
  · rename_i h1
    rw [if_neg h1]
    obtain ⟨t, t1, t2, t3, t4⟩ := dec_ok s (s.size + 1) 0 [] (by omega) (by omega) h
    refine ⟨?_, t4⟩
    rw [t1]
    simp only [List.nil_append, List.drop_zero] at t3 ⊢
    unfold encV
    rw [enc_all t2 (by rw [t3]; simp [bl_len]; omega), t3]
    simp
end Go.Proofs.YtbjopdmchmekpaaDoor
