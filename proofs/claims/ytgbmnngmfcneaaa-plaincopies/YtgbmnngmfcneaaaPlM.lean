/- Plain collections (layer 20) as plain data. -/
import Derived.Test.YtgbmnngmfcneaaaCoM
import Derived.Test.YtgbmnngmfcneaaaPcM
namespace Go.Proofs.Ytgbmnngmfcneaaa.Pl
open Go.ChangeShapes Go.WideShapes Go.ChangeAt Go.RowKit

/-- A collection: its kind, its capacity, its values, its pairs. -/
structure Co where
  kd : Int
  cap : Int
  vs : List Int
  ps : List (Int × Int)
/-- How many at a list's head are below a key. -/
def lb : List Int → Int → Nat
  | [], _ => 0
  | x :: l, k => if x < k then lb l k + 1 else 0
def thB (l : List Int) (k : Int) : Bool := decide (lb l k < l.length ∧ nth l (lb l k) = k)
def keysP (p : List (Int × Int)) : List Int := p.map (·.1)
def nthP (p : List (Int × Int)) (i : Nat) : Int × Int := p.getD i (0, 0)
def ins {α : Type} (l : List α) (i : Nat) (x : α) : List α := l.take i ++ x :: l.drop i
def del {α : Type} (l : List α) (i : Nat) : List α := l.take i ++ l.drop (i + 1)
def Rise (l : List Int) : Prop := ∀ i j, i < j → j < l.length → nth l i < nth l j

theorem lb_le : ∀ (l : List Int) (k : Int), lb l k ≤ l.length
  | [], _ => Nat.le_refl _
  | x :: l, k => by
    unfold lb
    split
    · have := lb_le l k
      simp only [List.length_cons]
      omega
    · simp
theorem lb_low : ∀ (l : List Int) (k : Int) (i : Nat), i < lb l k → nth l i < k
  | [], _, i, h => by simp [lb] at h
  | x :: l, k, i, h => by
    unfold lb at h
    split at h
    · cases i with
      | zero => simpa [nth] using ‹x < k›
      | succ i => simpa [nth] using lb_low l k i (by omega)
    · omega
theorem lb_at : ∀ (l : List Int) (k : Int), lb l k < l.length → k ≤ nth l (lb l k)
  | [], _, h => by simp [lb] at h
  | x :: l, k, h => by
    unfold lb at h ⊢
    split at h
    · rename_i hx
      rw [if_pos hx]
      have := lb_at l k (by simpa using h)
      simpa [nth] using this
    · rename_i hx
      rw [if_neg hx]
      simp [nth]
      omega
/-- It is where it is. -/
theorem lb_is {l : List Int} {k : Int} {i : Nat} (hi : i ≤ l.length) (h1 : ∀ j, j < i → nth l j < k) (h2 : i < l.length → k ≤ nth l i) : lb l k = i := by
  rcases Nat.lt_trichotomy (lb l k) i with h | h | h
  · have a := lb_at l k (by omega)
    have b := h1 _ h
    omega
  · exact h
  · have a := lb_low l k i h
    have b := h2 (by have := lb_le l k; omega)
    omega
theorem Rise.tail {x : Int} {l : List Int} (h : Rise (x :: l)) : Rise l := fun i j hij hj => by
  have := h (i + 1) (j + 1) (by omega) (by simp; omega)
  simpa [nth] using this
theorem nth_append (l m : List Int) (i : Nat) : nth (l ++ m) i = if i < l.length then nth l i else nth m (i - l.length) := by
  unfold nth
  simp only [List.getD_eq_getElem?_getD, List.getElem?_append]
  split <;> rfl
theorem nth_take (l : List Int) (i n : Nat) (h : i < n) : nth (l.take n) i = nth l i := by
  simp [nth, h]
theorem nth_drop (l : List Int) (i n : Nat) : nth (l.drop n) i = nth l (n + i) := by
  simp [nth]
theorem nth_cons_succ (x : Int) (l : List Int) (i : Nat) : nth (x :: l) (i + 1) = nth l i := by simp [nth]
theorem nth_cons_zero (x : Int) (l : List Int) : nth (x :: l) 0 = x := rfl
theorem ins_len {α : Type} (l : List α) (i : Nat) (x : α) (h : i ≤ l.length) : (ins l i x).length = l.length + 1 := by
  unfold ins
  simp
  omega
theorem del_len {α : Type} (l : List α) (i : Nat) (h : i < l.length) : (del l i).length = l.length - 1 := by
  unfold del
  simp
  omega
theorem nth_ins (l : List Int) (i : Nat) (x : Int) (h : i ≤ l.length) (j : Nat) : nth (ins l i x) j = if j < i then nth l j else if j = i then x else nth l (j - 1) := by
  unfold ins
  rw [nth_append]
  have hl : (l.take i).length = i := by simp; omega
  rw [hl]
  by_cases h1 : j < i
  · rw [if_pos h1, if_pos h1, nth_take _ _ _ h1]
  · rw [if_neg h1, if_neg h1]
    by_cases h2 : j = i
    · rw [if_pos h2, h2, Nat.sub_self]; rfl
    · rw [if_neg h2, show j - i = (j - i - 1) + 1 by omega, nth_cons_succ, nth_drop]
      congr 1
      omega
theorem nth_del (l : List Int) (i : Nat) (h : i < l.length) (j : Nat) : nth (del l i) j = if j < i then nth l j else nth l (j + 1) := by
  unfold del
  rw [nth_append]
  have hl : (l.take i).length = i := by simp; omega
  rw [hl]
  by_cases h1 : j < i
  · rw [if_pos h1, if_pos h1, nth_take _ _ _ h1]
  · rw [if_neg h1, if_neg h1, nth_drop]
    congr 1
    omega
theorem Rise.del {l : List Int} (h : Rise l) {i : Nat} (hi : i < l.length) : Rise (del l i) := fun a b hab hb => by
  rw [del_len l i hi] at hb
  rw [nth_del l i hi, nth_del l i hi]
  by_cases h1 : a < i
  · rw [if_pos h1]
    by_cases h2 : b < i
    · rw [if_pos h2]; exact h a b hab (by omega)
    · rw [if_neg h2]; exact h a (b + 1) (by omega) (by omega)
  · rw [if_neg h1, if_neg (by omega)]
    exact h _ _ (by omega) (by omega)
theorem Rise.ins {l : List Int} (h : Rise l) {k : Int} (hn : thB l k = false) : Rise (ins l (lb l k) k) := fun a b hab hb => by
  have hle := lb_le l k
  rw [ins_len l _ _ hle] at hb
  have hlow := lb_low l k
  have hat : ∀ j, lb l k ≤ j → j < l.length → k < nth l j := fun j hj hjl => by
    have h1 := lb_at l k (by omega)
    have h2 : nth l (lb l k) ≠ k := fun e => by
      simp [thB] at hn
      exact hn (by omega) e
    by_cases e : j = lb l k
    · rw [e]; omega
    · have := h (lb l k) j (by omega) hjl
      omega
  rw [nth_ins l _ _ hle, nth_ins l _ _ hle]
  generalize lb l k = i at *
  by_cases h1 : a < i
  · rw [if_pos h1]
    have hk := hlow a h1
    by_cases h2 : b < i
    · rw [if_pos h2]; exact h a b hab (by omega)
    · rw [if_neg h2]
      by_cases h3 : b = i
      · rw [if_pos h3]; exact hk
      · rw [if_neg h3]
        have := hat (b - 1) (by omega) (by omega)
        omega
  · rw [if_neg h1]
    have h2 : ¬ b < i := by omega
    have h3 : ¬ b = i := by omega
    rw [if_neg h2, if_neg h3]
    by_cases h4 : a = i
    · rw [if_pos h4]; exact hat _ (by omega) (by omega)
    · rw [if_neg h4]; exact h _ _ (by omega) (by omega)
theorem keys_ins (p : List (Int × Int)) (i : Nat) (x : Int × Int) : keysP (ins p i x) = ins (keysP p) i x.1 := by
  unfold keysP ins
  simp
theorem keys_del (p : List (Int × Int)) (i : Nat) : keysP (del p i) = del (keysP p) i := by
  unfold keysP del
  simp
theorem keys_len (p : List (Int × Int)) : (keysP p).length = p.length := by simp [keysP]
theorem keys_nth (p : List (Int × Int)) (i : Nat) : nth (keysP p) i = (nthP p i).1 := by
  unfold nth nthP keysP
  simp only [List.getD_eq_getElem?_getD, List.getElem?_map]
  cases p[i]? <;> rfl

/-! ### calls -/
def numB (c : Co) (i : Int) : Bool := decide (0 ≤ i) && decide (i < (c.vs.length : Int))
def cntV (c : Co) (call : Int) (a : List Int) : (Int × Int) × Co :=
  if numB c (nth a 0) then
    (if call = 1 then ((wrap64 (nth c.vs (nth a 0).toNat + nth a 1), 0), { c with vs := c.vs.set (nth a 0).toNat (wrap64 (nth c.vs (nth a 0).toNat + nth a 1)) })
     else ((nth c.vs (nth a 0).toNat, 0), c))
  else ((0, 1), c)
def queV (c : Co) (call : Int) (a : List Int) : (Int × Int) × Co :=
  if call = 5 then (((c.vs.length : Int), 0), c)
  else if call = 3 then (if c.cap ≤ (c.vs.length : Int) then ((0, 2), c) else ((0, 0), { c with vs := c.vs ++ [nth a 0] }))
  else if c.vs.length = 0 then ((0, 1), c) else ((nth c.vs 0, 0), { c with vs := del c.vs 0 })
def dicV (c : Co) (call : Int) (a : List Int) : (Int × Int) × Co :=
  if call = 5 then (((c.ps.length : Int), 0), c)
  else if call = 2 then (if thB (keysP c.ps) (nth a 0) then (((nthP c.ps (lb (keysP c.ps) (nth a 0))).2, 0), c) else ((0, 1), c))
  else if call = 3 then
    (if thB (keysP c.ps) (nth a 0) then ((0, 0), { c with ps := c.ps.set (lb (keysP c.ps) (nth a 0)) (nth a 0, nth a 1) })
     else if c.cap ≤ (c.ps.length : Int) then ((0, 2), c) else ((0, 0), { c with ps := ins c.ps (lb (keysP c.ps) (nth a 0)) (nth a 0, nth a 1) }))
  else if thB (keysP c.ps) (nth a 0) then ((0, 0), { c with ps := del c.ps (lb (keysP c.ps) (nth a 0)) }) else ((0, 1), c)
def keyV (c : Co) (i : Nat) : Int × Int := if i = c.vs.length then (0, 1) else (nth c.vs i, 0)
def chaV (c : Co) (call : Int) (a : List Int) : (Int × Int) × Co :=
  if call = 5 then (((c.vs.length : Int), 0), c)
  else if call = 7 then (keyV c 0, c)
  else if call = 1 then
    (if thB c.vs (nth a 0) then ((0, 3), c) else if c.cap ≤ (c.vs.length : Int) then ((0, 2), c) else ((0, 0), { c with vs := ins c.vs (lb c.vs (nth a 0)) (nth a 0) }))
  else if call = 4 then (if thB c.vs (nth a 0) then ((0, 0), { c with vs := del c.vs (lb c.vs (nth a 0)) }) else ((0, 1), c))
  else if call = 6 then ((if thB c.vs (nth a 0) then 1 else 0, 0), c)
  else (keyV c (if thB c.vs (nth a 0) then lb c.vs (nth a 0) + 1 else lb c.vs (nth a 0)), c)
def ar1 (call : Int) : Int := if call = 1 then 2 else if call = 2 then 1 else -1
def ar2 (call : Int) : Int := if call = 3 then 1 else if call = 2 then 0 else if call = 5 then 0 else -1
def ar3 (call : Int) : Int := if call = 2 then 1 else if call = 3 then 2 else if call = 4 then 1 else if call = 5 then 0 else -1
def ar4 (call : Int) : Int := if call = 1 then 1 else if call = 4 then 1 else if call = 6 then 1 else if call = 7 then 0 else if call = 8 then 1 else if call = 5 then 0 else -1
def arV (kd call : Int) : Int := if kd = 1 then ar1 call else if kd = 2 then ar2 call else if kd = 3 then ar3 call else if kd = 4 then ar4 call else -1
def doV (c : Co) (call : Int) (a : List Int) : (Int × Int) × Co :=
  if c.kd = 1 then cntV c call a else if c.kd = 2 then queV c call a else if c.kd = 3 then dicV c call a else chaV c call a
/-- What is so of a collection. -/
structure CoOk (c : Co) : Prop where
  k1 : 1 ≤ c.kd
  k4 : c.kd ≤ 4
  c0 : 0 ≤ c.cap
  c16 : c.cap ≤ 16
  p0 : c.kd ≠ 3 → c.ps = []
  v0 : c.kd = 3 → c.vs = []
  n1 : c.kd = 1 → (c.vs.length : Int) = c.cap
  vm : (c.vs.length : Int) ≤ c.cap
  pm : (c.ps.length : Int) ≤ c.cap
  r3 : c.kd = 3 → Rise (keysP c.ps)
  r4 : c.kd = 4 → Rise c.vs
  sv : ∀ x ∈ c.vs, Sx x
  sp : ∀ x ∈ c.ps, Sx x.1 ∧ Sx x.2
theorem sx_wrap (z : Int) : Sx (wrap64 z) := by
  unfold Sx wrap64
  omega
theorem mem_ins {α : Type} {l : List α} {i : Nat} {x y : α} (h : y ∈ ins l i x) : y = x ∨ y ∈ l := by
  unfold ins at h
  rcases List.mem_append.1 h with h | h
  · exact Or.inr (List.mem_of_mem_take h)
  · rcases List.mem_cons.1 h with h | h
    · exact Or.inl h
    · exact Or.inr (List.mem_of_mem_drop h)
theorem mem_del {α : Type} {l : List α} {i : Nat} {y : α} (h : y ∈ del l i) : y ∈ l := by
  unfold del at h
  rcases List.mem_append.1 h with h | h
  · exact List.mem_of_mem_take h
  · exact List.mem_of_mem_drop h
theorem keys_set {p : List (Int × Int)} {i : Nat} {k v : Int} (hk : nth (keysP p) i = k) : keysP (p.set i (k, v)) = keysP p := by
  unfold keysP
  rw [List.map_set]
  by_cases h : i < p.length
  · apply List.ext_getElem?
    intro j
    rw [List.getElem?_set]
    split
    · rename_i e
      subst e
      rw [keys_nth] at hk
      simp [h]
      simpa [nthP, h] using hk.symm
    · rfl
  · rw [List.set_eq_of_length_le (by simp; omega)]
theorem thB_yes {l : List Int} {k : Int} (h : thB l k = true) : lb l k < l.length ∧ nth l (lb l k) = k := by simpa [thB] using h
theorem CoOk.cnt {c : Co} (h : CoOk c) (hk : c.kd = 1) (call : Int) (a : List Int) : CoOk (cntV c call a).2 := by
  unfold cntV
  split
  · split
    · exact ⟨h.k1, h.k4, h.c0, h.c16, h.p0, fun e => by simp only at e; omega, fun e => by simpa using h.n1 e, by simpa using h.vm, h.pm, h.r3, fun e => by simp only at e; omega, fun x hx => by
        rcases List.mem_or_eq_of_mem_set hx with h1 | h1
        · exact h.sv x h1
        · rw [h1]; exact sx_wrap _, h.sp⟩
    · exact h
  · exact h
theorem CoOk.que {c : Co} (h : CoOk c) (hk : c.kd = 2) (call : Int) {a : List Int} (ha : ∀ x ∈ a, Sx x) : CoOk (queV c call a).2 := by
  unfold queV
  split
  · exact h
  · split
    · split
      · exact h
      · exact ⟨h.k1, h.k4, h.c0, h.c16, h.p0, fun e => by simp only at e; omega, fun e => by simp only at e; omega, by simp; omega, h.pm, h.r3, fun e => by simp only at e; omega, fun x hx => by
          rcases List.mem_append.1 hx with h1 | h1
          · exact h.sv x h1
          · simp at h1; rw [h1]; exact nl_w64 ha 0, h.sp⟩
    · split
      · exact h
      · rename_i h0
        have hv := h.vm
        have hl := del_len c.vs 0 (by omega)
        exact ⟨h.k1, h.k4, h.c0, h.c16, h.p0, fun e => by simp only at e; omega, fun e => by simp only at e; omega, by simp only [hl]; omega, h.pm, h.r3, fun e => by simp only at e; omega, fun x hx => h.sv x (mem_del hx), h.sp⟩
theorem CoOk.dic {c : Co} (h : CoOk c) (hk : c.kd = 3) (call : Int) {a : List Int} (ha : ∀ x ∈ a, Sx x) : CoOk (dicV c call a).2 := by
  have hp := h.pm
  unfold dicV
  split
  · exact h
  · split
    · split <;> exact h
    · split
      · split
        · rename_i ht
          have ht := thB_yes ht
          exact ⟨h.k1, h.k4, h.c0, h.c16, fun e => absurd hk e, h.v0, fun e => by simp only at e; omega, h.vm, by simpa using h.pm, fun e => by
            simp only
            rw [keys_set ht.2]
            exact h.r3 hk, h.r4, h.sv, fun x hx => by
            rcases List.mem_or_eq_of_mem_set hx with h1 | h1
            · exact h.sp x h1
            · rw [h1]; exact ⟨nl_w64 ha 0, nl_w64 ha 1⟩⟩
        · split
          · exact h
          · rename_i hn hc
            have hn : thB (keysP c.ps) (nth a 0) = false := by simpa using hn
            have hl := ins_len c.ps (lb (keysP c.ps) (nth a 0)) (nth a 0, nth a 1) (by have := lb_le (keysP c.ps) (nth a 0); rwa [keys_len] at this)
            exact ⟨h.k1, h.k4, h.c0, h.c16, fun e => absurd hk e, h.v0, fun e => by simp only at e; omega, h.vm, by simp only [hl]; omega, fun e => by
              simp only
              rw [keys_ins]
              exact (h.r3 hk).ins hn, h.r4, h.sv, fun x hx => by
              rcases mem_ins hx with h1 | h1
              · rw [h1]; exact ⟨nl_w64 ha 0, nl_w64 ha 1⟩
              · exact h.sp x h1⟩
      · split
        · rename_i ht
          have ht := (thB_yes ht).1
          have ht' : lb (keysP c.ps) (nth a 0) < c.ps.length := by rwa [keys_len] at ht
          have hl := del_len c.ps _ ht'
          exact ⟨h.k1, h.k4, h.c0, h.c16, fun e => absurd hk e, h.v0, fun e => by simp only at e; omega, h.vm, by simp only [hl]; omega, fun e => by
            simp only
            rw [keys_del]
            exact (h.r3 hk).del ht, h.r4, h.sv, fun x hx => h.sp x (mem_del hx)⟩
        · exact h
theorem CoOk.cha {c : Co} (h : CoOk c) (hk : c.kd = 4) (call : Int) {a : List Int} (ha : ∀ x ∈ a, Sx x) : CoOk (chaV c call a).2 := by
  have hv := h.vm
  unfold chaV
  split
  · exact h
  · split
    · exact h
    · split
      · split
        · exact h
        · split
          · exact h
          · rename_i hn hc
            have hn : thB c.vs (nth a 0) = false := by simpa using hn
            have hl := ins_len c.vs (lb c.vs (nth a 0)) (nth a 0) (lb_le _ _)
            exact ⟨h.k1, h.k4, h.c0, h.c16, h.p0, fun e => by simp only at e; omega, fun e => by simp only at e; omega, by simp only [hl]; omega, h.pm, h.r3, fun e => (h.r4 hk).ins hn, fun x hx => by
              rcases mem_ins hx with h1 | h1
              · rw [h1]; exact nl_w64 ha 0
              · exact h.sv x h1, h.sp⟩
      · split
        · split
          · rename_i ht
            have ht := (thB_yes ht).1
            have hl := del_len c.vs _ ht
            exact ⟨h.k1, h.k4, h.c0, h.c16, h.p0, fun e => by simp only at e; omega, fun e => by simp only at e; omega, by simp only [hl]; omega, h.pm, h.r3, fun e => (h.r4 hk).del ht, fun x hx => h.sv x (mem_del hx), h.sp⟩
          · exact h
        · split
          · exact h
          · exact h
theorem CoOk.doV {c : Co} (h : CoOk c) (call : Int) {a : List Int} (ha : ∀ x ∈ a, Sx x) : CoOk (doV c call a).2 := by
  unfold Pl.doV
  have h1 := h.k1
  have h4 := h.k4
  split
  · exact h.cnt ‹_› call a
  · split
    · exact h.que ‹_› call ha
    · split
      · exact h.dic ‹_› call ha
      · exact h.cha (by omega) call ha
theorem cntV_kc (c : Co) (call : Int) (a : List Int) : (cntV c call a).2.kd = c.kd ∧ (cntV c call a).2.cap = c.cap := by
  unfold cntV
  constructor
  · repeat' split
    all_goals rfl
  · repeat' split
    all_goals rfl
theorem queV_kc (c : Co) (call : Int) (a : List Int) : (queV c call a).2.kd = c.kd ∧ (queV c call a).2.cap = c.cap := by
  unfold queV
  constructor
  · repeat' split
    all_goals rfl
  · repeat' split
    all_goals rfl
theorem dicV_kc (c : Co) (call : Int) (a : List Int) : (dicV c call a).2.kd = c.kd ∧ (dicV c call a).2.cap = c.cap := by
  unfold dicV
  constructor
  · repeat' split
    all_goals rfl
  · repeat' split
    all_goals rfl
theorem chaV_kc (c : Co) (call : Int) (a : List Int) : (chaV c call a).2.kd = c.kd ∧ (chaV c call a).2.cap = c.cap := by
  unfold chaV
  constructor
  · repeat' split
    all_goals rfl
  · repeat' split
    all_goals rfl
theorem doV_kc (c : Co) (call : Int) (a : List Int) : (doV c call a).2.kd = c.kd ∧ (doV c call a).2.cap = c.cap := by
  unfold doV
  split
  · exact cntV_kc _ _ _
  · split
    · exact queV_kc _ _ _
    · split
      · exact dicV_kc _ _ _
      · exact chaV_kc _ _ _
end Go.Proofs.Ytgbmnngmfcneaaa.Pl
