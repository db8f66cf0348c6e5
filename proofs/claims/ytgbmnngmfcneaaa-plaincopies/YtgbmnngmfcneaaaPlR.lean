/- Rows of numbers and of pairs that a state owns: copied within themselves, cleared, cut. -/
import Derived.Test.YtgbmnngmfcneaaaPlM
import Derived.Test.YtgbmnngmfcneaaaCoB
namespace Go.Proofs.Ytgbmnngmfcneaaa.Pl
open Go.ChangeShapes Go.WideShapes Go.ChangeAt Go.RowKit

def prC (T : List (Int × Int)) : List Value := T.flatMap fun x => [.int .i64 x.1, .int .i64 x.2]
theorem prC_len (T : List (Int × Int)) : (prC T).length = T.length * 2 := by
  induction T with
  | nil => rfl
  | cons x T ih => simp only [prC, List.flatMap_cons, List.length_append, List.length_cons] at *; rw [ih]; simp; omega
theorem prC_app (T S : List (Int × Int)) : prC (T ++ S) = prC T ++ prC S := List.flatMap_append
theorem prC_cons (x : Int × Int) (T : List (Int × Int)) : prC (x :: T) = .int .i64 x.1 :: .int .i64 x.2 :: prC T := rfl
theorem prC_get (T : List (Int × Int)) (i : Nat) (hi : i < T.length) : (prC T)[i * 2]? = some (.int .i64 (nthP T i).1) ∧ (prC T)[i * 2 + 1]? = some (.int .i64 (nthP T i).2) := by
  induction T generalizing i with
  | nil => simp at hi
  | cons x T ih =>
    cases i with
    | zero => exact ⟨rfl, rfl⟩
    | succ i =>
      obtain ⟨h1, h2⟩ := ih i (by simpa using hi)
      rw [prC_cons, show (i + 1) * 2 = (i * 2 + 1) + 1 by omega]
      simp only [List.getElem?_cons_succ]
      exact ⟨h1, h2⟩
theorem prC_take (T : List (Int × Int)) (i : Nat) : (prC T).take (i * 2) = prC (T.take i) := by
  induction T generalizing i with
  | nil => simp [prC]
  | cons x T ih =>
    cases i with
    | zero => simp [prC]
    | succ i =>
      rw [prC_cons, show (i + 1) * 2 = (i * 2 + 1) + 1 by omega]
      simp only [List.take_succ_cons]
      rw [ih, prC_cons]
theorem prC_drop (T : List (Int × Int)) (i : Nat) : (prC T).drop (i * 2) = prC (T.drop i) := by
  induction T generalizing i with
  | nil => simp [prC]
  | cons x T ih =>
    cases i with
    | zero => simp
    | succ i =>
      rw [prC_cons, show (i + 1) * 2 = (i * 2 + 1) + 1 by omega]
      simp only [List.drop_succ_cons]
      rw [ih]
theorem prC_one {T : List (Int × Int)} : ∀ v ∈ prC T, v.oneCell' = true := by
  intro v hv
  simp only [prC, List.mem_flatMap] at hv
  obtain ⟨x, _, hx⟩ := hv
  simp at hx
  rcases hx with rfl | rfl <;> rfl
theorem numC_one {l : List Int} : ∀ v ∈ numC l, v.oneCell' = true := by
  intro v hv
  simp only [numC, List.mem_map] at hv
  obtain ⟨x, _, rfl⟩ := hv
  rfl
theorem numC_take (l : List Int) (i : Nat) : (numC l).take i = numC (l.take i) := by simp [numC]
theorem numC_drop (l : List Int) (i : Nat) : (numC l).drop i = numC (l.drop i) := by simp [numC]
theorem numC_app (l m : List Int) : numC (l ++ m) = numC l ++ numC m := by simp [numC]
/-- A copy into a block's midst. -/
theorem run_copy_at {P : Program} (w : World) (dT sT ty elem : TypeId) (g o dLen dCap : Nat) (a : Addr) (sLen sCap : Nat) (cur : Array Value) (t : TypeId) (cs : List Value) (k : Nat)
    (hu : P.underlying dT = some (.slice elem)) (hs : (P.info? elem).map (·.size) = some k)
    (hg : w.heap[g]? = some (.cells cur t (0, 0))) (hn : cs.length = Nat.min sLen dLen * k)
    (hsrc : ∀ j v, cs[j]? = some v → w.cell? (a.add j) = some v) (hfit : o + cs.length ≤ cur.size) (h1 : ∀ v ∈ cs, v.oneCell' = true) :
    (Builtin.copy_ #[dT, sT] ty #[.slice (some ⟨g, o, none⟩) dLen dCap, .slice (some a) sLen sCap]).run P w =
      .ok (goInt (Nat.min sLen dLen)) (w.setRow g (cur.toList.take o ++ cs ++ cur.toList.drop (o + cs.length)).toArray) := by
  have hl := run_loadCells_list (P := P) w a cs hsrc
  have hst := run_storeCells_at P g o t cs 0 cur w hg (by omega) h1
  cases hq : P.info? elem with
  | none => simp [hq] at hs
  | some i =>
    have hi : i.size = k := by simpa [hq] using hs
    simp only [Nat.add_zero] at hst
    simp [Builtin.copy_, run_underlying hu, Builtin.lenOf, Builtin.firstCells, sizeOf, typeInfo, hq, hi, ← hn, hl, hst]
theorem run_copy_zero {P : Program} (w : World) (dT sT ty elem : TypeId) (d a : Option Addr) (dLen dCap sLen sCap : Nat) (hu : P.underlying dT = some (.slice elem)) (hs : ((P.info? elem).map (·.size)).isSome = true) (hn : Nat.min sLen dLen = 0) :
    (Builtin.copy_ #[dT, sT] ty #[.slice d dLen dCap, .slice a sLen sCap]).run P w = .ok (goInt 0) w := by
  cases hq : P.info? elem with
  | none => simp [hq] at hs
  | some i =>
    have hl : ∀ (x : Addr), (loadCells x 0).run P w = .ok #[] w := fun x => by simpa using run_loadCells_list (P := P) w x [] (by simp)
    cases d <;> cases a <;> simp [Builtin.copy_, run_underlying hu, Builtin.lenOf, Builtin.firstCells, sizeOf, typeInfo, hq, hn, storeCells, hl]
theorem add_at (g a j : Nat) : (⟨g, a, none⟩ : Addr).add j = ⟨g, a + j, none⟩ := by unfold Addr.add; split <;> simp_all
theorem Keep.setRow {F : List Nat} {w w' : World} (h : Keep F w w') (b : Nat) (cs : Array Value) (hb : b ∈ F ∨ w.heap.size ≤ b) : Keep F w (w'.setRow b cs) :=
  ⟨h.os, h.tape, h.output, by rw [setRow_size]; exact h.size, fun q hq hn => by
    rw [setRow_other _ _ _ _ (fun e => by rcases hb with h1 | h1; exact hn (e ▸ h1); omega)]
    exact h.block q hq hn⟩
theorem Keep.self (w : World) (b : Nat) (cs : Array Value) : Keep [b] w (w.setRow b cs) := Keep.setRow (Keep.refl _ _) b cs (Or.inl (by simp))
/-- A row is copied within itself. -/
theorem own_copy {P : Program} {w : World} {B g n cap k : Nat} {dT sT ty e : TypeId} {xs : List Value} (h : w.ownsRow B e k (.slice (some ⟨g, 0, none⟩) n cap) n xs) (h1 : ∀ v ∈ xs, v.oneCell' = true)
    (hu : P.underlying dT = some (.slice e)) (hs : (P.info? e).map (·.size) = some k) (i j m dl dc sl sc : Nat) (hm : Nat.min sl dl = m) (hi : i + m ≤ n) (hj : j + m ≤ n) (da sa : Option Addr)
    (hd : m = 0 ∨ da = some ⟨g, i * k, none⟩) (ha : m = 0 ∨ sa = some ⟨g, j * k, none⟩) :
    ∃ w', (Builtin.copy_ #[dT, sT] ty #[.slice da dl dc, .slice sa sl sc]).run P w = .ok (goInt m) w' ∧ w'.ownsRow B e k (.slice (some ⟨g, 0, none⟩) n cap) n (xs.take (i * k) ++ (xs.drop (j * k)).take (m * k) ++ xs.drop (i * k + m * k)) ∧ Keep [g] w w' ∧ w'.heap.size = w.heap.size := by
  by_cases h0 : m = 0
  · subst h0
    refine ⟨w, run_copy_zero _ _ _ _ _ _ _ _ _ _ _ hu (by rw [hs]; rfl) hm, ?_, Keep.refl _ _, rfl⟩
    simpa using h
  · obtain rfl := hd.resolve_left h0
    obtain rfl := ha.resolve_left h0
    have hl := h.1
    rcases h.2 with ⟨e, _⟩ | ⟨g', cap', cur, e, hb, hg, hc1, hc2, hc3, hc4⟩
    · cases e
    · simp at e
      obtain ⟨rfl, rfl⟩ := e
      have hik : i * k + m * k ≤ n * k := by rw [← Nat.add_mul]; exact Nat.mul_le_mul_right _ hi
      have hjk : j * k + m * k ≤ n * k := by rw [← Nat.add_mul]; exact Nat.mul_le_mul_right _ hj
      have hnk : n * k ≤ cap * k := Nat.mul_le_mul_right _ hc1
      have hcs : ((xs.drop (j * k)).take (m * k)).length = m * k := by simp; omega
      have hcl : cur.toList = xs ++ cur.toList.drop (n * k) := by rw [← hc4, List.take_append_drop]
      have hr := run_copy_at (P := P) w dT sT ty _ g (i * k) dl dc ⟨g, j * k, none⟩ sl sc cur _ ((xs.drop (j * k)).take (m * k)) k hu hs hg (by rw [hcs, hm]) (fun q v hq => by
        rw [add_at, cell_at hg]
        have hq2 : q < m * k := by have := (List.getElem?_eq_some_iff.1 hq).1; omega
        rw [List.getElem?_take, if_pos hq2, List.getElem?_drop] at hq
        have : cur[j * k + q]? = cur.toList[j * k + q]? := by simp
        rw [this, hcl, List.getElem?_append_left (by omega)]
        exact hq) (by rw [hcs]; omega) (fun v hv => h1 v (List.mem_of_mem_drop (List.mem_of_mem_take hv)))
      rw [hm] at hr
      refine ⟨_, hr, ?_, Keep.self _ _ _, by rw [setRow_size]⟩
      rw [hcs]
      have e1 : cur.toList.take (i * k) = xs.take (i * k) := by rw [hcl, List.take_append_of_le_length (by omega)]
      have e2 : cur.toList.drop (i * k + m * k) = xs.drop (i * k + m * k) ++ cur.toList.drop (n * k) := by
        conv => lhs; rw [hcl]
        rw [List.drop_append_of_le_length (by omega)]
      have hlen : (xs.take (i * k) ++ (xs.drop (j * k)).take (m * k) ++ xs.drop (i * k + m * k)).length = n * k := by simp; omega
      refine ⟨hlen, Or.inr ⟨g, cap, _, rfl, hb, setRow_heap _ _ _ _ _ _ hg, hc1, hc2, ?_, ?_⟩⟩
      · simp
        omega
      · rw [e1, e2]
        rw [← List.append_assoc, List.take_append_of_le_length (by omega), List.take_of_length_le (by omega)]
/-- The head of a row. -/
theorem own_cut {w : World} {B e k g n cap : Nat} {xs : List Value} (h : w.ownsRow B e k (.slice (some ⟨g, 0, none⟩) n cap) n xs) {m : Nat} (hm : m ≤ n) : w.ownsRow B e k (.slice (some ⟨g, 0, none⟩) m cap) m (xs.take (m * k)) := by
  have hl := h.1
  have hmk : m * k ≤ n * k := Nat.mul_le_mul_right _ hm
  rcases h.2 with ⟨e, _⟩ | ⟨g', cap', cur, e, hb, hg, hc1, hc2, hc3, hc4⟩
  · cases e
  · simp at e
    obtain ⟨rfl, rfl⟩ := e
    refine ⟨by simp; omega, Or.inr ⟨g, cap, cur, rfl, hb, hg, by omega, hc2, hc3, ?_⟩⟩
    rw [← hc4, List.take_take, Nat.min_eq_left hmk]
theorem zc1 (zs : Array Value) : (Builtin.zeroCells zs 1).toList = zs.toList := by
  unfold Builtin.zeroCells
  apply List.ext_getElem?
  intro i
  simp only [Nat.one_mul, Array.toList_map, Array.toList_range, List.getElem?_map]
  by_cases h : i < zs.size
  · simp [Nat.mod_eq_of_lt h, h, getElem!_pos]
  · have : (List.range zs.size)[i]? = none := by simp; omega
    rw [this]
    simp
    omega
/-- The last one of a row is cleared. -/
theorem own_clear {w : World} {B g n cap k : Nat} {T ty e : TypeId} {i0 : TypeInfo} {z : Value} {xs : List Value} (h : w.ownsRow B e k (.slice (some ⟨g, 0, none⟩) (n + 1) cap) (n + 1) xs)
    (hu : Try.prog.underlying T = some (.slice e)) (hi : Try.prog.info? e = some i0) (hz0 : i0.zero = some z) (hz : z.cells.size = k) (hz1 : ∀ v ∈ z.cells.toList, v.oneCell' = true) (c : Nat) :
    ∃ w', (Builtin.clear_ #[T] ty #[.slice (some ⟨g, n * k, none⟩) 1 c]).run Try.prog w = .ok (.tuple #[]) w' ∧ w'.ownsRow B e k (.slice (some ⟨g, 0, none⟩) n cap) n (xs.take (n * k)) ∧ Keep [g] w w' ∧ w'.heap.size = w.heap.size := by
  have hl := h.1
  rcases h.2 with ⟨e', _⟩ | ⟨g', cap', cur, e', hb, hg, hc1, hc2, hc3, hc4⟩
  · cases e'
  · simp at e'
    obtain ⟨rfl, rfl⟩ := e'
    have hnk : (n + 1) * k ≤ cap * k := Nat.mul_le_mul_right _ hc1
    have hn1 : (n + 1) * k = n * k + k := by rw [Nat.add_mul, Nat.one_mul]
    have hst := run_storeCells_at Try.prog g (n * k) _ z.cells.toList 0 cur w hg (by simp [hz]; omega) hz1
    simp only [Nat.add_zero] at hst
    refine ⟨w.setRow g (cur.toList.take (n * k) ++ z.cells.toList ++ cur.toList.drop (n * k + z.cells.toList.length)).toArray, ?_, ?_, Keep.self _ _ _, by rw [setRow_size]⟩
    · have hv : (zeroValue e).run Try.prog w = .ok z w := by simp [zeroValue, typeInfo, hi, hz0]
      simp [Builtin.clear_, run_underlying hu, hv, zc1, hst]
    · refine ⟨by simp; omega, Or.inr ⟨g, cap, _, rfl, hb, setRow_heap _ _ _ _ _ _ hg, by omega, hc2, ?_, ?_⟩⟩
      · simp [hz]
        omega
      · have hq : n * k ≤ cur.toList.length := by simp; omega
        have ht : (cur.toList.take (n * k)).length = n * k := by rw [List.length_take]; omega
        have hr : xs.take (n * k) = cur.toList.take (n * k) := by rw [← hc4, List.take_take, Nat.min_eq_left (by omega)]
        rw [hr]
        show ((cur.toList.take (n * k) ++ z.cells.toList) ++ _).take (n * k) = _
        rw [List.append_assoc, List.take_append_of_le_length (by omega), List.take_of_length_le (by omega)]
theorem info_pair : (Try.prog.info? 52).map (fun i => (i.zero, i.size, i.bytes)) = some (some (.agg #[.int .i64 0, .int .i64 0]), 2, 16) := by kernel_rfl
theorem size_i64 : (Try.prog.info? 2).map (·.size) = some 1 := by kernel_rfl
theorem size_pair : (Try.prog.info? 52).map (·.size) = some 2 := by kernel_rfl
end Go.Proofs.Ytgbmnngmfcneaaa.Pl
