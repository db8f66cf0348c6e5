/- A call over cells does what is meant. -/
import Derived.Test.YtbajgbknjmbimabDiMe
import Derived.Laws.StructEq
namespace Go.Proofs.Ytbajgbknjmbimab.Di
open Go.ChangeShapes Go.WideShapes Go.ChangeAt Go.RowKit

theorem mean_run {n : Nat} {C : List Int} {P : List (Int × Int)} (h : DInv n C P) {c : Int} {A : List Int} (hc : arV c = A.length) (hA : ∀ x ∈ A, Sx x) : ∃ C', runM 0 (mostW (n : Int) + 1) (mkM 0 (n : Int) c A) C 0 = (C', (meanV n c A P).2.1, (meanV n c A P).2.2, true) ∧ DInv n C' (meanV n c A P).1 := by
  have hcc : c = 5 ∨ c = 3 ∨ c = 2 ∨ c = 4 := by
    unfold arV at hc
    by_cases e1 : c = 3
    · exact Or.inr (Or.inl e1)
    · by_cases e2 : c = 2
      · exact Or.inr (Or.inr (Or.inl e2))
      · by_cases e3 : c = 4
        · exact Or.inr (Or.inr (Or.inr e3))
        · by_cases e4 : c = 5
          · exact Or.inl e4
          · rw [if_neg e1, if_neg e2, if_neg e3, if_neg e4] at hc; omega
  have hlen := h.len
  unfold meanV
  rcases hcc with rfl | rfl | rfl | rfl
  · rw [if_pos rfl]
    exact ⟨C, h.lens, h⟩
  · rw [if_neg (by decide), if_pos rfl]
    by_cases hq : plN (nth A 0) P < P.length
    · rw [if_pos hq]
      exact h.chg hq (pl_at hq) (nl_w64 hA 1)
    · rw [if_neg hq]
      by_cases hf : (n : Int) ≤ (P.length : Int)
      · rw [if_pos hf]
        exact ⟨C, h.full (pl_no hq) (by omega), h⟩
      · rw [if_neg hf]
        exact h.add (pl_no hq) (by omega) (nl_w64 hA 0) (nl_w64 hA 1)
  · rw [if_neg (by decide), if_neg (by decide), if_pos rfl]
    by_cases hq : plN (nth A 0) P < P.length
    · rw [if_pos hq]
      refine ⟨C, h.get ?_, h⟩
      rw [getD_at hq]
      have e := pl_at hq
      have : (nth A 0, (P[plN (nth A 0) P]).2) = P[plN (nth A 0) P] := Prod.ext e.symm rfl
      rw [this]
      exact List.getElem_mem hq
    · rw [if_neg hq]
      exact ⟨C, h.getno (pl_no hq), h⟩
  · rw [if_neg (by decide), if_neg (by decide), if_neg (by decide)]
    by_cases hq : plN (nth A 0) P < P.length
    · rw [if_pos hq]
      have e := pl_at hq
      have e2 : (nth A 0, (P[plN (nth A 0) P]).2) = P[plN (nth A 0) P] := Prod.ext e.symm rfl
      refine h.del (v := (P[plN (nth A 0) P]).2) (by rw [e2]; exact List.getElem_mem hq) ?_
      rw [e2, getD_at (by omega)]
      exact swap_perm hq
    · rw [if_neg hq]
      exact ⟨C, h.delno (pl_no hq), h⟩
theorem len2 {α : Type} {l : List α} (h : l.length = 2) : ∃ a b, l = [a, b] := by
  match l, h with
  | [a, b], _ => exact ⟨a, b, rfl⟩
theorem eq_pair (k v : Int) (w : World) (d : Nat) : (Op.equalIn (d + 2) 39 (.agg #[.int .i64 k, .int .i64 v]) (.agg #[.int .i64 k, .int .i64 v])).run Try.prog w = .ok true w := by
  rw [run_equalIn_struct w (d + 1) 39 _ _ (by kernel_rfl) (by kernel_rfl)]
  have hf : (Try.prog.fieldsOf 39).toList.map (fun f => (f.name, f.type, f.offset)) = [("Key", 2, 0), ("Value", 2, 1)] := by kernel_rfl
  generalize (Try.prog.fieldsOf 39).toList = fs at *
  have hl : fs.length = 2 := by have := congrArg List.length hf; simpa using this
  obtain ⟨f0, f1, rfl⟩ := len2 hl
  simp only [List.map_cons, List.map_nil, List.cons.injEq, Prod.mk.injEq, and_true] at hf
  obtain ⟨⟨n0, t0, o0⟩, n1, t1, o1⟩ := hf
  have p0 : (part 2 (#[.int .i64 k, .int .i64 v] : Array Value) 0).run Try.prog w = .ok (.int .i64 k) w := run_part_plain w (by kernel_rfl) rfl
  have p1 : (part 2 (#[.int .i64 k, .int .i64 v] : Array Value) 1).run Try.prog w = .ok (.int .i64 v) w := run_part_plain w (by kernel_rfl) rfl
  have q2 := fun v : Int => run_equalIn_int (P := Try.prog) w d 2 .i64 .i64 v v Try.underlying2
  simp [Op.eqFields, n0, n1, t0, t1, o0, o1, p0, p1, q2]
theorem neq_pair (k v : Int) (w : World) : (binOp .neq 39 (.agg #[.int .i64 k, .int .i64 v]) (.agg #[.int .i64 k, .int .i64 v])).run Try.prog w = .ok (.bool false) w := by
  rw [run_neq_struct, eq_pair k v w 9998]
  rfl
/-- What stands in the dict, and where. -/
theorem DInv.at {n : Nat} {C : List Int} {P : List (Int × Int)} (h : DInv n C P) {i : Nat} (hi : i < (inS C n).length) : ∃ hq : plN ((inS C n)[i]).1 P < P.length, P[plN ((inS C n)[i]).1 P] = (inS C n)[i] := by
  have hmem : (inS C n)[i] ∈ P := h.says.2.2.mem_iff.2 (List.getElem_mem hi)
  by_cases hq : plN ((inS C n)[i]).1 P < P.length
  · exact ⟨hq, h.uniq (List.getElem_mem hq) hmem (pl_at hq)⟩
  · exact absurd rfl (pl_no hq _ hmem)
end Go.Proofs.Ytbajgbknjmbimab.Di
