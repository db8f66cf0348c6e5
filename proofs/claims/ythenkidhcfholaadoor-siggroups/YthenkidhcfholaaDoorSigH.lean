/- Rows of signatures that are kept, lists that are appended, and what signatures of lists have in common. -/
import Derived.Test.YthenkidhcfholaaDoorSigO
import Derived.Laws.AppendOwnNone
namespace Go.Proofs.YthenkidhcfholaaDoor
open Go.ChangeShapes Go.WideShapes Go.ChangeAt Go.RowKit

/-- Rows of signatures that lie in blocks. -/
def Many (w : World) (l : List (Nat × Array Value)) : Prop := ∀ q ∈ l, w.heap[q.1]? = some (.cells q.2 25 (0, 0))
theorem Many.later {w w' : World} {l : List (Nat × Array Value)} (h : Many w l) (hb : Below w.heap.size w w') : Many w' l := fun q hq => row_later (h q hq) hb
theorem Many.more {w : World} {l : List (Nat × Array Value)} (h : Many w l) (c : Array Value) : Many (w.alloc (.cells c 25)) ((w.heap.size, c) :: l) := fun q hq => by
  rcases List.mem_cons.1 hq with rfl | hq
  · exact heap_alloc_new _ _
  · exact row_later (h q hq) (below_a1 _ _)
theorem Many.row {w : World} {l : List (Nat × Array Value)} (h : Many w l) (b : Nat) (c : Array Value) (hm : (b, c) ∈ l) : w.heap[b]? = some (.cells c 25 (0, 0)) := h (b, c) hm
theorem Many.nil (w : World) : Many w [] := fun q hq => by cases hq
theorem Many.drawn {w : World} {l : List (Nat × Array Value)} (h : Many w l) (n : Nat) : Many (w.drewN n) l := h

/-! ### lists appended -/
def ivi (l : List Int) : List Value := l.map (Value.int .i64)
theorem ivi_app (a b : List Int) : ivi (a ++ b) = ivi a ++ ivi b := List.map_append
theorem ivi_len (l : List Int) : (ivi l).length = l.length := by simp [ivi]
theorem own_lsti {w : World} {base : Nat} {v : Value} {l : List Int} (h : w.ownsRow base 3 1 v l.length (ivi l)) : Lst w v l := by
  obtain ⟨_, h⟩ := h
  rcases h with ⟨rfl, hn⟩ | ⟨g, cap, cur, rfl, hg, hb, hn, hm, hc, ht⟩
  · have : l = [] := List.length_eq_zero_iff.1 hn
    subst this
    exact ⟨_, _, rfl, by simp, Or.inl rfl⟩
  · refine ⟨_, _, rfl, by unfold maxLen at hm; omega, Or.inr ⟨_, rfl, fun i hi => ?_⟩⟩
    have e1 : (cur.toList.take (l.length * 1))[i]? = some (Value.int .i64 (l.getD i 0)) := by
      rw [ht]
      simp [ivi, hi]
    rw [List.getElem?_take] at e1
    split at e1
    · rw [add_at, cell_of_row _ _ i cur 3 (0, 0) hb]
      simpa using e1
    · cases e1

theorem wpList_append_lst (w : World) {ops : Array Oper} {rest : List Oper} {o : Oper} {a : Act} {Q : Exit → Act → World → Prop} (hgd : o.guard = none) (s x : Operand)
    (ho : o.op = .call { callee := .builtin .append, args := #[s, x], argTypes := #[22, 22] }) (base : Nat) (v : Value) (n : Nat) (xs : List Value) (hs : a.eval s = v) (hown : w.ownsRow base 3 1 v n xs)
    (u : Value) (l : List Int) (hx : a.eval x = u) (hl : Lst w u l) (hnil : ∀ cap, u = .slice none 0 cap → cap = 0) (h63 : n + l.length ≤ maxLen) (hbytes : (n + l.length) * 8 ≤ 140737488355328) (hbase : base ≤ w.heap.size)
    (h : ∀ v' w', w'.ownsRow base 3 1 v' (n + l.length) (xs ++ ivi l) → w.grownBy w' v.ownBlock → wpList Tryd.prog ops Q rest (a.put o.dst v') w') : wpList Tryd.prog ops Q (o :: rest) a w := by
  obtain ⟨i0, hi, hz0, hz1, hz2⟩ := info_parts info_int
  obtain ⟨ad, cap, rfl, hbig, hc⟩ := hl
  cases ad with
  | none =>
    have hl0 : l = [] := by
      rcases hc with h0 | ⟨x, hx', _⟩
      · exact h0
      · cases hx'
    subst hl0
    have hc0 : cap = 0 := hnil cap rfl
    subst hc0
    refine wpList_append_own_none hgd s x 22 ho base 3 i0 1 Tryd.underlying22 hi v n xs hs hown hx ?_
    exact h v w (by simpa [ivi] using hown) ⟨rfl, rfl, rfl, Nat.le_refl _, fun _ _ _ => rfl⟩
  | some ad =>
    refine wpList_append_own w hgd s x 22 ho base 3 i0 (.int .i64 0) 1 8 Tryd.underlying22 hi hz0 hz1 hz2 rfl (by decide) v n xs hs hown ad l.length cap (ivi l) hx (by rw [ivi_len]; omega) (fun j u' hu => ?_) (fun u' hu => ?_) h63 hbytes hbase fun v' w' h1 h2 _ => h v' w' h1 h2
    · rcases hc with h0 | ⟨x, hx', hcell⟩
      · subst h0; simp [ivi] at hu
      · cases hx'
        have hj : j < l.length := by
          by_cases hj : j < l.length
          · exact hj
          · rw [List.getElem?_eq_none (by rw [ivi_len]; omega)] at hu; cases hu
        rw [hcell j hj]
        simp [ivi, hj] at hu
        simp [hj, hu]
    · simp [ivi] at hu
      obtain ⟨z, _, rfl⟩ := hu
      rfl

/-! ### what signatures of lists have -/
theorem bit_fold (l : List Int) (s : List Nat) (hs : Ok s) (k : Nat) : bit (l.foldl (fun s c => put s (sigN c)) s) k = (bit s k || l.any fun c => decide (k = sigN c)) := by
  induction l generalizing s with
  | nil => simp
  | cons c l ih =>
    rw [List.foldl_cons, ih _ (ok_put hs _ (sigN_lt c)), bit_put hs _ _ (sigN_lt c), List.any_cons, Bool.or_assoc]
theorem bit_ofAll (l : List Int) (k : Nat) : bit (ofAll l) k = l.any fun c => decide (k = sigN c) := by
  unfold ofAll
  rw [bit_fold l nought ok_nought k, bit_nought, Bool.false_or]
theorem ofAll_append (a b : List Int) : ofAll (a ++ b) = uni (ofAll a) (ofAll b) :=
  sig_ext (ok_ofAll _) (ok_uni (ok_ofAll a) (ok_ofAll b)) fun k _ => by
    rw [bit_uni (ok_ofAll a) (ok_ofAll b), bit_ofAll, bit_ofAll, bit_ofAll, List.any_append]
theorem has_own (l : List Int) (i : Nat) (h : i < l.length) : bit (ofAll l) (sigN (l.getD i 0)) = true := by
  rw [bit_ofAll, List.any_eq_true]
  refine ⟨l.getD i 0, ?_, by simp⟩
  have : l.getD i 0 = l[i] := by simp [h]
  rw [this]
  exact List.getElem_mem h
theorem meets_of {a b : List Nat} (ha : Ok a) (hb : Ok b) (k : Nat) (_ : k < 512) (h1 : bit a k = true) (h2 : bit b k = true) : (!(meet a b == nought)) = true := by
  cases h : meet a b == nought with
  | false => rfl
  | true =>
    rw [beq_iff_eq] at h
    have h3 := bit_meet ha hb k
    rw [h, bit_nought, h1, h2] at h3
    cases h3
theorem put_has {s : List Nat} (hs : Ok s) (k : Nat) (hk : k < 512) : bit (put s k) k = true := by rw [bit_put hs k k hk]; simp

/-! ### the bound of the second form -/
theorem bulk_one {H : Type} (d : DataW H) : 1 ≤ Rows.uptoBulk d := by
  cases d with
  | lit l => cases l <;> simp [Rows.uptoBulk]
  | nil => simp [Rows.uptoBulk]
  | ptr d => simp [Rows.uptoBulk]
  | slice elems spare => simp [Rows.uptoBulk]
  | agg parts => simp [Rows.uptoBulk]
  | iface t d => simp [Rows.uptoBulk]
  | map entries => simp [Rows.uptoBulk]
  | held h => simp [Rows.uptoBulk]
theorem bulk_len {H : Type} (l : List (DataW H)) : l.length ≤ Rows.uptoBulkAll l := by
  induction l with
  | nil => simp [Rows.uptoBulkAll]
  | cons x r ih => have := bulk_one x; simp only [Rows.uptoBulkAll, List.length_cons]; omega
theorem list_small {H : Type} {d : DataW H} {l : List Int} (dl : d = .nil ∧ l = [] ∨ ∃ elems spare, d = .slice elems spare ∧ elems.length = l.length) : l.length ≤ Rows.uptoBulk d := by
  rcases dl with ⟨_, rfl⟩ | ⟨elems, spare, rfl, he⟩
  · simp
  · have := bulk_len elems
    simp only [Rows.uptoBulk]
    omega

/-- A nil list has no room. -/
theorem list_nil {H : Type} {enc : TypeId × Value → H} {W : World} {v : Value} {d : DataW H} {p : List MemPlace} (h : DataW.Trod enc Tryd.prog W 0 (fun _ => true) true 22 v d p) : ∀ cap, v = .slice none 0 cap → cap = 0 := by
  intro cap hv
  subst hv
  obtain ⟨fuel, hf⟩ := h
  rcases open_ints Tryd.underlying22 Tryd.underlying3 (by kernel_rfl) hf with ⟨hcs, _⟩ | ⟨x, n, c, zs, hcs, _⟩
  · simpa [Value.cells] using hcs
  · simp [Value.cells] at hcs
end Go.Proofs.YthenkidhcfholaaDoor
