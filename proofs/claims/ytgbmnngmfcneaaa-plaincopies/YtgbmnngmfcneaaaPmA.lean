/- Pieces of rows, which are appended onto rows that a call owns. -/
import Derived.Test.YtgbmnngmfcneaaaPlC
import Derived.Laws.AppendOwnNone
namespace Go.Proofs.Ytgbmnngmfcneaaa.Pl
open Go.ChangeShapes Go.WideShapes Go.ChangeAt Go.RowKit

/-- A piece of a row: so many elements of so many cells; a nil slice has no room. -/
def Sg (w : World) (k : Nat) (v : Value) (n : Nat) (xs : List Value) : Prop := Src w k v n xs ∧ ∀ m cap, v = .slice none m cap → m = 0 ∧ cap = 0
theorem Sg.empty (w : World) (k : Nat) (a : Option Addr) : Sg w k (.slice a 0 0) 0 [] :=
  ⟨⟨by simp, by simp, a, 0, rfl, Or.inl rfl⟩, fun m cap h => by injection h with _ h1 h2; exact ⟨h1.symm, h2.symm⟩⟩
theorem Sg.head {w : World} {B e k n cap : Nat} {a : Option Addr} {xs : List Value} (h : w.ownsRow B e k (.slice a n cap) n xs) (h1 : ∀ u ∈ xs, u.oneCell' = true) {i : Nat} (hi : i ≤ n) : Sg w k (.slice a i cap) i (xs.take (i * k)) := by
  have hik : i * k ≤ n * k := Nat.mul_le_mul_right _ hi
  have hl := h.1
  refine ⟨⟨by rw [List.length_take]; omega, fun u hu => h1 u (List.mem_of_mem_take hu), a, cap, rfl, ?_⟩, fun m c he => ?_⟩
  · rcases h.2 with ⟨e1, e2⟩ | ⟨g, c, cur, e1, _, hg, _, _, _, hc⟩
    · injection e1 with _ e3 _
      left; omega
    · injection e1 with e3 _ _
      subst e3
      refine Or.inr ⟨_, rfl, fun j u hj => ?_⟩
      rw [add_at, Nat.zero_add]
      refine own_cells h j u ?_
      have : j < i * k := by have := (List.getElem?_eq_some_iff.1 hj).1; rw [List.length_take] at this; omega
      rw [List.getElem?_take, if_pos this] at hj
      exact hj
  · injection he with e1 e2 e3
    subst e1
    rcases h.2 with ⟨e1, _⟩ | ⟨g, c, cur, e1, _⟩
    · injection e1 with _ e4 e5
      exact ⟨by omega, by omega⟩
    · cases e1
theorem Sg.of_own {w : World} {B e k n : Nat} {v : Value} {xs : List Value} (h : w.ownsRow B e k v n xs) (h1 : ∀ u ∈ xs, u.oneCell' = true) : Sg w k v n xs := by
  obtain ⟨a, cap, rfl⟩ := own_slice h
  have := Sg.head h h1 (Nat.le_refl n)
  rwa [← h.1, List.take_length] at this
theorem Sg.tail {w : World} {B e k n cap g : Nat} {xs : List Value} (h : w.ownsRow B e k (.slice (some ⟨g, 0, none⟩) n cap) n xs) (h1 : ∀ u ∈ xs, u.oneCell' = true) {i : Nat} : Sg w k (.slice (some ⟨g, i * k, none⟩) (n - i) (cap - i)) (n - i) (xs.drop (i * k)) := by
  have hl := h.1
  refine ⟨⟨by rw [List.length_drop, hl, ← Nat.sub_mul], fun u hu => h1 u (List.mem_of_mem_drop hu), _, _, rfl, Or.inr ⟨_, rfl, fun j u hj => ?_⟩⟩, fun m c he => by cases he⟩
  rw [add_at]
  rw [List.getElem?_drop] at hj
  exact own_cells h _ u hj
theorem Sg.later {w w' : World} {k n : Nat} {v : Value} {xs : List Value} (h : Sg w k v n xs) (hk : ∀ b, v.ownBlock = some b → w'.heap[b]? = w.heap[b]?) : Sg w' k v n xs := by
  obtain ⟨⟨h1, h2, a, cap, rfl, h3⟩, h4⟩ := h
  refine ⟨⟨h1, h2, a, cap, rfl, ?_⟩, h4⟩
  rcases h3 with h3 | ⟨x, rfl, h3⟩
  · exact Or.inl h3
  · refine Or.inr ⟨x, rfl, fun j u hj => ?_⟩
    have e : w'.cell? (x.add j) = w.cell? (x.add j) := World.cell?_of_block (by rw [add_block]; exact hk x.block rfl)
    rw [e]
    exact h3 j u hj
set_option maxRecDepth 100000 in
/-- A piece is appended onto a row that the call owns. -/
theorem wpList_append_sg (w : World) {ops : Array Oper} {rest : List Oper} {o : Oper} {a : Act} {Q : Exit → Act → World → Prop} {T e : TypeId} {i0 : TypeInfo} {z : Value} {k b : Nat} (hgd : o.guard = none) (s x : Operand)
    (ho : o.op = .call { callee := .builtin .append, args := #[s, x], argTypes := #[T, T] }) (hu : Try.prog.underlying T = some (.slice e)) (hi : Try.prog.info? e = some i0) (hz0 : i0.zero = some z) (hz1 : i0.size = k) (hz2 : i0.bytes = b) (hzs : z.cells.size = k) (hk : 0 < k) (hb : b ≤ 64)
    (base : Nat) (v : Value) (n : Nat) (xs : List Value) (hs : a.eval s = v) (hown : w.ownsRow base e k v n xs)
    (u : Value) (m : Nat) (ys : List Value) (hx : a.eval x = u) (hl : Sg w k u m ys) (h63 : n + m ≤ 1048576) (hbase : base ≤ w.heap.size)
    (h : ∀ v' w', w'.ownsRow base e k v' (n + m) (xs ++ ys) → w.grownBy w' v.ownBlock → wpList Try.prog ops Q rest (a.put o.dst v') w') : wpList Try.prog ops Q (o :: rest) a w := by
  obtain ⟨⟨hl1, hl2, ad, cap, rfl, hc⟩, hnil⟩ := hl
  cases ad with
  | none =>
    obtain ⟨rfl, rfl⟩ := hnil _ _ rfl
    obtain rfl : ys = [] := List.eq_nil_of_length_eq_zero (by omega)
    refine wpList_append_own_none hgd s x T ho base e i0 k hu hi v n xs hs hown hx ?_
    exact h v w (by simpa using hown) ⟨rfl, rfl, rfl, Nat.le_refl _, fun _ _ _ => rfl⟩
  | some ad =>
    refine wpList_append_own w hgd s x T ho base e i0 z k b hu hi hz0 hz1 hz2 hzs hk v n xs hs hown ad m cap ys hx hl1 (fun j u' hu' => ?_) hl2 (by unfold maxLen; omega) ?_ hbase fun v' w' h1 h2 _ => h v' w' h1 h2
    · rcases hc with rfl | ⟨x, hx', hcell⟩
      · obtain rfl : ys = [] := List.eq_nil_of_length_eq_zero (by omega)
        simp at hu'
      · injection hx' with hx'
        subst hx'
        exact hcell j u' hu'
    · have : (n + m) * b ≤ 1048576 * 64 := Nat.mul_le_mul h63 hb
      omega
end Go.Proofs.Ytgbmnngmfcneaaa.Pl
