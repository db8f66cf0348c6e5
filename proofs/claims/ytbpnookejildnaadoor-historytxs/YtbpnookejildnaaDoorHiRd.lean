/- Data: the document's order, one by one put to its place; pieces of rows. -/
import Derived.Test.YtbpnookejildnaaDoorHiFd
import Derived.Test.YtbpnookejildnaaDoorHiPl
import Derived.Laws.AppendOwnNone
namespace Go.Proofs.YtbpnookejildnaaDoor.Hi
open Go.ChangeShapes Go.WideShapes Go.ChangeAt Go.RowKit
set_option linter.unusedVariables false

/-- Where one comes to stand: looked for from a place downward. -/
def atD (L : List Tr) (i : Nat) (o : List Int) : Nat → Nat
  | 0 => 0
  | k + 1 => if aheadD (nt L i) (nt L (ni o k).toNat) = true then atD L i o k else k + 1
theorem atD_le (L : List Tr) (i : Nat) (o : List Int) : ∀ k, atD L i o k ≤ k
  | 0 => Nat.le_refl _
  | k + 1 => by
    unfold atD
    split
    · have := atD_le L i o k; omega
    · exact Nat.le_refl _
def insD (L : List Tr) (i : Nat) (o : List Int) : List Int := o.take (atD L i o o.length) ++ [(i : Int)] ++ o.drop (atD L i o o.length)
def orD (L : List Tr) : Nat → List Int
  | 0 => []
  | n + 1 => insD L n (orD L n)
theorem insD_len (L : List Tr) (i : Nat) (o : List Int) : (insD L i o).length = o.length + 1 := by
  have := atD_le L i o o.length
  simp [insD]; omega
theorem orD_len (L : List Tr) : ∀ n, (orD L n).length = n
  | 0 => rfl
  | n + 1 => by unfold orD; rw [insD_len, orD_len L n]
theorem orD_mem (L : List Tr) : ∀ n x, x ∈ orD L n ↔ ∃ q : Nat, x = (q : Int) ∧ q < n
  | 0, x => by simp [orD]
  | n + 1, x => by
    unfold orD insD
    have h := orD_mem L n x
    have e : x ∈ orD L n ↔ x ∈ (orD L n).take (atD L n (orD L n) (orD L n).length) ∨ x ∈ (orD L n).drop (atD L n (orD L n) (orD L n).length) := by
      rw [← List.mem_append, List.take_append_drop]
    simp only [List.mem_append, List.mem_singleton]
    constructor
    · rintro ((h1 | h1) | h1)
      · obtain ⟨q, hq, hl⟩ := h.1 (e.2 (Or.inl h1)); exact ⟨q, hq, by omega⟩
      · exact ⟨n, h1, by omega⟩
      · obtain ⟨q, hq, hl⟩ := h.1 (e.2 (Or.inr h1)); exact ⟨q, hq, by omega⟩
    · rintro ⟨q, hq, hl⟩
      by_cases hn : q = n
      · subst hn; exact Or.inl (Or.inr hq)
      · rcases e.1 (h.2 ⟨q, hq, by omega⟩) with h1 | h1
        · exact Or.inl (Or.inl h1)
        · exact Or.inr h1
/-- A piece of a row of numbers. -/
def Pz (w : World) (v : Value) (m : Nat) (l : List Int) : Prop := l.length = m ∧ ∃ a cap, v = .slice a m cap ∧ (a = none → m = 0 ∧ cap = 0) ∧ ∀ x, a = some x → ∀ j u, (iC l)[j]? = some u → w.cell? (x.add j) = some u
theorem iC_take (l : List Int) (q : Nat) : iC (l.take q) = (iC l).take q := by simp [iC]
theorem iC_drop (l : List Int) (q : Nat) : iC (l.drop q) = (iC l).drop q := by simp [iC]
theorem iC_app (a b : List Int) : iC (a ++ b) = iC a ++ iC b := by simp [iC]
theorem iC_one (l : List Int) : ∀ u ∈ iC l, u.oneCell' = true := fun u hu => by
  simp [iC] at hu
  obtain ⟨z, _, rfl⟩ := hu
  rfl
theorem addg (g j q : Nat) : (⟨g, q, none⟩ : Addr).add j = ⟨g, q + j, none⟩ := by
  by_cases h : j = 0
  · subst h; rw [add_zero']; rfl
  · rw [add_pos' _ _ (by omega)]
theorem Pz.head {w : World} {B n cap : Nat} {a : Option Addr} {l : List Int} (h : w.ownsRow B 3 1 (.slice a n cap) n (iC l)) {q : Nat} (hq : q ≤ n) : Pz w (.slice a q cap) q (l.take q) := by
  have hl : l.length = n := by have := h.1; rw [iC_len] at this; omega
  refine ⟨by rw [List.length_take]; omega, a, cap, rfl, fun e => ?_, fun x e j u hj => ?_⟩
  · rcases h.2 with ⟨e1, _⟩ | ⟨g, c, cur, e1, _⟩
    · injection e1 with _ e2 e3; omega
    · injection e1 with e2 _ _; rw [e] at e2; cases e2
  · rcases h.2 with ⟨e1, _⟩ | ⟨g, c, cur, e1, _⟩
    · injection e1 with e2 _ _; rw [e] at e2; cases e2
    · injection e1 with e2 e3 e4
      rw [e] at e2
      injection e2 with e2
      subst e2
      subst e
      rw [addg, Nat.zero_add]
      refine own_cells h j u ?_
      rw [iC_take] at hj
      have : j < q := by have := (List.getElem?_eq_some_iff.1 hj).1; rw [List.length_take] at this; omega
      rw [List.getElem?_take, if_pos this] at hj
      exact hj
theorem Pz.tail {w : World} {B n cap g : Nat} {l : List Int} (h : w.ownsRow B 3 1 (.slice (some ⟨g, 0, none⟩) n cap) n (iC l)) {q : Nat} (hq : q ≤ n) (cp : Nat) : Pz w (.slice (some ⟨g, q, none⟩) (n - q) cp) (n - q) (l.drop q) := by
  have hl : l.length = n := by have := h.1; rw [iC_len] at this; omega
  refine ⟨by rw [List.length_drop]; omega, _, cp, rfl, (fun e => by cases e), fun x e j u hj => ?_⟩
  injection e with e
  subst e
  rw [addg]
  rw [iC_drop, List.getElem?_drop] at hj
  exact own_cells h _ u hj
theorem Pz.later {w w' : World} {v : Value} {m : Nat} {l : List Int} (h : Pz w v m l) (hk : ∀ b, v.ownBlock = some b → w'.heap[b]? = w.heap[b]?) : Pz w' v m l := by
  obtain ⟨h1, a, cap, rfl, h2, h3⟩ := h
  refine ⟨h1, a, cap, rfl, h2, fun x e j u hj => ?_⟩
  subst e
  have e : w'.cell? (x.add j) = w.cell? (x.add j) := World.cell?_of_block (by rw [add_block]; exact hk x.block rfl)
  rw [e]
  exact h3 x rfl j u hj
set_option maxRecDepth 100000 in
theorem wpList_append_pz (w : World) {ops : Array Oper} {rest : List Oper} {o : Oper} {a : Act} {Q : Exit → Act → World → Prop} (hgd : o.guard = none) (s x : Operand)
    (ho : o.op = .call { callee := .builtin .append, args := #[s, x], argTypes := #[37, 37] }) (base : Nat) (v : Value) (n : Nat) (xs : List Value) (hs : a.eval s = v) (hown : w.ownsRow base 3 1 v n xs)
    (u : Value) (m : Nat) (l : List Int) (hx : a.eval x = u) (hl : Pz w u m l) (h63 : n + m ≤ 925925926000) (hbase : base ≤ w.heap.size)
    (h : ∀ v' w', w'.ownsRow base 3 1 v' (n + m) (xs ++ iC l) → w.grownBy w' v.ownBlock → wpList Tryd.prog ops Q rest (a.put o.dst v') w') : wpList Tryd.prog ops Q (o :: rest) a w := by
  obtain ⟨i0, hi, hz0, hz1, hz2⟩ := info_parts info_int23
  obtain ⟨hlm, ad, cap, rfl, hnil, hc⟩ := hl
  cases ad with
  | none =>
    obtain ⟨rfl, rfl⟩ := hnil rfl
    obtain rfl : l = [] := List.eq_nil_of_length_eq_zero hlm
    refine wpList_append_own_none hgd s x 37 ho base 3 i0 1 Tryd.underlying37 hi v n xs hs hown hx ?_
    exact h v w (by simpa [iC] using hown) ⟨rfl, rfl, rfl, Nat.le_refl _, fun _ _ _ => rfl⟩
  | some ad =>
    refine wpList_append_own w hgd s x 37 ho base 3 i0 (.int .i64 0) 1 8 Tryd.underlying37 hi hz0 hz1 hz2 rfl (by decide) v n xs hs hown ad m cap (iC l) hx (by rw [iC_len]; omega) (fun j u' hu => hc ad rfl j u' hu) (iC_one l) (by unfold maxLen; omega) (by omega) hbase fun v' w' h1 h2 _ => h v' w' h1 h2
end Go.Proofs.YtbpnookejildnaaDoor.Hi
