/- Groups of signatures that are the same, as lists of places, and signatures as the keys of a map. -/
import Derived.Test.YthenkidhcfholaaDoorSigH
import Derived.Maps.Own
import Derived.Maps.OwnOps
import Derived.Maps.OwnSet
import Derived.Maps.AppendAt
import Derived.DeepKeys5
namespace Go.Proofs.YthenkidhcfholaaDoor
open Go.ChangeShapes Go.WideShapes Go.ChangeAt Go.RowKit
open Go.Maps (Keyed)

/-! ### keys -/
theorem laid_out : laidOutB Tryd.prog = true := by kernel_rfl
theorem sig_keyed : Keyed Tryd.prog 25 := Keyed.of_law (deep_law_laid laid_out (m := 3) (by decide) (of_decide_eq_true (by kernel_rfl)) (by kernel_rfl) (by rw [Tryd.underlying25]))
theorem sig_keyType : Tryd.prog.keyType 25 = true := by kernel_rfl

theorem key_word (D n : Nat) (h : n < 18446744073709551616) : Tryd.prog.keyLits (D + 1) 23 [.int .u64 (n : Int)] = some [.int .u64 (n : Int)] := by
  have hw : (Lit.int .u64 (n : Int)).wf = true := by simp [Lit.wf, IntKind.min, IntKind.max, IntKind.signed, IntKind.bits]; omega
  simp [Program.keyLits, Tryd.underlying23, hw]
theorem mapM_all {α β : Type} (f : α → Option β) (g : α → β) : ∀ (l : List α), (∀ i ∈ l, f i = some (g i)) → l.mapM f = some (l.map g)
  | [], _ => rfl
  | x :: l, h => by
    rw [List.mapM_cons, h x (by simp), mapM_all f g l (fun i hi => h i (by simp [hi]))]
    rfl
/-- The key that a signature is. -/
def kl (s : List Nat) : Lit := .string (keyBytes (((List.range 8).map fun i => [Lit.int .u64 ((s.getD i 0 : Nat) : Int)]).flatten))
theorem kl_eq (s : List Nat) (hs : Ok s) : keyOf Tryd.prog 25 (sv s) = some (kl s) := by
  have hf : (sv s).formed Tryd.prog 25 = true := by
    unfold sv Value.formed
    simp [Tryd.underlying25, cells_sig, sc_size, hs.1]
  have hkl : ∀ D, Tryd.prog.keyLits (D + 2) 25 (sv s).cells.toList = some (((List.range 8).map fun i => [Lit.int .u64 ((s.getD i 0 : Nat) : Int)]).flatten) := by
    intro D
    unfold Program.keyLits
    rw [Tryd.underlying25]
    simp only [cells_u64, cells_sig, Nat.mul_one]
    have hl : (sv s).cells.toList.length = 8 := by simp [sv, Value.cells, sc, hs.1]
    rw [if_pos hl, mapM_all _ (fun i => [Lit.int .u64 ((s.getD i 0 : Nat) : Int)]) (List.range 8) (fun i hi => ?_)]
    · rfl
    · have hi8 := List.mem_range.1 hi
      have e : ((sv s).cells.toList.drop i).take 1 = [.int .u64 ((s.getD i 0 : Nat) : Int)] := by
        have hi' : i < s.length := by rw [hs.1]; exact hi8
        simp [sv, Value.cells, sc, List.take_one, hi']
      rw [e]
      exact key_word D _ (hs.2 i)
  have hls := hkl (Tryd.prog.types.size - 1)
  have e : Tryd.prog.types.size - 1 + 2 = Tryd.prog.types.size + 1 := by
    have : 0 < Tryd.prog.types.size := of_decide_eq_true (by kernel_rfl)
    omega
  rw [e] at hls
  unfold keyOf kl
  rw [Tryd.underlying25]
  show (if (Tryd.prog.keyType 25 && (sv s).formed Tryd.prog 25) then (Tryd.prog.keyLits (Tryd.prog.types.size + 1) 25 (sv s).cells.toList).map (fun ls => Lit.string (keyBytes ls)) else none) = _
  rw [sig_keyType, hf, Bool.and_self, if_pos rfl, hls]
  rfl
theorem kl_inj {a b : List Nat} (ha : Ok a) (hb : Ok b) (h : kl a = kl b) : a = b := by
  have h1 := kl_eq a ha
  rw [h] at h1
  have := sig_keyed.inj h1 (kl_eq b hb)
  unfold sv at this
  exact sc_inj (by simpa using this)
theorem kl_key (s : List Nat) (hs : Ok s) : WideAt.IsKeyLit (kl s) := sig_keyed.key (kl_eq s hs)

/-! ### groups of places -/
/-- Has the group g's first place the signature t? -/
def isOf (S : List (List Nat)) (t : List Nat) (g : List Nat) : Bool := S.getD (g.headD 0) [] == t
def whichG (S : List (List Nat)) (t : List Nat) (G : List (List Nat)) : Option Nat := G.findIdx? (isOf S t)
def groupsTo (S : List (List Nat)) : Nat → List (List Nat)
  | 0 => []
  | i + 1 => match whichG S (S.getD i []) (groupsTo S i) with
    | some k => (groupsTo S i).set k ((groupsTo S i).getD k [] ++ [i])
    | none => groupsTo S i ++ [[i]]
/-- No group is empty, and all places are below i. -/
def Fine (G : List (List Nat)) (i : Nat) : Prop := (∀ g ∈ G, g ≠ []) ∧ (∀ g ∈ G, ∀ p ∈ g, p < i) ∧ G.length ≤ i ∧ ∀ g ∈ G, g.length ≤ i
theorem fine_groupsTo (S : List (List Nat)) (i : Nat) : Fine (groupsTo S i) i := by
  induction i with
  | zero => unfold Fine groupsTo; simp
  | succ i ih =>
    obtain ⟨h1, h2, h3, h4⟩ := ih
    unfold groupsTo
    cases hw : whichG S (S.getD i []) (groupsTo S i) with
    | none =>
      refine ⟨fun g hg => ?_, fun g hg p hp => ?_, by simp; omega, fun g hg => ?_⟩
      all_goals
        rcases List.mem_append.1 hg with hg | hg
      · exact h1 g hg
      · simp at hg; subst hg; simp
      · have := h2 g hg p hp; omega
      · simp at hg; subst hg; simp at hp; omega
      · have := h4 g hg; omega
      · simp at hg; subst hg; simp
    | some k =>
      have hk : k < (groupsTo S i).length := by
        obtain ⟨h, _⟩ := List.findIdx?_eq_some_iff_getElem.1 hw
        exact h
      have hgk : (groupsTo S i).getD k [] ∈ groupsTo S i := by
        have : (groupsTo S i).getD k [] = (groupsTo S i)[k] := by simp [hk]
        rw [this]; exact List.getElem_mem hk
      refine ⟨fun g hg => ?_, fun g hg p hp => ?_, by simp; omega, fun g hg => ?_⟩
      all_goals
        rcases List.mem_or_eq_of_mem_set hg with hg | rfl
      · exact h1 g hg
      · simp
      · have := h2 g hg p hp; omega
      · rcases List.mem_append.1 hp with hp | hp
        · have := h2 _ hgk p hp; omega
        · simp at hp; omega
      · have := h4 g hg; omega
      · have := h4 _ hgk; simp; simp at this; omega

theorem which_set (S : List (List Nat)) (t : List Nat) (G : List (List Nat)) (k i : Nat) (hk : k < G.length) (hne : ∀ g ∈ G, g ≠ []) : whichG S t (G.set k (G.getD k [] ++ [i])) = whichG S t G := by
  unfold whichG
  have e : (G.set k (G.getD k [] ++ [i])).map (isOf S t) = G.map (isOf S t) := by
    apply List.ext_getElem (by simp)
    intro j h1 h2
    simp only [List.getElem_map, List.getElem_set]
    split
    · next ej =>
      subst ej
      have hg : G[k] ≠ [] := hne _ (List.getElem_mem hk)
      have : G.getD k [] = G[k] := by simp [hk]
      rw [this]
      unfold isOf
      cases hG : G[k] with
      | nil => exact absurd hG hg
      | cons a r => rfl
    · rfl
  have h1 : ∀ L : List (List Nat), L.findIdx? (isOf S t) = (L.map (isOf S t)).findIdx? id := fun L => by
    induction L with
    | nil => rfl
    | cons x L ih => rw [List.map_cons, List.findIdx?_cons, List.findIdx?_cons, ih]; rfl
  rw [h1, h1, e]
theorem which_app (S : List (List Nat)) (t : List Nat) (G : List (List Nat)) (i : Nat) : whichG S t (G ++ [[i]]) = (whichG S t G).or (if S.getD i [] == t then some G.length else none) := by
  unfold whichG
  rw [List.findIdx?_append]
  congr 1
  simp [List.findIdx?_cons, isOf]

/-- The map tells of each signature its group. -/
def MapOk (S : List (List Nat)) (G : List (List Nat)) (D : DataW Unit) : Prop := Maps.IsMap D ∧ ∀ t, Ok t → Maps.has D (kl t) = (whichG S t G).isSome ∧ ∀ k, whichG S t G = some k → D.atKey (kl t) (.lit (.int .i64 0)) = .lit (.int .i64 (k : Int))
theorem mapOk_start (S : List (List Nat)) : MapOk S [] (.map []) := ⟨Maps.isMap_empty, fun t _ => ⟨rfl, fun k h => by cases h⟩⟩
theorem mapOk_set {S G : List (List Nat)} {D : DataW Unit} (h : MapOk S G D) (k i : Nat) (hk : k < G.length) (hne : ∀ g ∈ G, g ≠ []) : MapOk S (G.set k (G.getD k [] ++ [i])) D :=
  ⟨h.1, fun t ht => by rw [which_set S t G k i hk hne]; exact h.2 t ht⟩
theorem mapOk_put {S G : List (List Nat)} {D : DataW Unit} (h : MapOk S G D) (i : Nat) (hi : Ok (S.getD i [])) (hw : whichG S (S.getD i []) G = none) : MapOk S (G ++ [[i]]) (D.put (kl (S.getD i [])) (.lit (.int .i64 (G.length : Int)))) := by
  refine ⟨h.1.put _ _, fun t ht => ?_⟩
  rw [which_app]
  by_cases e : S.getD i [] = t
  · subst e
    rw [hw, Maps.has_put_same h.1 (kl_key _ ht), Maps.atKey_put_same h.1 (kl_key _ ht)]
    simp
  · have hne : kl t ≠ kl (S.getD i []) := fun e' => e (kl_inj hi ht e'.symm)
    rw [Maps.has_put_other hne, Maps.atKey_put_other hne]
    have hb : (S.getD i [] == t) = false := by simpa using e
    rw [hb]
    simp only [Bool.false_eq_true, if_false, Option.or_none]
    exact h.2 t ht
end Go.Proofs.YthenkidhcfholaaDoor
