/- The law's one: a step, done by both. -/
import Derived.Test.YtfpnpkpjkcmoaaaTabI
namespace Go.Proofs.Ytfpnpkpjkcmoaaa
open Go.ChangeShapes Go.WideShapes Go.ChangeAt Go.RowKit

/-- The program's table and the document's, alike, apart from one another. -/
structure TDuo (w : World) (base B : Nat) (q : Value) (s : Tb) (G : List Nat) : Prop where
  tab : TabAt w B s
  ref : RTab w base q s G
  inv : Inv s
  apart : B ∉ G
  lo : base ≤ B
  size : base ≤ w.heap.size
theorem TDuo.below {w w' : World} {base B : Nat} {q : Value} {s : Tb} {G : List Nat} (h : TDuo w base B q s G) (hb : Below w.heap.size w w') : TDuo w' base B q s G :=
  ⟨h.tab.below hb, h.ref.below hb, h.inv, h.apart, h.lo, Nat.le_trans h.size hb.size⟩
theorem TDuo.next_below {w w' : World} {base B : Nat} {q : Value} {s : Tb} {G : List Nat} (h : TDuo w base B q s G) (hb : Below w.heap.size w w') : TDuo w' base B q s G ∧ Next (B :: G) (B :: G) w w' :=
  ⟨h.below hb, Next.of_below hb _⟩
/-- The program's table has become another, the document's follows. -/
theorem TDuo.step {w w1 w2 : World} {base B : Nat} {q : Value} {s s' : Tb} {G G' : List Nat} (h : TDuo w base B q s G) (h1 : TabAt w1 B s') (k1 : Keep [B] w w1) (h2 : RTab w2 base q s' G') (k2 : Next G G' w1 w2) (hi : Inv s') : TDuo w2 base B q s' G' ∧ Next (B :: G) (B :: G') w w2 := by
  refine ⟨⟨h1.keep k2.1 h.apart, h2, hi, fun hm => ?_, h.lo, Nat.le_trans h.size (Nat.le_trans k1.size k2.1.size)⟩, ?_, ?_⟩
  · rcases k2.2 B hm with e | e
    · exact h.apart e
    · have := heap_lt h1; omega
  · exact (k1.mono (fun b hb => by simp at hb; simp [hb])).trans k2.1 (fun b hb => Or.inl (by simp [hb]))
  · intro b hb
    simp only [List.mem_cons] at hb ⊢
    rcases hb with rfl | hb
    · exact Or.inl (Or.inl rfl)
    · rcases k2.2 b hb with e | e
      · exact Or.inl (Or.inr e)
      · exact Or.inr (Nat.le_trans k1.size e)
theorem TDuo.ref1 {w w1 : World} {base B : Nat} {q : Value} {s : Tb} {G : List Nat} (h : TDuo w base B q s G) (k1 : Keep [B] w w1) : RTab w1 base q s G := h.ref.keep k1 (fun b hb hm => by simp at hm; subst hm; exact h.apart hb)
def skC (k c v : Int) : Array Value := #[.int .i64 k, .int .i64 c, .int .i64 v]
theorem TDuo.ptr {w : World} {base B : Nat} {q : Value} {s : Tb} {G : List Nat} (h : TDuo w base B q s G) : ∃ X, q = .pointer (some ⟨X, 0, none⟩) := h.ref.ptr
theorem box_at {w w' : World} {o : Array Value} {t : TypeId} {F : List Nat} (k : Keep F (w.alloc (.cells o t)) w') (hF : w.heap.size ∉ F) (j : Nat) : w'.cell? ⟨w.heap.size, j, none⟩ = o[j]? := by
  have h : w'.heap[w.heap.size]? = some (.cells o t (0, 0)) := by
    rw [k.block _ (by simp) hF]; exact heap_alloc_new _ _
  exact cell_at h j
