/- The program's memory and the document's, beside one another and above what was there (what a layer above wants of both). -/
import Derived.Test.YtbmmicfdnfpcaaaRefC
namespace Go.Proofs.Ytbmmicfdnfpcaaa
open Go.ChangeShapes Go.WideShapes Go.ChangeAt Go.RowKit

theorem own_base {w : World} {base base' e s n : Nat} {v : Value} {xs : List Value} (h : w.ownsRow base e s v n xs) (hb : base' ≤ base) : w.ownsRow base' e s v n xs := by
  refine ⟨h.1, ?_⟩
  rcases h.2 with h | ⟨g, cap, cur, h1, h2, h3⟩
  · exact Or.inl h
  · exact Or.inr ⟨g, cap, cur, h1, by omega, h3⟩
theorem Next.left {F F' G : List Nat} {w w' : World} (h : Next F F' w w') : Next (F ++ G) (F' ++ G) w w' :=
  ⟨h.1.mono (fun b hb => by simp [hb]), fun b hb => by
    rcases List.mem_append.1 hb with h1 | h1
    · rcases h.2 b h1 with h2 | h2
      · exact Or.inl (by simp [h2])
      · exact Or.inr h2
    · exact Or.inl (by simp [h1])⟩
theorem Next.right {F G G' : List Nat} {w w' : World} (h : Next G G' w w') : Next (F ++ G) (F ++ G') w w' :=
  ⟨h.1.mono (fun b hb => by simp [hb]), fun b hb => by
    rcases List.mem_append.1 hb with h1 | h1
    · exact Or.inl (by simp [h1])
    · rcases h.2 b h1 with h2 | h2
      · exact Or.inl (by simp [h2])
      · exact Or.inr h2⟩
/-- The program's memory and the document's, apart from one another. -/
structure Duo (w : World) (base : Nat) (p q : Value) (c r : Nat) (L K : List Ac) (F G : List Nat) : Prop where
  mem : MemAt w base p c r L F
  ref : RefAt w base q c r K G
  apart : ∀ b ∈ F, b ∉ G
theorem Duo.onMem {w w' : World} {base : Nat} {p q : Value} {c r : Nat} {L L' K : List Ac} {F F' G : List Nat} (h : Duo w base p q c r L K F G) (hm : MemAt w' base p c r L' F') (hn : Next F F' w w') : Duo w' base p q c r L' K F' G :=
  ⟨hm, h.ref.keep hn.1 (fun b hb hf => h.apart b hf hb), fun b hb hg => by
    rcases hn.2 b hb with h1 | h1
    · exact h.apart b h1 hg
    · have := (h.ref.lt b hg).2; omega⟩
theorem Duo.onRef {w w' : World} {base : Nat} {p q : Value} {c r : Nat} {L K K' : List Ac} {F G G' : List Nat} (h : Duo w base p q c r L K F G) (hm : RefAt w' base q c r K' G') (hn : Next G G' w w') : Duo w' base p q c r L K' F G' :=
  ⟨h.mem.keep hn.1 (fun b hb hf => h.apart b hb hf), hm, fun b hb hg => by
    rcases hn.2 b hg with h1 | h1
    · exact h.apart b hb h1
    · have := (h.mem.lt b hb).2; omega⟩
theorem Duo.below {w w' : World} {base : Nat} {p q : Value} {c r : Nat} {L K : List Ac} {F G : List Nat} (h : Duo w base p q c r L K F G) (hb : Below w.heap.size w w') : Duo w' base p q c r L K F G :=
  ⟨h.mem.below hb, h.ref.below hb, h.apart⟩
theorem RefAt.count {w : World} {base R : Nat} {c r : Nat} {L : List Ac} {F : List Nat} (h : RefAt w base (.pointer (some ⟨R, 0, none⟩)) c r L F) : ∃ a cap, w.cell? ⟨R, 2, none⟩ = some (.slice a L.length cap) := by
  obtain ⟨R', v, h⟩ := h
  obtain rfl : R = R' := by simpa using h.p
  obtain ⟨a, cap, rfl⟩ := own_slice h.own
  exact ⟨a, cap, by rw [cell_at h.m]; rfl⟩


set_option maxRecDepth 100000 in
set_option maxHeartbeats 6400000 in
theorem refAt_base {w : World} {base base' : Nat} {p : Value} {c r : Nat} {L : List Ac} {F : List Nat} (h : RefAt w base p c r L F) (hb : base' ≤ base) : RefAt w base' p c r L F := by
  obtain ⟨R, v, h⟩ := h
  exact ⟨R, v, h.p, h.m, own_base h.own hb, h.F, by have := h.bR; omega⟩
/-- Both memories under way, above what was there. -/
structure Way (w0 w : World) (base : Nat) (p q : Value) (c r : Nat) (L : List Ac) (F G : List Nat) : Prop where
  duo : Duo w base p q c r L L F G
  bel : Below w0.heap.size w0 w
  lo : w0.heap.size ≤ base
  size : base ≤ w.heap.size
theorem Way.next {w0 w w' : World} {base : Nat} {p q : Value} {c r : Nat} {L L' : List Ac} {F G F' G' : List Nat} (h : Way w0 w base p q c r L F G) (hd : Duo w' base p q c r L' L' F' G') (hn : Next (F ++ G) (F' ++ G') w w') : Way w0 w' base p q c r L' F' G' :=
  ⟨hd, h.bel.trans (hn.below h.bel.size (fun b hb => by
    have hb1 := h.lo
    rcases List.mem_append.1 hb with h1 | h1
    · have := (h.duo.mem.lt b h1).1; omega
    · have := (h.duo.ref.lt b h1).1; omega)), h.lo, Nat.le_trans h.size hn.1.size⟩
theorem Way.later {w0 w w' : World} {base : Nat} {p q : Value} {c r : Nat} {L : List Ac} {F G : List Nat} (h : Way w0 w base p q c r L F G) (hb : Below w.heap.size w w') : Way w0 w' base p q c r L F G :=
  ⟨h.duo.below hb, below_then h.bel hb, h.lo, Nat.le_trans h.size hb.size⟩

end Go.Proofs.Ytbmmicfdnfpcaaa
