/- The document's examples, and which sizes may be. -/
import Derived.Test.YtbmmicfdnfpcaaaMemG
namespace Go.Proofs.Ytbmmicfdnfpcaaa
open Go.ChangeShapes Go.WideShapes Go.ChangeAt Go.RowKit

def takes (c r : Int) : Bool := decide (1 ≤ c) && decide (c ≤ 1024) && decide (1 ≤ r) && decide (r ≤ 16)
theorem takes_any (c r : Int) (w : World) : Calls Try.prog 9 #[.int .i64 c, .int .i64 r] w fun e w' => e = .returned (.bool (takes c r)) ∧ w' = w := by
  unfold takes
  by_cases c1 : 1 ≤ c
  · by_cases c2 : c ≤ 1024
    · by_cases r1 : 1 ≤ r
      · by_cases r2 : r ≤ 16
        · go_enter Try.func9, Try.ntmps9
          go_wp2
          go_ret
          exact ⟨by simp [c1, c2, r1, r2], rfl⟩
        · go_enter Try.func9, Try.ntmps9
          go_wp2
          go_ret
          exact ⟨by simp [r2], rfl⟩
      · go_enter Try.func9, Try.ntmps9
        go_wp2
        go_ret
        exact ⟨by simp; omega, rfl⟩
    · go_enter Try.func9, Try.ntmps9
      go_wp2
      go_ret
      exact ⟨by simp; omega, rfl⟩
  · go_enter Try.func9, Try.ntmps9
    go_wp2
    go_ret
    exact ⟨by simp; omega, rfl⟩

theorem MemAt.ptr {w : World} {base : Nat} {p : Value} {c r : Nat} {L : List Ac} {F : List Nat} (h : MemAt w base p c r L F) : ∃ M, p = .pointer (some ⟨M, 0, none⟩) := by
  obtain ⟨M, H, S, C, v, h⟩ := h
  exact ⟨M, h.p⟩
/-- What was below a memory's blocks stays. -/
theorem Next.below {F F' : List Nat} {w w' : World} {B : Nat} (h : Next F F' w w') (hB : B ≤ w.heap.size) (hF : ∀ b ∈ F, B ≤ b) : Below B w w' := h.1.below hB hF
theorem Next.cell {F F' : List Nat} {w w' : World} (h : Next F F' w w') (a : Addr) (ha : a.block ∉ F) {u : Value} (hc : w.cell? a = some u) : w'.cell? a = some u := by
  rw [World.cell?_of_block (h.1.block a.block (World.block_lt_of_cell? _ _ hc) ha)]
  exact hc

theorem Next.row {F F' : List Nat} {w w' : World} {B : Nat} {o : Obj} (h : Next F F' w w') (hb : w.heap[B]? = some o) (hB : B ∉ F) : w'.heap[B]? = some o := by
  rw [h.1.block B (heap_lt hb) hB]; exact hb
theorem Next.out {F F' : List Nat} {w w' : World} {B : Nat} (h : Next F F' w w') (hb : B < w.heap.size) (hB : B ∉ F) : B ∉ F' := fun hm => by
  rcases h.2 B hm with h1 | h1
  · exact hB h1
  · omega
/-- An address in a block of its own beside a memory. -/
structure Boxed (w0 w : World) (p : Value) (c r : Nat) (L : List Ac) (F : List Nat) (B : Nat) (a : Ad) : Prop where
  mem : MemAt w w0.heap.size p c r L F
  box : w.heap[B]? = some (.cells (adC a) 46)
  out : B ∉ F
  bel : Below w0.heap.size w0 w
theorem Boxed.next {w0 w w' : World} {p : Value} {c r : Nat} {L L' : List Ac} {F F' : List Nat} {B : Nat} {a : Ad} (h : Boxed w0 w p c r L F B a) (hm : MemAt w' w0.heap.size p c r L' F') (hn : Next F F' w w') : Boxed w0 w' p c r L' F' B a :=
  ⟨hm, hn.row h.box h.out, hn.out (heap_lt h.box) h.out, h.bel.trans (hn.below h.bel.size (fun b hb => (h.mem.lt b hb).1))⟩
theorem Boxed.later {w0 w w' : World} {p : Value} {c r : Nat} {L : List Ac} {F : List Nat} {B : Nat} {a : Ad} (h : Boxed w0 w p c r L F B a) (hb : Below w.heap.size w w') : Boxed w0 w' p c r L F B a := h.next (h.mem.below hb) (Next.of_below hb F)
theorem Boxed.cells {w0 w : World} {p : Value} {c r : Nat} {L : List Ac} {F : List Nat} {B : Nat} {a : Ad} (h : Boxed w0 w p c r L F B a) : w.cell? ⟨B, 0, none⟩ = some (.int .i64 a.k) ∧ w.cell? ⟨B, 1, none⟩ = some (.int .i64 a.i) ∧ w.cell? ⟨B, 2, none⟩ = some (.int .i64 a.j) :=
  ⟨by rw [cell_at h.box]; rfl, by rw [cell_at h.box]; rfl, by rw [cell_at h.box]; rfl⟩
