/- The program's dict (layer 17): capacities, arguments, the look for a key. -/
import Derived.Test.YthnegagpmkblfaaGreatDoorJCtMChM
import Derived.RegionTactic
import Derived.BigRegion
import Derived.Deep.RegionHeld3
import Derived.Deep.LoopGhost
import Derived.WalkMore
import Derived.Deep.CutBlock
import Derived.Deep.DeepCutAuto
namespace Go.Proofs.YthnegagpmkblfaaGreatDoor.Tl.Di
open Go.ChangeShapes Go.WideShapes Go.ChangeAt Go.RowKit
attribute [local go_sem ↓] Go.wp_at_zero Go.wp_at_succ

theorem cellof_any (w : World) (s p : Int) (hs : -1 ≤ s ∧ s ≤ 16) (hp : 0 ≤ p ∧ p ≤ 2) : Calls Tryz.prog 332 #[.int .i64 s, .int .i64 p] w fun e w' => e = .returned (.int .i64 (clV s p)) ∧ w' = w := by
  have h1 : wrap64 (3 * s) = 3 * s := by unfold wrap64; omega
  have h2 : wrap64 (1 + 3 * s) = 1 + 3 * s := by unfold wrap64; omega
  have h3 : wrap64 (1 + 3 * s + p) = 1 + 3 * s + p := by unfold wrap64; omega
  unfold clV
  clear hs hp
  go_enter Tryz.func332, Tryz.ntmps332
  go_wp2
  go_ret
  exact ⟨by show Ending.returned (.int .i64 (wrap64 (1 + 3 * s + p))) = _; rw [h3], rfl⟩
theorem done_any (w : World) (v : Int) : Calls Tryz.prog 336 #[.int .i64 v] w fun e w' => e = .returned (.agg (wnC (endW v 0))) ∧ Below w.heap.size w w' := by
  go_enter Tryz.func336, Tryz.ntmps336
  go_wp2
  exact ret_wn rfl rfl (heap_alloc_new _ _) rfl rfl ⟨rfl, below_a1 _ _⟩
theorem ref_any (w : World) (c : Int) (hc : c ≠ 0) : Calls Tryz.prog 335 #[.int .i64 c] w fun e w' => e = .returned (.agg (wnC (endW 0 c))) ∧ Below w.heap.size w w' := by
  have HE : Hid (endW 0 c = ⟨6, 0, 0, c⟩) := by unfold endW; rw [if_neg hc]; exact rfl
  clear hc
  go_enter Tryz.func335, Tryz.ntmps335
  go_wp2
  exact ret_wn rfl rfl (heap_alloc_new _ _) rfl rfl ⟨by rw [HE.out]; rfl, below_a1 _ _⟩
end Go.Proofs.YthnegagpmkblfaaGreatDoor.Tl.Di
/- The program's dict (layer 17): what a call wants behind its look. -/
namespace Go.Proofs.YthnegagpmkblfaaGreatDoor.Tl.Di
open Go.ChangeShapes Go.WideShapes Go.ChangeAt Go.RowKit
attribute [local go_sem ↓] Go.wp_at_zero Go.wp_at_succ

def mcC (m : Mc) : Array Value := #[.int .i64 m.base, .int .i64 m.most, .int .i64 m.call, .int .i64 m.se.key, .int .i64 m.se.most, .int .i64 m.se.left, .int .i64 m.se.slot, .int .i64 m.se.asked, .int .i64 m.se.free, .int .i64 m.se.found, .int .i64 m.told, .int .i64 m.last.kind, .int .i64 m.last.cell, .int .i64 m.last.val, .int .i64 m.last.code, .int .i64 m.val, .int .i64 m.cnt]
/-- What is so of each call under way. -/
structure OkI (m : Mc) : Prop where
  b : 0 ≤ m.base ∧ m.base ≤ 1024
  mm : 0 ≤ m.most ∧ m.most ≤ 16
  s : OkS m.se
  t : 0 ≤ m.told ∧ m.told ≤ 6
/-- A call under way in a block of its own. -/
def McR (w : World) (X : Nat) (F : List Nat) (m : Mc) : Prop := F = [X] ∧ w.heap[X]? = some (.cells (mcC m) 239 (0, 0)) ∧ OkI m
theorem McR.keep {w w' : World} {X : Nat} {F G : List Nat} {m : Mc} (h : McR w X F m) (k : Keep G w w') (hx : ∀ b ∈ F, b ∉ G) : McR w' X F m := ⟨h.1, by rw [k.block _ (heap_lt h.2.1) (hx X (by rw [h.1]; simp))]; exact h.2.1, h.2.2⟩
theorem McR.lt {w : World} {X : Nat} {F : List Nat} {m : Mc} (h : McR w X F m) : ∀ b ∈ F, b < w.heap.size := fun b hb => by
  rw [h.1] at hb
  simp at hb
  rw [hb]
  exact heap_lt h.2.1
theorem McR.last {w : World} {X : Nat} {F : List Nat} {m : Mc} (h : McR w X F m) : w.cell? ⟨X, 11, none⟩ = some (.int .i64 m.last.kind) ∧ w.cell? ⟨X, 12, none⟩ = some (.int .i64 m.last.cell) ∧ w.cell? ⟨X, 13, none⟩ = some (.int .i64 m.last.val) ∧ w.cell? ⟨X, 14, none⟩ = some (.int .i64 m.last.code) :=
  ⟨by rw [cell_at h.2.1]; rfl, by rw [cell_at h.2.1]; rfl, by rw [cell_at h.2.1]; rfl, by rw [cell_at h.2.1]; rfl⟩
theorem read_any {w : World} {X : Nat} {F : List Nat} {m : Mc} (h : McR w X F m) (c : Int) (hc : -100 ≤ c ∧ c ≤ 100) : Calls Tryz.prog 327 #[.pointer (some ⟨X, 0, none⟩), .int .i64 c] w fun e w' => e = .returned (.agg (wnC (readW (m.base + c)))) ∧ Below w.heap.size w w' := by
  have c0 := h.cells.c0
  have hx : X < w.heap.size := heap_lt h.2.1
  have hb := h.2.2.b
  have hw : wrap64 (m.base + c) = m.base + c := by unfold wrap64; omega
  generalize m.base = b at *
  clear h hb hc
  go_enter Tryz.func327, Tryz.ntmps327
  go_wp2_with fail
  exact ret_wn rfl rfl (heap_alloc_new _ _) rfl rfl ⟨rfl, below_a1 _ _⟩
theorem write_any {w : World} {X : Nat} {F : List Nat} {m : Mc} (h : McR w X F m) (c v : Int) (hc : -100 ≤ c ∧ c ≤ 100) : Calls Tryz.prog 337 #[.pointer (some ⟨X, 0, none⟩), .int .i64 c, .int .i64 v] w fun e w' => e = .returned (.agg (wnC (putW (m.base + c) v))) ∧ Below w.heap.size w w' := by
  have c0 := h.cells.c0
  have hx : X < w.heap.size := heap_lt h.2.1
  have hb := h.2.2.b
  have hw : wrap64 (m.base + c) = m.base + c := by unfold wrap64; omega
  generalize m.base = b at *
  clear h hb hc
  go_enter Tryz.func337, Tryz.ntmps337
  go_wp2_with fail
  exact ret_wn rfl rfl (heap_alloc_new _ _) rfl rfl ⟨rfl, below_a1 _ _⟩
abbrev z4 : Array Value := #[.int .i64 0, .int .i64 0, .int .i64 0, .int .i64 0]
/-- A want is handed back. -/
def Tells (w : World) (x : Wn) (e : Ending) (w' : World) : Prop := ∃ cs, Hid (wnC x = cs) ∧ cs.size = 4 ∧ e = .returned (.agg cs) ∧ Below w.heap.size w w'
theorem tells_of {w : World} {x : Wn} (e : Ending) (w' : World) (h : e = .returned (.agg (wnC x)) ∧ Below w.heap.size w w') : Tells w x e w' := ⟨wnC x, rfl, rfl, h.1, h.2⟩
/-- The functions that each of them calls. -/
structure Fs (X : Nat) (F : List Nat) : Prop where
  rd : ∀ (w : World) (m : Mc) (c : Int), McR w X F m → -100 ≤ c ∧ c ≤ 100 → Calls Tryz.prog 327 #[.pointer (some ⟨X, 0, none⟩), .int .i64 c] w (Tells w (readW (m.base + c)))
  wr : ∀ (w : World) (m : Mc) (c v : Int), McR w X F m → -100 ≤ c ∧ c ≤ 100 → Calls Tryz.prog 337 #[.pointer (some ⟨X, 0, none⟩), .int .i64 c, .int .i64 v] w (Tells w (putW (m.base + c) v))
  dn : ∀ (w : World) (z : Int), Calls Tryz.prog 336 #[.int .i64 z] w (Tells w (endW z 0))
  rf : ∀ (w : World) (c : Int), c ≠ 0 → Calls Tryz.prog 335 #[.int .i64 c] w (Tells w (endW 0 c))
  cl : ∀ (w : World) (s p : Int), -1 ≤ s ∧ s ≤ 15 → 0 ≤ p ∧ p ≤ 2 → Calls Tryz.prog 332 #[.int .i64 s, .int .i64 p] w fun e w' => e = .returned (.int .i64 (clV s p)) ∧ Below w.heap.size w w'
theorem fs (X : Nat) (F : List Nat) : Fs X F := ⟨fun w m c h hc => (read_any h c hc).mono tells_of, fun w m c v h hc => (write_any h c v hc).mono tells_of, fun w z => (done_any w z).mono tells_of, fun w c hc => (ref_any w c hc).mono tells_of, fun w s p hs hp => (cellof_any w s p ⟨hs.1, by omega⟩ hp).mono fun e w' h => ⟨h.1, by rw [h.2]; exact Below.refl _ _⟩⟩
end Go.Proofs.YthnegagpmkblfaaGreatDoor.Tl.Di
/- The program's dict (layer 17): New, Next, Size. -/
namespace Go.Proofs.YthnegagpmkblfaaGreatDoor.Tl.Di
open Go.ChangeShapes Go.WideShapes Go.ChangeAt Go.RowKit
attribute [local go_sem ↓] Go.wp_at_zero Go.wp_at_succ

/-- A call under way in a block of its own. -/
def McAt (w : World) (X : Nat) (F : List Nat) (m : Mc) : Prop := McR w X F m ∧ (m.last.kind = 6 ∨ m.told ≤ 5)
theorem McAt.keep {w w' : World} {X : Nat} {F G : List Nat} {m : Mc} (h : McAt w X F m) (k : Keep G w w') (hx : ∀ b ∈ F, b ∉ G) : McAt w' X F m := ⟨h.1.keep k hx, h.2⟩
theorem McAt.lt {w : World} {X : Nat} {F : List Nat} {m : Mc} (h : McAt w X F m) : ∀ b ∈ F, b < w.heap.size := h.1.lt
end Go.Proofs.YthnegagpmkblfaaGreatDoor.Tl.Di
