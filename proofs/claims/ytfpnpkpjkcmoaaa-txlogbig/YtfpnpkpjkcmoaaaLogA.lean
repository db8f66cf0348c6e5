/- The program's log as it lies: its table behind a pointer, and the signature of what was read. -/
import Derived.Test.YtfpnpkpjkcmoaaaTabE
import Derived.Test.YtfpnpkpjkcmoaaaLogM
import Derived.RegionTactic
import Derived.BigRegion
import Derived.Deep.RegionHeld3
namespace Go.Proofs.Ytfpnpkpjkcmoaaa
open Go.ChangeShapes Go.WideShapes Go.ChangeAt Go.RowKit

/-- The cells of a log. -/
def logC (B : Nat) (r : List Nat) : Array Value := (Value.pointer (some ⟨B, 0, none⟩) :: (Sg.sc r).toList).toArray
theorem logC_size (B : Nat) (r : List Nat) (h : Sg.Ok r) : (logC B r).size = 9 := by simp [logC, Sg.sc_size, h.1]
structure LogAt (w : World) (L B : Nat) (s : Tb) (r : List Nat) : Prop where
  log : w.heap[L]? = some (.cells (logC B r) 59 (0, 0))
  tab : TabAt w B s
  inv : Inv s
  ok : Sg.Ok r
theorem LogAt.ne {w : World} {L B : Nat} {s : Tb} {r : List Nat} (h : LogAt w L B s r) : L ≠ B := ne_of_type h.log h.tab (by decide)
theorem LogAt.ptr {w : World} {L B : Nat} {s : Tb} {r : List Nat} (h : LogAt w L B s r) : w.cell? ⟨L, 0, none⟩ = some (.pointer (some ⟨B, 0, none⟩)) := by rw [cell_at h.log]; rfl
theorem LogAt.keep {w w' : World} {L B : Nat} {s : Tb} {r : List Nat} {F : List Nat} (h : LogAt w L B s r) (k : Keep F w w') (hL : L ∉ F) (hB : B ∉ F) : LogAt w' L B s r :=
  ⟨by rw [k.block _ (heap_lt h.log) hL]; exact h.log, h.tab.keep k hB, h.inv, h.ok⟩
theorem LogAt.below {w w' : World} {L B : Nat} {s : Tb} {r : List Nat} (h : LogAt w L B s r) (k : Below w.heap.size w w') : LogAt w' L B s r := h.keep (Keep.of_below k []) (by simp) (by simp)
/-- The table has become another. -/
theorem LogAt.tabs {w w' : World} {L B : Nat} {s s' : Tb} {r : List Nat} (h : LogAt w L B s r) (ht : TabAt w' B s') (k : Keep [B] w w') (hi : Inv s') : LogAt w' L B s' r :=
  ⟨by rw [k.block _ (heap_lt h.log) (by have := h.ne; simp [this])]; exact h.log, ht, hi, h.ok⟩
theorem LogAt.row {w : World} {L B : Nat} {s : Tb} {r : List Nat} (h : LogAt w L B s r) (cs : Array Value) (hc : Sg.sc r = cs) (hz : cs.size = 8) :
    w.cell? ⟨L, 1, none⟩ = some (cs[0]'(by omega)) ∧ w.cell? ⟨L, 2, none⟩ = some (cs[1]'(by omega)) ∧ w.cell? ⟨L, 3, none⟩ = some (cs[2]'(by omega)) ∧ w.cell? ⟨L, 4, none⟩ = some (cs[3]'(by omega)) ∧
    w.cell? ⟨L, 5, none⟩ = some (cs[4]'(by omega)) ∧ w.cell? ⟨L, 6, none⟩ = some (cs[5]'(by omega)) ∧ w.cell? ⟨L, 7, none⟩ = some (cs[6]'(by omega)) ∧ w.cell? ⟨L, 8, none⟩ = some (cs[7]'(by omega)) := by
  subst hc
  simp [cell_at h.log, logC, hz]
/-- The signature of what was read becomes another. -/
theorem LogAt.store {P : Program} {w : World} {L B : Nat} {s : Tb} {r : List Nat} (h : LogAt w L B s r) (r' : List Nat) (hr : Sg.Ok r') : (storeCells ⟨L, 1, none⟩ (Sg.sc r').toList 0).run P w = .ok () (w.setRow L (logC B r')) := by
  have hs := run_storeCells_at P L 1 59 (Sg.sc r').toList 0 (logC B r) w h.log (by simp [logC_size B r h.ok, Sg.sc_size, hr.1]) (fun v hv => (Array.all_eq_true_iff_forall_mem.1 (Sg.sc_one r')) v (by simpa using hv))
  rw [hs]
  congr 2
  have h1 : (logC B r).toList = Value.pointer (some ⟨B, 0, none⟩) :: (Sg.sc r).toList := rfl
  rw [h1, List.drop_eq_nil_of_le (by simp [Sg.sc_size, h.ok.1, hr.1])]
  simp [logC]
theorem LogAt.reads {w : World} {L B : Nat} {s : Tb} {r : List Nat} (h : LogAt w L B s r) (r' : List Nat) (hr : Sg.Ok r') : LogAt (w.setRow L (logC B r')) L B s r' :=
  ⟨setRow_heap _ _ _ _ _ _ h.log, by unfold TabAt; rw [setRow_other _ _ _ _ (fun e => h.ne e.symm)]; exact h.tab, h.inv, hr⟩

theorem lnew_no (w : World) (m : Int) (h : ¬ (1 ≤ m ∧ m ≤ 24)) : Calls Try.prog 9 #[.int .i64 m] w fun e w' => e = .returned (.tuple #[.pointer none, .int .i64 1]) ∧ w' = w := by
  have HN : Hid (∀ w : World, Calls Try.prog 21 #[.int .i64 m] w fun e w' => e = .returned (.tuple #[.pointer none, .int .i64 1]) ∧ w' = w) := fun w => tnew_no w m h
  clear h
  go_enter Try.func9, Try.ntmps9
  go_wp2_with fail
  refine (HN.out _).mono ?_
  rintro e w1 ⟨rfl, rfl⟩
  go_wp2
  go_ret2
  exact ⟨rfl, rfl⟩
theorem lnew_yes (w : World) (m : Nat) (h1 : 1 ≤ m) (h24 : m ≤ 24) : Calls Try.prog 9 #[.int .i64 (m : Int)] w fun e w' => ∃ L B, e = .returned (.tuple #[.pointer (some ⟨L, 0, none⟩), .int .i64 0]) ∧ w.heap.size ≤ L ∧ w.heap.size ≤ B ∧ LogAt w' L B (empty m) Sg.nought ∧ Below w.heap.size w w' := by
  have HN : Hid (∀ w : World, Calls Try.prog 21 #[.int .i64 (m : Int)] w fun e w' => ∃ B, e = .returned (.tuple #[.pointer (some ⟨B, 0, none⟩), .int .i64 0]) ∧ w.heap.size ≤ B ∧ TabAt w' B (empty m) ∧ Below w.heap.size w w') := fun w => tnew_yes w m h1 h24
  have HI : Hid (Inv (empty m)) := empty_inv h1 h24
  clear h1 h24
  go_enter Try.func9, Try.ntmps9
  go_wp2_with fail
  refine (HN.out _).mono ?_
  rintro e w1 ⟨B, rfl, hB, ht, hb⟩
  have HW : Hid (w.heap.size ≤ B ∧ TabAt w1 B (empty m) ∧ Below w.heap.size w w1) := ⟨hB, ht, hb⟩
  clear hB ht hb
  go_wp2
  go_ret2
  refine ⟨w1.heap.size, B, rfl, HW.out.2.2.size, HW.out.1, ⟨heap_alloc_new _ _, HW.out.2.1.below (below_a1 _ _), HI.out, Sg.ok_nought⟩, below_then HW.out.2.2 (below_a1 _ _)⟩
theorem write_any {w : World} {L B : Nat} {s : Tb} {r : List Nat} (h : LogAt w L B s r) (c v : Int) : Calls Try.prog 13 #[.pointer (some ⟨L, 0, none⟩), .int .i64 c, .int .i64 v] w fun e w' => e = .returned (.int .i64 (writeE s c)) ∧ LogAt w' L B (put s c v) r ∧ Keep [B] w w' := by
  have HP : Hid (Calls Try.prog 31 #[.pointer (some ⟨B, 0, none⟩), .int .i64 c, .int .i64 v] w fun e w' => e = .returned (.int .i64 (putE s c)) ∧ TabAt w' B (put s c v) ∧ Keep [B] w w') := put_any h.tab h.inv c v
  have HL : Hid (∀ w', TabAt w' B (put s c v) → Keep [B] w w' → LogAt w' L B (put s c v) r) := fun w' ht hk => h.tabs ht hk (put_inv h.inv c v)
  have h0 := h.ptr
  clear h
  unfold writeE
  generalize putE s c = z at *
  go_enter Try.func13, Try.ntmps13
  go_wp2_with fail
  refine HP.out.mono ?_
  rintro e w1 ⟨rfl, ht, hk⟩
  have HE : Hid (LogAt w1 L B (put s c v) r ∧ Keep [B] w w1) := ⟨HL.out w1 ht hk, hk⟩
  clear ht hk
  by_cases hz : z = 2
  · subst hz
    go_wp2
    go_ret
    exact ⟨rfl, HE.out⟩
  · have e2 : (z == 2) = false := by simpa using hz
    go_wp2
    go_ret
    exact ⟨rfl, HE.out⟩
theorem own_any {w : World} {L B : Nat} {s : Tb} {r : List Nat} (h : LogAt w L B s r) (c : Int) : Calls Try.prog 19 #[.pointer (some ⟨L, 0, none⟩), .int .i64 c] w fun e w' => e = .returned (.tuple #[.int .i64 (getV s c), .bool (getY s c)]) ∧ Below w.heap.size w w' := by
  have HP : Hid (Calls Try.prog 34 #[.pointer (some ⟨B, 0, none⟩), .int .i64 c] w fun e w' => e = .returned (.tuple #[.int .i64 (getV s c), .bool (getY s c)]) ∧ ∃ n, w' = w.drewN n) := get_any h.tab h.inv c
  have h0 := h.ptr
  clear h
  go_enter Try.func19, Try.ntmps19
  go_wp2_with fail
  refine HP.out.mono ?_
  rintro e w1 ⟨rfl, n, rfl⟩
  go_wp2
  go_ret2
  exact ⟨rfl, below_drawn (Below.refl _ _) _⟩
theorem writes_any {w : World} {L B : Nat} {s : Tb} {r : List Nat} (h : LogAt w L B s r) : Calls Try.prog 15 #[.pointer (some ⟨L, 0, none⟩)] w fun e w' => ∃ v, e = .returned v ∧ w'.ownsRow w.heap.size 39 2 v s.R.length (rowsC s.R) ∧ Below w.heap.size w w' := by
  have HP : Hid (Calls Try.prog 33 #[.pointer (some ⟨B, 0, none⟩)] w fun e w' => ∃ v, e = .returned v ∧ w'.ownsRow w.heap.size 39 2 v s.R.length (rowsC s.R) ∧ Below w.heap.size w w') := list_any h.tab h.inv
  have h0 := h.ptr
  clear h
  go_enter Try.func15, Try.ntmps15
  go_wp2_with fail
  refine HP.out.mono ?_
  rintro e w1 ⟨v, rfl, ho, hb⟩
  have HE : Hid (w1.ownsRow w.heap.size 39 2 v s.R.length (rowsC s.R) ∧ Below w.heap.size w w1) := ⟨ho, hb⟩
  obtain ⟨va, vc, rfl⟩ := own_slice ho
  clear ho hb
  go_wp2
  go_ret
  exact ⟨_, rfl, HE.out⟩
end Go.Proofs.Ytfpnpkpjkcmoaaa
