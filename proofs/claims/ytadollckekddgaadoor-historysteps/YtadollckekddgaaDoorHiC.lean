/- A transaction begins, ends. -/
import Derived.Test.YtadollckekddgaaDoorHiB
namespace Go.Proofs.YtadollckekddgaaDoor.Hi
open Go.ChangeShapes Go.WideShapes Go.ChangeAt Go.RowKit
set_option linter.unusedVariables false

theorem alloc_at {w : World} {X : Nat} {b : Obj} (o : Obj) (h : w.heap[X]? = some b) : (w.alloc o).heap[X]? = some b := by rw [Below.heap_alloc _ _ _ (heap_lt h)]; exact h
theorem set1 {w : World} {X : Nat} {cs : Array Value} {t : TypeId} (hx : w.heap[X]? = some (.cells cs t (0, 0))) (i : Nat) (u : Value) (o : Obj) : ((w.setCell ⟨X, i, none⟩ u).alloc o).heap[X]? = some (.cells (cs.setIfInBounds i u) t (0, 0)) ∧ Keep [X] w ((w.setCell ⟨X, i, none⟩ u).alloc o) :=
  ⟨alloc_at _ (heap_set hx _ _), ((Keep.refl [X] w).setCell _ _ (Or.inl (by simp))).alloc _⟩
theorem set2 {w : World} {X : Nat} {cs : Array Value} {t : TypeId} (hx : w.heap[X]? = some (.cells cs t (0, 0))) (i j : Nat) (u v : Value) (o : Obj) : (((w.setCell ⟨X, i, none⟩ u).setCell ⟨X, j, none⟩ v).alloc o).heap[X]? = some (.cells ((cs.setIfInBounds i u).setIfInBounds j v) t (0, 0)) ∧ Keep [X] w (((w.setCell ⟨X, i, none⟩ u).setCell ⟨X, j, none⟩ v).alloc o) :=
  ⟨alloc_at _ (heap_set (heap_set hx _ _) _ _), (((Keep.refl [X] w).setCell _ _ (Or.inl (by simp))).setCell _ _ (Or.inl (by simp))).alloc _⟩
theorem Keep.drew {F : List Nat} {w w' : World} (h : Keep F w w') : Keep F w w'.drew := ⟨h.os, h.tape, h.output, h.size, h.block⟩
theorem set3d {w : World} {X : Nat} {cs : Array Value} {t : TypeId} (hx : w.heap[X]? = some (.cells cs t (0, 0))) (i j l : Nat) (u v z : Value) (o : Obj) : ((((w.setCell ⟨X, i, none⟩ u).setCell ⟨X, j, none⟩ v).setCell ⟨X, l, none⟩ z).alloc o).drew.heap[X]? = some (.cells (((cs.setIfInBounds i u).setIfInBounds j v).setIfInBounds l z) t (0, 0)) ∧ Keep [X] w ((((w.setCell ⟨X, i, none⟩ u).setCell ⟨X, j, none⟩ v).setCell ⟨X, l, none⟩ z).alloc o).drew :=
  ⟨alloc_at _ (heap_set (heap_set (heap_set hx _ _) _ _) _ _), Keep.drew (((((Keep.refl [X] w).setCell _ _ (Or.inl (by simp))).setCell _ _ (Or.inl (by simp))).setCell _ _ (Or.inl (by simp))).alloc _)⟩
theorem begin_yes {w : World} {B P k : Nat} {p : Pa} {b : Nat → Nat} {V : Nat → Value} {vt vp : Value} (h : PAt w B P k p b V vt vp) {i : Nat} (hi : i < p.txs.length) (e : Ev) (hs : (nt p.txs i).sg = 0) :
    Calls Tryd.prog 32 #[ptr (b i), evV e] w fun x w' => x = .returned (.bool true) ∧ PAt w' B P k (p.upd i { nt p.txs i with sg := 1, sn := e.sn }) b V vt vp ∧ Keep [b i] w w' := by
  have hx := h.tx i hi
  have hlt := heap_lt hx
  have hc6 : w.cell? ⟨b i, 6, none⟩ = some (.int .i64 0) := by rw [cell_at hx]; simp [txC, hs]
  have hc4 : w.cell? ⟨b i, 4, none⟩ = some (.int .i64 (nt p.txs i).sn) := by rw [cell_at hx]; simp [txC]
  have hf6 := frozen_at hx 6
  have hf4 := frozen_at hx 4
  have HE : Hid (∀ w', w'.heap[b i]? = some (.cells (txC { nt p.txs i with sg := 1, sn := e.sn } (V i)) 58 (0, 0)) → Keep [b i] w w' → PAt w' B P k (p.upd i { nt p.txs i with sg := 1, sn := e.sn }) b V vt vp) := fun w' hw hk => h.set hi rfl hw hk
  clear h hi
  generalize p.upd i { nt p.txs i with sg := 1, sn := e.sn } = q at *
  generalize nt p.txs i = t at *
  generalize b i = X at *
  generalize V i = v at *
  obtain ⟨a, th, tx, kd, cl, vl, ow, sr, sn, sp, sg, er⟩ := e
  have HX : Hid (w.heap[X]? = some (.cells (txC t v) 58 (0, 0))) := hx
  clear hx
  unfold evV evA ptr
  dsimp only at *
  go_enter Tryd.func32, Tryd.ntmps32
  go_wp2
  go_ret
  have hk := set2 HX.out 6 4 (.int .i64 1) (.int .i64 sn)
  exact ⟨rfl, HE.out _ (hk _).1 (hk _).2, (hk _).2⟩
theorem begin_no {w : World} {B P k : Nat} {p : Pa} {b : Nat → Nat} {V : Nat → Value} {vt vp : Value} (h : PAt w B P k p b V vt vp) {i : Nat} (hi : i < p.txs.length) (e : Ev) (hs : (nt p.txs i).sg ≠ 0) :
    Calls Tryd.prog 32 #[ptr (b i), evV e] w fun x w' => x = .returned (.bool false) ∧ Keep [b i] w w' := by
  have hx := h.tx i hi
  have hlt := heap_lt hx
  have hc6 : w.cell? ⟨b i, 6, none⟩ = some (.int .i64 (nt p.txs i).sg) := by rw [cell_at hx]; simp [txC]
  have hd : ((nt p.txs i).sg != 0) = true := by simpa using hs
  clear h hi hx
  generalize nt p.txs i = t at *
  generalize t.sg = z at *
  generalize b i = X at *
  obtain ⟨a, th, tx, kd, cl, vl, ow, sr, sn, sp, sg, er⟩ := e
  unfold evV evA ptr
  dsimp only at *
  go_enter Tryd.func32, Tryd.ntmps32
  go_wp2
  go_ret
  exact ⟨rfl, (Keep.refl [X] w).alloc _⟩
theorem end_no {w : World} {B P k : Nat} {p : Pa} {b : Nat → Nat} {V : Nat → Value} {vt vp : Value} (h : PAt w B P k p b V vt vp) {i : Nat} (hi : i < p.txs.length) (e : Ev) (hs : (nt p.txs i).sg ≠ 1) :
    Calls Tryd.prog 36 #[ptr (b i), evV e] w fun x w' => x = .returned (.bool false) ∧ Keep [b i] w w' := by
  have hx := h.tx i hi
  have hlt := heap_lt hx
  have hc6 : w.cell? ⟨b i, 6, none⟩ = some (.int .i64 (nt p.txs i).sg) := by rw [cell_at hx]; simp [txC]
  have hd : ((nt p.txs i).sg != 1) = true := by simpa using hs
  clear h hi hx
  generalize nt p.txs i = t at *
  generalize t.sg = z at *
  generalize b i = X at *
  obtain ⟨a, th, tx, kd, cl, vl, ow, sr, sn, sp, sg, er⟩ := e
  unfold evV evA ptr
  dsimp only at *
  go_enter Tryd.func36, Tryd.ntmps36
  go_wp2
  go_ret
  exact ⟨rfl, (Keep.refl [X] w).alloc _⟩
theorem end_yes {w : World} {B P k : Nat} {p : Pa} {b : Nat → Nat} {V : Nat → Value} {vt vp : Value} (h : PAt w B P k p b V vt vp) {i : Nat} (hi : i < p.txs.length) (e : Ev) (hs : (nt p.txs i).sg = 1) :
    Calls Tryd.prog 36 #[ptr (b i), evV e] w fun x w' => x = .returned (.bool true) ∧ PAt w' B P k (p.upd i { nt p.txs i with sg := 3, en := e.at_, er := e.er }) b V vt vp ∧ Keep [b i] w w' := by
  have hx := h.tx i hi
  have hlt := heap_lt hx
  have hc6 : w.cell? ⟨b i, 6, none⟩ = some (.int .i64 1) := by rw [cell_at hx]; simp [txC, hs]
  have hc2 : w.cell? ⟨b i, 2, none⟩ = some (.int .i64 (nt p.txs i).en) := by rw [cell_at hx]; simp [txC]
  have hc5 : w.cell? ⟨b i, 5, none⟩ = some (.int .i64 (nt p.txs i).er) := by rw [cell_at hx]; simp [txC]
  have hf6 := frozen_at hx 6
  have hf2 := frozen_at hx 2
  have hf5 := frozen_at hx 5
  have HE : Hid (∀ w', w'.heap[b i]? = some (.cells (txC { nt p.txs i with sg := 3, en := e.at_, er := e.er } (V i)) 58 (0, 0)) → Keep [b i] w w' → PAt w' B P k (p.upd i { nt p.txs i with sg := 3, en := e.at_, er := e.er }) b V vt vp) := fun w' hw hk => h.set hi rfl hw hk
  clear h hi
  generalize p.upd i { nt p.txs i with sg := 3, en := e.at_, er := e.er } = q at *
  generalize nt p.txs i = t at *
  generalize b i = X at *
  generalize V i = v at *
  obtain ⟨a, th, tx, kd, cl, vl, ow, sr, sn, sp, sg, er⟩ := e
  have HX : Hid (w.heap[X]? = some (.cells (txC t v) 58 (0, 0))) := hx
  clear hx
  unfold evV evA ptr
  dsimp only at *
  go_enter Tryd.func36, Tryd.ntmps36
  go_wp2
  go_region
  go_wp2
  go_ret
  have hk := set3d HX.out 6 2 5 (.int .i64 3) (.int .i64 a) (.int .i64 er)
  exact ⟨rfl, HE.out _ (hk _).1 (hk _).2, (hk _).2⟩
end Go.Proofs.YtadollckekddgaaDoor.Hi
