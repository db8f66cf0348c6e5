/- An entry is published, is complete. -/
import Derived.Test.YtadollckekddgaaDoorHiD
namespace Go.Proofs.YtadollckekddgaaDoor.Hi
open Go.ChangeShapes Go.WideShapes Go.ChangeAt Go.RowKit
set_option linter.unusedVariables false

theorem finish_no {w : World} {B P k : Nat} {p : Pa} {b : Nat → Nat} {V : Nat → Value} {vt vp : Value} (h : PAt w B P k p b V vt vp) (hkb : k ≤ 925925926000) {i : Nat} (hi : i < p.txs.length) (e : Ev) (hs : ¬ ((nt p.txs i).sg = 2 ∧ e.sp = (nt p.txs i).st ∧ e.sp = p.co + 1)) :
    Calls Tryd.prog 35 #[ptr P, ptr (b i), evV e] w fun x w' => x = .returned (.bool false) ∧ Keep [] w w' := by
  have hx := h.tx i hi
  have hlt := heap_lt hx
  have hlP := heap_lt h.pa
  have hc6 : w.cell? ⟨b i, 6, none⟩ = some (.int .i64 (nt p.txs i).sg) := by rw [cell_at hx]; simp [txC]
  have hc3 : w.cell? ⟨b i, 3, none⟩ = some (.int .i64 (nt p.txs i).st) := by rw [cell_at hx]; simp [txC]
  have hp3 : w.cell? ⟨P, 3, none⟩ = some (.int .i64 p.co) := by rw [cell_at h.pa]; simp
  have hw : wrap64 (p.co + 1) = p.co + 1 := by have := h.bd; unfold wrap64; omega
  clear h hi hx hkb
  generalize (nt p.txs i).sg = z at *
  generalize (nt p.txs i).st = y at *
  generalize hcc : p.co + 1 = c1 at *
  generalize p.co = c at *
  generalize b i = X at *
  obtain ⟨a, th, tx, kd, cl, vl, ow, sr, sn, sp, sg, er⟩ := e
  unfold evV evA ptr
  dsimp only at *
  by_cases h1 : z = 2
  · subst h1
    by_cases h2 : sp = y
    · have h3 : ¬ sp = c1 := fun h3 => hs ⟨rfl, h2, h3⟩
      have hd2 : (sp != y) = false := by simpa using h2
      have hd3 : (sp != c1) = true := by simpa using h3
      have HH : Hid (c + 1 = c1) := hcc
      clear hs hcc h2 h3
      have hw' : wrap64 (c + 1) = c1 := by rw [HH.out]; exact hw
      clear hw
      go_enter Tryd.func35, Tryd.ntmps35
      go_wp2
      go_quiet (fail)
      go_wp2
      go_ret
      exact ⟨rfl, ((Keep.refl [] w).alloc _).drewN _⟩
    · have hd2 : (sp != y) = true := by simpa using h2
      clear hs hw hcc
      go_enter Tryd.func35, Tryd.ntmps35
      go_wp2
      go_quiet (fail)
      go_wp2
      go_ret
      exact ⟨rfl, ((Keep.refl [] w).alloc _).drewN _⟩
  · have hd : (z != 2) = true := by simpa using h1
    clear hs hw hcc
    go_enter Tryd.func35, Tryd.ntmps35
    go_wp2
    go_quiet (fail)
    go_wp2
    go_ret
    exact ⟨rfl, ((Keep.refl [] w).alloc _).drewN _⟩
theorem Keep.behind {F : List Nat} {w w1 w2 : World} (h : Keep [] w w1) (k : Keep F w1 w2) (hl : ∀ x ∈ F, x < w.heap.size) : Keep F w w2 := (h.mono (G := F) (fun b hb => by simp at hb)).trans k (fun b hb => Or.inl hb)
theorem PAt.finish {w : World} {B P k : Nat} {p : Pa} {b : Nat → Nat} {V : Nat → Value} {vt vp : Value} (h : PAt w B P k p b V vt vp) {i : Nat} (hi : i < p.txs.length) {z : Int} (hz : z = p.co + 1) : PAt ((w.setCell ⟨b i, 6, none⟩ (.int .i64 3)).setCell ⟨P, 3, none⟩ (.int .i64 z)) B P (k + 1) { (p.upd i { nt p.txs i with sg := 3 }) with co := p.co + 1 } b V vt vp ∧ Keep [P, b i] w ((w.setCell ⟨b i, 6, none⟩ (.int .i64 3)).setCell ⟨P, 3, none⟩ (.int .i64 z)) := by
  have hx := h.tx i hi
  have k1 : Keep [b i] w (w.setCell ⟨b i, 6, none⟩ (.int .i64 3)) := (Keep.refl _ _).setCell _ _ (Or.inl (by simp))
  have h1 := h.set (w' := w.setCell ⟨b i, 6, none⟩ (.int .i64 3)) hi (t := { nt p.txs i with sg := 3 }) rfl (by rw [heap_set hx]; simp [txC]) k1
  have k2 : Keep [P] (w.setCell ⟨b i, 6, none⟩ (.int .i64 3)) ((w.setCell ⟨b i, 6, none⟩ (.int .i64 3)).setCell ⟨P, 3, none⟩ (.int .i64 z)) := (Keep.refl _ _).setCell _ _ (Or.inl (by simp))
  have h2 := (h1.more (Nat.le_succ k)).own (w' := (w.setCell ⟨b i, 6, none⟩ (.int .i64 3)).setCell ⟨P, 3, none⟩ (.int .i64 z)) (a := p.at_) (c := p.co + 1) (by have := h.bd; omega) (by rw [heap_set h1.pa, hz]; simp [Pa.upd]) k2
  exact ⟨h2, (k1.mono (G := [P, b i]) (by simp)).trans k2 (by simp)⟩
theorem finish_yes {w : World} {B P k : Nat} {p : Pa} {b : Nat → Nat} {V : Nat → Value} {vt vp : Value} (h : PAt w B P k p b V vt vp) (hkb : k ≤ 925925926000) {i : Nat} (hi : i < p.txs.length) (e : Ev) (hs : (nt p.txs i).sg = 2 ∧ e.sp = (nt p.txs i).st ∧ e.sp = p.co + 1) :
    Calls Tryd.prog 35 #[ptr P, ptr (b i), evV e] w fun x w' => x = .returned (.bool true) ∧ PAt w' B P (k + 1) { (p.upd i { nt p.txs i with sg := 3 }) with co := p.co + 1 } b V vt vp ∧ Keep [P, b i] w w' := by
  have hx := h.tx i hi
  have hlt := heap_lt hx
  have hlP := heap_lt h.pa
  have hne : b i ≠ P := h.bx hi
  have hne2 : P ≠ b i := hne.symm
  have hc6 : w.cell? ⟨b i, 6, none⟩ = some (.int .i64 2) := by rw [cell_at hx]; simp [txC, hs.1]
  have hc3 : w.cell? ⟨b i, 3, none⟩ = some (.int .i64 e.sp) := by rw [cell_at hx]; simp [txC, hs.2.1]
  have hp3 : w.cell? ⟨P, 3, none⟩ = some (.int .i64 p.co) := by rw [cell_at h.pa]; simp
  have hf6 := frozen_at hx 6
  have hpf3 := frozen_at h.pa 3
  have hw : wrap64 (p.co + 1) = e.sp := by have := h.bd; unfold wrap64; omega
  have hdd : (e.sp != e.sp) = false := by simp
  have HE : Hid (∀ o n, PAt ((((w.alloc o).drewN n).setCell ⟨b i, 6, none⟩ (.int .i64 3)).setCell ⟨P, 3, none⟩ (.int .i64 e.sp)) B P (k + 1) { (p.upd i { nt p.txs i with sg := 3 }) with co := p.co + 1 } b V vt vp ∧ Keep [P, b i] w ((((w.alloc o).drewN n).setCell ⟨b i, 6, none⟩ (.int .i64 3)).setCell ⟨P, 3, none⟩ (.int .i64 e.sp))) := fun o n => by
    have k0 : Keep [] w ((w.alloc o).drewN n) := ((Keep.refl [] _).alloc o).drewN n
    have h0 := (h.keep k0 (fun x hx => by simp at hx)).finish hi hs.2.2
    exact ⟨h0.1, Keep.behind k0 h0.2 (by simp; exact ⟨hlP, hlt⟩)⟩
  clear h hi hx hkb hs
  generalize (p.upd i { nt p.txs i with sg := 3 }) = q at *
  generalize p.co + 1 = c1 at HE ⊢
  generalize p.co = c at *
  generalize b i = X at *
  obtain ⟨a, th, tx, kd, cl, vl, ow, sr, sn, sp, sg, er⟩ := e
  unfold evV evA ptr
  dsimp only at *
  go_enter Tryd.func35, Tryd.ntmps35
  go_wp2
  go_quiet (fail)
  go_wp2
  go_ret
  exact ⟨rfl, HE.out _ _⟩
end Go.Proofs.YtadollckekddgaaDoor.Hi
