/- A state of each: the law's both. -/
import Derived.Test.YtgbmnngmfcneaaaPmW
import Derived.Test.YtgbmnngmfcneaaaPmU
namespace Go.Proofs.Ytgbmnngmfcneaaa.Pl
open Go.ChangeShapes Go.WideShapes Go.ChangeAt Go.RowKit
attribute [local go_sem ↓] Go.wp_at_zero Go.wp_at_succ

/-- Both states beside each other. -/
structure Du (w : World) (B X : Nat) (F : List Nat) (Y : Nat) (G Z : List Nat) (raw : List Int) (cs : List Co) : Prop where
  s : StAt w B X F raw cs
  d : DtAt w B Y G Z raw cs
  fg : ∀ b ∈ F, b ∉ G
  fz : ∀ b ∈ F, b ∉ Z
  wB : B ≤ w.heap.size
theorem StAt.lo {w : World} {B X : Nat} {F : List Nat} {raw : List Int} {cs : List Co} (h : StAt w B X F raw cs) : ∀ b ∈ F, B ≤ b ∧ b < w.heap.size := by
  obtain ⟨_, _, _, _, h⟩ := h
  exact h.lo
theorem StAt.base {w : World} {B B' X : Nat} {F : List Nat} {raw : List Int} {cs : List Co} (h : StAt w B X F raw cs) (hB : B' ≤ B) : StAt w B' X F raw cs := by
  obtain ⟨rv, cv, V, P, h⟩ := h
  exact ⟨rv, cv, V, P, h.hX, h.XF, own_base h.rr hB, h.rF, h.rV, own_base h.cr hB, h.cF, ⟨fun i hi => own_base (h.rows.vs i hi) hB, fun i hi => own_base (h.rows.ps i hi) hB, h.rows.iv, h.rows.ip, h.rows.vv, h.rows.pp, h.rows.ok⟩, h.r1, h.r64, h.rs, h.c8, fun b hb => ⟨Nat.le_trans hB (h.lo b hb).1, (h.lo b hb).2⟩⟩
theorem DtAt.lo {w : World} {B X : Nat} {F Z : List Nat} {raw : List Int} {cs : List Co} (h : DtAt w B X F Z raw cs) : (∀ b ∈ F, B ≤ b ∧ b < w.heap.size) ∧ (∀ b ∈ Z, B ≤ b ∧ b < w.heap.size) ∧ ∀ b ∈ Z, b ∉ F := by
  obtain ⟨_, _, _, _, _, _, h, _⟩ := h
  exact ⟨h.lo, h.zl, h.zF⟩
theorem DtAt.base {w : World} {B B' X : Nat} {F Z : List Nat} {raw : List Int} {cs : List Co} (h : DtAt w B X F Z raw cs) (hB : B' ≤ B) : DtAt w B' X F Z raw cs := by
  obtain ⟨C, vr, rv, cv, V, P, h, hl⟩ := h
  exact ⟨C, vr, rv, cv, V, P, h.base hB, hl⟩
theorem Du.later {w w' : World} {B X : Nat} {F : List Nat} {Y : Nat} {G Z : List Nat} {raw : List Int} {cs : List Co} (h : Du w B X F Y G Z raw cs) (hb : Below w.heap.size w w') : Du w' B X F Y G Z raw cs := ⟨h.s.later hb, h.d.later hb, h.fg, h.fz, Nat.le_trans h.wB hb.size⟩
/-- The program's state went on. -/
theorem Du.goS {w w' : World} {B X : Nat} {F F' : List Nat} {Y : Nat} {G Z : List Nat} {raw : List Int} {cs : List Co} (h : Du w B X F Y G Z raw cs) (hn : Next F F' w w') : DtAt w' B Y G Z raw cs ∧ (∀ b ∈ F', b ∉ G) ∧ (∀ b ∈ F', b ∉ Z) ∧ B ≤ w'.heap.size := by
  obtain ⟨l1, l2, l3⟩ := h.d.lo
  refine ⟨h.d.keep hn.1 (fun b hb hm => h.fg b hm hb) (fun b hb hm => h.fz b hm hb), fun b hb hm => ?_, fun b hb hm => ?_, Nat.le_trans h.wB hn.1.size⟩
  · rcases hn.2 b hb with h1 | h1
    · exact h.fg b h1 hm
    · have := (l1 b hm).2; omega
  · rcases hn.2 b hb with h1 | h1
    · exact h.fz b h1 hm
    · have := (l2 b hm).2; omega
/-- Both went on, the program's first. -/
theorem Du.go {w w1 w2 : World} {B X : Nat} {F F' : List Nat} {Y : Nat} {G G' Z : List Nat} {raw raw' : List Int} {cs cs' : List Co} (h : Du w B X F Y G Z raw cs) (hs : StAt w1 B X F' raw' cs') (hn : Next F F' w w1) (hd : DtAt w2 B Y G' Z raw' cs') (hm : Next G G' w1 w2) : Du w2 B X F' Y G' Z raw' cs' := by
  obtain ⟨_, h2, h3, h4⟩ := h.goS hn
  have l := hs.lo
  refine ⟨hs.keep hm.1 h2, hd, fun b hb hg => ?_, h3, Nat.le_trans h4 hm.1.size⟩
  rcases hm.2 b hg with h1 | h1
  · exact h2 b hb h1
  · have := (l b hb).2; omega
theorem both_no {w : World} {v : Value} {c : Pc.Cf} (h : Pc.CfV w v c) (hn : Pc.okC c = false) : Calls Try.prog 8 #[v] w fun e w' => e = .returned (.tuple #[.pointer none, .pointer none, .bool true]) ∧ Below w.heap.size w w' := by
  have H1 : Hid (∀ w' : World, Below w.heap.size w w' → Calls Try.prog 21 #[v] w' fun e w'' => e = .returned (.tuple #[.pointer none, .int .i64 13]) ∧ Below w'.heap.size w' w'') := fun w' hb => new_no (h.later hb (Nat.le_refl _)) hn
  have H2 : Hid (∀ w' : World, Below w.heap.size w w' → Calls Try.prog 22 #[v] w' fun e w'' => e = .returned (.tuple #[.pointer none, .int .i64 13]) ∧ Below w'.heap.size w' w'') := fun w' hb => rnew_no (h.later hb (Nat.le_refl _)) hn
  obtain ⟨vr, rfl, hR⟩ := h
  clear hR hn
  obtain ⟨a, b, d, s, mu, t, R⟩ := c
  unfold Pc.cfA at *
  dsimp only at *
  go_enter Try.func8, Try.ntmps8
  go_wp2_with fail
  refine (H1.out _ (below_a1 _ _)).mono ?_
  rintro e w1 ⟨rfl, hb⟩
  have HB : Hid (Below w.heap.size w w1) := below_then (below_a1 _ _) hb
  have hr := Pc.row_nx hb
  have k0 : w1.cell? ⟨w.heap.size, 0, none⟩ = some (.int .i64 a) := (cell_at hr 0).trans rfl
  have k1 : w1.cell? ⟨w.heap.size, 1, none⟩ = some (.int .i64 b) := (cell_at hr 1).trans rfl
  have k2 : w1.cell? ⟨w.heap.size, 2, none⟩ = some (.int .i64 d) := (cell_at hr 2).trans rfl
  have k3 : w1.cell? ⟨w.heap.size, 3, none⟩ = some (.int .i64 s) := (cell_at hr 3).trans rfl
  have k4 : w1.cell? ⟨w.heap.size, 4, none⟩ = some (.bool mu) := (cell_at hr 4).trans rfl
  have k5 : w1.cell? ⟨w.heap.size, 5, none⟩ = some (.int .i64 t) := (cell_at hr 5).trans rfl
  have k6 : w1.cell? ⟨w.heap.size, 6, none⟩ = some vr := (cell_at hr 6).trans rfl
  clear hb hr H1
  go_wp2_with fail
  refine (H2.out _ HB.out).mono ?_
  rintro e w2 ⟨rfl, hb2⟩
  have HB2 : Hid (Below w.heap.size w w2) := below_then HB.out hb2
  clear hb2
  go_wp2_with fail
  go_ret3
  exact ⟨rfl, HB2.out⟩
theorem both_yes {w : World} {v : Value} {c : Pc.Cf} (h : Pc.CfV w v c) (hy : Pc.okC c = true) : Calls Try.prog 8 #[v] w fun e w' => ∃ X F Y G Z, e = .returned (.tuple #[.pointer (some ⟨X, 0, none⟩), .pointer (some ⟨Y, 0, none⟩), .bool true]) ∧ Du w' w.heap.size X F Y G Z (newRaw c) (newCs c) ∧ Below w.heap.size w w' := by
  have H1 : Hid (∀ w' : World, Below w.heap.size w w' → Calls Try.prog 21 #[v] w' fun e w'' => ∃ X F, e = .returned (.tuple #[.pointer (some ⟨X, 0, none⟩), .int .i64 0]) ∧ StAt w'' w'.heap.size X F (newRaw c) (newCs c) ∧ Below w'.heap.size w' w'') := fun w' hb => new_yes (h.later hb (Nat.le_refl _)) hy
  have H2 : Hid (∀ w' : World, Below w.heap.size w w' → Calls Try.prog 22 #[v] w' fun e w'' => ∃ X F Z, e = .returned (.tuple #[.pointer (some ⟨X, 0, none⟩), .int .i64 0]) ∧ DtAt w'' w'.heap.size X F Z (newRaw c) (newCs c) ∧ Below w'.heap.size w' w'') := fun w' hb => rnew_yes (h.later hb (Nat.le_refl _)) hy
  generalize newRaw c = raw at *
  generalize newCs c = cs at *
  obtain ⟨vr, rfl, hR⟩ := h
  clear hR hy
  obtain ⟨a, b, d, s, mu, t, R⟩ := c
  unfold Pc.cfA at *
  dsimp only at *
  go_enter Try.func8, Try.ntmps8
  go_wp2_with fail
  refine (H1.out _ (below_a1 _ _)).mono ?_
  rintro e w1 ⟨X, F, rfl, hst, hb⟩
  have HB : Hid (Below w.heap.size w w1) := below_then (below_a1 _ _) hb
  have hr := Pc.row_nx hb
  have k0 : w1.cell? ⟨w.heap.size, 0, none⟩ = some (.int .i64 a) := (cell_at hr 0).trans rfl
  have k1 : w1.cell? ⟨w.heap.size, 1, none⟩ = some (.int .i64 b) := (cell_at hr 1).trans rfl
  have k2 : w1.cell? ⟨w.heap.size, 2, none⟩ = some (.int .i64 d) := (cell_at hr 2).trans rfl
  have k3 : w1.cell? ⟨w.heap.size, 3, none⟩ = some (.int .i64 s) := (cell_at hr 3).trans rfl
  have k4 : w1.cell? ⟨w.heap.size, 4, none⟩ = some (.bool mu) := (cell_at hr 4).trans rfl
  have k5 : w1.cell? ⟨w.heap.size, 5, none⟩ = some (.int .i64 t) := (cell_at hr 5).trans rfl
  have k6 : w1.cell? ⟨w.heap.size, 6, none⟩ = some vr := (cell_at hr 6).trans rfl
  have HS : Hid (StAt w1 w.heap.size X F raw cs) := hst.base (by simp)
  clear hb hr H1 hst
  go_wp2_with fail
  refine (H2.out _ HB.out).mono ?_
  rintro e w2 ⟨Y, G, Z, rfl, hdt, hb2⟩
  have HB2 : Hid (Below w.heap.size w w2) := below_then HB.out hb2
  have HD : Hid (Du w2 w.heap.size X F Y G Z raw cs) := by
    obtain ⟨l1, l2, l3⟩ := hdt.lo
    have ls := HS.out.lo
    exact ⟨HS.out.later hb2, hdt.base HB.out.size, fun b hb hm => by have := (ls b hb).2; have := (l1 b hm).1; omega, fun b hb hm => by have := (ls b hb).2; have := (l2 b hm).1; omega, HB2.out.size⟩
  clear hb2 hdt HS
  go_wp2_with fail
  go_ret3
  exact ⟨X, F, Y, G, Z, rfl, HD.out, HB2.out⟩
end Go.Proofs.Ytgbmnngmfcneaaa.Pl
