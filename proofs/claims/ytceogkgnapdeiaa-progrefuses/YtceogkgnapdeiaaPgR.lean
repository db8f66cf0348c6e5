/- A job (layer 21) as it lies; New. -/
import Derived.Test.YtceogkgnapdeiaaPgA
namespace Go.Proofs.Ytceogkgnapdeiaa.Pg
open Go.ChangeShapes Go.WideShapes Go.ChangeAt Go.RowKit
attribute [local go_sem ↓] Go.wp_at_zero Go.wp_at_succ

/-- The cells of a job. -/
def jobR (c : Pc.Cf) (rv : Value) (cells : Int) (code : ByteArray) (av : Value) (nr : Int) (tv : Value) (pub : Bool) (pl nx : Int) (sv rtv tlv : Value) (wt : Wn) (kv : Value) (rd : Int) (ev : Value) (ov : Bool) (er : Int) : Array Value :=
  #[.int .i64 c.raw, .int .i64 c.ring, .int .i64 c.wrs, .int .i64 c.st, .bool c.multi, .int .i64 c.tries, .slice none 0 0, rv, .int .i64 cells, .string code, av, .int .i64 nr, tv, .bool pub, .int .i64 pl, .int .i64 nx, sv, rtv, tlv,
    .int .i64 wt.kind, .int .i64 wt.cell, .int .i64 wt.val, .int .i64 wt.code, kv, .int .i64 rd, ev, .bool ov, .int .i64 er]
def jobZ (c : Pc.Cf) (rv : Value) (cells : Int) (code : ByteArray) (av : Value) : Array Value := jobR c rv cells code av 0 (.pointer none) false 0 0 (.slice none 0 0) (.slice none 0 0) (.slice none 0 0) wn0 .nilIface 0 (.slice none 0 0) false 0
/-- What New refuses. -/
def refV (c : Pc.Cf) (code : ByteArray) (args : List Int) : Int := if Pc.okC c = true then (if 512 < code.size ∨ 4 < args.length then 1 else 0) else 13
theorem new_cfg {w : World} {v : Value} {c : Pc.Cf} (h : Pc.CfV w v c) (code : ByteArray) {va : Value} {l : List Int} (ha : Nl w va l) (hn : Pc.okC c = false) : Calls Try.prog 4 #[v, .string code, va] w fun e w' => e = .returned (.tuple #[.pointer none, .int .i64 13]) ∧ Below w.heap.size w w' := by
  have HC : Hid (∀ w' : World, Below w.heap.size w w' → Calls Try.prog 6 #[v] w' fun e w'' => e = .returned (.tuple #[.int .i64 0, .int .i64 13]) ∧ Below w'.heap.size w' w'') := fun w' hb => by
    have := Pc.cells_any (h.later hb (Nat.le_refl _))
    unfold Pc.Two Pc.cellsV at this
    rw [hn] at this
    exact this
  obtain ⟨vr, rfl, hR⟩ := h
  obtain ⟨a, cap, rfl, hl, _⟩ := ha
  clear hR hn
  obtain ⟨a, b, d, s, mu, t, R⟩ := c
  unfold Pc.cfA at *
  dsimp only at *
  go_enter Try.func4, Try.ntmps4
  go_wp2_with fail
  refine (HC.out _ (below_a1 _ _)).mono ?_
  rintro e w1 ⟨rfl, hb⟩
  go_wp2_with fail
  go_ret2
  exact ⟨rfl, below_then (below_a1 _ _) hb⟩
theorem cfg_yes {w : World} {v : Value} {c : Pc.Cf} (h : Pc.CfV w v c) (hn : Pc.okC c = true) : Hid (∀ w' : World, Below w.heap.size w w' → Calls Try.prog 6 #[v] w' fun e w'' => e = .returned (.tuple #[.int .i64 (Pc.cellsV c).1, .int .i64 0]) ∧ Below w'.heap.size w' w'') := fun w' hb => by
  have := Pc.cells_any (h.later hb (Nat.le_refl _))
  unfold Pc.Two at this
  rw [show (Pc.cellsV c).2 = 0 by unfold Pc.cellsV; rw [hn]; rfl] at this
  exact this
theorem new_arg {w : World} {v : Value} {c : Pc.Cf} (h : Pc.CfV w v c) (code : ByteArray) {va : Value} {l : List Int} (ha : Nl w va l) (hn : Pc.okC c = true) (hc : 512 < code.size ∨ 4 < l.length) : Calls Try.prog 4 #[v, .string code, va] w fun e w' => e = .returned (.tuple #[.pointer none, .int .i64 1]) ∧ Below w.heap.size w w' := by
  have HC := cfg_yes h hn
  obtain ⟨vr, rfl, hR⟩ := h
  obtain ⟨a, cap, rfl, hl, _⟩ := ha
  generalize (Pc.cellsV c).1 = y at *
  clear hR hn
  obtain ⟨a, b, d, s, mu, t, R⟩ := c
  unfold Pc.cfA at *
  dsimp only at *
  generalize hln : l.length = n at *
  have hd : (decide ((512 : Int) < (code.size : Int)) = true) ∨ (decide ((512 : Int) < (code.size : Int)) = false ∧ decide ((4 : Int) < (n : Int)) = true) := by
    rcases hc with h1 | h1
    · left; simp; omega
    · by_cases h2 : 512 < code.size
      · left; simp; omega
      · right; simp; omega
  clear hc hl hln
  go_enter Try.func4, Try.ntmps4
  go_wp2_with fail
  refine (HC.out _ (below_a1 _ _)).mono ?_
  rintro e w1 ⟨rfl, hb⟩
  have HB : Hid (Below w.heap.size w w1) := below_then (below_a1 _ _) hb
  clear hb
  rcases hd with hd | ⟨hd, hd2⟩
  · go_wp2_with fail
    go_ret2
    exact ⟨rfl, HB.out⟩
  · go_wp2_with fail
    go_ret2
    exact ⟨rfl, HB.out⟩
theorem row_on {w w' : World} {b : Nat} {o : Obj} (h : w.heap[b]? = some o) (hb : Below w.heap.size w w') : w'.heap[b]? = some o := (hb.block _ (heap_lt h)).trans h
theorem cf7 {w : World} {X : Nat} {a b d s t : Int} {mu : Bool} {vr : Value} {ty : TypeId} (hr : w.heap[X]? = some (.cells #[.int .i64 a, .int .i64 b, .int .i64 d, .int .i64 s, .bool mu, .int .i64 t, vr] ty (0, 0))) :
    w.cell? ⟨X, 0, none⟩ = some (.int .i64 a) ∧ w.cell? ⟨X, 1, none⟩ = some (.int .i64 b) ∧ w.cell? ⟨X, 2, none⟩ = some (.int .i64 d) ∧ w.cell? ⟨X, 3, none⟩ = some (.int .i64 s) ∧ w.cell? ⟨X, 4, none⟩ = some (.bool mu) ∧ w.cell? ⟨X, 5, none⟩ = some (.int .i64 t) ∧ w.cell? ⟨X, 6, none⟩ = some vr := ⟨(cell_at hr 0).trans rfl, (cell_at hr 1).trans rfl, (cell_at hr 2).trans rfl, (cell_at hr 3).trans rfl, (cell_at hr 4).trans rfl, (cell_at hr 5).trans rfl, (cell_at hr 6).trans rfl⟩
set_option maxRecDepth 10000 in
set_option maxHeartbeats 4000000 in
/-- A job that may be: whatever newTry makes of it. -/
theorem new_yes {w : World} {v : Value} {c : Pc.Cf} {T : Nat → World → Prop} (h : Pc.CfV w v c) (code : ByteArray) {va : Value} {l : List Int} (ha : Nl w va l) (hn : Pc.okC c = true) (hc : code.size ≤ 512) (hl : l.length ≤ 4)
    (HT : ∀ (w1 : World) (X : Nat) (rv av : Value), w.heap.size ≤ X → w1.ownsRow w.heap.size 54 3 rv c.R.length (rgsC c c.R.length) → w1.ownsRow w.heap.size 2 1 av l.length (numC l) → (∀ b, rv.ownBlock = some b → b < X ∧ av.ownBlock ≠ some b) → (∀ b, av.ownBlock = some b → b < X) → w1.heap[X]? = some (.cells (jobZ c rv (Pc.cellsV c).1 code av) 47 (0, 0)) → X + 1 = w1.heap.size → Below w.heap.size w w1 →
      Calls Try.prog 9 #[.pointer (some ⟨X, 0, none⟩)] w1 fun e w2 => e = .returned (.tuple #[]) ∧ T X w2) :
    Calls Try.prog 4 #[v, .string code, va] w fun e w' => ∃ X, e = .returned (.tuple #[.pointer (some ⟨X, 0, none⟩), .int .i64 0]) ∧ T X w' := by
  have HC := cfg_yes h hn
  have h8 := (Pc.okC_raw hn).2.2
  have HRG : Hid (∀ w' : World, Below w.heap.size w w' → Calls Try.prog 7 #[v] w' fun e w'' => ∃ u, e = .returned u ∧ w''.ownsRow w'.heap.size 54 3 u c.R.length (rgsC c c.R.length) ∧ Below w'.heap.size w' w'') := fun w' hb => regs_any (h.later hb (Nat.le_refl _)) h8
  have HCO : Hid (∀ w' : World, Below w.heap.size w w' → Calls Try.prog 8 #[va] w' fun e w'' => ∃ u, e = .returned u ∧ w''.ownsRow w'.heap.size 2 1 u l.length (numC l) ∧ Below w'.heap.size w' w'') := fun w' hb => copi_any (ha.later hb (Nat.le_refl _))
  have HTT : Hid (∀ (w1 : World) (X : Nat) (rv av : Value), w.heap.size ≤ X → w1.ownsRow w.heap.size 54 3 rv c.R.length (rgsC c c.R.length) → w1.ownsRow w.heap.size 2 1 av l.length (numC l) → (∀ b, rv.ownBlock = some b → b < X ∧ av.ownBlock ≠ some b) → (∀ b, av.ownBlock = some b → b < X) → w1.heap[X]? = some (.cells (jobZ c rv (Pc.cellsV c).1 code av) 47 (0, 0)) → X + 1 = w1.heap.size → Below w.heap.size w w1 →
      Calls Try.prog 9 #[.pointer (some ⟨X, 0, none⟩)] w1 fun e w2 => e = .returned (.tuple #[]) ∧ T X w2) := HT
  obtain ⟨vr, rfl, hR⟩ := h
  obtain ⟨aa, cap, rfl, hl', _⟩ := ha
  generalize hcv : (Pc.cellsV c).1 = y at *
  generalize rgsC c c.R.length = RC at *
  generalize numC l = NC at *
  generalize c.R.length = rn at *
  clear hR hn HT hl' h8 hcv
  obtain ⟨a, b, d, s, mu, t, R⟩ := c
  unfold Pc.cfA at *
  unfold jobZ jobR at *
  dsimp only at *
  generalize hln : l.length = n at *
  have hd1 : decide ((512 : Int) < (code.size : Int)) = false := by simp; omega
  have hd2 : decide ((4 : Int) < (n : Int)) = false := by simp; omega
  clear hc hl hln
  go_enter Try.func4, Try.ntmps4
  go_wp2_with fail
  refine (HC.out _ (below_a1 _ _)).mono ?_
  rintro e w1 ⟨rfl, hb⟩
  have hr := row_next hb
  obtain ⟨k0, k1, k2, k3, k4, k5, k6⟩ : w1.cell? ⟨w.heap.size, 0, none⟩ = some (.int .i64 a) ∧ w1.cell? ⟨w.heap.size, 1, none⟩ = some (.int .i64 b) ∧ w1.cell? ⟨w.heap.size, 2, none⟩ = some (.int .i64 d) ∧ w1.cell? ⟨w.heap.size, 3, none⟩ = some (.int .i64 s) ∧ w1.cell? ⟨w.heap.size, 4, none⟩ = some (.bool mu) ∧ w1.cell? ⟨w.heap.size, 5, none⟩ = some (.int .i64 t) ∧ w1.cell? ⟨w.heap.size, 6, none⟩ = some vr := ⟨(cell_at hr 0).trans rfl, (cell_at hr 1).trans rfl, (cell_at hr 2).trans rfl, (cell_at hr 3).trans rfl, (cell_at hr 4).trans rfl, (cell_at hr 5).trans rfl, (cell_at hr 6).trans rfl⟩
  have hl1 := heap_lt hr
  have HB : Hid (Below w.heap.size w w1) := below_next hb
  have HR1 : Hid (w1.heap[w.heap.size]? = some (.cells #[.int .i64 a, .int .i64 b, .int .i64 d, .int .i64 s, .bool mu, .int .i64 t, vr] 24 (0, 0))) := hr
  clear hb hr HC
  go_wp2_with fail
  go_region_held3 (fun w' => w'.cell? ⟨w.heap.size, 0, none⟩ = some (.int .i64 a) ∧ w'.cell? ⟨w.heap.size, 1, none⟩ = some (.int .i64 b) ∧ w'.cell? ⟨w.heap.size, 2, none⟩ = some (.int .i64 d) ∧ w'.cell? ⟨w.heap.size, 3, none⟩ = some (.int .i64 s) ∧ w'.cell? ⟨w.heap.size, 4, none⟩ = some (.bool mu) ∧ w'.cell? ⟨w.heap.size, 5, none⟩ = some (.int .i64 t) ∧ w'.cell? ⟨w.heap.size, 6, none⟩ = some vr) (first | go_keep | exact hS) (first
    | (go_at_call 7; refine (HRG.out _ (by first | exact below_drawn HB.out 1 | exact HB.out)).mono ?_; rintro e w2 ⟨rv, rfl, orv, hb2⟩; have hB2 : Below w1.heap.size w1 w2 := (by first | exact below_then (below_drawn (Below.refl _ _) 1) hb2 | exact hb2); obtain ⟨ra, rc, rfl⟩ := own_slice orv; have hS := cf7 (row_on HR1.out hB2))
    | (go_at_call 8; refine (HCO.out _ (below_then HB.out hB2)).mono ?_; rintro e w3 ⟨av, rfl, oav, hb3⟩; have hB3 : Below w1.heap.size w1 w3 := below_then hB2 hb3; have hS := cf7 (row_on HR1.out hB3); obtain ⟨aa3, ac3, rfl⟩ := own_slice oav))
  have HO1 : Hid (w3.ownsRow w.heap.size 54 3 (.slice ra rn rc) rn RC) := own_base (own_keep orv (Keep.of_below hb3 []) (by simp)) (by first | exact HB.out.size | simpa using HB.out.size)
  have HO2 : Hid (w3.ownsRow w.heap.size 2 1 (.slice aa3 n ac3) n NC) := own_base oav (Nat.le_trans HB.out.size hB2.size)
  have HN1 : Hid (∀ b, (Value.slice ra rn rc).ownBlock = some b → b < w3.heap.size ∧ (Value.slice aa3 n ac3).ownBlock ≠ some b) := fun b hb => ⟨Nat.lt_of_lt_of_le (own_block orv b hb).2 hb3.size, fun hc => by have := (own_block orv b hb).2; have := (own_block oav b hc).1; omega⟩
  have HN2 : Hid (∀ b, (Value.slice aa3 n ac3).ownBlock = some b → b < w3.heap.size) := fun b hb => (own_block oav b hb).2
  have HB3 : Hid (Below w.heap.size w w3) := below_then HB.out hB3
  clear hS orv oav hb2 hb3 hB2 hB3 HRG HCO k0 k1 k2 k3 k4 k5 k6 HR1 HB
  go_wp2_with fail
  refine (HTT.out _ w3.heap.size _ _ HB3.out.size (own_keep HO1.out (F := [w3.heap.size]) ?_ (fun b hb => ?_)) (own_keep HO2.out (F := [w3.heap.size]) ?_ (fun b hb => ?_)) HN1.out HN2.out (heap_alloc_new _ _) (by simp) ?_).mono ?_
  · exact (Keep.refl _ _).alloc _
  · have := (HN1.out b hb).1; simp; omega
  · exact (Keep.refl _ _).alloc _
  · have := HN2.out b hb; simp; omega
  · exact below_then HB3.out (below_a1 _ _)
  rintro e w4 ⟨rfl, hT4⟩
  go_wp2_with fail
  go_ret2
  exact ⟨_, rfl, hT4⟩
end Go.Proofs.Ytceogkgnapdeiaa.Pg
