/- What the ring's words say, in the program: a word, the newest stamp, the span of stamps, an entry. -/
import Derived.Test.YtacioekmeildoaaRngA
import Derived.Test.YtacioekmeildoaaMemE
namespace Go.Proofs.Ytacioekmeildoaa
open Go.ChangeShapes Go.WideShapes Go.ChangeAt Go.RowKit
attribute [local go_sem ↓] Go.wp_at_zero Go.wp_at_succ

/-! ### rows of cells -/
theorem load_row {P : Program} {w : World} {b n : Nat} {t : TypeId} {cs : Array Value} (h : w.heap[b]? = some (.cells cs t (0, 0))) (hz : cs.size = n) : (loadCellsFrom ⟨b, 0, none⟩ 0 n #[]).run P w = .ok cs w := by
  have := run_loadCells_list (P := P) w ⟨b, 0, none⟩ cs.toList (fun j v hv => by
    have hadd : (⟨b, 0, none⟩ : Addr).add j = ⟨b, j, none⟩ := by unfold Addr.add; split <;> simp_all
    rw [hadd, cell_of_row _ _ j cs t (0, 0) h]
    simpa using hv)
  simpa [loadCells, hz] using this
theorem store_row {P : Program} {w : World} {b : Nat} {t : TypeId} {old cs : Array Value} (h : w.heap[b]? = some (.cells old t (0, 0))) (hc : cs.size = old.size) (h1 : cs.all (·.oneCell') = true) : (storeCells ⟨b, 0, none⟩ cs.toList 0).run P w = .ok () (w.setRow b cs) := by
  have := run_storeCells_from (P := P) b t cs.toList 0 old w h (by simp [hc]) (fun v hv => (Array.all_eq_true_iff_forall_mem.1 h1) v (by simpa using hv))
  simpa using this
theorem pack8 (cs : Array Value) (h : cs.size = 8) : #[cs[0]'(by omega), cs[1]'(by omega), cs[2]'(by omega), cs[3]'(by omega), cs[4]'(by omega), cs[5]'(by omega), cs[6]'(by omega), cs[7]'(by omega)] = cs := by
  apply Array.ext (by simp [h])
  intro i h1 h2
  have hi : i < 8 := by simpa using h1
  rcases i with _ | _ | _ | _ | _ | _ | _ | _ | i
  all_goals first
    | rfl
    | omega
theorem below_setRow {w w' : World} (h : Below w.heap.size w w') (b : Nat) (hb : w.heap.size ≤ b) (cs : Array Value) : Below w.heap.size w (w'.setRow b cs) :=
  ⟨h.os, h.tape, h.output, by rw [setRow_size]; exact h.size, fun k hk => by rw [setRow_other _ _ _ _ (by omega)]; exact h.block k hk⟩
theorem below_setCell {w w' : World} (h : Below w.heap.size w w') (p : Addr) (hp : w.heap.size ≤ p.block) (v : Value) : Below w.heap.size w (w'.setCell p v) := h.setCell hp v
theorem row_later {w w' : World} {b : Nat} {o : Obj} (h : w.heap[b]? = some o) (hb : Below w.heap.size w w') : w'.heap[b]? = some o := by
  rw [hb.block b (heap_lt h)]; exact h
theorem ret_sig {fn : Func} {p : Tmp} {R : Ending → World → Prop} {a : Act} {w : World} {g : Nat} {cs : Array Value} (h : fn.results = #[.cell p 54]) (hp : a.tmps.getD p undef = .pointer (some ⟨g, 0, none⟩))
    (hg : w.heap[g]? = some (.cells cs 54 (0, 0))) (hz : cs.size = 8) (hd : a.defers = []) (hR : R (.returned (.agg cs)) w) : bodyPost Try.prog fn R .ret a w :=
  bodyPost_ret (results_cell_row h _ _ g 54 cs (0, 0) (.array 8 52) hp hg Try.underlying54 rfl (by rw [hz]; kernel_rfl)) hd hR

/-! ### a word, the newest stamp, the span -/
theorem rpk_any {w : World} {base : Nat} {p : Value} {c r : Nat} {L : List Ac} {F : List Nat} (h : MemAt w base p c r L F) (a : Ad) :
    Calls Try.prog 39 #[p, .agg (adC a)] w fun e w' => e = .returned (.int .i64 (if isAd c r a then wordOf L a else 0)) ∧ Below w.heap.size w w' := by
  have HP : Hid (∀ w' : World, Below w.heap.size w w' → Calls Try.prog 47 #[p, .agg (adC a)] w' fun e w'' => e = .returned (.tuple #[.int .i64 (if isAd c r a then wordOf L a else 0), .int .i64 (if isAd c r a then 0 else 1)]) ∧ Below w'.heap.size w' w'') := fun w' hb => peek_any (h.below hb) a
  obtain ⟨M, H, S, C, v, h⟩ := h
  obtain rfl := h.p
  clear h
  generalize (if isAd c r a = true then wordOf L a else 0) = z at *
  generalize (if isAd c r a = true then (0 : Int) else 1) = u at *
  obtain ⟨k, i, j⟩ := a
  unfold adC at *
  go_enter Try.func39, Try.ntmps39
  go_wp2_with fail
  refine (HP.out _ (below_a1 _ _)).mono ?_
  rintro e w1 ⟨rfl, hb1⟩
  have HB : Hid (Below w.heap.size w w1) := below_then (below_a1 _ _) hb1
  clear hb1
  go_wp2
  go_ret
  exact ⟨rfl, HB.out⟩

theorem isAd_newest (c r : Nat) : isAd c r ⟨1, 0, 0⟩ = true := rfl
theorem isAd_head (c r : Nat) (i : Int) (h0 : 0 ≤ i) (h1 : i < (r : Int)) : isAd c r ⟨2, i, 0⟩ = true := by simp [isAd, h0, h1]
theorem isAd_sig (c r : Nat) (i j : Int) (h0 : 0 ≤ i) (h1 : i < (r : Int)) (h2 : 0 ≤ j) (h3 : j < 8) : isAd c r ⟨3, i, j⟩ = true := by simp [isAd, h0, h1, h2, h3]

theorem newest_any {w : World} {base : Nat} {p : Value} {c r : Nat} {L : List Ac} {F : List Nat} (h : MemAt w base p c r L F) :
    Calls Try.prog 24 #[p] w fun e w' => e = .returned (.int .i64 (wordOf L ⟨1, 0, 0⟩)) ∧ Below w.heap.size w w' := by
  have HP : Hid (Calls Try.prog 39 #[p, .agg #[.int .i64 1, .int .i64 0, .int .i64 0]] w fun e w'' => e = .returned (.int .i64 (wordOf L ⟨1, 0, 0⟩)) ∧ Below w.heap.size w w'') := rpk_any h ⟨1, 0, 0⟩
  obtain ⟨M, H, S, C, v, h⟩ := h
  obtain rfl := h.p
  clear h
  generalize wordOf L ⟨1, 0, 0⟩ = z at *
  go_enter Try.func24, Try.ntmps24
  go_wp2_with fail
  refine HP.out.mono ?_
  rintro e w1 ⟨rfl, hb1⟩
  have HB : Hid (Below w.heap.size w w1) := hb1
  clear hb1
  go_wp2
  go_ret
  exact ⟨rfl, HB.out⟩

theorem span_any {w : World} {base : Nat} {p : Value} {c r : Nat} {L : List Ac} {F : List Nat} (h : MemAt w base p c r L F) (hr : r ≤ 16) (hN : wordOf L ⟨1, 0, 0⟩ ≤ 9223372036854775807) :
    Calls Try.prog 40 #[p] w fun e w' => e = .returned (.tuple #[.int .i64 (beforeV (wordOf L) r), .int .i64 (lastV (wordOf L))]) ∧ Below w.heap.size w w' := by
  have HS : Hid (∀ w' : World, Below w.heap.size w w' → Calls Try.prog 48 #[p] w' fun e w'' => e = .returned (.tuple #[.int .i64 (c : Int), .int .i64 (r : Int)]) ∧ Below w'.heap.size w' w'') := fun w' hb => sizes_any (h.below hb)
  have HNW : Hid (∀ w' : World, Below w.heap.size w w' → Calls Try.prog 24 #[p] w' fun e w'' => e = .returned (.int .i64 (wordOf L ⟨1, 0, 0⟩)) ∧ Below w'.heap.size w' w'') := fun w' hb => newest_any (h.below hb)
  obtain ⟨M, H, S, C, v, h⟩ := h
  obtain rfl := h.p
  clear h
  unfold beforeV lastV
  generalize wordOf L ⟨1, 0, 0⟩ = z at *
  have HR : Hid (r ≤ 16 ∧ z ≤ 9223372036854775807) := ⟨hr, hN⟩
  clear hr hN
  go_enter Try.func40, Try.ntmps40
  go_wp2_with fail
  refine (HS.out _ (Below.refl _ _)).mono ?_
  rintro e w1 ⟨rfl, hb1⟩
  have HB : Hid (Below w.heap.size w w1) := hb1
  clear hb1
  go_wp2_with fail
  refine (HNW.out _ HB.out).mono ?_
  rintro e w2 ⟨rfl, hb2⟩
  have HB2 : Hid (Below w.heap.size w w2) := below_then HB.out hb2
  clear hb2
  go_wp2
  all_goals
    go_ret2
    refine ⟨?_, HB2.out⟩
    have := HR.out
    simp [wrap64] at *
    omega

theorem mark_any (h st : Int) (w : World) : Calls Try.prog 52 #[.int .i64 h, .int .i64 st] w fun e w' => e = .returned (.int .i64 (markV h st)) ∧ w' = w := by
  unfold markV
  cases d1 : overV h st
  · cases d2 : laidV h st
    all_goals
      go_enter Try.func52, Try.ntmps52
      go_wp2_with fail
      refine (over_any _ _ _).mono ?_
      rintro e w' ⟨rfl, rfl⟩
      rw [d1]
      go_wp2_with fail
      refine (laid_any _ _ _).mono ?_
      rintro e w' ⟨rfl, rfl⟩
      rw [d2]
      go_wp2
      go_ret
      exact ⟨rfl, rfl⟩
  · go_enter Try.func52, Try.ntmps52
    go_wp2_with fail
    refine (over_any _ _ _).mono ?_
    rintro e w' ⟨rfl, rfl⟩
    rw [d1]
    go_wp2
    go_ret
    exact ⟨rfl, rfl⟩
end Go.Proofs.Ytacioekmeildoaa
