/- The greatest stamp up to which all entries are complete: the program's Complete. -/
import Derived.Test.YtacioekmeildoaaRngF
namespace Go.Proofs.Ytacioekmeildoaa
open Go.ChangeShapes Go.WideShapes Go.ChangeAt Go.RowKit Go.Shelf
attribute [local go_sem] Oper.semAt_some

def lastS (be : Int) (l : List En) : Int := l.foldl (fun _ e => e.st) be
theorem lastS_snoc (be : Int) (l : List En) (x : En) : lastS be (l ++ [x]) = x.st := by simp [lastS]
def okS (l : List En) : Prop := ∀ e ∈ l, e.m = 3

theorem Save.setCell {n₀ X : Nat} (W : World) (i : Nat) (v : Value) : Save n₀ X W (W.setCell ⟨X, i, none⟩ v) :=
  ⟨rfl, rfl, rfl, by simp [World.setCell], fun b _ hx => heap_set_other _ _ (fun e => hx e.symm)⟩
theorem Save.alloc {n₀ X : Nat} (W : World) (o : Obj) (h : n₀ ≤ W.heap.size) : Save n₀ X W (W.alloc o) := Save.of_below (below_a1 _ _) h
theorem okS_snoc {l : List En} {x : En} (h : okS l) (hx : x.m = 3) : okS (l ++ [x]) := fun e he => by
  simp at he
  rcases he with he | rfl
  · exact h e he
  · exact hx
theorem cells_kept {X Y : World} {B b : Nat} {row : Option Nat} {cs : Array Value} {t : TypeId} {fz : Nat × Nat} (h : X.heap[b]? = some (.cells cs t fz)) (hg : X.grownBy Y row) (hr : ∀ r, row = some r → B ≤ r ∧ ∃ o : Obj, X.heap[r]? = some o ∧ o.isCells = false) : Y.heap[b]? = some (.cells cs t fz) := by
  rw [hg.block b (heap_lt h) (fun e => by
    obtain ⟨_, o, ho, hc⟩ := hr b e.symm
    rw [h] at ho
    cases ho
    cases hc)]
  exact h
theorem below_kept {w X Y : World} {B : Nat} {row : Option Nat} (h : Below w.heap.size w X) (hB : w.heap.size ≤ B) (hg : X.grownBy Y row) (hr : ∀ r, row = some r → B ≤ r ∧ ∃ o : Obj, X.heap[r]? = some o ∧ o.isCells = false) : Below w.heap.size w Y :=
  h.grown hg h.size (fun k e => Nat.le_trans hB (hr k e).1)
theorem store_new {P : Program} (w : World) (t : TypeId) (old cs : Array Value) (hc : cs.size = old.size) (h1 : cs.all (·.oneCell') = true) : (storeCells ⟨w.heap.size, 0, none⟩ cs.toList 0).run P (w.alloc (.cells old t)) = .ok () (w.alloc (.cells cs t)) := by
  rw [store_row (t := t) (old := old) (heap_alloc_new _ _) hc h1, World.setRow_alloc_new]

set_option maxRecDepth 100000 in
set_option maxHeartbeats 2000000 in
theorem complete_walk {w : World} {base : Nat} {p : Value} {c r : Nat} {L : List Ac} {F : List Nat} (hM : MemAt w base p c r L F) (hr0 : 1 ≤ r) (hr : r ≤ 16) (hN : wordOf L ⟨1, 0, 0⟩ ≤ 9223372036854775807) :
    Calls Try.prog 25 #[p] w fun e w' => ∃ q, e = .returned (.int .i64 (lastS (beforeV (wordOf L) r) q)) ∧ okS q ∧ (q = entsV (wordOf L) r ∨ ∃ x, x.m ≠ 3 ∧ q ++ [x] <+: entsV (wordOf L) r) ∧ Below w.heap.size w w' := by
  refine (callsIn_wide (n := 4)).1 ?_
  have HSP : Hid (Calls Try.prog 40 #[p] w fun e w' => e = .returned (.tuple #[.int .i64 (beforeV (wordOf L) r), .int .i64 (lastV (wordOf L))]) ∧ Below w.heap.size w w') := span_any hM hr hN
  have HMM : Hid (∀ w', Below w.heap.size w w' → MemAt w' base p c r L F) := fun w' hb => hM.below hb
  have HFL : Hid (∀ b ∈ F, b < w.heap.size) := fun b hb => (hM.lt b hb).2
  obtain ⟨M, H, S, C, v, hM⟩ := hM
  obtain rfl := hM.p
  clear hM
  refine callsIn_of_wp_marks Try.func25 rfl trivial ?_ rfl
  simp only [Try.ntmps25, List.size_toArray, List.length_cons, List.length_nil, Nat.reduceAdd, Nat.reduceSub, Array.replicate_succ, Array.replicate_zero, List.push_toArray, List.append_toArray, List.nil_append, List.cons_append]
  gi_wp2_with (first | (refine ⟨trivial, ?_⟩; gi_at_call 40; refine (callsIn_wide.2 HSP.out).mono ?_; rintro e w1 ⟨rfl, hb1⟩) | (refine ⟨trivial, ?_⟩; gi_at_call 41; refine (callsIn_wide.2 (each_any _ _)).mono ?_; rintro e wx ⟨rfl, hx⟩; rw [hx]; clear hx wx))
  have HB1 : Hid (Below w.heap.size w w1) := hb1
  clear hb1
  generalize hbe : beforeV (wordOf L) r = be at *
  generalize hes : entsV (wordOf L) r = es at *
  generalize lastV (wordOf L) = la at *
  have bO : Boxed ((w1.alloc (.cells #[.int .i64 be] 2)).alloc (.cells #[.pointer (some ⟨M, 0, none⟩)] 29)) w1.heap.size 2 (.int .i64 be) := (Boxed.new w1 2 (.int .i64 be)).alloc _
  have bN := Boxed.new (w1.alloc (.cells #[.int .i64 be] 2)) 29 (.pointer (some ⟨M, 0, none⟩))
  rw [World.size_alloc] at bN
  have hB0 : Below w.heap.size w ((w1.alloc (.cells #[.int .i64 be] 2)).alloc (.cells #[.pointer (some ⟨M, 0, none⟩)] 29)) := below_alloc (below_alloc HB1.out _) _
  have hsz : ((w1.alloc (.cells #[.int .i64 be] 2)).alloc (.cells #[.pointer (some ⟨M, 0, none⟩)] 29)).heap.size = w1.heap.size + 2 := by simp
  obtain ⟨W0, hW0⟩ : ∃ W0, (w1.alloc (.cells #[.int .i64 be] 2)).alloc (.cells #[.pointer (some ⟨M, 0, none⟩)] 29) = W0 := ⟨_, rfl⟩
  rw [hW0] at bO bN hB0 hsz ⊢
  clear hW0
  have hww := HB1.out.size
  refine wpIn_rangeFunc_ownH rfl (by omega) (gf := 49) (lb := #[.pointer (some ⟨w1.heap.size + 1, 0, none⟩)]) rfl trivial (enters_of Try.func49 (by kernel_rfl) rfl)
    (each_stops (4 - 1) (by omega) (w1.heap.size + 1) (w1.heap.size + 2) w1.heap.size base hr0 hr hN (by omega) (by omega) (fun b hb => by have := HFL.out b hb; omega) W0 (by omega) bN.cell (HMM.out W0 hB0))
    Save.trans (fun W l o o' hl _ _ _ => Save.putObj W l o' (by omega)) (Below.refl _ _) (fun _ => rfl)
    (fun pre W => okS pre ∧ w1.heap.size + 2 ≤ W.heap.size ∧ Boxed W w1.heap.size 2 (.int .i64 (lastS be pre)) ∧ Below w.heap.size w W)
    (fun cd pre W => cd = Code.exit 0 ∧ (∃ q x, pre = q ++ [x] ∧ okS q ∧ x.m ≠ 3 ∧ Boxed W w1.heap.size 2 (.int .i64 (lastS be q))) ∧ Below w.heap.size w W)
    ?hI ?hIx ⟨fun e he => by simp at he, by omega, bO, hB0⟩
    (fun x a' W => ∃ Bx, w1.heap.size + 2 ≤ Bx ∧ W.heap[Bx]? = some (.cells (enC x) 56 (0, 0)) ∧ a' = { tmps := #[.pointer (some ⟨M, 0, none⟩), undef, .int .i64 0, .pointer (some ⟨w1.heap.size, 0, none⟩), .int .i64 la, .pointer (some ⟨Bx, 0, none⟩), .tuple #[.int .i64 be, .int .i64 la], .pointer (some ⟨M, 0, none⟩), .tuple #[.int .i64 be, .int .i64 la], .int .i64 be, .int .i64 la, .pointer (some ⟨M, 0, none⟩), .func (.func 49) #[] #[.pointer (some ⟨w1.heap.size + 1, 0, none⟩)], .agg (enC x), undef, undef, undef, undef, undef, undef], defers := [] })
    ?hAx ?assign ?body ?done ?stop
  case hI =>
    rintro pre A B row ⟨h1, h2, h3, h4⟩ hg hr
    exact ⟨h1, Nat.le_trans h2 hg.size, cells_kept h3 hg hr, below_kept h4 (by omega) hg hr⟩
  case hIx =>
    rintro cd pre A B row ⟨h1, ⟨q, x, h2, h3, h4, h5⟩, h6⟩ hg hr
    exact ⟨h1, ⟨q, x, h2, h3, h4, cells_kept h5 hg hr⟩, below_kept h6 (by omega) hg hr⟩
  case hAx =>
    rintro x a' u A B row ⟨Bx, h1, h2, h3⟩ hg hr
    exact ⟨Bx, h1, cells_kept h2 hg hr, h3⟩
  case assign =>
    rintro l pre x W K ⟨ho, hs, hb, hB⟩ hK
    have hst := store_new (P := Try.prog) W 56 #[.int .i64 0, .int .i64 0, .int .u64 0, .int .u64 0, .int .u64 0, .int .u64 0, .int .u64 0, .int .u64 0, .int .u64 0, .int .u64 0] (enC x) rfl (enC_one x)
    gi_wp2
    exact hK _ _ ((KeepsOthers.alloc _ _).from _) (Save.alloc _ _ hs) ⟨ho, by simp; omega, hb.alloc _, below_alloc hB _⟩ ⟨W.heap.size, hs, heap_alloc_new _ _, rfl⟩
  case body =>
    rintro l pre x a' W hl ⟨rr, hrr⟩ ⟨ho, hs, hb, hB⟩ ⟨Bx, hBx, bX, rfl⟩ hlt
    have hc0 : W.cell? ⟨Bx, 0, none⟩ = some (.int .i64 x.st) := by rw [cell_at bX]; rfl
    have hc1 : W.cell? ⟨Bx, 1, none⟩ = some (.int .i64 x.m) := by rw [cell_at bX]; rfl
    have hcb := hb.cell
    have hfb := hb.frozen
    by_cases h3 : x.m = 3
    · have hm : (x.m == 3) = true := by simpa using h3
      gi_wp2
      exact ⟨(KeepsOthers.setCell _ _ _).from _, Save.setCell _ _ _, okS_snoc ho h3, by simpa [World.setCell] using hs, by rw [lastS_snoc]; exact hb.set _, below_setCell hB _ (by simp; omega) _⟩
    · have hm : (x.m == 3) = false := by simpa using h3
      gi_wp2
      exact ⟨KeepsFrom.refl _ _, rfl, ⟨pre, x, rfl, ho, h3, hb⟩, hB⟩
  case done =>
    rintro D ys W hD hys ⟨ho, hs, hb, hB⟩ hK
    have hcb := hb.cell
    gi_wp2
    refine ⟨by simp, .inl ⟨_, _, rfl, run_takeDeferred hK, ?_⟩⟩
    exact ⟨_, results_tmp rfl _ _ _, ys, by rw [hbe, ← hes, ← hys]; simp [hys, hes], ho, .inl hys, hB.trans (belowK_b (w := w) (Nat.le_refl _) W D _ _ (by omega) hK rfl rfl)⟩
  case stop =>
    rintro D cd pre W hD hpre ⟨rfl, ⟨q, x, hq, ho, hx, hb⟩, hB⟩ hK
    have hcb := hb.cell
    gi_wp2
    refine ⟨by simp, .inl ⟨_, _, rfl, run_takeDeferred hK, ?_⟩⟩
    exact ⟨_, results_tmp rfl _ _ _, q, by rw [hbe]; rfl, ho, .inr ⟨x, hx, by rw [← hq]; exact hpre⟩, hB.trans (belowK_b (w := w) (Nat.le_refl _) W D _ _ (by omega) hK rfl rfl)⟩

/-! ### in one word -/
theorem takeWhile_split {l q : List En} {x : En} (h : q ++ [x] <+: l) (hq : okS q) (hx : x.m ≠ 3) : l.takeWhile (fun e => e.m == 3) = q := by
  obtain ⟨t, rfl⟩ := h
  rw [List.append_assoc, List.takeWhile_append_of_pos (fun e he => by simpa using hq e he)]
  simp [hx]
theorem takeWhile_whole {l : List En} (h : okS l) : l.takeWhile (fun e => e.m == 3) = l := by
  have := List.takeWhile_append_of_pos (p := fun e : En => e.m == 3) (l₁ := l) (l₂ := []) (fun e he => by simpa using h e he)
  simpa using this
/-- The greatest stamp up to which all entries are complete. -/
def cntV (f : Ad → Int) (r : Int) : Nat := ((entsV f r).takeWhile fun e => e.m == 3).length
def completeV (f : Ad → Int) (r : Int) : Int := beforeV f r + cntV f r
theorem lastS_take (f : Ad → Int) (r : Int) (k : Nat) (hk : k ≤ manyV f r) : lastS (beforeV f r) ((entsV f r).take k) = beforeV f r + k := by
  cases k with
  | zero => simp [lastS]
  | succ k =>
    unfold entsV
    rw [take_map_range _ _ _ (by omega), lastS_snoc]
    simp [entryV]
    omega
theorem cntV_le (f : Ad → Int) (r : Int) : cntV f r ≤ manyV f r := by
  unfold cntV
  rw [← entsV_len]
  exact (List.takeWhile_prefix _).length_le
theorem prefix_take {l q : List En} (h : q <+: l) : q = l.take q.length := List.prefix_iff_eq_take.mp h

theorem complete_any {w : World} {base : Nat} {p : Value} {c r : Nat} {L : List Ac} {F : List Nat} (hM : MemAt w base p c r L F) (hr0 : 1 ≤ r) (hr : r ≤ 16) (hN : wordOf L ⟨1, 0, 0⟩ ≤ 9223372036854775807) :
    Calls Try.prog 25 #[p] w fun e w' => e = .returned (.int .i64 (completeV (wordOf L) r)) ∧ Below w.heap.size w w' := by
  refine (complete_walk hM hr0 hr hN).mono ?_
  rintro e w' ⟨q, rfl, ho, hq, hb⟩
  refine ⟨?_, hb⟩
  have hq' : q = (entsV (wordOf L) r).takeWhile fun e => e.m == 3 := by
    rcases hq with rfl | ⟨x, hx, hp⟩
    · exact (takeWhile_whole ho).symm
    · exact (takeWhile_split hp ho hx).symm
  have hl : q.length = cntV (wordOf L) r := by unfold cntV; rw [← hq']
  have hp : q = (entsV (wordOf L) r).take (cntV (wordOf L) r) := by
    rw [← hl]
    exact prefix_take (by rw [hq']; exact List.takeWhile_prefix _)
  rw [hp, lastS_take _ _ _ (cntV_le _ _)]
  rfl
end Go.Proofs.Ytacioekmeildoaa
