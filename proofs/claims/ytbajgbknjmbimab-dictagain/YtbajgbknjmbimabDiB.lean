/- The program's dict (layer 17): what a call wants behind its look. -/
import Derived.Test.YtbajgbknjmbimabDiK
namespace Go.Proofs.Ytbajgbknjmbimab.Di
open Go.ChangeShapes Go.WideShapes Go.ChangeAt Go.RowKit
attribute [local go_sem ↓] Go.wp_at_zero Go.wp_at_succ

def preC (m : Mc) : Array Value := #[.int .i64 m.base, .int .i64 m.most, .int .i64 m.call]
def sufC (m : Mc) : Array Value := #[.int .i64 m.told, .int .i64 m.last.kind, .int .i64 m.last.cell, .int .i64 m.last.val, .int .i64 m.last.code, .int .i64 m.val, .int .i64 m.cnt]
def mcC (m : Mc) : Array Value := #[.int .i64 m.base, .int .i64 m.most, .int .i64 m.call, .int .i64 m.se.key, .int .i64 m.se.most, .int .i64 m.se.left, .int .i64 m.se.slot, .int .i64 m.se.asked, .int .i64 m.se.free, .int .i64 m.se.found, .int .i64 m.told, .int .i64 m.last.kind, .int .i64 m.last.cell, .int .i64 m.last.val, .int .i64 m.last.code, .int .i64 m.val, .int .i64 m.cnt]
/-- What is so of each call under way. -/
structure OkI (m : Mc) : Prop where
  b : 0 ≤ m.base ∧ m.base ≤ 1024
  mm : 0 ≤ m.most ∧ m.most ≤ 16
  s : OkS m.se
  t : 0 ≤ m.told ∧ m.told ≤ 6
/-- A call under way in a block of its own. -/
def McR (w : World) (X : Nat) (F : List Nat) (m : Mc) : Prop := F = [X] ∧ w.heap[X]? = some (.cells (mcC m) 53 (0, 0)) ∧ OkI m
theorem McR.keep {w w' : World} {X : Nat} {F G : List Nat} {m : Mc} (h : McR w X F m) (k : Keep G w w') (hx : ∀ b ∈ F, b ∉ G) : McR w' X F m := ⟨h.1, by rw [k.block _ (heap_lt h.2.1) (hx X (by rw [h.1]; simp))]; exact h.2.1, h.2.2⟩
theorem McR.later {w w' : World} {X : Nat} {F : List Nat} {m : Mc} (h : McR w X F m) (k : Below w.heap.size w w') : McR w' X F m := h.keep (Keep.of_below k []) (by simp)
theorem McR.lt {w : World} {X : Nat} {F : List Nat} {m : Mc} (h : McR w X F m) : ∀ b ∈ F, b < w.heap.size := fun b hb => by
  rw [h.1] at hb
  simp at hb
  rw [hb]
  exact heap_lt h.2.1
/-- The cells that the calls look at. -/
structure McC (w : World) (X : Nat) (m : Mc) : Prop where
  c0 : w.cell? ⟨X, 0, none⟩ = some (.int .i64 m.base)
  c1 : w.cell? ⟨X, 1, none⟩ = some (.int .i64 m.most)
  c2 : w.cell? ⟨X, 2, none⟩ = some (.int .i64 m.call)
  c3 : w.cell? ⟨X, 3, none⟩ = some (.int .i64 m.se.key)
  c8 : w.cell? ⟨X, 8, none⟩ = some (.int .i64 m.se.free)
  c9 : w.cell? ⟨X, 9, none⟩ = some (.int .i64 m.se.found)
  c10 : w.cell? ⟨X, 10, none⟩ = some (.int .i64 m.told)
  c15 : w.cell? ⟨X, 15, none⟩ = some (.int .i64 m.val)
  c16 : w.cell? ⟨X, 16, none⟩ = some (.int .i64 m.cnt)
theorem McR.cells {w : World} {X : Nat} {F : List Nat} {m : Mc} (h : McR w X F m) : McC w X m :=
  ⟨by rw [cell_at h.2.1]; rfl, by rw [cell_at h.2.1]; rfl, by rw [cell_at h.2.1]; rfl, by rw [cell_at h.2.1]; rfl, by rw [cell_at h.2.1]; rfl, by rw [cell_at h.2.1]; rfl, by rw [cell_at h.2.1]; rfl, by rw [cell_at h.2.1]; rfl, by rw [cell_at h.2.1]; rfl⟩
theorem McR.last {w : World} {X : Nat} {F : List Nat} {m : Mc} (h : McR w X F m) : w.cell? ⟨X, 11, none⟩ = some (.int .i64 m.last.kind) ∧ w.cell? ⟨X, 12, none⟩ = some (.int .i64 m.last.cell) ∧ w.cell? ⟨X, 13, none⟩ = some (.int .i64 m.last.val) ∧ w.cell? ⟨X, 14, none⟩ = some (.int .i64 m.last.code) :=
  ⟨by rw [cell_at h.2.1]; rfl, by rw [cell_at h.2.1]; rfl, by rw [cell_at h.2.1]; rfl, by rw [cell_at h.2.1]; rfl⟩
theorem read_any {w : World} {X : Nat} {F : List Nat} {m : Mc} (h : McR w X F m) (c : Int) (hc : -100 ≤ c ∧ c ≤ 100) : Calls Try.prog 29 #[.pointer (some ⟨X, 0, none⟩), .int .i64 c] w fun e w' => e = .returned (.agg (wnC (readW (m.base + c)))) ∧ Below w.heap.size w w' := by
  have c0 := h.cells.c0
  have hx : X < w.heap.size := heap_lt h.2.1
  have hb := h.2.2.b
  have hw : wrap64 (m.base + c) = m.base + c := by unfold wrap64; omega
  generalize m.base = b at *
  clear h hb hc
  go_enter Try.func29, Try.ntmps29
  go_wp2_with fail
  exact ret_wn rfl rfl (heap_alloc_new _ _) rfl rfl ⟨rfl, below_a1 _ _⟩
theorem write_any {w : World} {X : Nat} {F : List Nat} {m : Mc} (h : McR w X F m) (c v : Int) (hc : -100 ≤ c ∧ c ≤ 100) : Calls Try.prog 44 #[.pointer (some ⟨X, 0, none⟩), .int .i64 c, .int .i64 v] w fun e w' => e = .returned (.agg (wnC (putW (m.base + c) v))) ∧ Below w.heap.size w w' := by
  have c0 := h.cells.c0
  have hx : X < w.heap.size := heap_lt h.2.1
  have hb := h.2.2.b
  have hw : wrap64 (m.base + c) = m.base + c := by unfold wrap64; omega
  generalize m.base = b at *
  clear h hb hc
  go_enter Try.func44, Try.ntmps44
  go_wp2_with fail
  exact ret_wn rfl rfl (heap_alloc_new _ _) rfl rfl ⟨rfl, below_a1 _ _⟩
abbrev z4 : Array Value := #[.int .i64 0, .int .i64 0, .int .i64 0, .int .i64 0]
/-- A want is handed back. -/
def Tells (w : World) (x : Wn) (e : Ending) (w' : World) : Prop := ∃ cs, Hid (wnC x = cs) ∧ cs.size = 4 ∧ e = .returned (.agg cs) ∧ Below w.heap.size w w'
theorem tells_of {w : World} {x : Wn} (e : Ending) (w' : World) (h : e = .returned (.agg (wnC x)) ∧ Below w.heap.size w w') : Tells w x e w' := ⟨wnC x, rfl, rfl, h.1, h.2⟩
theorem of_tells {w : World} {x : Wn} (e : Ending) (w' : World) (h : Tells w x e w') : e = .returned (.agg (wnC x)) ∧ Below w.heap.size w w' := by
  obtain ⟨cs, h1, _, h3, h4⟩ := h
  exact ⟨by rw [h1.out]; exact h3, h4⟩
theorem bl_drew1 (w : World) : Below w.heap.size w w.drew := below_drawn (Below.refl _ _) 1
/-- A want is handed back, and the machine goes on. -/
def TellsM (w : World) (X : Nat) (F : List Nat) (m : Mc) (x : Wn) (e : Ending) (w' : World) : Prop := ∃ cs, Hid (wnC x = cs) ∧ cs.size = 4 ∧ e = .returned (.agg cs) ∧ McR w' X F m ∧ Next F F w w'
theorem Tells.m {w : World} {X : Nat} {F : List Nat} {m : Mc} {x : Wn} (h : McR w X F m) (e : Ending) (w' : World) (ht : Tells w x e w') : TellsM w X F m x e w' := by
  obtain ⟨cs, h1, h2, h3, h4⟩ := ht
  exact ⟨cs, h1, h2, h3, h.later h4, Next.of_below h4 F⟩
/-- A machine under way, and the answer's variable. -/
structure Mi (w w2 : World) (X : Nat) (F : List Nat) (m : Mc) : Prop where
  mac : McR w2 X F m
  row : w2.heap[w.heap.size]? = some (.cells z4 24 (0, 0))
  nx : Next F F w w2
  lt : X < w.heap.size
theorem Mi.first {w : World} {X : Nat} {F : List Nat} {m : Mc} (h : McR w X F m) : Mi w (w.alloc (.cells z4 24)) X F m := ⟨h.later (below_a1 _ _), heap_alloc_new _ _, Next.of_below (below_a1 _ _) F, heap_lt h.2.1⟩
theorem Mi.on {w w2 w3 : World} {X : Nat} {F : List Nat} {m : Mc} (h : Mi w w2 X F m) (hb : Below w2.heap.size w2 w3) : Mi w w3 X F m := ⟨h.mac.later hb, by rw [hb.block _ (heap_lt h.row)]; exact h.row, h.nx.trans (Next.of_below hb F), h.lt⟩
theorem Mi.go {w w2 w3 : World} {X : Nat} {F : List Nat} {m m' : Mc} (h : Mi w w2 X F m) (hm : McR w3 X F m') (hn : Next F F w2 w3) : Mi w w3 X F m' := ⟨hm, by rw [hn.1.block _ (heap_lt h.row) (by rw [h.mac.1]; have := h.lt; simp; omega)]; exact h.row, h.nx.trans hn, h.lt⟩
theorem Mi.drawn {w w2 : World} {X : Nat} {F : List Nat} {m : Mc} (h : Mi w w2 X F m) (n : Nat) : Mi w (w2.drewN n) X F m := h.on (below_drawn (Below.refl _ _) _)
theorem Mi.put {w w4 : World} {X : Nat} {F : List Nat} {m : Mc} (h : Mi w w4 X F m) {x : Wn} {cs : Array Value} (hcs : Hid (wnC x = cs)) : ∃ w5, (storeCells ⟨w.heap.size, 0, none⟩ cs.toList 0).run Try.prog w4 = .ok () w5 ∧ McR w5 X F m ∧ Hid (w5.heap[w.heap.size]? = some (.cells cs 24 (0, 0)) ∧ McR w5 X F m ∧ Next F F w w5) := by
  have hX := h.lt
  rw [← hcs.out]
  have hm5 : McR (w4.setRow w.heap.size (wnC x)) X F m := ⟨h.mac.1, by rw [setRow_other _ _ _ _ (by omega)]; exact h.mac.2.1, h.mac.2.2⟩
  refine ⟨w4.setRow w.heap.size (wnC x), store_wn h.row rfl rfl (wnC_one x), hm5, setRow_heap _ _ _ _ _ _ h.row, hm5, ?_, fun b hb => Or.inl hb⟩
  have hk := h.nx.1
  exact ⟨hk.os, hk.tape, hk.output, by rw [setRow_size]; exact hk.size, fun b hb hn => by rw [setRow_other _ _ _ _ (by omega)]; exact hk.block b hb hn⟩
/-- One of the machine's cells becomes another. -/
theorem Mi.set {w w2 : World} {X : Nat} {F : List Nat} {m m' : Mc} (h : Mi w w2 X F m) (j : Nat) (v : Int) (hc : (mcC m).setIfInBounds j (.int .i64 v) = mcC m') (ho : OkI m') : Mi w (w2.setCell ⟨X, j, none⟩ (.int .i64 v)) X F m' := by
  refine h.go ⟨h.mac.1, by rw [heap_set h.mac.2.1, hc], ho⟩ ⟨(Keep.refl _ _).setCell _ _ (Or.inl (by rw [h.mac.1]; simp)), fun b hb => Or.inl hb⟩
theorem Mi.fresh {w : World} {X : Nat} {F : List Nat} {m m' : Mc} (h : McR w X F m) (j : Nat) (v : Int) (hc : (mcC m).setIfInBounds j (.int .i64 v) = mcC m') (ho : OkI m') : Mi w ((w.setCell ⟨X, j, none⟩ (.int .i64 v)).alloc (.cells z4 24)) X F m' := by
  have hs : (w.setCell ⟨X, j, none⟩ (.int .i64 v)).heap.size = w.heap.size := by simp
  have h1 : McR (w.setCell ⟨X, j, none⟩ (.int .i64 v)) X F m' := ⟨h.1, by rw [heap_set h.2.1, hc], ho⟩
  refine ⟨h1.later (below_a1 _ _), by rw [← hs]; exact heap_alloc_new _ _, ?_, heap_lt h.2.1⟩
  have h2 : Next F F w (w.setCell ⟨X, j, none⟩ (.int .i64 v)) := ⟨(Keep.refl _ _).setCell _ _ (Or.inl (by rw [h.1]; simp)), fun b hb => Or.inl hb⟩
  exact h2.trans (Next.of_below (below_a1 _ _) F)
theorem ret_tells {fn : Func} {p : Tmp} {a : Act} {w w5 : World} {X : Nat} {F : List Nat} {m : Mc} {x : Wn} {cs : Array Value} (h : fn.results = #[.cell p 24]) (hp : a.tmps.getD p undef = .pointer (some ⟨w.heap.size, 0, none⟩)) (hz : cs.size = 4) (hd : a.defers = []) (hcs : Hid (wnC x = cs))
    (hr : Hid (w5.heap[w.heap.size]? = some (.cells cs 24 (0, 0)) ∧ McR w5 X F m ∧ Next F F w w5)) : bodyPost Try.prog fn (TellsM w X F m x) .ret a w5 := ret_wn h hp hr.out.1 hz hd ⟨cs, hcs, hz, rfl, hr.out.2⟩
/-- The functions that each of them calls. -/
structure Fs (X : Nat) (F : List Nat) : Prop where
  rd : ∀ (w : World) (m : Mc) (c : Int), McR w X F m → -100 ≤ c ∧ c ≤ 100 → Calls Try.prog 29 #[.pointer (some ⟨X, 0, none⟩), .int .i64 c] w (Tells w (readW (m.base + c)))
  wr : ∀ (w : World) (m : Mc) (c v : Int), McR w X F m → -100 ≤ c ∧ c ≤ 100 → Calls Try.prog 44 #[.pointer (some ⟨X, 0, none⟩), .int .i64 c, .int .i64 v] w (Tells w (putW (m.base + c) v))
  dn : ∀ (w : World) (z : Int), Calls Try.prog 42 #[.int .i64 z] w (Tells w (endW z 0))
  rf : ∀ (w : World) (c : Int), c ≠ 0 → Calls Try.prog 41 #[.int .i64 c] w (Tells w (endW 0 c))
  cl : ∀ (w : World) (s p : Int), -1 ≤ s ∧ s ≤ 15 → 0 ≤ p ∧ p ≤ 2 → Calls Try.prog 20 #[.int .i64 s, .int .i64 p] w fun e w' => e = .returned (.int .i64 (clV s p)) ∧ Below w.heap.size w w'
theorem fs (X : Nat) (F : List Nat) : Fs X F := ⟨fun w m c h hc => (read_any h c hc).mono tells_of, fun w m c v h hc => (write_any h c v hc).mono tells_of, fun w z => (done_any w z).mono tells_of, fun w c hc => (ref_any w c hc).mono tells_of, fun w s p hs hp => (cellof_any w s p ⟨hs.1, by omega⟩ hp).mono fun e w' h => ⟨h.1, by rw [h.2]; exact Below.refl _ _⟩⟩
theorem cl_100 {s p : Int} (hs : -1 ≤ s ∧ s ≤ 15) (hp : 0 ≤ p ∧ p ≤ 2) : -100 ≤ clV s p ∧ clV s p ≤ 100 := by unfold clV; omega
theorem flen_any {w : World} {X : Nat} {F : List Nat} {m : Mc} (h : McR w X F m) (v : Int) : Calls Try.prog 33 #[.pointer (some ⟨X, 0, none⟩), .int .i64 v] w (TellsM w X F m (lenT m v)) := by
  have HF : Hid (Fs X F) := fs X F
  have HM : Hid (Mi w (w.alloc (.cells z4 24)) X F m) := Mi.first h
  obtain ⟨c0, c1, c2, c3, c8, c9, c10, c15, c16⟩ := h.cells
  have hx : X < w.heap.size := heap_lt h.2.1
  clear h
  by_cases h1 : m.told = 1
  · have HY : Hid (lenT m v = readW (m.base + 0)) := by unfold lenT; rw [if_pos h1]; exact rfl
    rw [h1] at c10
    clear h1
    go_enter Try.func33, Try.ntmps33
    go_wp2_with fail
    refine (HF.out.rd _ m _ HM.out.mac (by decide)).mono ?_
    rintro e w4 ⟨cs, hcs, hz, rfl, hb4⟩
    obtain ⟨w5, hs5, hm5, hr5⟩ := (HM.out.on hb4).put hcs
    clear hb4 hm5
    go_wp2_with fail
    exact ret_tells rfl rfl hz rfl (by rw [Hid, HY.out]; exact hcs) hr5
  · have f1 : (m.told == 1) = false := by simpa using h1
    have HY : Hid (lenT m v = endW v 0) := by unfold lenT; rw [if_neg h1]; exact rfl
    clear h1
    go_enter Try.func33, Try.ntmps33
    go_wp2_with fail
    refine (HF.out.dn _ _).mono ?_
    rintro e w4 ⟨cs, hcs, hz, rfl, hb4⟩
    obtain ⟨w5, hs5, hm5, hr5⟩ := (HM.out.on hb4).put hcs
    clear hb4 hm5
    go_wp2_with fail
    exact ret_tells rfl rfl hz rfl (by rw [Hid, HY.out]; exact hcs) hr5
theorem fget_any {w : World} {X : Nat} {F : List Nat} {m : Mc} (h : McR w X F m) (v : Int) : Calls Try.prog 30 #[.pointer (some ⟨X, 0, none⟩), .int .i64 v] w (TellsM w X F m (getT m v)) := by
  have HF : Hid (Fs X F) := fs X F
  have HM : Hid (Mi w (w.alloc (.cells z4 24)) X F m) := Mi.first h
  obtain ⟨c0, c1, c2, c3, c8, c9, c10, c15, c16⟩ := h.cells
  have hx : X < w.heap.size := heap_lt h.2.1
  have hd := h.2.2.s.d
  clear h
  by_cases h0 : m.se.found = -1
  · have HY : Hid (getT m v = endW 0 1) := by unfold getT; rw [if_pos h0]; exact rfl
    rw [h0] at c9
    clear h0 hd
    go_enter Try.func30, Try.ntmps30
    go_wp2_with fail
    refine (HF.out.rf _ _ (by decide)).mono ?_
    rintro e w4 ⟨cs, hcs, hz, rfl, hb4⟩
    obtain ⟨w5, hs5, hm5, hr5⟩ := (HM.out.on hb4).put hcs
    clear hb4 hm5
    go_wp2_with fail
    exact ret_tells rfl rfl hz rfl (by rw [Hid, HY.out]; exact hcs) hr5
  · have f0 : (m.se.found == -1) = false := by simpa using h0
    have HD : Hid (-1 ≤ m.se.found ∧ m.se.found ≤ 15) := hd
    by_cases h1 : m.told = 1
    · have HY : Hid (getT m v = readW (m.base + clV m.se.found 2)) := by unfold getT; rw [if_neg h0, if_pos h1]; exact rfl
      rw [h1] at c10
      clear h1 h0 hd
      go_enter Try.func30, Try.ntmps30
      go_wp2_with fail
      refine (HF.out.cl _ _ _ HD.out (by decide)).mono ?_
      rintro e w3 ⟨rfl, hb3⟩
      have HM3 : Hid (Mi w w3 X F m) := HM.out.on hb3
      clear hb3 HM
      go_wp2_with fail
      refine (HF.out.rd _ m _ HM3.out.mac (cl_100 HD.out (by decide))).mono ?_
      rintro e w4 ⟨cs, hcs, hz, rfl, hb4⟩
      obtain ⟨w5, hs5, hm5, hr5⟩ := (HM3.out.on hb4).put hcs
      clear hb4 hm5
      go_wp2_with fail
      exact ret_tells rfl rfl hz rfl (by rw [Hid, HY.out]; exact hcs) hr5
    · have f1 : (m.told == 1) = false := by simpa using h1
      have HY : Hid (getT m v = endW v 0) := by unfold getT; rw [if_neg h0, if_neg h1]; exact rfl
      clear h1 h0 hd
      go_enter Try.func30, Try.ntmps30
      go_wp2_with fail
      refine (HF.out.dn _ _).mono ?_
      rintro e w4 ⟨cs, hcs, hz, rfl, hb4⟩
      obtain ⟨w5, hs5, hm5, hr5⟩ := (HM.out.on hb4).put hcs
      clear hb4 hm5
      go_wp2_with fail
      exact ret_tells rfl rfl hz rfl (by rw [Hid, HY.out]; exact hcs) hr5
theorem fchg_any {w : World} {X : Nat} {F : List Nat} {m : Mc} (h : McR w X F m) : Calls Try.prog 43 #[.pointer (some ⟨X, 0, none⟩)] w (TellsM w X F m (chgT m)) := by
  have HF : Hid (Fs X F) := fs X F
  have HM : Hid (Mi w (w.alloc (.cells z4 24)) X F m) := Mi.first h
  obtain ⟨c0, c1, c2, c3, c8, c9, c10, c15, c16⟩ := h.cells
  have hx : X < w.heap.size := heap_lt h.2.1
  have HD : Hid (-1 ≤ m.se.found ∧ m.se.found ≤ 15) := h.2.2.s.d
  clear h
  by_cases h1 : m.told = 1
  · have HY : Hid (chgT m = putW (m.base + clV m.se.found 2) m.val) := by unfold chgT; rw [if_pos h1]; exact rfl
    rw [h1] at c10
    clear h1
    go_enter Try.func43, Try.ntmps43
    go_wp2_with fail
    obtain ⟨w2, hw2⟩ : ∃ w2, w2 = w.alloc (.cells z4 24) := ⟨_, rfl⟩
    have HM2 : Hid (Mi w w2 X F m) := by rw [hw2]; exact HM
    rw [← hw2]
    clear hw2 c0 c1 c2 c3 c8 c9 c10 c15 c16 HM
    have hx2 : X < w2.heap.size := heap_lt HM2.out.mac.2.1
    have e9 : w2.cell? ⟨X, 9, none⟩ = some (.int .i64 m.se.found) := HM2.out.mac.cells.c9
    have e15 : w2.cell? ⟨X, 15, none⟩ = some (.int .i64 m.val) := HM2.out.mac.cells.c15
    go_region_held3 (fun w' => w'.cell? ⟨X, 9, none⟩ = some (.int .i64 m.se.found) ∧ w'.cell? ⟨X, 15, none⟩ = some (.int .i64 m.val)) (first | go_keep | exact hS | exact hS5) (first
      | (go_at_call 20; refine (HF.out.cl _ _ _ HD.out (by decide)).mono ?_; rintro e w3 ⟨rfl, hb3⟩; have hM3 : Mi w w3 X F m := HM2.out.on (below_then (bl_drew1 _) hb3); have hS : w3.cell? ⟨X, 9, none⟩ = some (.int .i64 m.se.found) ∧ w3.cell? ⟨X, 15, none⟩ = some (.int .i64 m.val) := ⟨hM3.mac.cells.c9, hM3.mac.cells.c15⟩)
      | (go_at_call 44; refine (HF.out.wr _ m _ _ hM3.mac (cl_100 HD.out (by decide))).mono ?_; rintro e w4 ⟨cs, hcs, hz, rfl, hb4⟩; have hS : w4.cell? ⟨X, 9, none⟩ = some (.int .i64 m.se.found) ∧ w4.cell? ⟨X, 15, none⟩ = some (.int .i64 m.val) := ⟨(hM3.on hb4).mac.cells.c9, (hM3.on hb4).mac.cells.c15⟩; obtain ⟨w5, hs5, hm5, hr5⟩ := (hM3.on hb4).put hcs; have hS5 : w5.cell? ⟨X, 9, none⟩ = some (.int .i64 m.se.found) ∧ w5.cell? ⟨X, 15, none⟩ = some (.int .i64 m.val) := ⟨hm5.cells.c9, hm5.cells.c15⟩))
    go_wp2_with fail
    exact ret_tells rfl rfl hz rfl (by rw [Hid, HY.out]; exact hcs) hr5
  · have f1 : (m.told == 1) = false := by simpa using h1
    have HY : Hid (chgT m = endW 0 0) := by unfold chgT; rw [if_neg h1]; exact rfl
    clear h1
    go_enter Try.func43, Try.ntmps43
    go_wp2_with fail
    refine (HF.out.dn _ _).mono ?_
    rintro e w4 ⟨cs, hcs, hz, rfl, hb4⟩
    obtain ⟨w5, hs5, hm5, hr5⟩ := (HM.out.on hb4).put hcs
    clear hb4 hm5
    go_wp2_with fail
    exact ret_tells rfl rfl hz rfl (by rw [Hid, HY.out]; exact hcs) hr5
theorem fdel_any {w : World} {X : Nat} {F : List Nat} {m : Mc} (h : McR w X F m) (v : Int) : Calls Try.prog 32 #[.pointer (some ⟨X, 0, none⟩), .int .i64 v] w (TellsM w X F m (delT m v)) := by
  have HF : Hid (Fs X F) := fs X F
  have HM : Hid (Mi w (w.alloc (.cells z4 24)) X F m) := Mi.first h
  obtain ⟨c0, c1, c2, c3, c8, c9, c10, c15, c16⟩ := h.cells
  have hx : X < w.heap.size := heap_lt h.2.1
  have hd := h.2.2.s.d
  clear h
  by_cases h0 : m.se.found = -1
  · have HY : Hid (delT m v = endW 0 1) := by unfold delT; rw [if_pos h0]; exact rfl
    rw [h0] at c9
    clear h0 hd
    go_enter Try.func32, Try.ntmps32
    go_wp2_with fail
    refine (HF.out.rf _ _ (by decide)).mono ?_
    rintro e w4 ⟨cs, hcs, hz, rfl, hb4⟩
    obtain ⟨w5, hs5, hm5, hr5⟩ := (HM.out.on hb4).put hcs
    clear hb4 hm5
    go_wp2_with fail
    exact ret_tells rfl rfl hz rfl (by rw [Hid, HY.out]; exact hcs) hr5
  · have f0 : (m.se.found == -1) = false := by simpa using h0
    have HD : Hid (-1 ≤ m.se.found ∧ m.se.found ≤ 15) := hd
    by_cases h1 : m.told = 1
    · have HY : Hid (delT m v = putW (m.base + clV m.se.found 0) 2) := by unfold delT; rw [if_neg h0, if_pos h1]; exact rfl
      rw [h1] at c10
      clear h1 h0 hd
      go_enter Try.func32, Try.ntmps32
      go_wp2_with fail
      refine (HF.out.cl _ _ _ HD.out (by decide)).mono ?_
      rintro e w3 ⟨rfl, hb3⟩
      have HM3 : Hid (Mi w w3 X F m) := HM.out.on hb3
      clear hb3 HM
      go_wp2_with fail
      refine (HF.out.wr _ m _ _ HM3.out.mac (cl_100 HD.out (by decide))).mono ?_
      rintro e w4 ⟨cs, hcs, hz, rfl, hb4⟩
      obtain ⟨w5, hs5, hm5, hr5⟩ := (HM3.out.on hb4).put hcs
      clear hb4 hm5
      go_wp2_with fail
      exact ret_tells rfl rfl hz rfl (by rw [Hid, HY.out]; exact hcs) hr5
    · have f1 : (m.told == 1) = false := by simpa using h1
      by_cases h2 : m.told = 2
      · have HY : Hid (delT m v = readW (m.base + 0)) := by unfold delT; rw [if_neg h0, if_neg h1, if_pos h2]; exact rfl
        rw [h2] at c10
        clear h1 h2 h0 hd f1
        go_enter Try.func32, Try.ntmps32
        go_wp2_with fail
        refine (HF.out.rd _ m _ HM.out.mac (by decide)).mono ?_
        rintro e w4 ⟨cs, hcs, hz, rfl, hb4⟩
        obtain ⟨w5, hs5, hm5, hr5⟩ := (HM.out.on hb4).put hcs
        clear hb4 hm5
        go_wp2_with fail
        exact ret_tells rfl rfl hz rfl (by rw [Hid, HY.out]; exact hcs) hr5
      · have f2 : (m.told == 2) = false := by simpa using h2
        by_cases h3 : m.told = 3
        · have HY : Hid (delT m v = putW (m.base + 0) (wrap64 (v - 1))) := by unfold delT; rw [if_neg h0, if_neg h1, if_neg h2, if_pos h3]; exact rfl
          rw [h3] at c10
          clear h1 h2 h3 h0 hd f1 f2
          go_enter Try.func32, Try.ntmps32
          go_wp2_with fail
          refine (HF.out.wr _ m _ _ HM.out.mac (by decide)).mono ?_
          rintro e w4 ⟨cs, hcs, hz, rfl, hb4⟩
          obtain ⟨w5, hs5, hm5, hr5⟩ := (HM.out.on hb4).put hcs
          clear hb4 hm5
          go_wp2_with fail
          exact ret_tells rfl rfl hz rfl (by rw [Hid, HY.out]; exact hcs) hr5
        · have f3 : (m.told == 3) = false := by simpa using h3
          have HY : Hid (delT m v = endW 0 0) := by unfold delT; rw [if_neg h0, if_neg h1, if_neg h2, if_neg h3]; exact rfl
          clear h1 h2 h3 h0 hd
          go_enter Try.func32, Try.ntmps32
          go_wp2_with fail
          refine (HF.out.dn _ _).mono ?_
          rintro e w4 ⟨cs, hcs, hz, rfl, hb4⟩
          obtain ⟨w5, hs5, hm5, hr5⟩ := (HM.out.on hb4).put hcs
          clear hb4 hm5
          go_wp2_with fail
          exact ret_tells rfl rfl hz rfl (by rw [Hid, HY.out]; exact hcs) hr5
theorem fput_any {w : World} {X : Nat} {F : List Nat} {m : Mc} (h : McR w X F m) (v : Int) : Calls Try.prog 31 #[.pointer (some ⟨X, 0, none⟩), .int .i64 v] w (TellsM w X F (putS m v).1 (putS m v).2) := by
  have HF : Hid (Fs X F) := fs X F
  have HM : Hid (Mi w (w.alloc (.cells z4 24)) X F m) := Mi.first h
  obtain ⟨c0, c1, c2, c3, c8, c9, c10, c15, c16⟩ := h.cells
  have hx : X < w.heap.size := heap_lt h.2.1
  have hf := h.2.2.s.f
  have hok := h.2.2
  have HCH : Hid (∀ w : World, McR w X F m → Calls Try.prog 43 #[.pointer (some ⟨X, 0, none⟩)] w (TellsM w X F m (chgT m))) := fun w h => fchg_any h
  obtain ⟨r, hr⟩ : ∃ r, putS m v = r := ⟨_, rfl⟩
  rw [hr]
  unfold putS at hr
  by_cases h0 : m.se.found = -1
  · rw [if_pos h0] at hr
    rw [h0] at c9
    by_cases h1 : m.told = 1
    · rw [if_pos h1] at hr
      subst hr
      rw [h1] at c10
      clear h h0 h1 hf hok HCH
      go_enter Try.func31, Try.ntmps31
      go_wp2_with fail
      refine (HF.out.rd _ m _ HM.out.mac (by decide)).mono ?_
      rintro e w4 ⟨cs, hcs, hz, rfl, hb4⟩
      obtain ⟨w5, hs5, hm5, hr5⟩ := (HM.out.on hb4).put hcs
      clear hb4 hm5
      go_wp2_with fail
      exact ret_tells rfl rfl hz rfl hcs hr5
    · rw [if_neg h1] at hr
      have f1 : (m.told == 1) = false := by simpa using h1
      by_cases h2 : m.told = 2
      · rw [if_pos h2] at hr
        rw [h2] at c10
        by_cases hv : m.most ≤ v
        · rw [if_pos (Or.inl hv)] at hr
          subst hr
          have d1 : decide (m.most ≤ v) = true := by simpa using hv
          clear h h0 h1 h2 hf hok HCH hv f1
          go_enter Try.func31, Try.ntmps31
          go_wp2_with fail
          refine (HF.out.rf _ _ (by decide)).mono ?_
          rintro e w4 ⟨cs, hcs, hz, rfl, hb4⟩
          obtain ⟨w5, hs5, hm5, hr5⟩ := (HM.out.on hb4).put hcs
          clear hb4 hm5
          go_wp2_with fail
          exact ret_tells rfl rfl hz rfl hcs hr5
        · have d1 : decide (m.most ≤ v) = false := by simpa using hv
          by_cases hfr : m.se.free = -1
          · rw [if_pos (Or.inr hfr)] at hr
            subst hr
            rw [hfr] at c8
            clear h h0 h1 h2 hf hok HCH hv f1 hfr
            go_enter Try.func31, Try.ntmps31
            go_wp2_with fail
            refine (HF.out.rf _ _ (by decide)).mono ?_
            rintro e w4 ⟨cs, hcs, hz, rfl, hb4⟩
            obtain ⟨w5, hs5, hm5, hr5⟩ := (HM.out.on hb4).put hcs
            clear hb4 hm5
            go_wp2_with fail
            exact ret_tells rfl rfl hz rfl hcs hr5
          · rw [if_neg (fun e => e.elim hv hfr)] at hr
            subst hr
            have g8 : (m.se.free == -1) = false := by simpa using hfr
            have HD : Hid (-1 ≤ m.se.free ∧ m.se.free ≤ 15) := hf
            have fz : w.frozen? ⟨X, 16, none⟩ = false := frozen_at h.2.1 16
            have HM1 : Hid (Mi w ((w.setCell ⟨X, 16, none⟩ (.int .i64 v)).alloc (.cells z4 24)) X F { m with cnt := v }) := Mi.fresh h 16 v rfl ⟨hok.b, hok.mm, hok.s, hok.t⟩
            clear h h0 h1 h2 hf hok HCH hv f1 hfr
            go_enter Try.func31, Try.ntmps31
            go_wp2_with fail
            refine (HF.out.cl _ _ _ HD.out (by decide)).mono ?_
            rintro e w3 ⟨rfl, hb3⟩
            have HM3 : Hid (Mi w w3 X F { m with cnt := v }) := HM1.out.on hb3
            clear hb3 HM HM1
            go_wp2_with fail
            refine (HF.out.wr _ { m with cnt := v } _ _ HM3.out.mac (cl_100 HD.out (by decide))).mono ?_
            rintro e w4 ⟨cs, hcs, hz, rfl, hb4⟩
            obtain ⟨w5, hs5, hm5, hr5⟩ := (HM3.out.on hb4).put hcs
            clear hb4 hm5
            go_wp2_with fail
            exact ret_tells rfl rfl hz rfl hcs hr5
      · have f2 : (m.told == 2) = false := by simpa using h2
        rw [if_neg h2] at hr
        by_cases h3 : m.told = 3
        · rw [if_pos h3] at hr
          rw [h3] at c10
          subst hr
          have HD : Hid (-1 ≤ m.se.free ∧ m.se.free ≤ 15) := hf
          clear h h0 h1 h2 h3 hf hok HCH f1 f2
          go_enter Try.func31, Try.ntmps31
          go_wp2_with fail
          obtain ⟨w2, hw2⟩ : ∃ w2, w2 = w.alloc (.cells z4 24) := ⟨_, rfl⟩
          have HM2 : Hid (Mi w w2 X F m) := by rw [hw2]; exact HM
          rw [← hw2]
          clear hw2 c0 c1 c2 c3 c8 c9 c10 c15 c16 HM
          have hx2 : X < w2.heap.size := heap_lt HM2.out.mac.2.1
          have e3 : w2.cell? ⟨X, 3, none⟩ = some (.int .i64 m.se.key) := HM2.out.mac.cells.c3
          go_region_held3 (fun w' => w'.cell? ⟨X, 3, none⟩ = some (.int .i64 m.se.key)) (first | go_keep | exact hS | exact hS5) (first
            | (go_at_call 20; refine (HF.out.cl _ _ _ HD.out (by decide)).mono ?_; rintro e w3 ⟨rfl, hb3⟩; have hM3 : Mi w w3 X F m := HM2.out.on (below_then (bl_drew1 _) hb3); have hS : w3.cell? ⟨X, 3, none⟩ = some (.int .i64 m.se.key) := hM3.mac.cells.c3)
            | (go_at_call 44; refine (HF.out.wr _ m _ _ hM3.mac (cl_100 HD.out (by decide))).mono ?_; rintro e w4 ⟨cs, hcs, hz, rfl, hb4⟩; have hS : w4.cell? ⟨X, 3, none⟩ = some (.int .i64 m.se.key) := (hM3.on hb4).mac.cells.c3; obtain ⟨w5, hs5, hm5, hr5⟩ := (hM3.on hb4).put hcs; have hS5 : w5.cell? ⟨X, 3, none⟩ = some (.int .i64 m.se.key) := hm5.cells.c3))
          go_wp2_with fail
          exact ret_tells rfl rfl hz rfl hcs hr5
        · rw [if_neg h3] at hr
          have f3 : (m.told == 3) = false := by simpa using h3
          by_cases h4 : m.told = 4
          · rw [if_pos h4] at hr
            rw [h4] at c10
            subst hr
            have HD : Hid (-1 ≤ m.se.free ∧ m.se.free ≤ 15) := hf
            clear h h0 h1 h2 h3 h4 hf hok HCH f1 f2 f3
            go_enter Try.func31, Try.ntmps31
            go_wp2_with fail
            obtain ⟨w2, hw2⟩ : ∃ w2, w2 = w.alloc (.cells z4 24) := ⟨_, rfl⟩
            have HM2 : Hid (Mi w w2 X F m) := by rw [hw2]; exact HM
            rw [← hw2]
            clear hw2 c0 c1 c2 c3 c8 c9 c10 c15 c16 HM
            have hx2 : X < w2.heap.size := heap_lt HM2.out.mac.2.1
            have e15 : w2.cell? ⟨X, 15, none⟩ = some (.int .i64 m.val) := HM2.out.mac.cells.c15
            go_region_held3 (fun w' => w'.cell? ⟨X, 15, none⟩ = some (.int .i64 m.val)) (first | go_keep | exact hS | exact hS5) (first
              | (go_at_call 20; refine (HF.out.cl _ _ _ HD.out (by decide)).mono ?_; rintro e w3 ⟨rfl, hb3⟩; have hM3 : Mi w w3 X F m := HM2.out.on (below_then (bl_drew1 _) hb3); have hS : w3.cell? ⟨X, 15, none⟩ = some (.int .i64 m.val) := hM3.mac.cells.c15)
              | (go_at_call 44; refine (HF.out.wr _ m _ _ hM3.mac (cl_100 HD.out (by decide))).mono ?_; rintro e w4 ⟨cs, hcs, hz, rfl, hb4⟩; have hS : w4.cell? ⟨X, 15, none⟩ = some (.int .i64 m.val) := (hM3.on hb4).mac.cells.c15; obtain ⟨w5, hs5, hm5, hr5⟩ := (hM3.on hb4).put hcs; have hS5 : w5.cell? ⟨X, 15, none⟩ = some (.int .i64 m.val) := hm5.cells.c15))
            go_wp2_with fail
            exact ret_tells rfl rfl hz rfl hcs hr5
          · rw [if_neg h4] at hr
            have f4 : (m.told == 4) = false := by simpa using h4
            by_cases h5 : m.told = 5
            · rw [if_pos h5] at hr
              rw [h5] at c10
              subst hr
              clear h h0 h1 h2 h3 h4 h5 hf hok HCH f1 f2 f3 f4
              go_enter Try.func31, Try.ntmps31
              go_wp2_with fail
              refine (HF.out.wr _ m _ _ HM.out.mac (by decide)).mono ?_
              rintro e w4 ⟨cs, hcs, hz, rfl, hb4⟩
              obtain ⟨w5, hs5, hm5, hr5⟩ := (HM.out.on hb4).put hcs
              clear hb4 hm5
              go_wp2_with fail
              exact ret_tells rfl rfl hz rfl hcs hr5
            · rw [if_neg h5] at hr
              have f5 : (m.told == 5) = false := by simpa using h5
              subst hr
              clear h h0 h1 h2 h3 h4 h5 hf hok HCH
              go_enter Try.func31, Try.ntmps31
              go_wp2_with fail
              refine (HF.out.dn _ _).mono ?_
              rintro e w4 ⟨cs, hcs, hz, rfl, hb4⟩
              obtain ⟨w5, hs5, hm5, hr5⟩ := (HM.out.on hb4).put hcs
              clear hb4 hm5
              go_wp2_with fail
              exact ret_tells rfl rfl hz rfl hcs hr5
  · rw [if_neg h0] at hr
    subst hr
    have f0 : (m.se.found == -1) = false := by simpa using h0
    clear h h0 hf hok
    go_enter Try.func31, Try.ntmps31
    go_wp2_with fail
    refine (HCH.out _ HM.out.mac).mono ?_
    rintro e w4 ⟨cs, hcs, hz, rfl, hm4, hn4⟩
    obtain ⟨w5, hs5, hm5, hr5⟩ := (HM.out.go hm4 hn4).put hcs
    clear hm4 hn4 hm5
    go_wp2_with fail
    exact ret_tells rfl rfl hz rfl hcs hr5
end Go.Proofs.Ytbajgbknjmbimab.Di
