/- The document's chain (layer 18): least, length, next, adds, dels (printed by tools/chr.py). -/
import Derived.Test.YtaffkcliepfcmaaChG
import Derived.Test.YtaffkcliepfcmaaChT
import Derived.Deep.RegionHeld3
import Derived.WalkMore
namespace Go.Proofs.Ytaffkcliepfcmaa.Ch
open Go.ChangeShapes Go.WideShapes Go.ChangeAt Go.RowKit
attribute [local go_sem ↓] Go.wp_at_zero Go.wp_at_succ

/-- A want is handed back. -/
def Tl (x : Wn) (w : World) (e : Ending) (w' : World) : Prop := ∃ cs, Hid (wnC x = cs) ∧ cs.size = 4 ∧ e = .returned (.agg cs) ∧ Below w.heap.size w w'
theorem tl_of {w : World} {x : Wn} (e : Ending) (w' : World) (h : e = .returned (.agg (wnC x)) ∧ Below w.heap.size w w') : Tl x w e w' := ⟨wnC x, rfl, rfl, h.1, h.2⟩
theorem of_tl {w : World} {x : Wn} (e : Ending) (w' : World) (h : Tl x w e w') : e = .returned (.agg (wnC x)) ∧ Below w.heap.size w w' := by
  obtain ⟨cs, h1, _, h3, h4⟩ := h
  exact ⟨by rw [h1.out]; exact h3, h4⟩
theorem tl_put {x : Wn} {w w1 w2 : World} {e : Ending} {R : Nat} {z : Array Value} (h : Tl x w1 e w2) (hR : w1.heap[R]? = some (.cells z 51 (0, 0))) (hz : z.size = 4) (hb : Below w.heap.size w w1) (hl : w.heap.size ≤ R) :
    ∃ cs w3, e = .returned (.agg cs) ∧ cs.size = 4 ∧ (storeCells ⟨R, 0, none⟩ cs.toList 0).run Try.prog w2 = .ok () w3 ∧ Hid (w3.heap[R]? = some (.cells cs 51 (0, 0)) ∧ Tl x w (.returned (.agg cs)) w3) ∧ Hid (∀ q, q < w1.heap.size → q ≠ R → w3.heap[q]? = w1.heap[q]?) ∧ Hid (wnC x = cs ∧ Below w.heap.size w w3) := by
  obtain ⟨cs, h1, h2, rfl, h4⟩ := h
  have hR2 : w2.heap[R]? = some (.cells z 51 (0, 0)) := by rw [h4.block _ (heap_lt hR)]; exact hR
  have hbr : Below w.heap.size w (w2.setRow R cs) := below_row (below_then hb h4) _ hl _
  exact ⟨cs, _, rfl, h2, store_wn hR2 hz h2 (by rw [← h1.out]; exact wnC_one x), ⟨setRow_heap _ _ _ _ _ _ hR2, cs, h1, h2, rfl, hbr⟩, fun q hq hqR => by rw [setRow_other _ _ _ _ hqR]; exact h4.block q hq, h1.out, hbr⟩
theorem Tl.bel {x : Wn} {w w' : World} {e : Ending} (h : Tl x w e w') : Below w.heap.size w w' := by
  obtain ⟨_, _, _, _, h4⟩ := h
  exact h4
set_option maxRecDepth 100000 in
theorem rleast_no1 (w : World) {b n : Int}  {xa : Addr} {cap : Nat} {f : Int}  (hl : leadV f n = 0) (hxa : xa.block < w.heap.size) (h0 : w.cell? xa = some (.int .i64 f)) : Calls Try.prog 64 #[.int .i64 b, .int .i64 n, .slice (some xa) 1 cap] w (Tl (endW 0 1) w) := by
  have _u0 := h0
  clear _u0
  have xb1 : xa.block < w.heap.size + 1 := by omega
  have xb2 : xa.block < w.heap.size + 1 + 1 := by omega
  have HE : Hid (∀ (w : World) v c, Calls Try.prog 71 #[.int .i64 v, .int .i64 c] w (Tl (endW v c) w)) := fun w v c => (rend_any w v c).mono tl_of
  have HL : Hid (∀ w : World, Calls Try.prog 44 #[.int .i64 f, .int .i64 n] w fun e w' => e = .returned (.int .i64 0) ∧ w' = w) := fun w => by have := rleads_any w f n; rw [hl] at this; exact this
  clear hl
  go_enter Try.func64, Try.ntmps64
  go_wp2_with fail
  refine (HL.out _).mono ?_
  rintro e w1 ⟨rfl, hw1⟩
  obtain rfl := hw1.symm
  clear hw1
  go_wp2_with fail
  obtain ⟨w2, hw2⟩ : ∃ w2, w2 = (World.alloc w (.cells #[.int .i64 0, .int .i64 0, .int .i64 0, .int .i64 0] 51)) := ⟨_, rfl⟩
  have HB2 : Hid (Below w.heap.size w w2) := by rw [hw2]; exact below_a1 _ _
  have HG0 : Hid (w2.heap[w.heap.size]? = some (.cells #[.int .i64 0, .int .i64 0, .int .i64 0, .int .i64 0] 51 (0, 0))) := by rw [hw2]; exact hp_at (by simp)
  rw [← hw2]
  clear hw2
  refine (HE.out w2 _ _).mono ?_
  rintro e w4 h4
  obtain ⟨cs, w5, rfl, hz, hst, hr, hold, _⟩ := tl_put (w := w) (R := w.heap.size) h4 HG0.out rfl HB2.out (by omega)
  clear h4
  go_wp2_with fail
  exact ret_wn rfl rfl hr.out.1 hz rfl hr.out.2
set_option maxRecDepth 100000 in
theorem rleast_no2 (w : World) {b n : Int}  {xa : Addr} {cap m : Nat} {f u : Int}  (hl : leadV f n = 0) (hm : 1 < m) (hxa : xa.block < w.heap.size) (h0 : w.cell? xa = some (.int .i64 f)) (h1 : w.cell? ⟨xa.block, xa.off + 1, none⟩ = some (.int .i64 u)) : Calls Try.prog 64 #[.int .i64 b, .int .i64 n, .slice (some xa) m cap] w (Tl (endW 0 1) w) := by
  have m0 : ((m : Int) == 0) = false := by simp; omega
  have m1 : ((m : Int) == 1) = false := by simp; omega
  have m2 : 0 < m := by omega
  have m3 : (1 : Int) < (m : Int) := by omega
  have _u0 := And.intro h0 h1
  clear _u0
  have xb1 : xa.block < w.heap.size + 1 := by omega
  have xb2 : xa.block < w.heap.size + 1 + 1 := by omega
  have HE : Hid (∀ (w : World) v c, Calls Try.prog 71 #[.int .i64 v, .int .i64 c] w (Tl (endW v c) w)) := fun w v c => (rend_any w v c).mono tl_of
  have HL : Hid (∀ w : World, Calls Try.prog 44 #[.int .i64 f, .int .i64 n] w fun e w' => e = .returned (.int .i64 0) ∧ w' = w) := fun w => by have := rleads_any w f n; rw [hl] at this; exact this
  clear hl hm
  go_enter Try.func64, Try.ntmps64
  go_wp2_with fail
  refine (HL.out _).mono ?_
  rintro e w1 ⟨rfl, hw1⟩
  obtain rfl := hw1.symm
  clear hw1
  go_wp2_with fail
  obtain ⟨w2, hw2⟩ : ∃ w2, w2 = (World.alloc w (.cells #[.int .i64 0, .int .i64 0, .int .i64 0, .int .i64 0] 51)) := ⟨_, rfl⟩
  have HB2 : Hid (Below w.heap.size w w2) := by rw [hw2]; exact below_a1 _ _
  have HG0 : Hid (w2.heap[w.heap.size]? = some (.cells #[.int .i64 0, .int .i64 0, .int .i64 0, .int .i64 0] 51 (0, 0))) := by rw [hw2]; exact hp_at (by simp)
  rw [← hw2]
  clear hw2
  refine (HE.out w2 _ _).mono ?_
  rintro e w4 h4
  obtain ⟨cs, w5, rfl, hz, hst, hr, hold, _⟩ := tl_put (w := w) (R := w.heap.size) h4 HG0.out rfl HB2.out (by omega)
  clear h4
  go_wp2_with fail
  exact ret_wn rfl rfl hr.out.1 hz rfl hr.out.2
set_option maxRecDepth 100000 in
theorem rleast_key1 (w : World) {b n : Int}  {xa : Addr} {cap : Nat} {f : Int}  (hb : 0 ≤ b ∧ b ≤ 1024) (hn : 0 ≤ n ∧ n ≤ 16) (hl : leadV f n ≠ 0) (hxa : xa.block < w.heap.size) (h0 : w.cell? xa = some (.int .i64 f)) : Calls Try.prog 64 #[.int .i64 b, .int .i64 n, .slice (some xa) 1 cap] w (Tl (readW (b + keyV (leadV f n))) w) := by
  have _u0 := h0
  clear _u0
  have xb1 : xa.block < w.heap.size + 1 := by omega
  have xb2 : xa.block < w.heap.size + 1 + 1 := by omega
  have HR : Hid (∀ (w : World) c, Calls Try.prog 67 #[.int .i64 c] w (Tl (readW c) w)) := fun w c => (rread_any w c).mono tl_of
  have HL : Hid (∀ w : World, Calls Try.prog 44 #[.int .i64 f, .int .i64 n] w fun e w' => e = .returned (.int .i64 (leadV f n)) ∧ w' = w) := fun w => by have := rleads_any w f n; exact this
  have hy : 0 ≤ leadV f n ∧ leadV f n ≤ 100 := by obtain ⟨e1, e2⟩ := lead_of hl; omega
  have HK : Hid (∀ w : World, Calls Try.prog 30 #[.int .i64 (leadV f n)] w fun e w' => e = .returned (.int .i64 (keyV (leadV f n))) ∧ w' = w) := fun w => rkey_any w hy
  have hl0 : (leadV f n == 0) = false := by simpa using hl
  have hw : wrap64 (b + keyV (leadV f n)) = b + keyV (leadV f n) := by unfold wrap64 keyV; omega
  clear hl hb hn hy
  generalize leadV f n = d at *
  generalize keyV d = kd at *
  go_enter Try.func64, Try.ntmps64
  go_wp2_with fail
  refine (HL.out _).mono ?_
  rintro e w1 ⟨rfl, hw1⟩
  obtain rfl := hw1.symm
  clear hw1
  go_wp2_with fail
  refine (HK.out _).mono ?_
  rintro e w1 ⟨rfl, hw1⟩
  obtain rfl := hw1.symm
  clear hw1
  go_wp2_with fail
  obtain ⟨w2, hw2⟩ : ∃ w2, w2 = (World.alloc w (.cells #[.int .i64 0, .int .i64 0, .int .i64 0, .int .i64 0] 51)) := ⟨_, rfl⟩
  have HB2 : Hid (Below w.heap.size w w2) := by rw [hw2]; exact below_a1 _ _
  have HG0 : Hid (w2.heap[w.heap.size]? = some (.cells #[.int .i64 0, .int .i64 0, .int .i64 0, .int .i64 0] 51 (0, 0))) := by rw [hw2]; exact hp_at (by simp)
  rw [← hw2]
  clear hw2
  refine (HR.out w2 _).mono ?_
  rintro e w4 h4
  obtain ⟨cs, w5, rfl, hz, hst, hr, hold, _⟩ := tl_put (w := w) (R := w.heap.size) h4 HG0.out rfl HB2.out (by omega)
  clear h4
  go_wp2_with fail
  exact ret_wn rfl rfl hr.out.1 hz rfl hr.out.2
set_option maxRecDepth 100000 in
theorem rleast_val2 (w : World) {b n : Int}  {xa : Addr} {cap m : Nat} {f u : Int}  (hl : leadV f n ≠ 0) (hm : 1 < m) (hxa : xa.block < w.heap.size) (h0 : w.cell? xa = some (.int .i64 f)) (h1 : w.cell? ⟨xa.block, xa.off + 1, none⟩ = some (.int .i64 u)) : Calls Try.prog 64 #[.int .i64 b, .int .i64 n, .slice (some xa) m cap] w (Tl (endW u 0) w) := by
  have m0 : ((m : Int) == 0) = false := by simp; omega
  have m1 : ((m : Int) == 1) = false := by simp; omega
  have m2 : 0 < m := by omega
  have m3 : (1 : Int) < (m : Int) := by omega
  have _u0 := And.intro h0 h1
  clear _u0
  have xb1 : xa.block < w.heap.size + 1 := by omega
  have xb2 : xa.block < w.heap.size + 1 + 1 := by omega
  have HE : Hid (∀ (w : World) v c, Calls Try.prog 71 #[.int .i64 v, .int .i64 c] w (Tl (endW v c) w)) := fun w v c => (rend_any w v c).mono tl_of
  have HL : Hid (∀ w : World, Calls Try.prog 44 #[.int .i64 f, .int .i64 n] w fun e w' => e = .returned (.int .i64 (leadV f n)) ∧ w' = w) := fun w => by have := rleads_any w f n; exact this
  have hl0 : (leadV f n == 0) = false := by simpa using hl
  clear hl
  generalize leadV f n = d at *
  go_enter Try.func64, Try.ntmps64
  go_wp2_with fail
  refine (HL.out _).mono ?_
  rintro e w1 ⟨rfl, hw1⟩
  obtain rfl := hw1.symm
  clear hw1
  go_wp2_with fail
  obtain ⟨w2, hw2⟩ : ∃ w2, w2 = (World.alloc w (.cells #[.int .i64 0, .int .i64 0, .int .i64 0, .int .i64 0] 51)) := ⟨_, rfl⟩
  have HB2 : Hid (Below w.heap.size w w2) := by rw [hw2]; exact below_a1 _ _
  have HG0 : Hid (w2.heap[w.heap.size]? = some (.cells #[.int .i64 0, .int .i64 0, .int .i64 0, .int .i64 0] 51 (0, 0))) := by rw [hw2]; exact hp_at (by simp)
  rw [← hw2]
  clear hw2
  refine (HE.out w2 _ _).mono ?_
  rintro e w4 h4
  obtain ⟨cs, w5, rfl, hz, hst, hr, hold, _⟩ := tl_put (w := w) (R := w.heap.size) h4 HG0.out rfl HB2.out (by omega)
  clear h4
  go_wp2_with fail
  exact ret_wn rfl rfl hr.out.1 hz rfl hr.out.2
set_option maxRecDepth 100000 in
theorem rleast_0 (w : World) {b n : Int}  {a : Option Addr} {cap : Nat}   : Calls Try.prog 64 #[.int .i64 b, .int .i64 n, .slice a 0 cap] w (Tl (readW b) w) := by
  have HR : Hid (∀ (w : World) c, Calls Try.prog 67 #[.int .i64 c] w (Tl (readW c) w)) := fun w c => (rread_any w c).mono tl_of
  go_enter Try.func64, Try.ntmps64
  go_wp2_with fail
  obtain ⟨w2, hw2⟩ : ∃ w2, w2 = (World.alloc w (.cells #[.int .i64 0, .int .i64 0, .int .i64 0, .int .i64 0] 51)) := ⟨_, rfl⟩
  have HB2 : Hid (Below w.heap.size w w2) := by rw [hw2]; exact below_a1 _ _
  have HG0 : Hid (w2.heap[w.heap.size]? = some (.cells #[.int .i64 0, .int .i64 0, .int .i64 0, .int .i64 0] 51 (0, 0))) := by rw [hw2]; exact hp_at (by simp)
  rw [← hw2]
  clear hw2
  refine (HR.out w2 _).mono ?_
  rintro e w4 h4
  obtain ⟨cs, w5, rfl, hz, hst, hr, hold, _⟩ := tl_put (w := w) (R := w.heap.size) h4 HG0.out rfl HB2.out (by omega)
  clear h4
  go_wp2_with fail
  exact ret_wn rfl rfl hr.out.1 hz rfl hr.out.2
set_option maxRecDepth 100000 in
theorem rnxt_none0 (w : World) {b n : Int} {g : Wg} {a : Option Addr} {cap : Nat} (hs : g.node = 0)  : Calls Try.prog 70 #[.int .i64 b, .int .i64 n, .agg (wgC g), .slice a 0 cap] w (Tl (endW 0 1) w) := by
  unfold wgC
  have HE : Hid (∀ (w : World) v c, Calls Try.prog 71 #[.int .i64 v, .int .i64 c] w (Tl (endW v c) w)) := fun w v c => (rend_any w v c).mono tl_of
  have hs0 : (g.node == 0) = true := by simp [hs]
  clear hs
  go_enter Try.func70, Try.ntmps70
  go_wp2_with fail
  obtain ⟨w2, hw2⟩ : ∃ w2, w2 = (World.alloc (World.alloc w (.cells #[.int .i64 g.link, .int .i64 g.p, .int .i64 g.node, .bool g.at_, .int .i64 g.key, .int .i64 (g.reads : Int), .bool g.over, .int .i64 g.cell] 90)) (.cells #[.int .i64 0, .int .i64 0, .int .i64 0, .int .i64 0] 51)) := ⟨_, rfl⟩
  have HB2 : Hid (Below w.heap.size w w2) := by rw [hw2]; exact bl2 _ _ _
  have HG0 : Hid (w2.heap[w.heap.size]? = some (.cells #[.int .i64 g.link, .int .i64 g.p, .int .i64 g.node, .bool g.at_, .int .i64 g.key, .int .i64 (g.reads : Int), .bool g.over, .int .i64 g.cell] 90 (0, 0))) := by rw [hw2]; exact hp_past (hp_at (by simp))
  have HG1 : Hid (w2.heap[w.heap.size + 1]? = some (.cells #[.int .i64 0, .int .i64 0, .int .i64 0, .int .i64 0] 51 (0, 0))) := by rw [hw2]; exact hp_at (by simp)
  rw [← hw2]
  clear hw2
  refine (HE.out w2 _ _).mono ?_
  rintro e w4 h4
  obtain ⟨cs, w5, rfl, hz, hst, hr, hold, _⟩ := tl_put (w := w) (R := w.heap.size + 1) h4 HG1.out rfl HB2.out (by omega)
  clear h4
  go_wp2_with fail
  exact ret_wn rfl rfl hr.out.1 hz rfl hr.out.2
set_option maxRecDepth 100000 in
theorem rnxt_stop0 (w : World) {b n : Int} {g : Wg} {a : Option Addr} {cap : Nat} (hs : g.node ≠ 0) (ha : g.at_ = false)  : Calls Try.prog 70 #[.int .i64 b, .int .i64 n, .agg (wgC g), .slice a 0 cap] w (Tl (endW g.key 0) w) := by
  unfold wgC
  rw [ha]
  clear ha
  have HE : Hid (∀ (w : World) v c, Calls Try.prog 71 #[.int .i64 v, .int .i64 c] w (Tl (endW v c) w)) := fun w v c => (rend_any w v c).mono tl_of
  have hs0 : (g.node == 0) = false := by simpa using hs
  clear hs
  go_enter Try.func70, Try.ntmps70
  go_wp2_with fail
  obtain ⟨w2, hw2⟩ : ∃ w2, w2 = (World.alloc (World.alloc w (.cells #[.int .i64 g.link, .int .i64 g.p, .int .i64 g.node, .bool false, .int .i64 g.key, .int .i64 (g.reads : Int), .bool g.over, .int .i64 g.cell] 90)) (.cells #[.int .i64 0, .int .i64 0, .int .i64 0, .int .i64 0] 51)) := ⟨_, rfl⟩
  have HB2 : Hid (Below w.heap.size w w2) := by rw [hw2]; exact bl2 _ _ _
  have HG0 : Hid (w2.heap[w.heap.size]? = some (.cells #[.int .i64 g.link, .int .i64 g.p, .int .i64 g.node, .bool false, .int .i64 g.key, .int .i64 (g.reads : Int), .bool g.over, .int .i64 g.cell] 90 (0, 0))) := by rw [hw2]; exact hp_past (hp_at (by simp))
  have HG1 : Hid (w2.heap[w.heap.size + 1]? = some (.cells #[.int .i64 0, .int .i64 0, .int .i64 0, .int .i64 0] 51 (0, 0))) := by rw [hw2]; exact hp_at (by simp)
  rw [← hw2]
  clear hw2
  refine (HE.out w2 _ _).mono ?_
  rintro e w4 h4
  obtain ⟨cs, w5, rfl, hz, hst, hr, hold, _⟩ := tl_put (w := w) (R := w.heap.size + 1) h4 HG1.out rfl HB2.out (by omega)
  clear h4
  go_wp2_with fail
  exact ret_wn rfl rfl hr.out.1 hz rfl hr.out.2
set_option maxRecDepth 100000 in
theorem rnxt_none1 (w : World) {b n : Int} {g : Wg} {xa : Addr} {cap : Nat} {f : Int} (hs : g.node = 0) (hxa : xa.block < w.heap.size) (h0 : w.cell? xa = some (.int .i64 f)) : Calls Try.prog 70 #[.int .i64 b, .int .i64 n, .agg (wgC g), .slice (some xa) 1 cap] w (Tl (endW 0 1) w) := by
  unfold wgC
  have _u0 := h0
  clear _u0
  have xb1 : xa.block < w.heap.size + 1 := by omega
  have xb2 : xa.block < w.heap.size + 1 + 1 := by omega
  have HE : Hid (∀ (w : World) v c, Calls Try.prog 71 #[.int .i64 v, .int .i64 c] w (Tl (endW v c) w)) := fun w v c => (rend_any w v c).mono tl_of
  have hs0 : (g.node == 0) = true := by simp [hs]
  clear hs
  go_enter Try.func70, Try.ntmps70
  go_wp2_with fail
  obtain ⟨w2, hw2⟩ : ∃ w2, w2 = (World.alloc (World.alloc w (.cells #[.int .i64 g.link, .int .i64 g.p, .int .i64 g.node, .bool g.at_, .int .i64 g.key, .int .i64 (g.reads : Int), .bool g.over, .int .i64 g.cell] 90)) (.cells #[.int .i64 0, .int .i64 0, .int .i64 0, .int .i64 0] 51)) := ⟨_, rfl⟩
  have HB2 : Hid (Below w.heap.size w w2) := by rw [hw2]; exact bl2 _ _ _
  have HG0 : Hid (w2.heap[w.heap.size]? = some (.cells #[.int .i64 g.link, .int .i64 g.p, .int .i64 g.node, .bool g.at_, .int .i64 g.key, .int .i64 (g.reads : Int), .bool g.over, .int .i64 g.cell] 90 (0, 0))) := by rw [hw2]; exact hp_past (hp_at (by simp))
  have HG1 : Hid (w2.heap[w.heap.size + 1]? = some (.cells #[.int .i64 0, .int .i64 0, .int .i64 0, .int .i64 0] 51 (0, 0))) := by rw [hw2]; exact hp_at (by simp)
  rw [← hw2]
  clear hw2
  refine (HE.out w2 _ _).mono ?_
  rintro e w4 h4
  obtain ⟨cs, w5, rfl, hz, hst, hr, hold, _⟩ := tl_put (w := w) (R := w.heap.size + 1) h4 HG1.out rfl HB2.out (by omega)
  clear h4
  go_wp2_with fail
  exact ret_wn rfl rfl hr.out.1 hz rfl hr.out.2
set_option maxRecDepth 100000 in
theorem rnxt_stop1 (w : World) {b n : Int} {g : Wg} {xa : Addr} {cap : Nat} {f : Int} (hs : g.node ≠ 0) (ha : g.at_ = false) (hxa : xa.block < w.heap.size) (h0 : w.cell? xa = some (.int .i64 f)) : Calls Try.prog 70 #[.int .i64 b, .int .i64 n, .agg (wgC g), .slice (some xa) 1 cap] w (Tl (endW g.key 0) w) := by
  unfold wgC
  rw [ha]
  clear ha
  have _u0 := h0
  clear _u0
  have xb1 : xa.block < w.heap.size + 1 := by omega
  have xb2 : xa.block < w.heap.size + 1 + 1 := by omega
  have HE : Hid (∀ (w : World) v c, Calls Try.prog 71 #[.int .i64 v, .int .i64 c] w (Tl (endW v c) w)) := fun w v c => (rend_any w v c).mono tl_of
  have hs0 : (g.node == 0) = false := by simpa using hs
  clear hs
  go_enter Try.func70, Try.ntmps70
  go_wp2_with fail
  obtain ⟨w2, hw2⟩ : ∃ w2, w2 = (World.alloc (World.alloc w (.cells #[.int .i64 g.link, .int .i64 g.p, .int .i64 g.node, .bool false, .int .i64 g.key, .int .i64 (g.reads : Int), .bool g.over, .int .i64 g.cell] 90)) (.cells #[.int .i64 0, .int .i64 0, .int .i64 0, .int .i64 0] 51)) := ⟨_, rfl⟩
  have HB2 : Hid (Below w.heap.size w w2) := by rw [hw2]; exact bl2 _ _ _
  have HG0 : Hid (w2.heap[w.heap.size]? = some (.cells #[.int .i64 g.link, .int .i64 g.p, .int .i64 g.node, .bool false, .int .i64 g.key, .int .i64 (g.reads : Int), .bool g.over, .int .i64 g.cell] 90 (0, 0))) := by rw [hw2]; exact hp_past (hp_at (by simp))
  have HG1 : Hid (w2.heap[w.heap.size + 1]? = some (.cells #[.int .i64 0, .int .i64 0, .int .i64 0, .int .i64 0] 51 (0, 0))) := by rw [hw2]; exact hp_at (by simp)
  rw [← hw2]
  clear hw2
  refine (HE.out w2 _ _).mono ?_
  rintro e w4 h4
  obtain ⟨cs, w5, rfl, hz, hst, hr, hold, _⟩ := tl_put (w := w) (R := w.heap.size + 1) h4 HG1.out rfl HB2.out (by omega)
  clear h4
  go_wp2_with fail
  exact ret_wn rfl rfl hr.out.1 hz rfl hr.out.2
set_option maxRecDepth 100000 in
theorem rnxt_none2 (w : World) {b n : Int} {g : Wg} {xa : Addr} {cap m : Nat} {f u : Int} (hs : g.node = 0) (hm : 1 < m) (hxa : xa.block < w.heap.size) (h0 : w.cell? xa = some (.int .i64 f)) (h1 : w.cell? ⟨xa.block, xa.off + 1, none⟩ = some (.int .i64 u)) : Calls Try.prog 70 #[.int .i64 b, .int .i64 n, .agg (wgC g), .slice (some xa) m cap] w (Tl (endW 0 1) w) := by
  unfold wgC
  have m0 : ((m : Int) == 0) = false := by simp; omega
  have m1 : ((m : Int) == 1) = false := by simp; omega
  have m2 : 0 < m := by omega
  have m3 : (1 : Int) < (m : Int) := by omega
  have _u0 := And.intro h0 h1
  clear _u0
  have xb1 : xa.block < w.heap.size + 1 := by omega
  have xb2 : xa.block < w.heap.size + 1 + 1 := by omega
  have HE : Hid (∀ (w : World) v c, Calls Try.prog 71 #[.int .i64 v, .int .i64 c] w (Tl (endW v c) w)) := fun w v c => (rend_any w v c).mono tl_of
  have hs0 : (g.node == 0) = true := by simp [hs]
  clear hs
  go_enter Try.func70, Try.ntmps70
  go_wp2_with fail
  obtain ⟨w2, hw2⟩ : ∃ w2, w2 = (World.alloc (World.alloc w (.cells #[.int .i64 g.link, .int .i64 g.p, .int .i64 g.node, .bool g.at_, .int .i64 g.key, .int .i64 (g.reads : Int), .bool g.over, .int .i64 g.cell] 90)) (.cells #[.int .i64 0, .int .i64 0, .int .i64 0, .int .i64 0] 51)) := ⟨_, rfl⟩
  have HB2 : Hid (Below w.heap.size w w2) := by rw [hw2]; exact bl2 _ _ _
  have HG0 : Hid (w2.heap[w.heap.size]? = some (.cells #[.int .i64 g.link, .int .i64 g.p, .int .i64 g.node, .bool g.at_, .int .i64 g.key, .int .i64 (g.reads : Int), .bool g.over, .int .i64 g.cell] 90 (0, 0))) := by rw [hw2]; exact hp_past (hp_at (by simp))
  have HG1 : Hid (w2.heap[w.heap.size + 1]? = some (.cells #[.int .i64 0, .int .i64 0, .int .i64 0, .int .i64 0] 51 (0, 0))) := by rw [hw2]; exact hp_at (by simp)
  rw [← hw2]
  clear hw2
  refine (HE.out w2 _ _).mono ?_
  rintro e w4 h4
  obtain ⟨cs, w5, rfl, hz, hst, hr, hold, _⟩ := tl_put (w := w) (R := w.heap.size + 1) h4 HG1.out rfl HB2.out (by omega)
  clear h4
  go_wp2_with fail
  exact ret_wn rfl rfl hr.out.1 hz rfl hr.out.2
set_option maxRecDepth 100000 in
theorem rnxt_stop2 (w : World) {b n : Int} {g : Wg} {xa : Addr} {cap m : Nat} {f u : Int} (hs : g.node ≠ 0) (ha : g.at_ = false) (hm : 1 < m) (hxa : xa.block < w.heap.size) (h0 : w.cell? xa = some (.int .i64 f)) (h1 : w.cell? ⟨xa.block, xa.off + 1, none⟩ = some (.int .i64 u)) : Calls Try.prog 70 #[.int .i64 b, .int .i64 n, .agg (wgC g), .slice (some xa) m cap] w (Tl (endW g.key 0) w) := by
  unfold wgC
  rw [ha]
  clear ha
  have m0 : ((m : Int) == 0) = false := by simp; omega
  have m1 : ((m : Int) == 1) = false := by simp; omega
  have m2 : 0 < m := by omega
  have m3 : (1 : Int) < (m : Int) := by omega
  have _u0 := And.intro h0 h1
  clear _u0
  have xb1 : xa.block < w.heap.size + 1 := by omega
  have xb2 : xa.block < w.heap.size + 1 + 1 := by omega
  have HE : Hid (∀ (w : World) v c, Calls Try.prog 71 #[.int .i64 v, .int .i64 c] w (Tl (endW v c) w)) := fun w v c => (rend_any w v c).mono tl_of
  have hs0 : (g.node == 0) = false := by simpa using hs
  clear hs
  go_enter Try.func70, Try.ntmps70
  go_wp2_with fail
  obtain ⟨w2, hw2⟩ : ∃ w2, w2 = (World.alloc (World.alloc w (.cells #[.int .i64 g.link, .int .i64 g.p, .int .i64 g.node, .bool false, .int .i64 g.key, .int .i64 (g.reads : Int), .bool g.over, .int .i64 g.cell] 90)) (.cells #[.int .i64 0, .int .i64 0, .int .i64 0, .int .i64 0] 51)) := ⟨_, rfl⟩
  have HB2 : Hid (Below w.heap.size w w2) := by rw [hw2]; exact bl2 _ _ _
  have HG0 : Hid (w2.heap[w.heap.size]? = some (.cells #[.int .i64 g.link, .int .i64 g.p, .int .i64 g.node, .bool false, .int .i64 g.key, .int .i64 (g.reads : Int), .bool g.over, .int .i64 g.cell] 90 (0, 0))) := by rw [hw2]; exact hp_past (hp_at (by simp))
  have HG1 : Hid (w2.heap[w.heap.size + 1]? = some (.cells #[.int .i64 0, .int .i64 0, .int .i64 0, .int .i64 0] 51 (0, 0))) := by rw [hw2]; exact hp_at (by simp)
  rw [← hw2]
  clear hw2
  refine (HE.out w2 _ _).mono ?_
  rintro e w4 h4
  obtain ⟨cs, w5, rfl, hz, hst, hr, hold, _⟩ := tl_put (w := w) (R := w.heap.size + 1) h4 HG1.out rfl HB2.out (by omega)
  clear h4
  go_wp2_with fail
  exact ret_wn rfl rfl hr.out.1 hz rfl hr.out.2
set_option maxRecDepth 100000 in
theorem rnxt_link (w : World) {b n : Int} {g : Wg} {a : Option Addr} {cap : Nat} (hs : g.node ≠ 0) (ha : g.at_ = true) (hb : 0 ≤ b ∧ b ≤ 1024) (hd : 0 ≤ g.node ∧ g.node ≤ 16)  : Calls Try.prog 70 #[.int .i64 b, .int .i64 n, .agg (wgC g), .slice a 0 cap] w (Tl (readW (b + nxtV g.node)) w) := by
  unfold wgC
  rw [ha]
  clear ha
  have HR : Hid (∀ (w : World) c, Calls Try.prog 67 #[.int .i64 c] w (Tl (readW c) w)) := fun w c => (rread_any w c).mono tl_of
  have hy : 0 ≤ g.node ∧ g.node ≤ 100 := by omega
  have HN : Hid (∀ w : World, Calls Try.prog 45 #[.int .i64 g.node] w fun e w' => e = .returned (.int .i64 (nxtV g.node)) ∧ w' = w) := fun w => rlink_any w hy
  have hw : wrap64 (b + nxtV g.node) = b + nxtV g.node := by unfold wrap64 nxtV keyV; omega
  clear hb hd hy
  generalize nxtV g.node = y1 at *
  have hs0 : (g.node == 0) = false := by simpa using hs
  clear hs
  go_enter Try.func70, Try.ntmps70
  go_wp2_with fail
  refine (HN.out _).mono ?_
  rintro e w1 ⟨rfl, hw1⟩
  obtain rfl := hw1.symm
  clear hw1
  go_wp2_with fail
  obtain ⟨w2, hw2⟩ : ∃ w2, w2 = (World.alloc (World.alloc w (.cells #[.int .i64 g.link, .int .i64 g.p, .int .i64 g.node, .bool true, .int .i64 g.key, .int .i64 (g.reads : Int), .bool g.over, .int .i64 g.cell] 90)) (.cells #[.int .i64 0, .int .i64 0, .int .i64 0, .int .i64 0] 51)) := ⟨_, rfl⟩
  have HB2 : Hid (Below w.heap.size w w2) := by rw [hw2]; exact bl2 _ _ _
  have HG0 : Hid (w2.heap[w.heap.size]? = some (.cells #[.int .i64 g.link, .int .i64 g.p, .int .i64 g.node, .bool true, .int .i64 g.key, .int .i64 (g.reads : Int), .bool g.over, .int .i64 g.cell] 90 (0, 0))) := by rw [hw2]; exact hp_past (hp_at (by simp))
  have HG1 : Hid (w2.heap[w.heap.size + 1]? = some (.cells #[.int .i64 0, .int .i64 0, .int .i64 0, .int .i64 0] 51 (0, 0))) := by rw [hw2]; exact hp_at (by simp)
  rw [← hw2]
  clear hw2
  refine (HR.out w2 _).mono ?_
  rintro e w4 h4
  obtain ⟨cs, w5, rfl, hz, hst, hr, hold, _⟩ := tl_put (w := w) (R := w.heap.size + 1) h4 HG1.out rfl HB2.out (by omega)
  clear h4
  go_wp2_with fail
  exact ret_wn rfl rfl hr.out.1 hz rfl hr.out.2
set_option maxRecDepth 100000 in
theorem rnxt_no1 (w : World) {b n : Int} {g : Wg} {xa : Addr} {cap : Nat} {f : Int} (hs : g.node ≠ 0) (ha : g.at_ = true) (hl : leadV f n = 0) (hxa : xa.block < w.heap.size) (h0 : w.cell? xa = some (.int .i64 f)) : Calls Try.prog 70 #[.int .i64 b, .int .i64 n, .agg (wgC g), .slice (some xa) 1 cap] w (Tl (endW 0 1) w) := by
  unfold wgC
  rw [ha]
  clear ha
  have _u0 := h0
  clear _u0
  have xb1 : xa.block < w.heap.size + 1 := by omega
  have xb2 : xa.block < w.heap.size + 1 + 1 := by omega
  have HE : Hid (∀ (w : World) v c, Calls Try.prog 71 #[.int .i64 v, .int .i64 c] w (Tl (endW v c) w)) := fun w v c => (rend_any w v c).mono tl_of
  have HL : Hid (∀ w : World, Calls Try.prog 44 #[.int .i64 f, .int .i64 n] w fun e w' => e = .returned (.int .i64 0) ∧ w' = w) := fun w => by have := rleads_any w f n; rw [hl] at this; exact this
  clear hl
  have hs0 : (g.node == 0) = false := by simpa using hs
  clear hs
  go_enter Try.func70, Try.ntmps70
  go_wp2_with fail
  refine (HL.out _).mono ?_
  rintro e w1 ⟨rfl, hw1⟩
  obtain rfl := hw1.symm
  clear hw1
  go_wp2_with fail
  obtain ⟨w2, hw2⟩ : ∃ w2, w2 = (World.alloc (World.alloc w (.cells #[.int .i64 g.link, .int .i64 g.p, .int .i64 g.node, .bool true, .int .i64 g.key, .int .i64 (g.reads : Int), .bool g.over, .int .i64 g.cell] 90)) (.cells #[.int .i64 0, .int .i64 0, .int .i64 0, .int .i64 0] 51)) := ⟨_, rfl⟩
  have HB2 : Hid (Below w.heap.size w w2) := by rw [hw2]; exact bl2 _ _ _
  have HG0 : Hid (w2.heap[w.heap.size]? = some (.cells #[.int .i64 g.link, .int .i64 g.p, .int .i64 g.node, .bool true, .int .i64 g.key, .int .i64 (g.reads : Int), .bool g.over, .int .i64 g.cell] 90 (0, 0))) := by rw [hw2]; exact hp_past (hp_at (by simp))
  have HG1 : Hid (w2.heap[w.heap.size + 1]? = some (.cells #[.int .i64 0, .int .i64 0, .int .i64 0, .int .i64 0] 51 (0, 0))) := by rw [hw2]; exact hp_at (by simp)
  rw [← hw2]
  clear hw2
  refine (HE.out w2 _ _).mono ?_
  rintro e w4 h4
  obtain ⟨cs, w5, rfl, hz, hst, hr, hold, _⟩ := tl_put (w := w) (R := w.heap.size + 1) h4 HG1.out rfl HB2.out (by omega)
  clear h4
  go_wp2_with fail
  exact ret_wn rfl rfl hr.out.1 hz rfl hr.out.2
set_option maxRecDepth 100000 in
theorem rnxt_no2 (w : World) {b n : Int} {g : Wg} {xa : Addr} {cap m : Nat} {f u : Int} (hs : g.node ≠ 0) (ha : g.at_ = true) (hl : leadV f n = 0) (hm : 1 < m) (hxa : xa.block < w.heap.size) (h0 : w.cell? xa = some (.int .i64 f)) (h1 : w.cell? ⟨xa.block, xa.off + 1, none⟩ = some (.int .i64 u)) : Calls Try.prog 70 #[.int .i64 b, .int .i64 n, .agg (wgC g), .slice (some xa) m cap] w (Tl (endW 0 1) w) := by
  unfold wgC
  rw [ha]
  clear ha
  have m0 : ((m : Int) == 0) = false := by simp; omega
  have m1 : ((m : Int) == 1) = false := by simp; omega
  have m2 : 0 < m := by omega
  have m3 : (1 : Int) < (m : Int) := by omega
  have _u0 := And.intro h0 h1
  clear _u0
  have xb1 : xa.block < w.heap.size + 1 := by omega
  have xb2 : xa.block < w.heap.size + 1 + 1 := by omega
  have HE : Hid (∀ (w : World) v c, Calls Try.prog 71 #[.int .i64 v, .int .i64 c] w (Tl (endW v c) w)) := fun w v c => (rend_any w v c).mono tl_of
  have HL : Hid (∀ w : World, Calls Try.prog 44 #[.int .i64 f, .int .i64 n] w fun e w' => e = .returned (.int .i64 0) ∧ w' = w) := fun w => by have := rleads_any w f n; rw [hl] at this; exact this
  clear hl hm
  have hs0 : (g.node == 0) = false := by simpa using hs
  clear hs
  go_enter Try.func70, Try.ntmps70
  go_wp2_with fail
  refine (HL.out _).mono ?_
  rintro e w1 ⟨rfl, hw1⟩
  obtain rfl := hw1.symm
  clear hw1
  go_wp2_with fail
  obtain ⟨w2, hw2⟩ : ∃ w2, w2 = (World.alloc (World.alloc w (.cells #[.int .i64 g.link, .int .i64 g.p, .int .i64 g.node, .bool true, .int .i64 g.key, .int .i64 (g.reads : Int), .bool g.over, .int .i64 g.cell] 90)) (.cells #[.int .i64 0, .int .i64 0, .int .i64 0, .int .i64 0] 51)) := ⟨_, rfl⟩
  have HB2 : Hid (Below w.heap.size w w2) := by rw [hw2]; exact bl2 _ _ _
  have HG0 : Hid (w2.heap[w.heap.size]? = some (.cells #[.int .i64 g.link, .int .i64 g.p, .int .i64 g.node, .bool true, .int .i64 g.key, .int .i64 (g.reads : Int), .bool g.over, .int .i64 g.cell] 90 (0, 0))) := by rw [hw2]; exact hp_past (hp_at (by simp))
  have HG1 : Hid (w2.heap[w.heap.size + 1]? = some (.cells #[.int .i64 0, .int .i64 0, .int .i64 0, .int .i64 0] 51 (0, 0))) := by rw [hw2]; exact hp_at (by simp)
  rw [← hw2]
  clear hw2
  refine (HE.out w2 _ _).mono ?_
  rintro e w4 h4
  obtain ⟨cs, w5, rfl, hz, hst, hr, hold, _⟩ := tl_put (w := w) (R := w.heap.size + 1) h4 HG1.out rfl HB2.out (by omega)
  clear h4
  go_wp2_with fail
  exact ret_wn rfl rfl hr.out.1 hz rfl hr.out.2
set_option maxRecDepth 100000 in
theorem rnxt_key1 (w : World) {b n : Int} {g : Wg} {xa : Addr} {cap : Nat} {f : Int} (hs : g.node ≠ 0) (ha : g.at_ = true) (hb : 0 ≤ b ∧ b ≤ 1024) (hn : 0 ≤ n ∧ n ≤ 16) (hl : leadV f n ≠ 0) (hxa : xa.block < w.heap.size) (h0 : w.cell? xa = some (.int .i64 f)) : Calls Try.prog 70 #[.int .i64 b, .int .i64 n, .agg (wgC g), .slice (some xa) 1 cap] w (Tl (readW (b + keyV (leadV f n))) w) := by
  unfold wgC
  rw [ha]
  clear ha
  have _u0 := h0
  clear _u0
  have xb1 : xa.block < w.heap.size + 1 := by omega
  have xb2 : xa.block < w.heap.size + 1 + 1 := by omega
  have HR : Hid (∀ (w : World) c, Calls Try.prog 67 #[.int .i64 c] w (Tl (readW c) w)) := fun w c => (rread_any w c).mono tl_of
  have HL : Hid (∀ w : World, Calls Try.prog 44 #[.int .i64 f, .int .i64 n] w fun e w' => e = .returned (.int .i64 (leadV f n)) ∧ w' = w) := fun w => by have := rleads_any w f n; exact this
  have hy : 0 ≤ leadV f n ∧ leadV f n ≤ 100 := by obtain ⟨e1, e2⟩ := lead_of hl; omega
  have HK : Hid (∀ w : World, Calls Try.prog 30 #[.int .i64 (leadV f n)] w fun e w' => e = .returned (.int .i64 (keyV (leadV f n))) ∧ w' = w) := fun w => rkey_any w hy
  have hl0 : (leadV f n == 0) = false := by simpa using hl
  have hw : wrap64 (b + keyV (leadV f n)) = b + keyV (leadV f n) := by unfold wrap64 keyV; omega
  clear hl hb hn hy
  generalize leadV f n = d at *
  generalize keyV d = kd at *
  have hs0 : (g.node == 0) = false := by simpa using hs
  clear hs
  go_enter Try.func70, Try.ntmps70
  go_wp2_with fail
  refine (HL.out _).mono ?_
  rintro e w1 ⟨rfl, hw1⟩
  obtain rfl := hw1.symm
  clear hw1
  go_wp2_with fail
  refine (HK.out _).mono ?_
  rintro e w1 ⟨rfl, hw1⟩
  obtain rfl := hw1.symm
  clear hw1
  go_wp2_with fail
  obtain ⟨w2, hw2⟩ : ∃ w2, w2 = (World.alloc (World.alloc w (.cells #[.int .i64 g.link, .int .i64 g.p, .int .i64 g.node, .bool true, .int .i64 g.key, .int .i64 (g.reads : Int), .bool g.over, .int .i64 g.cell] 90)) (.cells #[.int .i64 0, .int .i64 0, .int .i64 0, .int .i64 0] 51)) := ⟨_, rfl⟩
  have HB2 : Hid (Below w.heap.size w w2) := by rw [hw2]; exact bl2 _ _ _
  have HG0 : Hid (w2.heap[w.heap.size]? = some (.cells #[.int .i64 g.link, .int .i64 g.p, .int .i64 g.node, .bool true, .int .i64 g.key, .int .i64 (g.reads : Int), .bool g.over, .int .i64 g.cell] 90 (0, 0))) := by rw [hw2]; exact hp_past (hp_at (by simp))
  have HG1 : Hid (w2.heap[w.heap.size + 1]? = some (.cells #[.int .i64 0, .int .i64 0, .int .i64 0, .int .i64 0] 51 (0, 0))) := by rw [hw2]; exact hp_at (by simp)
  rw [← hw2]
  clear hw2
  refine (HR.out w2 _).mono ?_
  rintro e w4 h4
  obtain ⟨cs, w5, rfl, hz, hst, hr, hold, _⟩ := tl_put (w := w) (R := w.heap.size + 1) h4 HG1.out rfl HB2.out (by omega)
  clear h4
  go_wp2_with fail
  exact ret_wn rfl rfl hr.out.1 hz rfl hr.out.2
set_option maxRecDepth 100000 in
theorem rnxt_val2 (w : World) {b n : Int} {g : Wg} {xa : Addr} {cap m : Nat} {f u : Int} (hs : g.node ≠ 0) (ha : g.at_ = true) (hl : leadV f n ≠ 0) (hm : 1 < m) (hxa : xa.block < w.heap.size) (h0 : w.cell? xa = some (.int .i64 f)) (h1 : w.cell? ⟨xa.block, xa.off + 1, none⟩ = some (.int .i64 u)) : Calls Try.prog 70 #[.int .i64 b, .int .i64 n, .agg (wgC g), .slice (some xa) m cap] w (Tl (endW u 0) w) := by
  unfold wgC
  rw [ha]
  clear ha
  have m0 : ((m : Int) == 0) = false := by simp; omega
  have m1 : ((m : Int) == 1) = false := by simp; omega
  have m2 : 0 < m := by omega
  have m3 : (1 : Int) < (m : Int) := by omega
  have _u0 := And.intro h0 h1
  clear _u0
  have xb1 : xa.block < w.heap.size + 1 := by omega
  have xb2 : xa.block < w.heap.size + 1 + 1 := by omega
  have HE : Hid (∀ (w : World) v c, Calls Try.prog 71 #[.int .i64 v, .int .i64 c] w (Tl (endW v c) w)) := fun w v c => (rend_any w v c).mono tl_of
  have HL : Hid (∀ w : World, Calls Try.prog 44 #[.int .i64 f, .int .i64 n] w fun e w' => e = .returned (.int .i64 (leadV f n)) ∧ w' = w) := fun w => by have := rleads_any w f n; exact this
  have hl0 : (leadV f n == 0) = false := by simpa using hl
  clear hl
  generalize leadV f n = d at *
  have hs0 : (g.node == 0) = false := by simpa using hs
  clear hs
  go_enter Try.func70, Try.ntmps70
  go_wp2_with fail
  refine (HL.out _).mono ?_
  rintro e w1 ⟨rfl, hw1⟩
  obtain rfl := hw1.symm
  clear hw1
  go_wp2_with fail
  obtain ⟨w2, hw2⟩ : ∃ w2, w2 = (World.alloc (World.alloc w (.cells #[.int .i64 g.link, .int .i64 g.p, .int .i64 g.node, .bool true, .int .i64 g.key, .int .i64 (g.reads : Int), .bool g.over, .int .i64 g.cell] 90)) (.cells #[.int .i64 0, .int .i64 0, .int .i64 0, .int .i64 0] 51)) := ⟨_, rfl⟩
  have HB2 : Hid (Below w.heap.size w w2) := by rw [hw2]; exact bl2 _ _ _
  have HG0 : Hid (w2.heap[w.heap.size]? = some (.cells #[.int .i64 g.link, .int .i64 g.p, .int .i64 g.node, .bool true, .int .i64 g.key, .int .i64 (g.reads : Int), .bool g.over, .int .i64 g.cell] 90 (0, 0))) := by rw [hw2]; exact hp_past (hp_at (by simp))
  have HG1 : Hid (w2.heap[w.heap.size + 1]? = some (.cells #[.int .i64 0, .int .i64 0, .int .i64 0, .int .i64 0] 51 (0, 0))) := by rw [hw2]; exact hp_at (by simp)
  rw [← hw2]
  clear hw2
  refine (HE.out w2 _ _).mono ?_
  rintro e w4 h4
  obtain ⟨cs, w5, rfl, hz, hst, hr, hold, _⟩ := tl_put (w := w) (R := w.heap.size + 1) h4 HG1.out rfl HB2.out (by omega)
  clear h4
  go_wp2_with fail
  exact ret_wn rfl rfl hr.out.1 hz rfl hr.out.2
set_option maxRecDepth 100000 in
theorem rdels_none0 (w : World) {b wr : Int} {g : Wg} {a : Option Addr} {cap : Nat} (ha : g.at_ = false)  : Calls Try.prog 69 #[.int .i64 b, .agg (wgC g), .slice a 0 cap, .int .i64 wr] w (Tl (endW 0 1) w) := by
  unfold wgC
  rw [ha]
  clear ha
  have HE : Hid (∀ (w : World) v c, Calls Try.prog 71 #[.int .i64 v, .int .i64 c] w (Tl (endW v c) w)) := fun w v c => (rend_any w v c).mono tl_of
  go_enter Try.func69, Try.ntmps69
  go_wp2_with fail
  obtain ⟨w2, hw2⟩ : ∃ w2, w2 = (World.alloc (World.alloc w (.cells #[.int .i64 g.link, .int .i64 g.p, .int .i64 g.node, .bool false, .int .i64 g.key, .int .i64 (g.reads : Int), .bool g.over, .int .i64 g.cell] 90)) (.cells #[.int .i64 0, .int .i64 0, .int .i64 0, .int .i64 0] 51)) := ⟨_, rfl⟩
  have HB2 : Hid (Below w.heap.size w w2) := by rw [hw2]; exact bl2 _ _ _
  have HG0 : Hid (w2.heap[w.heap.size]? = some (.cells #[.int .i64 g.link, .int .i64 g.p, .int .i64 g.node, .bool false, .int .i64 g.key, .int .i64 (g.reads : Int), .bool g.over, .int .i64 g.cell] 90 (0, 0))) := by rw [hw2]; exact hp_past (hp_at (by simp))
  have HG1 : Hid (w2.heap[w.heap.size + 1]? = some (.cells #[.int .i64 0, .int .i64 0, .int .i64 0, .int .i64 0] 51 (0, 0))) := by rw [hw2]; exact hp_at (by simp)
  rw [← hw2]
  clear hw2
  refine (HE.out w2 _ _).mono ?_
  rintro e w4 h4
  obtain ⟨cs, w5, rfl, hz, hst, hr, hold, _⟩ := tl_put (w := w) (R := w.heap.size + 1) h4 HG1.out rfl HB2.out (by omega)
  clear h4
  go_wp2_with fail
  exact ret_wn rfl rfl hr.out.1 hz rfl hr.out.2
set_option maxRecDepth 100000 in
theorem rdels_none1 (w : World) {b wr : Int} {g : Wg} {xa : Addr} {cap : Nat} {f : Int} (ha : g.at_ = false) (hxa : xa.block < w.heap.size) (h0 : w.cell? xa = some (.int .i64 f)) : Calls Try.prog 69 #[.int .i64 b, .agg (wgC g), .slice (some xa) 1 cap, .int .i64 wr] w (Tl (endW 0 1) w) := by
  unfold wgC
  rw [ha]
  clear ha
  have _u0 := h0
  clear _u0
  have xb1 : xa.block < w.heap.size + 1 := by omega
  have xb2 : xa.block < w.heap.size + 1 + 1 := by omega
  have HE : Hid (∀ (w : World) v c, Calls Try.prog 71 #[.int .i64 v, .int .i64 c] w (Tl (endW v c) w)) := fun w v c => (rend_any w v c).mono tl_of
  go_enter Try.func69, Try.ntmps69
  go_wp2_with fail
  obtain ⟨w2, hw2⟩ : ∃ w2, w2 = (World.alloc (World.alloc w (.cells #[.int .i64 g.link, .int .i64 g.p, .int .i64 g.node, .bool false, .int .i64 g.key, .int .i64 (g.reads : Int), .bool g.over, .int .i64 g.cell] 90)) (.cells #[.int .i64 0, .int .i64 0, .int .i64 0, .int .i64 0] 51)) := ⟨_, rfl⟩
  have HB2 : Hid (Below w.heap.size w w2) := by rw [hw2]; exact bl2 _ _ _
  have HG0 : Hid (w2.heap[w.heap.size]? = some (.cells #[.int .i64 g.link, .int .i64 g.p, .int .i64 g.node, .bool false, .int .i64 g.key, .int .i64 (g.reads : Int), .bool g.over, .int .i64 g.cell] 90 (0, 0))) := by rw [hw2]; exact hp_past (hp_at (by simp))
  have HG1 : Hid (w2.heap[w.heap.size + 1]? = some (.cells #[.int .i64 0, .int .i64 0, .int .i64 0, .int .i64 0] 51 (0, 0))) := by rw [hw2]; exact hp_at (by simp)
  rw [← hw2]
  clear hw2
  refine (HE.out w2 _ _).mono ?_
  rintro e w4 h4
  obtain ⟨cs, w5, rfl, hz, hst, hr, hold, _⟩ := tl_put (w := w) (R := w.heap.size + 1) h4 HG1.out rfl HB2.out (by omega)
  clear h4
  go_wp2_with fail
  exact ret_wn rfl rfl hr.out.1 hz rfl hr.out.2
set_option maxRecDepth 100000 in
theorem rdels_none2 (w : World) {b wr : Int} {g : Wg} {xa : Addr} {cap m : Nat} {f u : Int} (ha : g.at_ = false) (hm : 1 < m) (hxa : xa.block < w.heap.size) (h0 : w.cell? xa = some (.int .i64 f)) (h1 : w.cell? ⟨xa.block, xa.off + 1, none⟩ = some (.int .i64 u)) : Calls Try.prog 69 #[.int .i64 b, .agg (wgC g), .slice (some xa) m cap, .int .i64 wr] w (Tl (endW 0 1) w) := by
  unfold wgC
  rw [ha]
  clear ha
  have m0 : ((m : Int) == 0) = false := by simp; omega
  have m1 : ((m : Int) == 1) = false := by simp; omega
  have m2 : 0 < m := by omega
  have m3 : (1 : Int) < (m : Int) := by omega
  have _u0 := And.intro h0 h1
  clear _u0
  have xb1 : xa.block < w.heap.size + 1 := by omega
  have xb2 : xa.block < w.heap.size + 1 + 1 := by omega
  have HE : Hid (∀ (w : World) v c, Calls Try.prog 71 #[.int .i64 v, .int .i64 c] w (Tl (endW v c) w)) := fun w v c => (rend_any w v c).mono tl_of
  go_enter Try.func69, Try.ntmps69
  go_wp2_with fail
  obtain ⟨w2, hw2⟩ : ∃ w2, w2 = (World.alloc (World.alloc w (.cells #[.int .i64 g.link, .int .i64 g.p, .int .i64 g.node, .bool false, .int .i64 g.key, .int .i64 (g.reads : Int), .bool g.over, .int .i64 g.cell] 90)) (.cells #[.int .i64 0, .int .i64 0, .int .i64 0, .int .i64 0] 51)) := ⟨_, rfl⟩
  have HB2 : Hid (Below w.heap.size w w2) := by rw [hw2]; exact bl2 _ _ _
  have HG0 : Hid (w2.heap[w.heap.size]? = some (.cells #[.int .i64 g.link, .int .i64 g.p, .int .i64 g.node, .bool false, .int .i64 g.key, .int .i64 (g.reads : Int), .bool g.over, .int .i64 g.cell] 90 (0, 0))) := by rw [hw2]; exact hp_past (hp_at (by simp))
  have HG1 : Hid (w2.heap[w.heap.size + 1]? = some (.cells #[.int .i64 0, .int .i64 0, .int .i64 0, .int .i64 0] 51 (0, 0))) := by rw [hw2]; exact hp_at (by simp)
  rw [← hw2]
  clear hw2
  refine (HE.out w2 _ _).mono ?_
  rintro e w4 h4
  obtain ⟨cs, w5, rfl, hz, hst, hr, hold, _⟩ := tl_put (w := w) (R := w.heap.size + 1) h4 HG1.out rfl HB2.out (by omega)
  clear h4
  go_wp2_with fail
  exact ret_wn rfl rfl hr.out.1 hz rfl hr.out.2
set_option maxRecDepth 100000 in
theorem rdels_0 (w : World) {b wr : Int} {g : Wg} {a : Option Addr} {cap : Nat} (ha : g.at_ = true) (hb : 0 ≤ b ∧ b ≤ 1024) (hd : 0 ≤ g.node ∧ g.node ≤ 16)  : Calls Try.prog 69 #[.int .i64 b, .agg (wgC g), .slice a 0 cap, .int .i64 wr] w (Tl (readW (b + nxtV g.node)) w) := by
  unfold wgC
  rw [ha]
  clear ha
  have HR : Hid (∀ (w : World) c, Calls Try.prog 67 #[.int .i64 c] w (Tl (readW c) w)) := fun w c => (rread_any w c).mono tl_of
  have hy : 0 ≤ g.node ∧ g.node ≤ 100 := by omega
  have HN : Hid (∀ w : World, Calls Try.prog 45 #[.int .i64 g.node] w fun e w' => e = .returned (.int .i64 (nxtV g.node)) ∧ w' = w) := fun w => rlink_any w hy
  have hw : wrap64 (b + nxtV g.node) = b + nxtV g.node := by unfold wrap64 nxtV keyV; omega
  clear hb hd hy
  generalize nxtV g.node = y1 at *
  go_enter Try.func69, Try.ntmps69
  go_wp2_with fail
  refine (HN.out _).mono ?_
  rintro e w1 ⟨rfl, hw1⟩
  obtain rfl := hw1.symm
  clear hw1
  go_wp2_with fail
  obtain ⟨w2, hw2⟩ : ∃ w2, w2 = (World.alloc (World.alloc w (.cells #[.int .i64 g.link, .int .i64 g.p, .int .i64 g.node, .bool true, .int .i64 g.key, .int .i64 (g.reads : Int), .bool g.over, .int .i64 g.cell] 90)) (.cells #[.int .i64 0, .int .i64 0, .int .i64 0, .int .i64 0] 51)) := ⟨_, rfl⟩
  have HB2 : Hid (Below w.heap.size w w2) := by rw [hw2]; exact bl2 _ _ _
  have HG0 : Hid (w2.heap[w.heap.size]? = some (.cells #[.int .i64 g.link, .int .i64 g.p, .int .i64 g.node, .bool true, .int .i64 g.key, .int .i64 (g.reads : Int), .bool g.over, .int .i64 g.cell] 90 (0, 0))) := by rw [hw2]; exact hp_past (hp_at (by simp))
  have HG1 : Hid (w2.heap[w.heap.size + 1]? = some (.cells #[.int .i64 0, .int .i64 0, .int .i64 0, .int .i64 0] 51 (0, 0))) := by rw [hw2]; exact hp_at (by simp)
  rw [← hw2]
  clear hw2
  refine (HR.out w2 _).mono ?_
  rintro e w4 h4
  obtain ⟨cs, w5, rfl, hz, hst, hr, hold, _⟩ := tl_put (w := w) (R := w.heap.size + 1) h4 HG1.out rfl HB2.out (by omega)
  clear h4
  go_wp2_with fail
  exact ret_wn rfl rfl hr.out.1 hz rfl hr.out.2
set_option maxRecDepth 100000 in
theorem rdels_put1 (w : World) {b wr : Int} {g : Wg} {xa : Addr} {cap : Nat} {f : Int} (ha : g.at_ = true) (hb : 0 ≤ b ∧ b ≤ 1024) (hd : 0 ≤ g.link ∧ g.link ≤ 100) (h00 : wr = 0) (hxa : xa.block < w.heap.size) (h0 : w.cell? xa = some (.int .i64 f)) : Calls Try.prog 69 #[.int .i64 b, .agg (wgC g), .slice (some xa) 1 cap, .int .i64 wr] w (Tl (putW (b + g.link) f) w) := by
  unfold wgC
  rw [ha]
  clear ha
  have _u0 := h0
  clear _u0
  have xb1 : xa.block < w.heap.size + 1 := by omega
  have xb2 : xa.block < w.heap.size + 1 + 1 := by omega
  have HP : Hid (∀ (w : World) c v, Calls Try.prog 83 #[.int .i64 c, .int .i64 v] w (Tl (putW c v) w)) := fun w c v => (rput_any w c v).mono tl_of
  subst h00
  have HW : Hid (IntKind.i64.wrap (b + g.link) = b + g.link) := by have : IntKind.i64.wrap (b + g.link) = b + g.link := (by rw [IntKind.wrap_i64]; omega); exact this
  have HXA : Hid (xa.block < w.heap.size) := hxa
  have HC0 : Hid (w.cell? xa = some (.int .i64 f)) := h0
  clear hb hd
  go_enter Try.func69, Try.ntmps69
  go_wp2_with fail
  obtain ⟨w2, hw2⟩ : ∃ w2, w2 = (World.alloc (World.alloc w (.cells #[.int .i64 g.link, .int .i64 g.p, .int .i64 g.node, .bool true, .int .i64 g.key, .int .i64 (g.reads : Int), .bool g.over, .int .i64 g.cell] 90)) (.cells #[.int .i64 0, .int .i64 0, .int .i64 0, .int .i64 0] 51)) := ⟨_, rfl⟩
  have HB2 : Hid (Below w.heap.size w w2) := by rw [hw2]; exact bl2 _ _ _
  have HG0 : Hid (w2.heap[w.heap.size]? = some (.cells #[.int .i64 g.link, .int .i64 g.p, .int .i64 g.node, .bool true, .int .i64 g.key, .int .i64 (g.reads : Int), .bool g.over, .int .i64 g.cell] 90 (0, 0))) := by rw [hw2]; exact hp_past (hp_at (by simp))
  have HG1 : Hid (w2.heap[w.heap.size + 1]? = some (.cells #[.int .i64 0, .int .i64 0, .int .i64 0, .int .i64 0] 51 (0, 0))) := by rw [hw2]; exact hp_at (by simp)
  rw [← hw2]
  clear hw2
  have HP2 : Hid (∀ w3 : World, Calls Try.prog 83 #[.int .i64 (IntKind.i64.wrap (b + g.link)), .int .i64 f] w3 (Tl (putW (b + g.link) f) w3)) := fun w3 => by rw [HW.out]; exact HP.out w3 _ _
  have HP3 : Hid (∀ w3 : World, Calls Try.prog 83 #[.int .i64 (wrap64 (b + g.link)), .int .i64 f] w3 (Tl (putW (b + g.link) f) w3)) := fun w3 => by have h9 := HW.out; rw [IntKind.wrap_i64] at h9; unfold wrap64; rw [h9]; exact HP.out w3 _ _
  clear h0 HP
  have HS : Hid (∀ w' : World, (∀ q, q < w2.heap.size → q ≠ w.heap.size + 1 → w'.heap[q]? = w2.heap[q]?) → w'.cell? ⟨w.heap.size, 0, none⟩ = some (.int .i64 g.link) ∧ w'.cell? xa = some (.int .i64 f)) := fun w' hq => ⟨(by rw [cell_at ((hq _ (heap_lt HG0.out) (by omega)).trans HG0.out)]; rfl), (by have h9 := HC0.out; rw [← h9]; unfold World.cell?; rw [hq _ (Nat.lt_of_lt_of_le HXA.out HB2.out.size) (by have := HXA.out; first | omega | (simp only; omega)), HB2.out.block _ HXA.out])⟩
  obtain ⟨s0, s1⟩ := HS.out w2 (fun _ _ _ => rfl)
  have y0 : w.heap.size < w2.heap.size := heap_lt HG0.out
  have y1 : xa.block < w2.heap.size := Nat.lt_of_lt_of_le HXA.out HB2.out.size
  go_region_held3 (fun w' => w'.cell? ⟨w.heap.size, 0, none⟩ = some (.int .i64 g.link) ∧ w'.cell? xa = some (.int .i64 f)) (first | go_keep | exact hS | exact hS5) (first
    | (go_at_call 83; (first | refine (HP2.out _).mono ?_ | refine (HP3.out _).mono ?_); rintro e w4 h4; obtain ⟨cs, w5, rfl, hz, hst, hr, hold, _⟩ := tl_put (w := w) (R := w.heap.size + 1) h4 (by first | exact HG1.out | (rw [(bl_drew1 w2).block _ (heap_lt HG1.out)]; exact HG1.out)) rfl (by first | exact HB2.out | exact below_then HB2.out (bl_drew1 _)) (by omega); have hS : w4.cell? ⟨w.heap.size, 0, none⟩ = some (.int .i64 g.link) ∧ w4.cell? xa = some (.int .i64 f) := HS.out w4 (fun q hq _ => (below_then (bl_drew1 _) h4.bel).block q hq); have hS5 : w5.cell? ⟨w.heap.size, 0, none⟩ = some (.int .i64 g.link) ∧ w5.cell? xa = some (.int .i64 f) := HS.out w5 (fun q hq hqr => hold.out q hq hqr); clear h4))
  all_goals (go_wp2_with fail; exact ret_wn rfl rfl hr.out.1 hz rfl hr.out.2)
set_option maxRecDepth 100000 in
theorem rdels_put2 (w : World) {b wr : Int} {g : Wg} {xa : Addr} {cap m : Nat} {f u : Int} (ha : g.at_ = true) (hb : 0 ≤ b ∧ b ≤ 1024) (hd : 0 ≤ g.link ∧ g.link ≤ 100) (h00 : wr = 0) (hm : 1 < m) (hxa : xa.block < w.heap.size) (h0 : w.cell? xa = some (.int .i64 f)) (h1 : w.cell? ⟨xa.block, xa.off + 1, none⟩ = some (.int .i64 u)) : Calls Try.prog 69 #[.int .i64 b, .agg (wgC g), .slice (some xa) m cap, .int .i64 wr] w (Tl (putW (b + g.link) f) w) := by
  unfold wgC
  rw [ha]
  clear ha
  have m0 : ((m : Int) == 0) = false := by simp; omega
  have m1 : ((m : Int) == 1) = false := by simp; omega
  have m2 : 0 < m := by omega
  have m3 : (1 : Int) < (m : Int) := by omega
  have _u0 := And.intro h0 h1
  clear _u0
  have xb1 : xa.block < w.heap.size + 1 := by omega
  have xb2 : xa.block < w.heap.size + 1 + 1 := by omega
  have HP : Hid (∀ (w : World) c v, Calls Try.prog 83 #[.int .i64 c, .int .i64 v] w (Tl (putW c v) w)) := fun w c v => (rput_any w c v).mono tl_of
  subst h00
  have HW : Hid (IntKind.i64.wrap (b + g.link) = b + g.link) := by have : IntKind.i64.wrap (b + g.link) = b + g.link := (by rw [IntKind.wrap_i64]; omega); exact this
  have HXA : Hid (xa.block < w.heap.size) := hxa
  have HC0 : Hid (w.cell? xa = some (.int .i64 f)) := h0
  have HC1 : Hid (w.cell? ⟨xa.block, xa.off + 1, none⟩ = some (.int .i64 u)) := h1
  clear hb hd
  go_enter Try.func69, Try.ntmps69
  go_wp2_with fail
  obtain ⟨w2, hw2⟩ : ∃ w2, w2 = (World.alloc (World.alloc w (.cells #[.int .i64 g.link, .int .i64 g.p, .int .i64 g.node, .bool true, .int .i64 g.key, .int .i64 (g.reads : Int), .bool g.over, .int .i64 g.cell] 90)) (.cells #[.int .i64 0, .int .i64 0, .int .i64 0, .int .i64 0] 51)) := ⟨_, rfl⟩
  have HB2 : Hid (Below w.heap.size w w2) := by rw [hw2]; exact bl2 _ _ _
  have HG0 : Hid (w2.heap[w.heap.size]? = some (.cells #[.int .i64 g.link, .int .i64 g.p, .int .i64 g.node, .bool true, .int .i64 g.key, .int .i64 (g.reads : Int), .bool g.over, .int .i64 g.cell] 90 (0, 0))) := by rw [hw2]; exact hp_past (hp_at (by simp))
  have HG1 : Hid (w2.heap[w.heap.size + 1]? = some (.cells #[.int .i64 0, .int .i64 0, .int .i64 0, .int .i64 0] 51 (0, 0))) := by rw [hw2]; exact hp_at (by simp)
  rw [← hw2]
  clear hw2
  have HP2 : Hid (∀ w3 : World, Calls Try.prog 83 #[.int .i64 (IntKind.i64.wrap (b + g.link)), .int .i64 f] w3 (Tl (putW (b + g.link) f) w3)) := fun w3 => by rw [HW.out]; exact HP.out w3 _ _
  have HP3 : Hid (∀ w3 : World, Calls Try.prog 83 #[.int .i64 (wrap64 (b + g.link)), .int .i64 f] w3 (Tl (putW (b + g.link) f) w3)) := fun w3 => by have h9 := HW.out; rw [IntKind.wrap_i64] at h9; unfold wrap64; rw [h9]; exact HP.out w3 _ _
  clear h0 HP h1
  have HS : Hid (∀ w' : World, (∀ q, q < w2.heap.size → q ≠ w.heap.size + 1 → w'.heap[q]? = w2.heap[q]?) → w'.cell? ⟨w.heap.size, 0, none⟩ = some (.int .i64 g.link) ∧ w'.cell? xa = some (.int .i64 f)) := fun w' hq => ⟨(by rw [cell_at ((hq _ (heap_lt HG0.out) (by omega)).trans HG0.out)]; rfl), (by have h9 := HC0.out; rw [← h9]; unfold World.cell?; rw [hq _ (Nat.lt_of_lt_of_le HXA.out HB2.out.size) (by have := HXA.out; first | omega | (simp only; omega)), HB2.out.block _ HXA.out])⟩
  obtain ⟨s0, s1⟩ := HS.out w2 (fun _ _ _ => rfl)
  have y0 : w.heap.size < w2.heap.size := heap_lt HG0.out
  have y1 : xa.block < w2.heap.size := Nat.lt_of_lt_of_le HXA.out HB2.out.size
  go_region_held3 (fun w' => w'.cell? ⟨w.heap.size, 0, none⟩ = some (.int .i64 g.link) ∧ w'.cell? xa = some (.int .i64 f)) (first | go_keep | exact hS | exact hS5) (first
    | (go_at_call 83; (first | refine (HP2.out _).mono ?_ | refine (HP3.out _).mono ?_); rintro e w4 h4; obtain ⟨cs, w5, rfl, hz, hst, hr, hold, _⟩ := tl_put (w := w) (R := w.heap.size + 1) h4 (by first | exact HG1.out | (rw [(bl_drew1 w2).block _ (heap_lt HG1.out)]; exact HG1.out)) rfl (by first | exact HB2.out | exact below_then HB2.out (bl_drew1 _)) (by omega); have hS : w4.cell? ⟨w.heap.size, 0, none⟩ = some (.int .i64 g.link) ∧ w4.cell? xa = some (.int .i64 f) := HS.out w4 (fun q hq _ => (below_then (bl_drew1 _) h4.bel).block q hq); have hS5 : w5.cell? ⟨w.heap.size, 0, none⟩ = some (.int .i64 g.link) ∧ w5.cell? xa = some (.int .i64 f) := HS.out w5 (fun q hq hqr => hold.out q hq hqr); clear h4))
  all_goals (go_wp2_with fail; exact ret_wn rfl rfl hr.out.1 hz rfl hr.out.2)
set_option maxRecDepth 100000 in
theorem rdels_free (w : World) {b wr : Int} {g : Wg} {xa : Addr} {cap : Nat} {f : Int} (ha : g.at_ = true) (hb : 0 ≤ b ∧ b ≤ 1024) (h00 : wr ≠ 0) (hxa : xa.block < w.heap.size) (h0 : w.cell? xa = some (.int .i64 f)) : Calls Try.prog 69 #[.int .i64 b, .agg (wgC g), .slice (some xa) 1 cap, .int .i64 wr] w (Tl (readW (b + 1)) w) := by
  unfold wgC
  rw [ha]
  clear ha
  have _u0 := h0
  clear _u0
  have xb1 : xa.block < w.heap.size + 1 := by omega
  have xb2 : xa.block < w.heap.size + 1 + 1 := by omega
  have HR : Hid (∀ (w : World) c, Calls Try.prog 67 #[.int .i64 c] w (Tl (readW c) w)) := fun w c => (rread_any w c).mono tl_of
  have h9 : (wr == 0) = false := by simpa using h00
  have hw : wrap64 (b + 1) = b + 1 := by unfold wrap64; omega
  clear hb h00
  go_enter Try.func69, Try.ntmps69
  go_wp2_with fail
  obtain ⟨w2, hw2⟩ : ∃ w2, w2 = (World.alloc (World.alloc w (.cells #[.int .i64 g.link, .int .i64 g.p, .int .i64 g.node, .bool true, .int .i64 g.key, .int .i64 (g.reads : Int), .bool g.over, .int .i64 g.cell] 90)) (.cells #[.int .i64 0, .int .i64 0, .int .i64 0, .int .i64 0] 51)) := ⟨_, rfl⟩
  have HB2 : Hid (Below w.heap.size w w2) := by rw [hw2]; exact bl2 _ _ _
  have HG0 : Hid (w2.heap[w.heap.size]? = some (.cells #[.int .i64 g.link, .int .i64 g.p, .int .i64 g.node, .bool true, .int .i64 g.key, .int .i64 (g.reads : Int), .bool g.over, .int .i64 g.cell] 90 (0, 0))) := by rw [hw2]; exact hp_past (hp_at (by simp))
  have HG1 : Hid (w2.heap[w.heap.size + 1]? = some (.cells #[.int .i64 0, .int .i64 0, .int .i64 0, .int .i64 0] 51 (0, 0))) := by rw [hw2]; exact hp_at (by simp)
  rw [← hw2]
  clear hw2
  refine (HR.out w2 _).mono ?_
  rintro e w4 h4
  obtain ⟨cs, w5, rfl, hz, hst, hr, hold, _⟩ := tl_put (w := w) (R := w.heap.size + 1) h4 HG1.out rfl HB2.out (by omega)
  clear h4
  go_wp2_with fail
  exact ret_wn rfl rfl hr.out.1 hz rfl hr.out.2
set_option maxRecDepth 100000 in
theorem rdels_next (w : World) {b wr : Int} {g : Wg} {xa : Addr} {cap m : Nat} {f u : Int} (ha : g.at_ = true) (hb : 0 ≤ b ∧ b ≤ 1024) (hd : 0 ≤ g.node ∧ g.node ≤ 16) (h00 : wr = 1) (hm : 1 < m) (hxa : xa.block < w.heap.size) (h0 : w.cell? xa = some (.int .i64 f)) (h1 : w.cell? ⟨xa.block, xa.off + 1, none⟩ = some (.int .i64 u)) : Calls Try.prog 69 #[.int .i64 b, .agg (wgC g), .slice (some xa) m cap, .int .i64 wr] w (Tl (putW (b + nxtV g.node) u) w) := by
  unfold wgC
  rw [ha]
  clear ha
  have m0 : ((m : Int) == 0) = false := by simp; omega
  have m1 : ((m : Int) == 1) = false := by simp; omega
  have m2 : 0 < m := by omega
  have m3 : (1 : Int) < (m : Int) := by omega
  have _u0 := And.intro h0 h1
  clear _u0
  have xb1 : xa.block < w.heap.size + 1 := by omega
  have xb2 : xa.block < w.heap.size + 1 + 1 := by omega
  have HP : Hid (∀ (w : World) c v, Calls Try.prog 83 #[.int .i64 c, .int .i64 v] w (Tl (putW c v) w)) := fun w c v => (rput_any w c v).mono tl_of
  subst h00
  have hy : 0 ≤ g.node ∧ g.node ≤ 100 := by omega
  have HN : Hid (∀ w : World, Calls Try.prog 45 #[.int .i64 g.node] w fun e w' => e = .returned (.int .i64 (nxtV g.node)) ∧ Below w.heap.size w w') := fun w => (rlink_any w hy).mono (fun e w' h => ⟨h.1, by rw [h.2]; exact Below.refl _ _⟩)
  have HW : Hid (IntKind.i64.wrap (b + nxtV g.node) = b + nxtV g.node) := by have : IntKind.i64.wrap (b + nxtV g.node) = b + nxtV g.node := (by rw [IntKind.wrap_i64]; unfold nxtV keyV; omega); exact this
  clear hb hd hy
  have HXA : Hid (xa.block < w.heap.size) := hxa
  have HC0 : Hid (w.cell? xa = some (.int .i64 f)) := h0
  have HC1 : Hid (w.cell? ⟨xa.block, xa.off + 1, none⟩ = some (.int .i64 u)) := h1
  generalize nxtV g.node = y1 at *
  go_enter Try.func69, Try.ntmps69
  go_wp2_with fail
  obtain ⟨w2, hw2⟩ : ∃ w2, w2 = (World.alloc (World.alloc w (.cells #[.int .i64 g.link, .int .i64 g.p, .int .i64 g.node, .bool true, .int .i64 g.key, .int .i64 (g.reads : Int), .bool g.over, .int .i64 g.cell] 90)) (.cells #[.int .i64 0, .int .i64 0, .int .i64 0, .int .i64 0] 51)) := ⟨_, rfl⟩
  have HB2 : Hid (Below w.heap.size w w2) := by rw [hw2]; exact bl2 _ _ _
  have HG0 : Hid (w2.heap[w.heap.size]? = some (.cells #[.int .i64 g.link, .int .i64 g.p, .int .i64 g.node, .bool true, .int .i64 g.key, .int .i64 (g.reads : Int), .bool g.over, .int .i64 g.cell] 90 (0, 0))) := by rw [hw2]; exact hp_past (hp_at (by simp))
  have HG1 : Hid (w2.heap[w.heap.size + 1]? = some (.cells #[.int .i64 0, .int .i64 0, .int .i64 0, .int .i64 0] 51 (0, 0))) := by rw [hw2]; exact hp_at (by simp)
  rw [← hw2]
  clear hw2
  have HP2 : Hid (∀ w3 : World, Calls Try.prog 83 #[.int .i64 (IntKind.i64.wrap (b + y1)), .int .i64 u] w3 (Tl (putW (b + y1) u) w3)) := fun w3 => by rw [HW.out]; exact HP.out w3 _ _
  have HP3 : Hid (∀ w3 : World, Calls Try.prog 83 #[.int .i64 (wrap64 (b + y1)), .int .i64 u] w3 (Tl (putW (b + y1) u) w3)) := fun w3 => by have h9 := HW.out; rw [IntKind.wrap_i64] at h9; unfold wrap64; rw [h9]; exact HP.out w3 _ _
  clear h0 h1 HP
  have HS : Hid (∀ w' : World, (∀ q, q < w2.heap.size → q ≠ w.heap.size + 1 → w'.heap[q]? = w2.heap[q]?) → w'.cell? ⟨w.heap.size, 2, none⟩ = some (.int .i64 g.node) ∧ w'.cell? ⟨xa.block, xa.off + 1, none⟩ = some (.int .i64 u)) := fun w' hq => ⟨(by rw [cell_at ((hq _ (heap_lt HG0.out) (by omega)).trans HG0.out)]; rfl), (by have h9 := HC1.out; rw [← h9]; unfold World.cell?; rw [hq _ (Nat.lt_of_lt_of_le HXA.out HB2.out.size) (by have := HXA.out; first | omega | (simp only; omega)), HB2.out.block _ HXA.out])⟩
  obtain ⟨s0, s1⟩ := HS.out w2 (fun _ _ _ => rfl)
  have y0 : w.heap.size < w2.heap.size := heap_lt HG0.out
  have y1 : xa.block < w2.heap.size := Nat.lt_of_lt_of_le HXA.out HB2.out.size
  go_region_held3 (fun w' => w'.cell? ⟨w.heap.size, 2, none⟩ = some (.int .i64 g.node) ∧ w'.cell? ⟨xa.block, xa.off + 1, none⟩ = some (.int .i64 u)) (first | go_keep | exact hS | exact hS5) (first
    | (go_at_call 45; refine (HN.out _).mono ?_; rintro e w3 ⟨rfl, hb3⟩; have HB3 : Hid (Below w2.heap.size w2 w3) := below_then (bl_drew1 _) hb3; have hS : w3.cell? ⟨w.heap.size, 2, none⟩ = some (.int .i64 g.node) ∧ w3.cell? ⟨xa.block, xa.off + 1, none⟩ = some (.int .i64 u) := HS.out w3 (fun q hq _ => HB3.out.block q hq); clear hb3)
    | (go_at_call 83; (first | refine (HP2.out _).mono ?_ | refine (HP3.out _).mono ?_); rintro e w4 h4; obtain ⟨cs, w5, rfl, hz, hst, hr, hold, _⟩ := tl_put (w := w) (R := w.heap.size + 1) h4 (by rw [HB3.out.block _ (heap_lt HG1.out)]; exact HG1.out) rfl (below_then HB2.out HB3.out) (by omega); have hS : w4.cell? ⟨w.heap.size, 2, none⟩ = some (.int .i64 g.node) ∧ w4.cell? ⟨xa.block, xa.off + 1, none⟩ = some (.int .i64 u) := HS.out w4 (fun q hq _ => (h4.bel.block q (Nat.lt_of_lt_of_le hq HB3.out.size)).trans (HB3.out.block q hq)); have hS5 : w5.cell? ⟨w.heap.size, 2, none⟩ = some (.int .i64 g.node) ∧ w5.cell? ⟨xa.block, xa.off + 1, none⟩ = some (.int .i64 u) := HS.out w5 (fun q hq hqr => (hold.out q (Nat.lt_of_lt_of_le hq HB3.out.size) hqr).trans (HB3.out.block q hq)); clear h4))
  all_goals (go_wp2_with fail; exact ret_wn rfl rfl hr.out.1 hz rfl hr.out.2)
set_option maxRecDepth 100000 in
theorem rdels_free2 (w : World) {b wr : Int} {g : Wg} {xa : Addr} {cap m : Nat} {f u : Int} (ha : g.at_ = true) (hb : 0 ≤ b ∧ b ≤ 1024) (h00 : wr = 2) (hm : 1 < m) (hxa : xa.block < w.heap.size) (h0 : w.cell? xa = some (.int .i64 f)) (h1 : w.cell? ⟨xa.block, xa.off + 1, none⟩ = some (.int .i64 u)) : Calls Try.prog 69 #[.int .i64 b, .agg (wgC g), .slice (some xa) m cap, .int .i64 wr] w (Tl (putW (b + 1) g.node) w) := by
  unfold wgC
  rw [ha]
  clear ha
  have m0 : ((m : Int) == 0) = false := by simp; omega
  have m1 : ((m : Int) == 1) = false := by simp; omega
  have m2 : 0 < m := by omega
  have m3 : (1 : Int) < (m : Int) := by omega
  have _u0 := And.intro h0 h1
  clear _u0
  have xb1 : xa.block < w.heap.size + 1 := by omega
  have xb2 : xa.block < w.heap.size + 1 + 1 := by omega
  have HP : Hid (∀ (w : World) c v, Calls Try.prog 83 #[.int .i64 c, .int .i64 v] w (Tl (putW c v) w)) := fun w c v => (rput_any w c v).mono tl_of
  subst h00
  have hw : wrap64 (b + 1) = b + 1 := by unfold wrap64; omega
  clear hb
  go_enter Try.func69, Try.ntmps69
  go_wp2_with fail
  obtain ⟨w2, hw2⟩ : ∃ w2, w2 = (World.alloc (World.alloc w (.cells #[.int .i64 g.link, .int .i64 g.p, .int .i64 g.node, .bool true, .int .i64 g.key, .int .i64 (g.reads : Int), .bool g.over, .int .i64 g.cell] 90)) (.cells #[.int .i64 0, .int .i64 0, .int .i64 0, .int .i64 0] 51)) := ⟨_, rfl⟩
  have HB2 : Hid (Below w.heap.size w w2) := by rw [hw2]; exact bl2 _ _ _
  have HG0 : Hid (w2.heap[w.heap.size]? = some (.cells #[.int .i64 g.link, .int .i64 g.p, .int .i64 g.node, .bool true, .int .i64 g.key, .int .i64 (g.reads : Int), .bool g.over, .int .i64 g.cell] 90 (0, 0))) := by rw [hw2]; exact hp_past (hp_at (by simp))
  have HG1 : Hid (w2.heap[w.heap.size + 1]? = some (.cells #[.int .i64 0, .int .i64 0, .int .i64 0, .int .i64 0] 51 (0, 0))) := by rw [hw2]; exact hp_at (by simp)
  rw [← hw2]
  clear hw2
  refine (HP.out w2 _ _).mono ?_
  rintro e w4 h4
  obtain ⟨cs, w5, rfl, hz, hst, hr, hold, _⟩ := tl_put (w := w) (R := w.heap.size + 1) h4 HG1.out rfl HB2.out (by omega)
  clear h4
  go_wp2_with fail
  exact ret_wn rfl rfl hr.out.1 hz rfl hr.out.2
set_option maxRecDepth 100000 in
theorem rdels_end (w : World) {b wr : Int} {g : Wg} {xa : Addr} {cap m : Nat} {f u : Int} (ha : g.at_ = true) (h00 : wr ≠ 0) (h01 : wr ≠ 1) (h02 : wr ≠ 2) (hm : 1 < m) (hxa : xa.block < w.heap.size) (h0 : w.cell? xa = some (.int .i64 f)) (h1 : w.cell? ⟨xa.block, xa.off + 1, none⟩ = some (.int .i64 u)) : Calls Try.prog 69 #[.int .i64 b, .agg (wgC g), .slice (some xa) m cap, .int .i64 wr] w (Tl (endW 0 0) w) := by
  unfold wgC
  rw [ha]
  clear ha
  have m0 : ((m : Int) == 0) = false := by simp; omega
  have m1 : ((m : Int) == 1) = false := by simp; omega
  have m2 : 0 < m := by omega
  have m3 : (1 : Int) < (m : Int) := by omega
  have _u0 := And.intro h0 h1
  clear _u0
  have xb1 : xa.block < w.heap.size + 1 := by omega
  have xb2 : xa.block < w.heap.size + 1 + 1 := by omega
  have HE : Hid (∀ (w : World) v c, Calls Try.prog 71 #[.int .i64 v, .int .i64 c] w (Tl (endW v c) w)) := fun w v c => (rend_any w v c).mono tl_of
  have q0 : (wr == 0) = false := by simpa using h00
  have q1 : (wr == 1) = false := by simpa using h01
  have q2 : (wr == 2) = false := by simpa using h02
  clear h00 h01 h02
  go_enter Try.func69, Try.ntmps69
  go_wp2_with fail
  obtain ⟨w2, hw2⟩ : ∃ w2, w2 = (World.alloc (World.alloc w (.cells #[.int .i64 g.link, .int .i64 g.p, .int .i64 g.node, .bool true, .int .i64 g.key, .int .i64 (g.reads : Int), .bool g.over, .int .i64 g.cell] 90)) (.cells #[.int .i64 0, .int .i64 0, .int .i64 0, .int .i64 0] 51)) := ⟨_, rfl⟩
  have HB2 : Hid (Below w.heap.size w w2) := by rw [hw2]; exact bl2 _ _ _
  have HG0 : Hid (w2.heap[w.heap.size]? = some (.cells #[.int .i64 g.link, .int .i64 g.p, .int .i64 g.node, .bool true, .int .i64 g.key, .int .i64 (g.reads : Int), .bool g.over, .int .i64 g.cell] 90 (0, 0))) := by rw [hw2]; exact hp_past (hp_at (by simp))
  have HG1 : Hid (w2.heap[w.heap.size + 1]? = some (.cells #[.int .i64 0, .int .i64 0, .int .i64 0, .int .i64 0] 51 (0, 0))) := by rw [hw2]; exact hp_at (by simp)
  rw [← hw2]
  clear hw2
  refine (HE.out w2 _ _).mono ?_
  rintro e w4 h4
  obtain ⟨cs, w5, rfl, hz, hst, hr, hold, _⟩ := tl_put (w := w) (R := w.heap.size + 1) h4 HG1.out rfl HB2.out (by omega)
  clear h4
  go_wp2_with fail
  exact ret_wn rfl rfl hr.out.1 hz rfl hr.out.2
set_option maxRecDepth 100000 in
theorem radds_there0 (w : World) {b n k wr : Int} {g : Wg} {a : Option Addr} {cap : Nat} (ha : g.at_ = true)  : Calls Try.prog 68 #[.int .i64 b, .int .i64 n, .int .i64 k, .agg (wgC g), .slice a 0 cap, .int .i64 wr] w (Tl (endW 0 3) w) := by
  unfold wgC
  rw [ha]
  clear ha
  have HE : Hid (∀ (w : World) v c, Calls Try.prog 71 #[.int .i64 v, .int .i64 c] w (Tl (endW v c) w)) := fun w v c => (rend_any w v c).mono tl_of
  go_enter Try.func68, Try.ntmps68
  go_wp2_with fail
  obtain ⟨w2, hw2⟩ : ∃ w2, w2 = (World.alloc (World.alloc w (.cells #[.int .i64 g.link, .int .i64 g.p, .int .i64 g.node, .bool true, .int .i64 g.key, .int .i64 (g.reads : Int), .bool g.over, .int .i64 g.cell] 90)) (.cells #[.int .i64 0, .int .i64 0, .int .i64 0, .int .i64 0] 51)) := ⟨_, rfl⟩
  have HB2 : Hid (Below w.heap.size w w2) := by rw [hw2]; exact bl2 _ _ _
  have HG0 : Hid (w2.heap[w.heap.size]? = some (.cells #[.int .i64 g.link, .int .i64 g.p, .int .i64 g.node, .bool true, .int .i64 g.key, .int .i64 (g.reads : Int), .bool g.over, .int .i64 g.cell] 90 (0, 0))) := by rw [hw2]; exact hp_past (hp_at (by simp))
  have HG1 : Hid (w2.heap[w.heap.size + 1]? = some (.cells #[.int .i64 0, .int .i64 0, .int .i64 0, .int .i64 0] 51 (0, 0))) := by rw [hw2]; exact hp_at (by simp)
  rw [← hw2]
  clear hw2
  refine (HE.out w2 _ _).mono ?_
  rintro e w4 h4
  obtain ⟨cs, w5, rfl, hz, hst, hr, hold, _⟩ := tl_put (w := w) (R := w.heap.size + 1) h4 HG1.out rfl HB2.out (by omega)
  clear h4
  go_wp2_with fail
  exact ret_wn rfl rfl hr.out.1 hz rfl hr.out.2
set_option maxRecDepth 100000 in
theorem radds_there1 (w : World) {b n k wr : Int} {g : Wg} {xa : Addr} {cap : Nat} {f : Int} (ha : g.at_ = true) (hxa : xa.block < w.heap.size) (h0 : w.cell? xa = some (.int .i64 f)) : Calls Try.prog 68 #[.int .i64 b, .int .i64 n, .int .i64 k, .agg (wgC g), .slice (some xa) 1 cap, .int .i64 wr] w (Tl (endW 0 3) w) := by
  unfold wgC
  rw [ha]
  clear ha
  have _u0 := h0
  clear _u0
  have xb1 : xa.block < w.heap.size + 1 := by omega
  have xb2 : xa.block < w.heap.size + 1 + 1 := by omega
  have HE : Hid (∀ (w : World) v c, Calls Try.prog 71 #[.int .i64 v, .int .i64 c] w (Tl (endW v c) w)) := fun w v c => (rend_any w v c).mono tl_of
  go_enter Try.func68, Try.ntmps68
  go_wp2_with fail
  obtain ⟨w2, hw2⟩ : ∃ w2, w2 = (World.alloc (World.alloc w (.cells #[.int .i64 g.link, .int .i64 g.p, .int .i64 g.node, .bool true, .int .i64 g.key, .int .i64 (g.reads : Int), .bool g.over, .int .i64 g.cell] 90)) (.cells #[.int .i64 0, .int .i64 0, .int .i64 0, .int .i64 0] 51)) := ⟨_, rfl⟩
  have HB2 : Hid (Below w.heap.size w w2) := by rw [hw2]; exact bl2 _ _ _
  have HG0 : Hid (w2.heap[w.heap.size]? = some (.cells #[.int .i64 g.link, .int .i64 g.p, .int .i64 g.node, .bool true, .int .i64 g.key, .int .i64 (g.reads : Int), .bool g.over, .int .i64 g.cell] 90 (0, 0))) := by rw [hw2]; exact hp_past (hp_at (by simp))
  have HG1 : Hid (w2.heap[w.heap.size + 1]? = some (.cells #[.int .i64 0, .int .i64 0, .int .i64 0, .int .i64 0] 51 (0, 0))) := by rw [hw2]; exact hp_at (by simp)
  rw [← hw2]
  clear hw2
  refine (HE.out w2 _ _).mono ?_
  rintro e w4 h4
  obtain ⟨cs, w5, rfl, hz, hst, hr, hold, _⟩ := tl_put (w := w) (R := w.heap.size + 1) h4 HG1.out rfl HB2.out (by omega)
  clear h4
  go_wp2_with fail
  exact ret_wn rfl rfl hr.out.1 hz rfl hr.out.2
set_option maxRecDepth 100000 in
theorem radds_there2 (w : World) {b n k wr : Int} {g : Wg} {xa : Addr} {cap m : Nat} {f u : Int} (ha : g.at_ = true) (hm : 1 < m) (hxa : xa.block < w.heap.size) (h0 : w.cell? xa = some (.int .i64 f)) (h1 : w.cell? ⟨xa.block, xa.off + 1, none⟩ = some (.int .i64 u)) : Calls Try.prog 68 #[.int .i64 b, .int .i64 n, .int .i64 k, .agg (wgC g), .slice (some xa) m cap, .int .i64 wr] w (Tl (endW 0 3) w) := by
  unfold wgC
  rw [ha]
  clear ha
  have m0 : ((m : Int) == 0) = false := by simp; omega
  have m1 : ((m : Int) == 1) = false := by simp; omega
  have m2 : 0 < m := by omega
  have m3 : (1 : Int) < (m : Int) := by omega
  have _u0 := And.intro h0 h1
  clear _u0
  have xb1 : xa.block < w.heap.size + 1 := by omega
  have xb2 : xa.block < w.heap.size + 1 + 1 := by omega
  have HE : Hid (∀ (w : World) v c, Calls Try.prog 71 #[.int .i64 v, .int .i64 c] w (Tl (endW v c) w)) := fun w v c => (rend_any w v c).mono tl_of
  go_enter Try.func68, Try.ntmps68
  go_wp2_with fail
  obtain ⟨w2, hw2⟩ : ∃ w2, w2 = (World.alloc (World.alloc w (.cells #[.int .i64 g.link, .int .i64 g.p, .int .i64 g.node, .bool true, .int .i64 g.key, .int .i64 (g.reads : Int), .bool g.over, .int .i64 g.cell] 90)) (.cells #[.int .i64 0, .int .i64 0, .int .i64 0, .int .i64 0] 51)) := ⟨_, rfl⟩
  have HB2 : Hid (Below w.heap.size w w2) := by rw [hw2]; exact bl2 _ _ _
  have HG0 : Hid (w2.heap[w.heap.size]? = some (.cells #[.int .i64 g.link, .int .i64 g.p, .int .i64 g.node, .bool true, .int .i64 g.key, .int .i64 (g.reads : Int), .bool g.over, .int .i64 g.cell] 90 (0, 0))) := by rw [hw2]; exact hp_past (hp_at (by simp))
  have HG1 : Hid (w2.heap[w.heap.size + 1]? = some (.cells #[.int .i64 0, .int .i64 0, .int .i64 0, .int .i64 0] 51 (0, 0))) := by rw [hw2]; exact hp_at (by simp)
  rw [← hw2]
  clear hw2
  refine (HE.out w2 _ _).mono ?_
  rintro e w4 h4
  obtain ⟨cs, w5, rfl, hz, hst, hr, hold, _⟩ := tl_put (w := w) (R := w.heap.size + 1) h4 HG1.out rfl HB2.out (by omega)
  clear h4
  go_wp2_with fail
  exact ret_wn rfl rfl hr.out.1 hz rfl hr.out.2
set_option maxRecDepth 100000 in
theorem radds_0 (w : World) {b n k wr : Int} {g : Wg} {a : Option Addr} {cap : Nat} (ha : g.at_ = false) (hb : 0 ≤ b ∧ b ≤ 1024)  : Calls Try.prog 68 #[.int .i64 b, .int .i64 n, .int .i64 k, .agg (wgC g), .slice a 0 cap, .int .i64 wr] w (Tl (readW (b + 1)) w) := by
  unfold wgC
  rw [ha]
  clear ha
  have HR : Hid (∀ (w : World) c, Calls Try.prog 67 #[.int .i64 c] w (Tl (readW c) w)) := fun w c => (rread_any w c).mono tl_of
  have hw : wrap64 (b + 1) = b + 1 := by unfold wrap64; omega
  clear hb
  go_enter Try.func68, Try.ntmps68
  go_wp2_with fail
  obtain ⟨w2, hw2⟩ : ∃ w2, w2 = (World.alloc (World.alloc w (.cells #[.int .i64 g.link, .int .i64 g.p, .int .i64 g.node, .bool false, .int .i64 g.key, .int .i64 (g.reads : Int), .bool g.over, .int .i64 g.cell] 90)) (.cells #[.int .i64 0, .int .i64 0, .int .i64 0, .int .i64 0] 51)) := ⟨_, rfl⟩
  have HB2 : Hid (Below w.heap.size w w2) := by rw [hw2]; exact bl2 _ _ _
  have HG0 : Hid (w2.heap[w.heap.size]? = some (.cells #[.int .i64 g.link, .int .i64 g.p, .int .i64 g.node, .bool false, .int .i64 g.key, .int .i64 (g.reads : Int), .bool g.over, .int .i64 g.cell] 90 (0, 0))) := by rw [hw2]; exact hp_past (hp_at (by simp))
  have HG1 : Hid (w2.heap[w.heap.size + 1]? = some (.cells #[.int .i64 0, .int .i64 0, .int .i64 0, .int .i64 0] 51 (0, 0))) := by rw [hw2]; exact hp_at (by simp)
  rw [← hw2]
  clear hw2
  refine (HR.out w2 _).mono ?_
  rintro e w4 h4
  obtain ⟨cs, w5, rfl, hz, hst, hr, hold, _⟩ := tl_put (w := w) (R := w.heap.size + 1) h4 HG1.out rfl HB2.out (by omega)
  clear h4
  go_wp2_with fail
  exact ret_wn rfl rfl hr.out.1 hz rfl hr.out.2
set_option maxRecDepth 100000 in
theorem radds_used (w : World) {b n k wr : Int} {g : Wg} {xa : Addr} {cap : Nat} {f : Int} (ha : g.at_ = false) (hb : 0 ≤ b ∧ b ≤ 1024) (hl : leadV f n = 0) (hxa : xa.block < w.heap.size) (h0 : w.cell? xa = some (.int .i64 f)) : Calls Try.prog 68 #[.int .i64 b, .int .i64 n, .int .i64 k, .agg (wgC g), .slice (some xa) 1 cap, .int .i64 wr] w (Tl (readW (b + 2)) w) := by
  unfold wgC
  rw [ha]
  clear ha
  have _u0 := h0
  clear _u0
  have xb1 : xa.block < w.heap.size + 1 := by omega
  have xb2 : xa.block < w.heap.size + 1 + 1 := by omega
  have HR : Hid (∀ (w : World) c, Calls Try.prog 67 #[.int .i64 c] w (Tl (readW c) w)) := fun w c => (rread_any w c).mono tl_of
  have HL : Hid (∀ w : World, Calls Try.prog 44 #[.int .i64 f, .int .i64 n] w fun e w' => e = .returned (.int .i64 0) ∧ w' = w) := fun w => by have := rleads_any w f n; rw [hl] at this; exact this
  have hw : wrap64 (b + 2) = b + 2 := by unfold wrap64; omega
  clear hb hl
  go_enter Try.func68, Try.ntmps68
  go_wp2_with fail
  refine (HL.out _).mono ?_
  rintro e w1 ⟨rfl, hw1⟩
  obtain rfl := hw1.symm
  clear hw1
  go_wp2_with fail
  obtain ⟨w2, hw2⟩ : ∃ w2, w2 = (World.alloc (World.alloc (World.alloc w (.cells #[.int .i64 g.link, .int .i64 g.p, .int .i64 g.node, .bool false, .int .i64 g.key, .int .i64 (g.reads : Int), .bool g.over, .int .i64 g.cell] 90)) (.cells #[.int .i64 0, .int .i64 0, .int .i64 0, .int .i64 0] 51)) (.cells #[.int .i64 0, .int .i64 0, .int .i64 0, .int .i64 0] 51)) := ⟨_, rfl⟩
  have HB2 : Hid (Below w.heap.size w w2) := by rw [hw2]; exact bl3 _ _ _ _
  have HG0 : Hid (w2.heap[w.heap.size]? = some (.cells #[.int .i64 g.link, .int .i64 g.p, .int .i64 g.node, .bool false, .int .i64 g.key, .int .i64 (g.reads : Int), .bool g.over, .int .i64 g.cell] 90 (0, 0))) := by rw [hw2]; exact hp_past (hp_past (hp_at (by simp)))
  have HG1 : Hid (w2.heap[w.heap.size + 1]? = some (.cells #[.int .i64 0, .int .i64 0, .int .i64 0, .int .i64 0] 51 (0, 0))) := by rw [hw2]; exact hp_past (hp_at (by simp))
  have HG2 : Hid (w2.heap[w.heap.size + 1 + 1]? = some (.cells #[.int .i64 0, .int .i64 0, .int .i64 0, .int .i64 0] 51 (0, 0))) := by rw [hw2]; exact hp_at (by simp)
  rw [← hw2]
  clear hw2
  refine (HR.out w2 _).mono ?_
  rintro e w4 h4
  obtain ⟨cs, w5, rfl, hz, hst, hr, hold, _⟩ := tl_put (w := w) (R := w.heap.size + 1) h4 HG1.out rfl HB2.out (by omega)
  clear h4
  go_wp2_with fail
  exact ret_wn rfl rfl hr.out.1 hz rfl hr.out.2
set_option maxRecDepth 100000 in
theorem radds_next (w : World) {b n k wr : Int} {g : Wg} {xa : Addr} {cap : Nat} {f : Int} (ha : g.at_ = false) (hb : 0 ≤ b ∧ b ≤ 1024) (hn : 0 ≤ n ∧ n ≤ 16) (hl : leadV f n ≠ 0) (hxa : xa.block < w.heap.size) (h0 : w.cell? xa = some (.int .i64 f)) : Calls Try.prog 68 #[.int .i64 b, .int .i64 n, .int .i64 k, .agg (wgC g), .slice (some xa) 1 cap, .int .i64 wr] w (Tl (readW (b + nxtV (leadV f n))) w) := by
  unfold wgC
  rw [ha]
  clear ha
  have _u0 := h0
  clear _u0
  have xb1 : xa.block < w.heap.size + 1 := by omega
  have xb2 : xa.block < w.heap.size + 1 + 1 := by omega
  have HR : Hid (∀ (w : World) c, Calls Try.prog 67 #[.int .i64 c] w (Tl (readW c) w)) := fun w c => (rread_any w c).mono tl_of
  have HL : Hid (∀ w : World, Calls Try.prog 44 #[.int .i64 f, .int .i64 n] w fun e w' => e = .returned (.int .i64 (leadV f n)) ∧ w' = w) := fun w => by have := rleads_any w f n; exact this
  have hy : 0 ≤ leadV f n ∧ leadV f n ≤ 100 := by obtain ⟨e1, e2⟩ := lead_of hl; omega
  have HN : Hid (∀ w : World, Calls Try.prog 45 #[.int .i64 (leadV f n)] w fun e w' => e = .returned (.int .i64 (nxtV (leadV f n))) ∧ w' = w) := fun w => rlink_any w hy
  have hl0 : decide (0 < leadV f n) = true := by obtain ⟨e1, e2⟩ := lead_of hl; simp; omega
  have hw : wrap64 (b + nxtV (leadV f n)) = b + nxtV (leadV f n) := by unfold wrap64 nxtV keyV; omega
  clear hb hn hy hl
  generalize leadV f n = d at *
  generalize nxtV d = y1 at *
  go_enter Try.func68, Try.ntmps68
  go_wp2_with fail
  refine (HL.out _).mono ?_
  rintro e w1 ⟨rfl, hw1⟩
  obtain rfl := hw1.symm
  clear hw1
  go_wp2_with fail
  refine (HN.out _).mono ?_
  rintro e w1 ⟨rfl, hw1⟩
  obtain rfl := hw1.symm
  clear hw1
  go_wp2_with fail
  obtain ⟨w2, hw2⟩ : ∃ w2, w2 = (World.alloc (World.alloc (World.alloc w (.cells #[.int .i64 g.link, .int .i64 g.p, .int .i64 g.node, .bool false, .int .i64 g.key, .int .i64 (g.reads : Int), .bool g.over, .int .i64 g.cell] 90)) (.cells #[.int .i64 0, .int .i64 0, .int .i64 0, .int .i64 0] 51)) (.cells #[.int .i64 0, .int .i64 0, .int .i64 0, .int .i64 0] 51)) := ⟨_, rfl⟩
  have HB2 : Hid (Below w.heap.size w w2) := by rw [hw2]; exact bl3 _ _ _ _
  have HG0 : Hid (w2.heap[w.heap.size]? = some (.cells #[.int .i64 g.link, .int .i64 g.p, .int .i64 g.node, .bool false, .int .i64 g.key, .int .i64 (g.reads : Int), .bool g.over, .int .i64 g.cell] 90 (0, 0))) := by rw [hw2]; exact hp_past (hp_past (hp_at (by simp)))
  have HG1 : Hid (w2.heap[w.heap.size + 1]? = some (.cells #[.int .i64 0, .int .i64 0, .int .i64 0, .int .i64 0] 51 (0, 0))) := by rw [hw2]; exact hp_past (hp_at (by simp))
  have HG2 : Hid (w2.heap[w.heap.size + 1 + 1]? = some (.cells #[.int .i64 0, .int .i64 0, .int .i64 0, .int .i64 0] 51 (0, 0))) := by rw [hw2]; exact hp_at (by simp)
  rw [← hw2]
  clear hw2
  refine (HR.out w2 _).mono ?_
  rintro e w4 h4
  obtain ⟨cs, w5, rfl, hz, hst, hr, hold, _⟩ := tl_put (w := w) (R := w.heap.size + 1) h4 HG1.out rfl HB2.out (by omega)
  clear h4
  go_wp2_with fail
  exact ret_wn rfl rfl hr.out.1 hz rfl hr.out.2
set_option maxRecDepth 100000 in
theorem radds_full (w : World) {b n k wr : Int} {g : Wg} {xa : Addr} {cap m : Nat} {f u : Int} (ha : g.at_ = false) (hl : leadV f n = 0) (hu : u < 0 ∨ n ≤ u) (hm : 1 < m) (hxa : xa.block < w.heap.size) (h0 : w.cell? xa = some (.int .i64 f)) (h1 : w.cell? ⟨xa.block, xa.off + 1, none⟩ = some (.int .i64 u)) : Calls Try.prog 68 #[.int .i64 b, .int .i64 n, .int .i64 k, .agg (wgC g), .slice (some xa) m cap, .int .i64 wr] w (Tl (endW 0 2) w) := by
  unfold wgC
  rw [ha]
  clear ha
  have m0 : ((m : Int) == 0) = false := by simp; omega
  have m1 : ((m : Int) == 1) = false := by simp; omega
  have m2 : 0 < m := by omega
  have m3 : (1 : Int) < (m : Int) := by omega
  have _u0 := And.intro h0 h1
  clear _u0
  have xb1 : xa.block < w.heap.size + 1 := by omega
  have xb2 : xa.block < w.heap.size + 1 + 1 := by omega
  have HE : Hid (∀ (w : World) v c, Calls Try.prog 71 #[.int .i64 v, .int .i64 c] w (Tl (endW v c) w)) := fun w v c => (rend_any w v c).mono tl_of
  have HL : Hid (∀ w : World, Calls Try.prog 44 #[.int .i64 f, .int .i64 n] w fun e w' => e = .returned (.int .i64 0) ∧ w' = w) := fun w => by have := rleads_any w f n; rw [hl] at this; exact this
  clear hl
  by_cases q : u < 0
  · have q0 : decide (u < 0) = true := by simpa using q
    clear q hu
    go_enter Try.func68, Try.ntmps68
    go_wp2_with fail
    refine (HL.out _).mono ?_
    rintro e w1 ⟨rfl, hw1⟩
    obtain rfl := hw1.symm
    clear hw1
    go_wp2_with fail
    obtain ⟨w2, hw2⟩ : ∃ w2, w2 = (World.alloc (World.alloc (World.alloc w (.cells #[.int .i64 g.link, .int .i64 g.p, .int .i64 g.node, .bool false, .int .i64 g.key, .int .i64 (g.reads : Int), .bool g.over, .int .i64 g.cell] 90)) (.cells #[.int .i64 0, .int .i64 0, .int .i64 0, .int .i64 0] 51)) (.cells #[.int .i64 0, .int .i64 0, .int .i64 0, .int .i64 0] 51)) := ⟨_, rfl⟩
    have HB2 : Hid (Below w.heap.size w w2) := by rw [hw2]; exact bl3 _ _ _ _
    have HG0 : Hid (w2.heap[w.heap.size]? = some (.cells #[.int .i64 g.link, .int .i64 g.p, .int .i64 g.node, .bool false, .int .i64 g.key, .int .i64 (g.reads : Int), .bool g.over, .int .i64 g.cell] 90 (0, 0))) := by rw [hw2]; exact hp_past (hp_past (hp_at (by simp)))
    have HG1 : Hid (w2.heap[w.heap.size + 1]? = some (.cells #[.int .i64 0, .int .i64 0, .int .i64 0, .int .i64 0] 51 (0, 0))) := by rw [hw2]; exact hp_past (hp_at (by simp))
    have HG2 : Hid (w2.heap[w.heap.size + 1 + 1]? = some (.cells #[.int .i64 0, .int .i64 0, .int .i64 0, .int .i64 0] 51 (0, 0))) := by rw [hw2]; exact hp_at (by simp)
    rw [← hw2]
    clear hw2
    refine (HE.out w2 _ _).mono ?_
    rintro e w4 h4
    obtain ⟨cs, w5, rfl, hz, hst, hr, hold, _⟩ := tl_put (w := w) (R := w.heap.size + 1) h4 HG1.out rfl HB2.out (by omega)
    clear h4
    go_wp2_with fail
    exact ret_wn rfl rfl hr.out.1 hz rfl hr.out.2
  · have q0 : decide (u < 0) = false := by simpa using q
    have q1 : decide (n ≤ u) = true := by simp; omega
    clear q hu
    go_enter Try.func68, Try.ntmps68
    go_wp2_with fail
    refine (HL.out _).mono ?_
    rintro e w1 ⟨rfl, hw1⟩
    obtain rfl := hw1.symm
    clear hw1
    go_wp2_with fail
    obtain ⟨w2, hw2⟩ : ∃ w2, w2 = (World.alloc (World.alloc (World.alloc w (.cells #[.int .i64 g.link, .int .i64 g.p, .int .i64 g.node, .bool false, .int .i64 g.key, .int .i64 (g.reads : Int), .bool g.over, .int .i64 g.cell] 90)) (.cells #[.int .i64 0, .int .i64 0, .int .i64 0, .int .i64 0] 51)) (.cells #[.int .i64 0, .int .i64 0, .int .i64 0, .int .i64 0] 51)) := ⟨_, rfl⟩
    have HB2 : Hid (Below w.heap.size w w2) := by rw [hw2]; exact bl3 _ _ _ _
    have HG0 : Hid (w2.heap[w.heap.size]? = some (.cells #[.int .i64 g.link, .int .i64 g.p, .int .i64 g.node, .bool false, .int .i64 g.key, .int .i64 (g.reads : Int), .bool g.over, .int .i64 g.cell] 90 (0, 0))) := by rw [hw2]; exact hp_past (hp_past (hp_at (by simp)))
    have HG1 : Hid (w2.heap[w.heap.size + 1]? = some (.cells #[.int .i64 0, .int .i64 0, .int .i64 0, .int .i64 0] 51 (0, 0))) := by rw [hw2]; exact hp_past (hp_at (by simp))
    have HG2 : Hid (w2.heap[w.heap.size + 1 + 1]? = some (.cells #[.int .i64 0, .int .i64 0, .int .i64 0, .int .i64 0] 51 (0, 0))) := by rw [hw2]; exact hp_at (by simp)
    rw [← hw2]
    clear hw2
    refine (HE.out w2 _ _).mono ?_
    rintro e w4 h4
    obtain ⟨cs, w5, rfl, hz, hst, hr, hold, _⟩ := tl_put (w := w) (R := w.heap.size + 1) h4 HG1.out rfl HB2.out (by omega)
    clear h4
    go_wp2_with fail
    exact ret_wn rfl rfl hr.out.1 hz rfl hr.out.2
set_option maxRecDepth 100000 in
theorem radds_free_0 (w : World) {b n k wr : Int} {g : Wg} {xa : Addr} {cap m : Nat} {f u : Int} (ha : g.at_ = false) (hb : 0 ≤ b ∧ b ≤ 1024) (hn : 0 ≤ n ∧ n ≤ 16) (hl : leadV f n ≠ 0) (hgl : 0 ≤ g.link ∧ g.link ≤ 100) (h00 : wr = 0) (hm : 1 < m) (hxa : xa.block < w.heap.size) (h0 : w.cell? xa = some (.int .i64 f)) (h1 : w.cell? ⟨xa.block, xa.off + 1, none⟩ = some (.int .i64 u)) : Calls Try.prog 68 #[.int .i64 b, .int .i64 n, .int .i64 k, .agg (wgC g), .slice (some xa) m cap, .int .i64 wr] w (Tl (putW (b + 1) u) w) := by
  unfold wgC
  rw [ha]
  clear ha
  have m0 : ((m : Int) == 0) = false := by simp; omega
  have m1 : ((m : Int) == 1) = false := by simp; omega
  have m2 : 0 < m := by omega
  have m3 : (1 : Int) < (m : Int) := by omega
  have _u0 := And.intro h0 h1
  clear _u0
  have xb1 : xa.block < w.heap.size + 1 := by omega
  have xb2 : xa.block < w.heap.size + 1 + 1 := by omega
  have HP : Hid (∀ (w : World) c v, Calls Try.prog 83 #[.int .i64 c, .int .i64 v] w (Tl (putW c v) w)) := fun w c v => (rput_any w c v).mono tl_of
  have HE : Hid (∀ (w : World) v c, Calls Try.prog 71 #[.int .i64 v, .int .i64 c] w (Tl (endW v c) w)) := fun w v c => (rend_any w v c).mono tl_of
  have HL : Hid (∀ w : World, Calls Try.prog 44 #[.int .i64 f, .int .i64 n] w fun e w' => e = .returned (.int .i64 (leadV f n)) ∧ w' = w) := fun w => by have := rleads_any w f n; exact this
  have hd : 0 ≤ leadV f n ∧ leadV f n ≤ 100 := by obtain ⟨e1, e2⟩ := lead_of hl; omega
  have hl0 : decide (0 < leadV f n) = true := by obtain ⟨e1, e2⟩ := lead_of hl; simp; omega
  have hw1 : wrap64 (b + 1) = b + 1 := by unfold wrap64; omega
  generalize hdd : leadV f n = d at *
  clear hl hdd
  have hwl : wrap64 (b + g.link) = b + g.link := by unfold wrap64; omega
  subst h00
  clear hb hn hd hgl
  go_enter Try.func68, Try.ntmps68
  go_wp2_with fail
  refine (HL.out _).mono ?_
  rintro e w1 ⟨rfl, hw1⟩
  obtain rfl := hw1.symm
  clear hw1
  go_wp2_with fail
  obtain ⟨w2, hw2⟩ : ∃ w2, w2 = (World.alloc (World.alloc (World.alloc w (.cells #[.int .i64 g.link, .int .i64 g.p, .int .i64 g.node, .bool false, .int .i64 g.key, .int .i64 (g.reads : Int), .bool g.over, .int .i64 g.cell] 90)) (.cells #[.int .i64 0, .int .i64 0, .int .i64 0, .int .i64 0] 51)) (.cells #[.int .i64 0, .int .i64 0, .int .i64 0, .int .i64 0] 51)) := ⟨_, rfl⟩
  have HB2 : Hid (Below w.heap.size w w2) := by rw [hw2]; exact bl3 _ _ _ _
  have HG0 : Hid (w2.heap[w.heap.size]? = some (.cells #[.int .i64 g.link, .int .i64 g.p, .int .i64 g.node, .bool false, .int .i64 g.key, .int .i64 (g.reads : Int), .bool g.over, .int .i64 g.cell] 90 (0, 0))) := by rw [hw2]; exact hp_past (hp_past (hp_at (by simp)))
  have HG1 : Hid (w2.heap[w.heap.size + 1]? = some (.cells #[.int .i64 0, .int .i64 0, .int .i64 0, .int .i64 0] 51 (0, 0))) := by rw [hw2]; exact hp_past (hp_at (by simp))
  have HG2 : Hid (w2.heap[w.heap.size + 1 + 1]? = some (.cells #[.int .i64 0, .int .i64 0, .int .i64 0, .int .i64 0] 51 (0, 0))) := by rw [hw2]; exact hp_at (by simp)
  rw [← hw2]
  clear hw2
  refine (HP.out w2 _ _).mono ?_
  rintro e w4 h4
  obtain ⟨ce, w6, rfl, hze, hst6, hre, hold6, hx6⟩ := tl_put (w := w) (R := w.heap.size + 1 + 1) h4 HG2.out rfl HB2.out (by omega)
  have HB6 : Hid (Below w.heap.size w w6) := hx6.out.2
  have HG6 : Hid (w6.heap[w.heap.size + 1]? = some (.cells #[.int .i64 0, .int .i64 0, .int .i64 0, .int .i64 0] 51 (0, 0))) := by rw [Hid, hold6.out _ (heap_lt HG1.out) (by omega)]; exact HG1.out
  have HW6 : Hid (w6.heap[w.heap.size]? = some (.cells #[.int .i64 g.link, .int .i64 g.p, .int .i64 g.node, .bool false, .int .i64 g.key, .int .i64 (g.reads : Int), .bool g.over, .int .i64 g.cell] 90 (0, 0))) := by rw [Hid, hold6.out _ (heap_lt HG0.out) (by omega)]; exact HG0.out
  have e0 : w6.cell? ⟨w.heap.size, 0, none⟩ = some (.int .i64 g.link) := by rw [cell_at HW6.out]; rfl
  have e1 : w6.cell? ⟨w.heap.size, 1, none⟩ = some (.int .i64 g.p) := by rw [cell_at HW6.out]; rfl
  have z6 : w.heap.size < w6.heap.size := heap_lt HW6.out
  clear h4 HB2 HG0 HG1 HG2 hold6
  have HX6 : Hid _ := hx6
  have HRE : Hid (w6.heap[w.heap.size + 1 + 1]? = some (.cells ce 51 (0, 0))) := hre.out.1
  obtain ⟨w8, hs8, hw8⟩ : ∃ w8, (storeCells ⟨w.heap.size + 1, 0, none⟩ ce.toList 0).run Try.prog w6 = .ok () w8 ∧ w8 = w6.setRow (w.heap.size + 1) ce := ⟨_, store_wn HG6.out rfl hze (by rw [← hx6.out.1]; exact wnC_one _), rfl⟩
  have HF : Hid (w8.heap[w.heap.size + 1]? = some (.cells ce 51 (0, 0)) ∧ Tl (putW (b + 1) u) w (.returned (.agg ce)) w8) := ⟨by rw [hw8]; exact setRow_heap _ _ _ _ _ _ HG6.out, ce, hx6.out.1, hze, rfl, by rw [hw8]; exact below_row HB6.out _ (by omega) _⟩
  have hld := run_loadVar_row (P := Try.prog) w6 (w.heap.size + 1 + 1) 51 51 ce (0, 0) _ HRE.out Try.underlying51 rfl (by rw [hze]; kernel_rfl)
  have v0 : w6.cell? ⟨w.heap.size + 1 + 1, 0, none⟩ = some (.int .i64 3) := by rw [cell_at HRE.out, ← hx6.out.1]; rfl
  have v1 : w6.cell? ⟨w.heap.size + 1 + 1, 1, none⟩ = some (.int .i64 (b + 1)) := by rw [cell_at HRE.out, ← hx6.out.1]; rfl
  have v2 : w6.cell? ⟨w.heap.size + 1 + 1, 2, none⟩ = some (.int .i64 u) := by rw [cell_at HRE.out, ← hx6.out.1]; rfl
  have v3 : w6.cell? ⟨w.heap.size + 1 + 1, 3, none⟩ = some (.int .i64 0) := by rw [cell_at HRE.out, ← hx6.out.1]; rfl
  have hpk : (#[.int .i64 3, .int .i64 (b + 1), .int .i64 u, .int .i64 0] : Array Value) = ce := hx6.out.1
  clear hw8 hx6 hre hld
  go_wp2_with fail
  exact ret_wn rfl rfl HF.out.1 hze rfl HF.out.2
set_option maxRecDepth 100000 in
theorem radds_free_1 (w : World) {b n k wr : Int} {g : Wg} {xa : Addr} {cap m : Nat} {f u : Int} (ha : g.at_ = false) (hb : 0 ≤ b ∧ b ≤ 1024) (hn : 0 ≤ n ∧ n ≤ 16) (hl : leadV f n ≠ 0) (hgl : 0 ≤ g.link ∧ g.link ≤ 100) (h00 : wr = 1) (hm : 1 < m) (hxa : xa.block < w.heap.size) (h0 : w.cell? xa = some (.int .i64 f)) (h1 : w.cell? ⟨xa.block, xa.off + 1, none⟩ = some (.int .i64 u)) : Calls Try.prog 68 #[.int .i64 b, .int .i64 n, .int .i64 k, .agg (wgC g), .slice (some xa) m cap, .int .i64 wr] w (Tl (putW (b + keyV (leadV f n)) k) w) := by
  unfold wgC
  rw [ha]
  clear ha
  have m0 : ((m : Int) == 0) = false := by simp; omega
  have m1 : ((m : Int) == 1) = false := by simp; omega
  have m2 : 0 < m := by omega
  have m3 : (1 : Int) < (m : Int) := by omega
  have _u0 := And.intro h0 h1
  clear _u0
  have xb1 : xa.block < w.heap.size + 1 := by omega
  have xb2 : xa.block < w.heap.size + 1 + 1 := by omega
  have HP : Hid (∀ (w : World) c v, Calls Try.prog 83 #[.int .i64 c, .int .i64 v] w (Tl (putW c v) w)) := fun w c v => (rput_any w c v).mono tl_of
  have HE : Hid (∀ (w : World) v c, Calls Try.prog 71 #[.int .i64 v, .int .i64 c] w (Tl (endW v c) w)) := fun w v c => (rend_any w v c).mono tl_of
  have HL : Hid (∀ w : World, Calls Try.prog 44 #[.int .i64 f, .int .i64 n] w fun e w' => e = .returned (.int .i64 (leadV f n)) ∧ w' = w) := fun w => by have := rleads_any w f n; exact this
  have hd : 0 ≤ leadV f n ∧ leadV f n ≤ 100 := by obtain ⟨e1, e2⟩ := lead_of hl; omega
  have hl0 : decide (0 < leadV f n) = true := by obtain ⟨e1, e2⟩ := lead_of hl; simp; omega
  have hw1 : wrap64 (b + 1) = b + 1 := by unfold wrap64; omega
  generalize hdd : leadV f n = d at *
  clear hl hdd
  have hwl : wrap64 (b + g.link) = b + g.link := by unfold wrap64; omega
  subst h00
  have HK : Hid (∀ w : World, Calls Try.prog 30 #[.int .i64 d] w fun e w' => e = .returned (.int .i64 (keyV d)) ∧ w' = w) := fun w => rkey_any w hd
  have hwk : wrap64 (b + keyV d) = b + keyV d := by unfold wrap64 keyV; omega
  generalize keyV d = y1 at *
  clear hb hn hd hgl
  go_enter Try.func68, Try.ntmps68
  go_wp2_with fail
  refine (HL.out _).mono ?_
  rintro e w1 ⟨rfl, hw1⟩
  obtain rfl := hw1.symm
  clear hw1
  go_wp2_with fail
  obtain ⟨w2, hw2⟩ : ∃ w2, w2 = (World.alloc (World.alloc (World.alloc w (.cells #[.int .i64 g.link, .int .i64 g.p, .int .i64 g.node, .bool false, .int .i64 g.key, .int .i64 (g.reads : Int), .bool g.over, .int .i64 g.cell] 90)) (.cells #[.int .i64 0, .int .i64 0, .int .i64 0, .int .i64 0] 51)) (.cells #[.int .i64 0, .int .i64 0, .int .i64 0, .int .i64 0] 51)) := ⟨_, rfl⟩
  have HB2 : Hid (Below w.heap.size w w2) := by rw [hw2]; exact bl3 _ _ _ _
  have HG0 : Hid (w2.heap[w.heap.size]? = some (.cells #[.int .i64 g.link, .int .i64 g.p, .int .i64 g.node, .bool false, .int .i64 g.key, .int .i64 (g.reads : Int), .bool g.over, .int .i64 g.cell] 90 (0, 0))) := by rw [hw2]; exact hp_past (hp_past (hp_at (by simp)))
  have HG1 : Hid (w2.heap[w.heap.size + 1]? = some (.cells #[.int .i64 0, .int .i64 0, .int .i64 0, .int .i64 0] 51 (0, 0))) := by rw [hw2]; exact hp_past (hp_at (by simp))
  have HG2 : Hid (w2.heap[w.heap.size + 1 + 1]? = some (.cells #[.int .i64 0, .int .i64 0, .int .i64 0, .int .i64 0] 51 (0, 0))) := by rw [hw2]; exact hp_at (by simp)
  rw [← hw2]
  clear hw2
  refine (HP.out w2 _ _).mono ?_
  rintro e w4 h4
  obtain ⟨ce, w6, rfl, hze, hst6, hre, hold6, hx6⟩ := tl_put (w := w) (R := w.heap.size + 1 + 1) h4 HG2.out rfl HB2.out (by omega)
  have HB6 : Hid (Below w.heap.size w w6) := hx6.out.2
  have HG6 : Hid (w6.heap[w.heap.size + 1]? = some (.cells #[.int .i64 0, .int .i64 0, .int .i64 0, .int .i64 0] 51 (0, 0))) := by rw [Hid, hold6.out _ (heap_lt HG1.out) (by omega)]; exact HG1.out
  have HW6 : Hid (w6.heap[w.heap.size]? = some (.cells #[.int .i64 g.link, .int .i64 g.p, .int .i64 g.node, .bool false, .int .i64 g.key, .int .i64 (g.reads : Int), .bool g.over, .int .i64 g.cell] 90 (0, 0))) := by rw [Hid, hold6.out _ (heap_lt HG0.out) (by omega)]; exact HG0.out
  have e0 : w6.cell? ⟨w.heap.size, 0, none⟩ = some (.int .i64 g.link) := by rw [cell_at HW6.out]; rfl
  have e1 : w6.cell? ⟨w.heap.size, 1, none⟩ = some (.int .i64 g.p) := by rw [cell_at HW6.out]; rfl
  have z6 : w.heap.size < w6.heap.size := heap_lt HW6.out
  clear h4 HB2 HG0 HG1 HG2 hold6
  clear hre hx6
  go_wp2_with fail
  refine (HK.out _).mono ?_
  rintro e w1 ⟨rfl, hw1⟩
  obtain rfl := hw1.symm
  clear hw1
  go_wp2_with fail
  refine (HP.out w6 _ _).mono ?_
  rintro e w7 h7
  obtain ⟨cs, w8, rfl, hz, hst, hr, _, _⟩ := tl_put (w := w) (R := w.heap.size + 1) h7 HG6.out rfl HB6.out (by omega)
  clear h7
  go_wp2_with fail
  exact ret_wn rfl rfl hr.out.1 hz rfl hr.out.2
set_option maxRecDepth 100000 in
theorem radds_free_2 (w : World) {b n k wr : Int} {g : Wg} {xa : Addr} {cap m : Nat} {f u : Int} (ha : g.at_ = false) (hb : 0 ≤ b ∧ b ≤ 1024) (hn : 0 ≤ n ∧ n ≤ 16) (hl : leadV f n ≠ 0) (hgl : 0 ≤ g.link ∧ g.link ≤ 100) (h00 : wr = 2) (hm : 1 < m) (hxa : xa.block < w.heap.size) (h0 : w.cell? xa = some (.int .i64 f)) (h1 : w.cell? ⟨xa.block, xa.off + 1, none⟩ = some (.int .i64 u)) : Calls Try.prog 68 #[.int .i64 b, .int .i64 n, .int .i64 k, .agg (wgC g), .slice (some xa) m cap, .int .i64 wr] w (Tl (putW (b + nxtV (leadV f n)) g.p) w) := by
  unfold wgC
  rw [ha]
  clear ha
  have m0 : ((m : Int) == 0) = false := by simp; omega
  have m1 : ((m : Int) == 1) = false := by simp; omega
  have m2 : 0 < m := by omega
  have m3 : (1 : Int) < (m : Int) := by omega
  have _u0 := And.intro h0 h1
  clear _u0
  have xb1 : xa.block < w.heap.size + 1 := by omega
  have xb2 : xa.block < w.heap.size + 1 + 1 := by omega
  have HP : Hid (∀ (w : World) c v, Calls Try.prog 83 #[.int .i64 c, .int .i64 v] w (Tl (putW c v) w)) := fun w c v => (rput_any w c v).mono tl_of
  have HE : Hid (∀ (w : World) v c, Calls Try.prog 71 #[.int .i64 v, .int .i64 c] w (Tl (endW v c) w)) := fun w v c => (rend_any w v c).mono tl_of
  have HL : Hid (∀ w : World, Calls Try.prog 44 #[.int .i64 f, .int .i64 n] w fun e w' => e = .returned (.int .i64 (leadV f n)) ∧ w' = w) := fun w => by have := rleads_any w f n; exact this
  have hd : 0 ≤ leadV f n ∧ leadV f n ≤ 100 := by obtain ⟨e1, e2⟩ := lead_of hl; omega
  have hl0 : decide (0 < leadV f n) = true := by obtain ⟨e1, e2⟩ := lead_of hl; simp; omega
  have hw1 : wrap64 (b + 1) = b + 1 := by unfold wrap64; omega
  generalize hdd : leadV f n = d at *
  clear hl hdd
  have hwl : wrap64 (b + g.link) = b + g.link := by unfold wrap64; omega
  subst h00
  have HN : Hid (∀ w : World, Calls Try.prog 45 #[.int .i64 d] w fun e w' => e = .returned (.int .i64 (nxtV d)) ∧ Below w.heap.size w w') := fun w => (rlink_any w hd).mono (fun e w' h => ⟨h.1, by rw [h.2]; exact Below.refl _ _⟩)
  have HW : Hid (IntKind.i64.wrap (b + nxtV d) = b + nxtV d) := by have : IntKind.i64.wrap (b + nxtV d) = b + nxtV d := (by rw [IntKind.wrap_i64]; unfold nxtV keyV; omega); exact this
  generalize nxtV d = y1 at *
  clear hb hn hd hgl
  go_enter Try.func68, Try.ntmps68
  go_wp2_with fail
  refine (HL.out _).mono ?_
  rintro e w1 ⟨rfl, hw1⟩
  obtain rfl := hw1.symm
  clear hw1
  go_wp2_with fail
  obtain ⟨w2, hw2⟩ : ∃ w2, w2 = (World.alloc (World.alloc (World.alloc w (.cells #[.int .i64 g.link, .int .i64 g.p, .int .i64 g.node, .bool false, .int .i64 g.key, .int .i64 (g.reads : Int), .bool g.over, .int .i64 g.cell] 90)) (.cells #[.int .i64 0, .int .i64 0, .int .i64 0, .int .i64 0] 51)) (.cells #[.int .i64 0, .int .i64 0, .int .i64 0, .int .i64 0] 51)) := ⟨_, rfl⟩
  have HB2 : Hid (Below w.heap.size w w2) := by rw [hw2]; exact bl3 _ _ _ _
  have HG0 : Hid (w2.heap[w.heap.size]? = some (.cells #[.int .i64 g.link, .int .i64 g.p, .int .i64 g.node, .bool false, .int .i64 g.key, .int .i64 (g.reads : Int), .bool g.over, .int .i64 g.cell] 90 (0, 0))) := by rw [hw2]; exact hp_past (hp_past (hp_at (by simp)))
  have HG1 : Hid (w2.heap[w.heap.size + 1]? = some (.cells #[.int .i64 0, .int .i64 0, .int .i64 0, .int .i64 0] 51 (0, 0))) := by rw [hw2]; exact hp_past (hp_at (by simp))
  have HG2 : Hid (w2.heap[w.heap.size + 1 + 1]? = some (.cells #[.int .i64 0, .int .i64 0, .int .i64 0, .int .i64 0] 51 (0, 0))) := by rw [hw2]; exact hp_at (by simp)
  rw [← hw2]
  clear hw2
  refine (HP.out w2 _ _).mono ?_
  rintro e w4 h4
  obtain ⟨ce, w6, rfl, hze, hst6, hre, hold6, hx6⟩ := tl_put (w := w) (R := w.heap.size + 1 + 1) h4 HG2.out rfl HB2.out (by omega)
  have HB6 : Hid (Below w.heap.size w w6) := hx6.out.2
  have HG6 : Hid (w6.heap[w.heap.size + 1]? = some (.cells #[.int .i64 0, .int .i64 0, .int .i64 0, .int .i64 0] 51 (0, 0))) := by rw [Hid, hold6.out _ (heap_lt HG1.out) (by omega)]; exact HG1.out
  have HW6 : Hid (w6.heap[w.heap.size]? = some (.cells #[.int .i64 g.link, .int .i64 g.p, .int .i64 g.node, .bool false, .int .i64 g.key, .int .i64 (g.reads : Int), .bool g.over, .int .i64 g.cell] 90 (0, 0))) := by rw [Hid, hold6.out _ (heap_lt HG0.out) (by omega)]; exact HG0.out
  have e0 : w6.cell? ⟨w.heap.size, 0, none⟩ = some (.int .i64 g.link) := by rw [cell_at HW6.out]; rfl
  have e1 : w6.cell? ⟨w.heap.size, 1, none⟩ = some (.int .i64 g.p) := by rw [cell_at HW6.out]; rfl
  have z6 : w.heap.size < w6.heap.size := heap_lt HW6.out
  clear h4 HB2 HG0 HG1 HG2 hold6
  clear hre hx6
  go_wp2_with fail
  have HG0 : Hid _ := HW6
  have HG1 : Hid _ := HG6
  have HB2 : Hid _ := HB6
  have HP2 : Hid (∀ w3 : World, Calls Try.prog 83 #[.int .i64 (IntKind.i64.wrap (b + y1)), .int .i64 g.p] w3 (Tl (putW (b + y1) g.p) w3)) := fun w3 => by rw [HW.out]; exact HP.out w3 _ _
  have HP3 : Hid (∀ w3 : World, Calls Try.prog 83 #[.int .i64 (wrap64 (b + y1)), .int .i64 g.p] w3 (Tl (putW (b + y1) g.p) w3)) := fun w3 => by have h9 := HW.out; rw [IntKind.wrap_i64] at h9; unfold wrap64; rw [h9]; exact HP.out w3 _ _
  clear e0 e1 h0 h1 HP HE
  have HS : Hid (∀ w' : World, (∀ q, q < w6.heap.size → q ≠ w.heap.size + 1 → w'.heap[q]? = w6.heap[q]?) → w'.cell? ⟨w.heap.size, 1, none⟩ = some (.int .i64 g.p)) := fun w' hq => (by rw [cell_at ((hq _ (heap_lt HG0.out) (by omega)).trans HG0.out)]; rfl)
  have s0 := HS.out w6 (fun _ _ _ => rfl)
  have y0 : w.heap.size < w6.heap.size := heap_lt HG0.out
  go_region_held3 (fun w' => w'.cell? ⟨w.heap.size, 1, none⟩ = some (.int .i64 g.p)) (first | go_keep | exact hS | exact hS5) (first
    | (go_at_call 45; refine (HN.out _).mono ?_; rintro e w3 ⟨rfl, hb3⟩; have HB3 : Hid (Below w6.heap.size w6 w3) := below_then (bl_drew1 _) hb3; have hS : w3.cell? ⟨w.heap.size, 1, none⟩ = some (.int .i64 g.p) := HS.out w3 (fun q hq _ => HB3.out.block q hq); clear hb3)
    | (go_at_call 83; (first | refine (HP2.out _).mono ?_ | refine (HP3.out _).mono ?_); rintro e w4 h4; obtain ⟨cs, w5, rfl, hz, hst, hr, hold, _⟩ := tl_put (w := w) (R := w.heap.size + 1) h4 (by rw [HB3.out.block _ (heap_lt HG1.out)]; exact HG1.out) rfl (below_then HB2.out HB3.out) (by omega); have hS : w4.cell? ⟨w.heap.size, 1, none⟩ = some (.int .i64 g.p) := HS.out w4 (fun q hq _ => (h4.bel.block q (Nat.lt_of_lt_of_le hq HB3.out.size)).trans (HB3.out.block q hq)); have hS5 : w5.cell? ⟨w.heap.size, 1, none⟩ = some (.int .i64 g.p) := HS.out w5 (fun q hq hqr => (hold.out q (Nat.lt_of_lt_of_le hq HB3.out.size) hqr).trans (HB3.out.block q hq)); clear h4))
  all_goals (go_wp2_with fail; exact ret_wn rfl rfl hr.out.1 hz rfl hr.out.2)
set_option maxRecDepth 100000 in
theorem radds_free_3 (w : World) {b n k wr : Int} {g : Wg} {xa : Addr} {cap m : Nat} {f u : Int} (ha : g.at_ = false) (hb : 0 ≤ b ∧ b ≤ 1024) (hn : 0 ≤ n ∧ n ≤ 16) (hl : leadV f n ≠ 0) (hgl : 0 ≤ g.link ∧ g.link ≤ 100) (h00 : wr = 3) (hm : 1 < m) (hxa : xa.block < w.heap.size) (h0 : w.cell? xa = some (.int .i64 f)) (h1 : w.cell? ⟨xa.block, xa.off + 1, none⟩ = some (.int .i64 u)) : Calls Try.prog 68 #[.int .i64 b, .int .i64 n, .int .i64 k, .agg (wgC g), .slice (some xa) m cap, .int .i64 wr] w (Tl (putW (b + g.link) (leadV f n)) w) := by
  unfold wgC
  rw [ha]
  clear ha
  have m0 : ((m : Int) == 0) = false := by simp; omega
  have m1 : ((m : Int) == 1) = false := by simp; omega
  have m2 : 0 < m := by omega
  have m3 : (1 : Int) < (m : Int) := by omega
  have _u0 := And.intro h0 h1
  clear _u0
  have xb1 : xa.block < w.heap.size + 1 := by omega
  have xb2 : xa.block < w.heap.size + 1 + 1 := by omega
  have HP : Hid (∀ (w : World) c v, Calls Try.prog 83 #[.int .i64 c, .int .i64 v] w (Tl (putW c v) w)) := fun w c v => (rput_any w c v).mono tl_of
  have HE : Hid (∀ (w : World) v c, Calls Try.prog 71 #[.int .i64 v, .int .i64 c] w (Tl (endW v c) w)) := fun w v c => (rend_any w v c).mono tl_of
  have HL : Hid (∀ w : World, Calls Try.prog 44 #[.int .i64 f, .int .i64 n] w fun e w' => e = .returned (.int .i64 (leadV f n)) ∧ w' = w) := fun w => by have := rleads_any w f n; exact this
  have hd : 0 ≤ leadV f n ∧ leadV f n ≤ 100 := by obtain ⟨e1, e2⟩ := lead_of hl; omega
  have hl0 : decide (0 < leadV f n) = true := by obtain ⟨e1, e2⟩ := lead_of hl; simp; omega
  have hw1 : wrap64 (b + 1) = b + 1 := by unfold wrap64; omega
  generalize hdd : leadV f n = d at *
  clear hl hdd
  have hwl : wrap64 (b + g.link) = b + g.link := by unfold wrap64; omega
  subst h00
  clear hb hn hd hgl
  go_enter Try.func68, Try.ntmps68
  go_wp2_with fail
  refine (HL.out _).mono ?_
  rintro e w1 ⟨rfl, hw1⟩
  obtain rfl := hw1.symm
  clear hw1
  go_wp2_with fail
  obtain ⟨w2, hw2⟩ : ∃ w2, w2 = (World.alloc (World.alloc (World.alloc w (.cells #[.int .i64 g.link, .int .i64 g.p, .int .i64 g.node, .bool false, .int .i64 g.key, .int .i64 (g.reads : Int), .bool g.over, .int .i64 g.cell] 90)) (.cells #[.int .i64 0, .int .i64 0, .int .i64 0, .int .i64 0] 51)) (.cells #[.int .i64 0, .int .i64 0, .int .i64 0, .int .i64 0] 51)) := ⟨_, rfl⟩
  have HB2 : Hid (Below w.heap.size w w2) := by rw [hw2]; exact bl3 _ _ _ _
  have HG0 : Hid (w2.heap[w.heap.size]? = some (.cells #[.int .i64 g.link, .int .i64 g.p, .int .i64 g.node, .bool false, .int .i64 g.key, .int .i64 (g.reads : Int), .bool g.over, .int .i64 g.cell] 90 (0, 0))) := by rw [hw2]; exact hp_past (hp_past (hp_at (by simp)))
  have HG1 : Hid (w2.heap[w.heap.size + 1]? = some (.cells #[.int .i64 0, .int .i64 0, .int .i64 0, .int .i64 0] 51 (0, 0))) := by rw [hw2]; exact hp_past (hp_at (by simp))
  have HG2 : Hid (w2.heap[w.heap.size + 1 + 1]? = some (.cells #[.int .i64 0, .int .i64 0, .int .i64 0, .int .i64 0] 51 (0, 0))) := by rw [hw2]; exact hp_at (by simp)
  rw [← hw2]
  clear hw2
  refine (HP.out w2 _ _).mono ?_
  rintro e w4 h4
  obtain ⟨ce, w6, rfl, hze, hst6, hre, hold6, hx6⟩ := tl_put (w := w) (R := w.heap.size + 1 + 1) h4 HG2.out rfl HB2.out (by omega)
  have HB6 : Hid (Below w.heap.size w w6) := hx6.out.2
  have HG6 : Hid (w6.heap[w.heap.size + 1]? = some (.cells #[.int .i64 0, .int .i64 0, .int .i64 0, .int .i64 0] 51 (0, 0))) := by rw [Hid, hold6.out _ (heap_lt HG1.out) (by omega)]; exact HG1.out
  have HW6 : Hid (w6.heap[w.heap.size]? = some (.cells #[.int .i64 g.link, .int .i64 g.p, .int .i64 g.node, .bool false, .int .i64 g.key, .int .i64 (g.reads : Int), .bool g.over, .int .i64 g.cell] 90 (0, 0))) := by rw [Hid, hold6.out _ (heap_lt HG0.out) (by omega)]; exact HG0.out
  have e0 : w6.cell? ⟨w.heap.size, 0, none⟩ = some (.int .i64 g.link) := by rw [cell_at HW6.out]; rfl
  have e1 : w6.cell? ⟨w.heap.size, 1, none⟩ = some (.int .i64 g.p) := by rw [cell_at HW6.out]; rfl
  have z6 : w.heap.size < w6.heap.size := heap_lt HW6.out
  clear h4 HB2 HG0 HG1 HG2 hold6
  clear hre hx6
  go_wp2_with fail
  refine (HP.out w6 _ _).mono ?_
  rintro e w7 h7
  obtain ⟨cs, w8, rfl, hz, hst, hr, _, _⟩ := tl_put (w := w) (R := w.heap.size + 1) h7 HG6.out rfl HB6.out (by omega)
  clear h7
  go_wp2_with fail
  exact ret_wn rfl rfl hr.out.1 hz rfl hr.out.2
set_option maxRecDepth 100000 in
theorem radds_free_e (w : World) {b n k wr : Int} {g : Wg} {xa : Addr} {cap m : Nat} {f u : Int} (ha : g.at_ = false) (hb : 0 ≤ b ∧ b ≤ 1024) (hn : 0 ≤ n ∧ n ≤ 16) (hl : leadV f n ≠ 0) (hgl : 0 ≤ g.link ∧ g.link ≤ 100) (h00 : wr ≠ 0 ∧ wr ≠ 1 ∧ wr ≠ 2 ∧ wr ≠ 3) (hm : 1 < m) (hxa : xa.block < w.heap.size) (h0 : w.cell? xa = some (.int .i64 f)) (h1 : w.cell? ⟨xa.block, xa.off + 1, none⟩ = some (.int .i64 u)) : Calls Try.prog 68 #[.int .i64 b, .int .i64 n, .int .i64 k, .agg (wgC g), .slice (some xa) m cap, .int .i64 wr] w (Tl (endW 0 0) w) := by
  unfold wgC
  rw [ha]
  clear ha
  have m0 : ((m : Int) == 0) = false := by simp; omega
  have m1 : ((m : Int) == 1) = false := by simp; omega
  have m2 : 0 < m := by omega
  have m3 : (1 : Int) < (m : Int) := by omega
  have _u0 := And.intro h0 h1
  clear _u0
  have xb1 : xa.block < w.heap.size + 1 := by omega
  have xb2 : xa.block < w.heap.size + 1 + 1 := by omega
  have HP : Hid (∀ (w : World) c v, Calls Try.prog 83 #[.int .i64 c, .int .i64 v] w (Tl (putW c v) w)) := fun w c v => (rput_any w c v).mono tl_of
  have HE : Hid (∀ (w : World) v c, Calls Try.prog 71 #[.int .i64 v, .int .i64 c] w (Tl (endW v c) w)) := fun w v c => (rend_any w v c).mono tl_of
  have HL : Hid (∀ w : World, Calls Try.prog 44 #[.int .i64 f, .int .i64 n] w fun e w' => e = .returned (.int .i64 (leadV f n)) ∧ w' = w) := fun w => by have := rleads_any w f n; exact this
  have hd : 0 ≤ leadV f n ∧ leadV f n ≤ 100 := by obtain ⟨e1, e2⟩ := lead_of hl; omega
  have hl0 : decide (0 < leadV f n) = true := by obtain ⟨e1, e2⟩ := lead_of hl; simp; omega
  have hw1 : wrap64 (b + 1) = b + 1 := by unfold wrap64; omega
  generalize hdd : leadV f n = d at *
  clear hl hdd
  have hwl : wrap64 (b + g.link) = b + g.link := by unfold wrap64; omega
  have p0 : (wr == 0) = false := by simp; omega
  have p1 : (wr == 1) = false := by simp; omega
  have p2 : (wr == 2) = false := by simp; omega
  have p3 : (wr == 3) = false := by simp; omega
  clear h00
  clear hb hn hd hgl
  go_enter Try.func68, Try.ntmps68
  go_wp2_with fail
  refine (HL.out _).mono ?_
  rintro e w1 ⟨rfl, hw1⟩
  obtain rfl := hw1.symm
  clear hw1
  go_wp2_with fail
  obtain ⟨w2, hw2⟩ : ∃ w2, w2 = (World.alloc (World.alloc (World.alloc w (.cells #[.int .i64 g.link, .int .i64 g.p, .int .i64 g.node, .bool false, .int .i64 g.key, .int .i64 (g.reads : Int), .bool g.over, .int .i64 g.cell] 90)) (.cells #[.int .i64 0, .int .i64 0, .int .i64 0, .int .i64 0] 51)) (.cells #[.int .i64 0, .int .i64 0, .int .i64 0, .int .i64 0] 51)) := ⟨_, rfl⟩
  have HB2 : Hid (Below w.heap.size w w2) := by rw [hw2]; exact bl3 _ _ _ _
  have HG0 : Hid (w2.heap[w.heap.size]? = some (.cells #[.int .i64 g.link, .int .i64 g.p, .int .i64 g.node, .bool false, .int .i64 g.key, .int .i64 (g.reads : Int), .bool g.over, .int .i64 g.cell] 90 (0, 0))) := by rw [hw2]; exact hp_past (hp_past (hp_at (by simp)))
  have HG1 : Hid (w2.heap[w.heap.size + 1]? = some (.cells #[.int .i64 0, .int .i64 0, .int .i64 0, .int .i64 0] 51 (0, 0))) := by rw [hw2]; exact hp_past (hp_at (by simp))
  have HG2 : Hid (w2.heap[w.heap.size + 1 + 1]? = some (.cells #[.int .i64 0, .int .i64 0, .int .i64 0, .int .i64 0] 51 (0, 0))) := by rw [hw2]; exact hp_at (by simp)
  rw [← hw2]
  clear hw2
  refine (HP.out w2 _ _).mono ?_
  rintro e w4 h4
  obtain ⟨ce, w6, rfl, hze, hst6, hre, hold6, hx6⟩ := tl_put (w := w) (R := w.heap.size + 1 + 1) h4 HG2.out rfl HB2.out (by omega)
  have HB6 : Hid (Below w.heap.size w w6) := hx6.out.2
  have HG6 : Hid (w6.heap[w.heap.size + 1]? = some (.cells #[.int .i64 0, .int .i64 0, .int .i64 0, .int .i64 0] 51 (0, 0))) := by rw [Hid, hold6.out _ (heap_lt HG1.out) (by omega)]; exact HG1.out
  have HW6 : Hid (w6.heap[w.heap.size]? = some (.cells #[.int .i64 g.link, .int .i64 g.p, .int .i64 g.node, .bool false, .int .i64 g.key, .int .i64 (g.reads : Int), .bool g.over, .int .i64 g.cell] 90 (0, 0))) := by rw [Hid, hold6.out _ (heap_lt HG0.out) (by omega)]; exact HG0.out
  have e0 : w6.cell? ⟨w.heap.size, 0, none⟩ = some (.int .i64 g.link) := by rw [cell_at HW6.out]; rfl
  have e1 : w6.cell? ⟨w.heap.size, 1, none⟩ = some (.int .i64 g.p) := by rw [cell_at HW6.out]; rfl
  have z6 : w.heap.size < w6.heap.size := heap_lt HW6.out
  clear h4 HB2 HG0 HG1 HG2 hold6
  clear hre hx6
  go_wp2_with fail
  refine (HE.out w6 _ _).mono ?_
  rintro e w7 h7
  obtain ⟨cs, w8, rfl, hz, hst, hr, _, _⟩ := tl_put (w := w) (R := w.heap.size + 1) h7 HG6.out rfl HB6.out (by omega)
  clear h7
  go_wp2_with fail
  exact ret_wn rfl rfl hr.out.1 hz rfl hr.out.2
set_option maxRecDepth 100000 in
theorem radds_unused_0 (w : World) {b n k wr : Int} {g : Wg} {xa : Addr} {cap m : Nat} {f u : Int} (ha : g.at_ = false) (hb : 0 ≤ b ∧ b ≤ 1024) (hn : 0 ≤ n ∧ n ≤ 16) (hl : leadV f n = 0) (hu : ¬ (u < 0 ∨ n ≤ u)) (hgl : 0 ≤ g.link ∧ g.link ≤ 100) (h00 : wr = 0) (hm : 1 < m) (hxa : xa.block < w.heap.size) (h0 : w.cell? xa = some (.int .i64 f)) (h1 : w.cell? ⟨xa.block, xa.off + 1, none⟩ = some (.int .i64 u)) : Calls Try.prog 68 #[.int .i64 b, .int .i64 n, .int .i64 k, .agg (wgC g), .slice (some xa) m cap, .int .i64 wr] w (Tl (putW (b + 2) (u + 1)) w) := by
  unfold wgC
  rw [ha]
  clear ha
  have m0 : ((m : Int) == 0) = false := by simp; omega
  have m1 : ((m : Int) == 1) = false := by simp; omega
  have m2 : 0 < m := by omega
  have m3 : (1 : Int) < (m : Int) := by omega
  have _u0 := And.intro h0 h1
  clear _u0
  have xb1 : xa.block < w.heap.size + 1 := by omega
  have xb2 : xa.block < w.heap.size + 1 + 1 := by omega
  have HP : Hid (∀ (w : World) c v, Calls Try.prog 83 #[.int .i64 c, .int .i64 v] w (Tl (putW c v) w)) := fun w c v => (rput_any w c v).mono tl_of
  have HE : Hid (∀ (w : World) v c, Calls Try.prog 71 #[.int .i64 v, .int .i64 c] w (Tl (endW v c) w)) := fun w v c => (rend_any w v c).mono tl_of
  have HL : Hid (∀ w : World, Calls Try.prog 44 #[.int .i64 f, .int .i64 n] w fun e w' => e = .returned (.int .i64 0) ∧ w' = w) := fun w => by have := rleads_any w f n; rw [hl] at this; exact this
  have hd : 0 ≤ u + 1 ∧ u + 1 ≤ 100 := by omega
  have q0 : decide (u < 0) = false := by simp; omega
  have q1 : decide (n ≤ u) = false := by simp; omega
  have hw1 : wrap64 (b + 2) = b + 2 := by unfold wrap64; omega
  have hwq : ∀ d, u + 1 = d → wrap64 (u + 1) = d := fun d h => by unfold wrap64; omega
  clear hl
  generalize hdd : u + 1 = d at hd ⊢
  have hw2 := hwq d hdd
  clear hdd hwq hu
  have hwl : wrap64 (b + g.link) = b + g.link := by unfold wrap64; omega
  subst h00
  clear hb hn hd hgl
  go_enter Try.func68, Try.ntmps68
  go_wp2_with fail
  refine (HL.out _).mono ?_
  rintro e w1 ⟨rfl, hw1⟩
  obtain rfl := hw1.symm
  clear hw1
  go_wp2_with fail
  obtain ⟨w2, hw2⟩ : ∃ w2, w2 = (World.alloc (World.alloc (World.alloc w (.cells #[.int .i64 g.link, .int .i64 g.p, .int .i64 g.node, .bool false, .int .i64 g.key, .int .i64 (g.reads : Int), .bool g.over, .int .i64 g.cell] 90)) (.cells #[.int .i64 0, .int .i64 0, .int .i64 0, .int .i64 0] 51)) (.cells #[.int .i64 0, .int .i64 0, .int .i64 0, .int .i64 0] 51)) := ⟨_, rfl⟩
  have HB2 : Hid (Below w.heap.size w w2) := by rw [hw2]; exact bl3 _ _ _ _
  have HG0 : Hid (w2.heap[w.heap.size]? = some (.cells #[.int .i64 g.link, .int .i64 g.p, .int .i64 g.node, .bool false, .int .i64 g.key, .int .i64 (g.reads : Int), .bool g.over, .int .i64 g.cell] 90 (0, 0))) := by rw [hw2]; exact hp_past (hp_past (hp_at (by simp)))
  have HG1 : Hid (w2.heap[w.heap.size + 1]? = some (.cells #[.int .i64 0, .int .i64 0, .int .i64 0, .int .i64 0] 51 (0, 0))) := by rw [hw2]; exact hp_past (hp_at (by simp))
  have HG2 : Hid (w2.heap[w.heap.size + 1 + 1]? = some (.cells #[.int .i64 0, .int .i64 0, .int .i64 0, .int .i64 0] 51 (0, 0))) := by rw [hw2]; exact hp_at (by simp)
  rw [← hw2]
  clear hw2
  refine (HP.out w2 _ _).mono ?_
  rintro e w4 h4
  obtain ⟨ce, w6, rfl, hze, hst6, hre, hold6, hx6⟩ := tl_put (w := w) (R := w.heap.size + 1 + 1) h4 HG2.out rfl HB2.out (by omega)
  have HB6 : Hid (Below w.heap.size w w6) := hx6.out.2
  have HG6 : Hid (w6.heap[w.heap.size + 1]? = some (.cells #[.int .i64 0, .int .i64 0, .int .i64 0, .int .i64 0] 51 (0, 0))) := by rw [Hid, hold6.out _ (heap_lt HG1.out) (by omega)]; exact HG1.out
  have HW6 : Hid (w6.heap[w.heap.size]? = some (.cells #[.int .i64 g.link, .int .i64 g.p, .int .i64 g.node, .bool false, .int .i64 g.key, .int .i64 (g.reads : Int), .bool g.over, .int .i64 g.cell] 90 (0, 0))) := by rw [Hid, hold6.out _ (heap_lt HG0.out) (by omega)]; exact HG0.out
  have e0 : w6.cell? ⟨w.heap.size, 0, none⟩ = some (.int .i64 g.link) := by rw [cell_at HW6.out]; rfl
  have e1 : w6.cell? ⟨w.heap.size, 1, none⟩ = some (.int .i64 g.p) := by rw [cell_at HW6.out]; rfl
  have z6 : w.heap.size < w6.heap.size := heap_lt HW6.out
  clear h4 HB2 HG0 HG1 HG2 hold6
  have HX6 : Hid _ := hx6
  have HRE : Hid (w6.heap[w.heap.size + 1 + 1]? = some (.cells ce 51 (0, 0))) := hre.out.1
  obtain ⟨w8, hs8, hw8⟩ : ∃ w8, (storeCells ⟨w.heap.size + 1, 0, none⟩ ce.toList 0).run Try.prog w6 = .ok () w8 ∧ w8 = w6.setRow (w.heap.size + 1) ce := ⟨_, store_wn HG6.out rfl hze (by rw [← hx6.out.1]; exact wnC_one _), rfl⟩
  have HF : Hid (w8.heap[w.heap.size + 1]? = some (.cells ce 51 (0, 0)) ∧ Tl (putW (b + 2) d) w (.returned (.agg ce)) w8) := ⟨by rw [hw8]; exact setRow_heap _ _ _ _ _ _ HG6.out, ce, hx6.out.1, hze, rfl, by rw [hw8]; exact below_row HB6.out _ (by omega) _⟩
  have hld := run_loadVar_row (P := Try.prog) w6 (w.heap.size + 1 + 1) 51 51 ce (0, 0) _ HRE.out Try.underlying51 rfl (by rw [hze]; kernel_rfl)
  have v0 : w6.cell? ⟨w.heap.size + 1 + 1, 0, none⟩ = some (.int .i64 3) := by rw [cell_at HRE.out, ← hx6.out.1]; rfl
  have v1 : w6.cell? ⟨w.heap.size + 1 + 1, 1, none⟩ = some (.int .i64 (b + 2)) := by rw [cell_at HRE.out, ← hx6.out.1]; rfl
  have v2 : w6.cell? ⟨w.heap.size + 1 + 1, 2, none⟩ = some (.int .i64 d) := by rw [cell_at HRE.out, ← hx6.out.1]; rfl
  have v3 : w6.cell? ⟨w.heap.size + 1 + 1, 3, none⟩ = some (.int .i64 0) := by rw [cell_at HRE.out, ← hx6.out.1]; rfl
  have hpk : (#[.int .i64 3, .int .i64 (b + 2), .int .i64 d, .int .i64 0] : Array Value) = ce := hx6.out.1
  clear hw8 hx6 hre hld
  go_wp2_with fail
  exact ret_wn rfl rfl HF.out.1 hze rfl HF.out.2
set_option maxRecDepth 100000 in
theorem radds_unused_1 (w : World) {b n k wr : Int} {g : Wg} {xa : Addr} {cap m : Nat} {f u : Int} (ha : g.at_ = false) (hb : 0 ≤ b ∧ b ≤ 1024) (hn : 0 ≤ n ∧ n ≤ 16) (hl : leadV f n = 0) (hu : ¬ (u < 0 ∨ n ≤ u)) (hgl : 0 ≤ g.link ∧ g.link ≤ 100) (h00 : wr = 1) (hm : 1 < m) (hxa : xa.block < w.heap.size) (h0 : w.cell? xa = some (.int .i64 f)) (h1 : w.cell? ⟨xa.block, xa.off + 1, none⟩ = some (.int .i64 u)) : Calls Try.prog 68 #[.int .i64 b, .int .i64 n, .int .i64 k, .agg (wgC g), .slice (some xa) m cap, .int .i64 wr] w (Tl (putW (b + keyV (u + 1)) k) w) := by
  unfold wgC
  rw [ha]
  clear ha
  have m0 : ((m : Int) == 0) = false := by simp; omega
  have m1 : ((m : Int) == 1) = false := by simp; omega
  have m2 : 0 < m := by omega
  have m3 : (1 : Int) < (m : Int) := by omega
  have _u0 := And.intro h0 h1
  clear _u0
  have xb1 : xa.block < w.heap.size + 1 := by omega
  have xb2 : xa.block < w.heap.size + 1 + 1 := by omega
  have HP : Hid (∀ (w : World) c v, Calls Try.prog 83 #[.int .i64 c, .int .i64 v] w (Tl (putW c v) w)) := fun w c v => (rput_any w c v).mono tl_of
  have HE : Hid (∀ (w : World) v c, Calls Try.prog 71 #[.int .i64 v, .int .i64 c] w (Tl (endW v c) w)) := fun w v c => (rend_any w v c).mono tl_of
  have HL : Hid (∀ w : World, Calls Try.prog 44 #[.int .i64 f, .int .i64 n] w fun e w' => e = .returned (.int .i64 0) ∧ w' = w) := fun w => by have := rleads_any w f n; rw [hl] at this; exact this
  have hd : 0 ≤ u + 1 ∧ u + 1 ≤ 100 := by omega
  have q0 : decide (u < 0) = false := by simp; omega
  have q1 : decide (n ≤ u) = false := by simp; omega
  have hw1 : wrap64 (b + 2) = b + 2 := by unfold wrap64; omega
  have hwq : ∀ d, u + 1 = d → wrap64 (u + 1) = d := fun d h => by unfold wrap64; omega
  clear hl
  generalize hdd : u + 1 = d at hd ⊢
  have hw2 := hwq d hdd
  clear hdd hwq hu
  have hwl : wrap64 (b + g.link) = b + g.link := by unfold wrap64; omega
  subst h00
  have HK : Hid (∀ w : World, Calls Try.prog 30 #[.int .i64 d] w fun e w' => e = .returned (.int .i64 (keyV d)) ∧ w' = w) := fun w => rkey_any w hd
  have hwk : wrap64 (b + keyV d) = b + keyV d := by unfold wrap64 keyV; omega
  generalize keyV d = y1 at *
  clear hb hn hd hgl
  go_enter Try.func68, Try.ntmps68
  go_wp2_with fail
  refine (HL.out _).mono ?_
  rintro e w1 ⟨rfl, hw1⟩
  obtain rfl := hw1.symm
  clear hw1
  go_wp2_with fail
  obtain ⟨w2, hw2⟩ : ∃ w2, w2 = (World.alloc (World.alloc (World.alloc w (.cells #[.int .i64 g.link, .int .i64 g.p, .int .i64 g.node, .bool false, .int .i64 g.key, .int .i64 (g.reads : Int), .bool g.over, .int .i64 g.cell] 90)) (.cells #[.int .i64 0, .int .i64 0, .int .i64 0, .int .i64 0] 51)) (.cells #[.int .i64 0, .int .i64 0, .int .i64 0, .int .i64 0] 51)) := ⟨_, rfl⟩
  have HB2 : Hid (Below w.heap.size w w2) := by rw [hw2]; exact bl3 _ _ _ _
  have HG0 : Hid (w2.heap[w.heap.size]? = some (.cells #[.int .i64 g.link, .int .i64 g.p, .int .i64 g.node, .bool false, .int .i64 g.key, .int .i64 (g.reads : Int), .bool g.over, .int .i64 g.cell] 90 (0, 0))) := by rw [hw2]; exact hp_past (hp_past (hp_at (by simp)))
  have HG1 : Hid (w2.heap[w.heap.size + 1]? = some (.cells #[.int .i64 0, .int .i64 0, .int .i64 0, .int .i64 0] 51 (0, 0))) := by rw [hw2]; exact hp_past (hp_at (by simp))
  have HG2 : Hid (w2.heap[w.heap.size + 1 + 1]? = some (.cells #[.int .i64 0, .int .i64 0, .int .i64 0, .int .i64 0] 51 (0, 0))) := by rw [hw2]; exact hp_at (by simp)
  rw [← hw2]
  clear hw2
  refine (HP.out w2 _ _).mono ?_
  rintro e w4 h4
  obtain ⟨ce, w6, rfl, hze, hst6, hre, hold6, hx6⟩ := tl_put (w := w) (R := w.heap.size + 1 + 1) h4 HG2.out rfl HB2.out (by omega)
  have HB6 : Hid (Below w.heap.size w w6) := hx6.out.2
  have HG6 : Hid (w6.heap[w.heap.size + 1]? = some (.cells #[.int .i64 0, .int .i64 0, .int .i64 0, .int .i64 0] 51 (0, 0))) := by rw [Hid, hold6.out _ (heap_lt HG1.out) (by omega)]; exact HG1.out
  have HW6 : Hid (w6.heap[w.heap.size]? = some (.cells #[.int .i64 g.link, .int .i64 g.p, .int .i64 g.node, .bool false, .int .i64 g.key, .int .i64 (g.reads : Int), .bool g.over, .int .i64 g.cell] 90 (0, 0))) := by rw [Hid, hold6.out _ (heap_lt HG0.out) (by omega)]; exact HG0.out
  have e0 : w6.cell? ⟨w.heap.size, 0, none⟩ = some (.int .i64 g.link) := by rw [cell_at HW6.out]; rfl
  have e1 : w6.cell? ⟨w.heap.size, 1, none⟩ = some (.int .i64 g.p) := by rw [cell_at HW6.out]; rfl
  have z6 : w.heap.size < w6.heap.size := heap_lt HW6.out
  clear h4 HB2 HG0 HG1 HG2 hold6
  clear hre hx6
  go_wp2_with fail
  refine (HK.out _).mono ?_
  rintro e w1 ⟨rfl, hw1⟩
  obtain rfl := hw1.symm
  clear hw1
  go_wp2_with fail
  refine (HP.out w6 _ _).mono ?_
  rintro e w7 h7
  obtain ⟨cs, w8, rfl, hz, hst, hr, _, _⟩ := tl_put (w := w) (R := w.heap.size + 1) h7 HG6.out rfl HB6.out (by omega)
  clear h7
  go_wp2_with fail
  exact ret_wn rfl rfl hr.out.1 hz rfl hr.out.2
set_option maxRecDepth 100000 in
theorem radds_unused_2 (w : World) {b n k wr : Int} {g : Wg} {xa : Addr} {cap m : Nat} {f u : Int} (ha : g.at_ = false) (hb : 0 ≤ b ∧ b ≤ 1024) (hn : 0 ≤ n ∧ n ≤ 16) (hl : leadV f n = 0) (hu : ¬ (u < 0 ∨ n ≤ u)) (hgl : 0 ≤ g.link ∧ g.link ≤ 100) (h00 : wr = 2) (hm : 1 < m) (hxa : xa.block < w.heap.size) (h0 : w.cell? xa = some (.int .i64 f)) (h1 : w.cell? ⟨xa.block, xa.off + 1, none⟩ = some (.int .i64 u)) : Calls Try.prog 68 #[.int .i64 b, .int .i64 n, .int .i64 k, .agg (wgC g), .slice (some xa) m cap, .int .i64 wr] w (Tl (putW (b + nxtV (u + 1)) g.p) w) := by
  unfold wgC
  rw [ha]
  clear ha
  have m0 : ((m : Int) == 0) = false := by simp; omega
  have m1 : ((m : Int) == 1) = false := by simp; omega
  have m2 : 0 < m := by omega
  have m3 : (1 : Int) < (m : Int) := by omega
  have _u0 := And.intro h0 h1
  clear _u0
  have xb1 : xa.block < w.heap.size + 1 := by omega
  have xb2 : xa.block < w.heap.size + 1 + 1 := by omega
  have HP : Hid (∀ (w : World) c v, Calls Try.prog 83 #[.int .i64 c, .int .i64 v] w (Tl (putW c v) w)) := fun w c v => (rput_any w c v).mono tl_of
  have HE : Hid (∀ (w : World) v c, Calls Try.prog 71 #[.int .i64 v, .int .i64 c] w (Tl (endW v c) w)) := fun w v c => (rend_any w v c).mono tl_of
  have HL : Hid (∀ w : World, Calls Try.prog 44 #[.int .i64 f, .int .i64 n] w fun e w' => e = .returned (.int .i64 0) ∧ w' = w) := fun w => by have := rleads_any w f n; rw [hl] at this; exact this
  have hd : 0 ≤ u + 1 ∧ u + 1 ≤ 100 := by omega
  have q0 : decide (u < 0) = false := by simp; omega
  have q1 : decide (n ≤ u) = false := by simp; omega
  have hw1 : wrap64 (b + 2) = b + 2 := by unfold wrap64; omega
  have hwq : ∀ d, u + 1 = d → wrap64 (u + 1) = d := fun d h => by unfold wrap64; omega
  clear hl
  generalize hdd : u + 1 = d at hd ⊢
  have hw2 := hwq d hdd
  clear hdd hwq hu
  have hwl : wrap64 (b + g.link) = b + g.link := by unfold wrap64; omega
  subst h00
  have HN : Hid (∀ w : World, Calls Try.prog 45 #[.int .i64 d] w fun e w' => e = .returned (.int .i64 (nxtV d)) ∧ Below w.heap.size w w') := fun w => (rlink_any w hd).mono (fun e w' h => ⟨h.1, by rw [h.2]; exact Below.refl _ _⟩)
  have HW : Hid (IntKind.i64.wrap (b + nxtV d) = b + nxtV d) := by have : IntKind.i64.wrap (b + nxtV d) = b + nxtV d := (by rw [IntKind.wrap_i64]; unfold nxtV keyV; omega); exact this
  generalize nxtV d = y1 at *
  clear hb hn hd hgl
  go_enter Try.func68, Try.ntmps68
  go_wp2_with fail
  refine (HL.out _).mono ?_
  rintro e w1 ⟨rfl, hw1⟩
  obtain rfl := hw1.symm
  clear hw1
  go_wp2_with fail
  obtain ⟨w2, hw2⟩ : ∃ w2, w2 = (World.alloc (World.alloc (World.alloc w (.cells #[.int .i64 g.link, .int .i64 g.p, .int .i64 g.node, .bool false, .int .i64 g.key, .int .i64 (g.reads : Int), .bool g.over, .int .i64 g.cell] 90)) (.cells #[.int .i64 0, .int .i64 0, .int .i64 0, .int .i64 0] 51)) (.cells #[.int .i64 0, .int .i64 0, .int .i64 0, .int .i64 0] 51)) := ⟨_, rfl⟩
  have HB2 : Hid (Below w.heap.size w w2) := by rw [hw2]; exact bl3 _ _ _ _
  have HG0 : Hid (w2.heap[w.heap.size]? = some (.cells #[.int .i64 g.link, .int .i64 g.p, .int .i64 g.node, .bool false, .int .i64 g.key, .int .i64 (g.reads : Int), .bool g.over, .int .i64 g.cell] 90 (0, 0))) := by rw [hw2]; exact hp_past (hp_past (hp_at (by simp)))
  have HG1 : Hid (w2.heap[w.heap.size + 1]? = some (.cells #[.int .i64 0, .int .i64 0, .int .i64 0, .int .i64 0] 51 (0, 0))) := by rw [hw2]; exact hp_past (hp_at (by simp))
  have HG2 : Hid (w2.heap[w.heap.size + 1 + 1]? = some (.cells #[.int .i64 0, .int .i64 0, .int .i64 0, .int .i64 0] 51 (0, 0))) := by rw [hw2]; exact hp_at (by simp)
  rw [← hw2]
  clear hw2
  refine (HP.out w2 _ _).mono ?_
  rintro e w4 h4
  obtain ⟨ce, w6, rfl, hze, hst6, hre, hold6, hx6⟩ := tl_put (w := w) (R := w.heap.size + 1 + 1) h4 HG2.out rfl HB2.out (by omega)
  have HB6 : Hid (Below w.heap.size w w6) := hx6.out.2
  have HG6 : Hid (w6.heap[w.heap.size + 1]? = some (.cells #[.int .i64 0, .int .i64 0, .int .i64 0, .int .i64 0] 51 (0, 0))) := by rw [Hid, hold6.out _ (heap_lt HG1.out) (by omega)]; exact HG1.out
  have HW6 : Hid (w6.heap[w.heap.size]? = some (.cells #[.int .i64 g.link, .int .i64 g.p, .int .i64 g.node, .bool false, .int .i64 g.key, .int .i64 (g.reads : Int), .bool g.over, .int .i64 g.cell] 90 (0, 0))) := by rw [Hid, hold6.out _ (heap_lt HG0.out) (by omega)]; exact HG0.out
  have e0 : w6.cell? ⟨w.heap.size, 0, none⟩ = some (.int .i64 g.link) := by rw [cell_at HW6.out]; rfl
  have e1 : w6.cell? ⟨w.heap.size, 1, none⟩ = some (.int .i64 g.p) := by rw [cell_at HW6.out]; rfl
  have z6 : w.heap.size < w6.heap.size := heap_lt HW6.out
  clear h4 HB2 HG0 HG1 HG2 hold6
  clear hre hx6
  go_wp2_with fail
  have HG0 : Hid _ := HW6
  have HG1 : Hid _ := HG6
  have HB2 : Hid _ := HB6
  have HP2 : Hid (∀ w3 : World, Calls Try.prog 83 #[.int .i64 (IntKind.i64.wrap (b + y1)), .int .i64 g.p] w3 (Tl (putW (b + y1) g.p) w3)) := fun w3 => by rw [HW.out]; exact HP.out w3 _ _
  have HP3 : Hid (∀ w3 : World, Calls Try.prog 83 #[.int .i64 (wrap64 (b + y1)), .int .i64 g.p] w3 (Tl (putW (b + y1) g.p) w3)) := fun w3 => by have h9 := HW.out; rw [IntKind.wrap_i64] at h9; unfold wrap64; rw [h9]; exact HP.out w3 _ _
  clear e0 e1 h0 h1 HP HE
  have HS : Hid (∀ w' : World, (∀ q, q < w6.heap.size → q ≠ w.heap.size + 1 → w'.heap[q]? = w6.heap[q]?) → w'.cell? ⟨w.heap.size, 1, none⟩ = some (.int .i64 g.p)) := fun w' hq => (by rw [cell_at ((hq _ (heap_lt HG0.out) (by omega)).trans HG0.out)]; rfl)
  have s0 := HS.out w6 (fun _ _ _ => rfl)
  have y0 : w.heap.size < w6.heap.size := heap_lt HG0.out
  go_region_held3 (fun w' => w'.cell? ⟨w.heap.size, 1, none⟩ = some (.int .i64 g.p)) (first | go_keep | exact hS | exact hS5) (first
    | (go_at_call 45; refine (HN.out _).mono ?_; rintro e w3 ⟨rfl, hb3⟩; have HB3 : Hid (Below w6.heap.size w6 w3) := below_then (bl_drew1 _) hb3; have hS : w3.cell? ⟨w.heap.size, 1, none⟩ = some (.int .i64 g.p) := HS.out w3 (fun q hq _ => HB3.out.block q hq); clear hb3)
    | (go_at_call 83; (first | refine (HP2.out _).mono ?_ | refine (HP3.out _).mono ?_); rintro e w4 h4; obtain ⟨cs, w5, rfl, hz, hst, hr, hold, _⟩ := tl_put (w := w) (R := w.heap.size + 1) h4 (by rw [HB3.out.block _ (heap_lt HG1.out)]; exact HG1.out) rfl (below_then HB2.out HB3.out) (by omega); have hS : w4.cell? ⟨w.heap.size, 1, none⟩ = some (.int .i64 g.p) := HS.out w4 (fun q hq _ => (h4.bel.block q (Nat.lt_of_lt_of_le hq HB3.out.size)).trans (HB3.out.block q hq)); have hS5 : w5.cell? ⟨w.heap.size, 1, none⟩ = some (.int .i64 g.p) := HS.out w5 (fun q hq hqr => (hold.out q (Nat.lt_of_lt_of_le hq HB3.out.size) hqr).trans (HB3.out.block q hq)); clear h4))
  all_goals (go_wp2_with fail; exact ret_wn rfl rfl hr.out.1 hz rfl hr.out.2)
set_option maxRecDepth 100000 in
theorem radds_unused_3 (w : World) {b n k wr : Int} {g : Wg} {xa : Addr} {cap m : Nat} {f u : Int} (ha : g.at_ = false) (hb : 0 ≤ b ∧ b ≤ 1024) (hn : 0 ≤ n ∧ n ≤ 16) (hl : leadV f n = 0) (hu : ¬ (u < 0 ∨ n ≤ u)) (hgl : 0 ≤ g.link ∧ g.link ≤ 100) (h00 : wr = 3) (hm : 1 < m) (hxa : xa.block < w.heap.size) (h0 : w.cell? xa = some (.int .i64 f)) (h1 : w.cell? ⟨xa.block, xa.off + 1, none⟩ = some (.int .i64 u)) : Calls Try.prog 68 #[.int .i64 b, .int .i64 n, .int .i64 k, .agg (wgC g), .slice (some xa) m cap, .int .i64 wr] w (Tl (putW (b + g.link) (u + 1)) w) := by
  unfold wgC
  rw [ha]
  clear ha
  have m0 : ((m : Int) == 0) = false := by simp; omega
  have m1 : ((m : Int) == 1) = false := by simp; omega
  have m2 : 0 < m := by omega
  have m3 : (1 : Int) < (m : Int) := by omega
  have _u0 := And.intro h0 h1
  clear _u0
  have xb1 : xa.block < w.heap.size + 1 := by omega
  have xb2 : xa.block < w.heap.size + 1 + 1 := by omega
  have HP : Hid (∀ (w : World) c v, Calls Try.prog 83 #[.int .i64 c, .int .i64 v] w (Tl (putW c v) w)) := fun w c v => (rput_any w c v).mono tl_of
  have HE : Hid (∀ (w : World) v c, Calls Try.prog 71 #[.int .i64 v, .int .i64 c] w (Tl (endW v c) w)) := fun w v c => (rend_any w v c).mono tl_of
  have HL : Hid (∀ w : World, Calls Try.prog 44 #[.int .i64 f, .int .i64 n] w fun e w' => e = .returned (.int .i64 0) ∧ w' = w) := fun w => by have := rleads_any w f n; rw [hl] at this; exact this
  have hd : 0 ≤ u + 1 ∧ u + 1 ≤ 100 := by omega
  have q0 : decide (u < 0) = false := by simp; omega
  have q1 : decide (n ≤ u) = false := by simp; omega
  have hw1 : wrap64 (b + 2) = b + 2 := by unfold wrap64; omega
  have hwq : ∀ d, u + 1 = d → wrap64 (u + 1) = d := fun d h => by unfold wrap64; omega
  clear hl
  generalize hdd : u + 1 = d at hd ⊢
  have hw2 := hwq d hdd
  clear hdd hwq hu
  have hwl : wrap64 (b + g.link) = b + g.link := by unfold wrap64; omega
  subst h00
  clear hb hn hd hgl
  go_enter Try.func68, Try.ntmps68
  go_wp2_with fail
  refine (HL.out _).mono ?_
  rintro e w1 ⟨rfl, hw1⟩
  obtain rfl := hw1.symm
  clear hw1
  go_wp2_with fail
  obtain ⟨w2, hw2⟩ : ∃ w2, w2 = (World.alloc (World.alloc (World.alloc w (.cells #[.int .i64 g.link, .int .i64 g.p, .int .i64 g.node, .bool false, .int .i64 g.key, .int .i64 (g.reads : Int), .bool g.over, .int .i64 g.cell] 90)) (.cells #[.int .i64 0, .int .i64 0, .int .i64 0, .int .i64 0] 51)) (.cells #[.int .i64 0, .int .i64 0, .int .i64 0, .int .i64 0] 51)) := ⟨_, rfl⟩
  have HB2 : Hid (Below w.heap.size w w2) := by rw [hw2]; exact bl3 _ _ _ _
  have HG0 : Hid (w2.heap[w.heap.size]? = some (.cells #[.int .i64 g.link, .int .i64 g.p, .int .i64 g.node, .bool false, .int .i64 g.key, .int .i64 (g.reads : Int), .bool g.over, .int .i64 g.cell] 90 (0, 0))) := by rw [hw2]; exact hp_past (hp_past (hp_at (by simp)))
  have HG1 : Hid (w2.heap[w.heap.size + 1]? = some (.cells #[.int .i64 0, .int .i64 0, .int .i64 0, .int .i64 0] 51 (0, 0))) := by rw [hw2]; exact hp_past (hp_at (by simp))
  have HG2 : Hid (w2.heap[w.heap.size + 1 + 1]? = some (.cells #[.int .i64 0, .int .i64 0, .int .i64 0, .int .i64 0] 51 (0, 0))) := by rw [hw2]; exact hp_at (by simp)
  rw [← hw2]
  clear hw2
  refine (HP.out w2 _ _).mono ?_
  rintro e w4 h4
  obtain ⟨ce, w6, rfl, hze, hst6, hre, hold6, hx6⟩ := tl_put (w := w) (R := w.heap.size + 1 + 1) h4 HG2.out rfl HB2.out (by omega)
  have HB6 : Hid (Below w.heap.size w w6) := hx6.out.2
  have HG6 : Hid (w6.heap[w.heap.size + 1]? = some (.cells #[.int .i64 0, .int .i64 0, .int .i64 0, .int .i64 0] 51 (0, 0))) := by rw [Hid, hold6.out _ (heap_lt HG1.out) (by omega)]; exact HG1.out
  have HW6 : Hid (w6.heap[w.heap.size]? = some (.cells #[.int .i64 g.link, .int .i64 g.p, .int .i64 g.node, .bool false, .int .i64 g.key, .int .i64 (g.reads : Int), .bool g.over, .int .i64 g.cell] 90 (0, 0))) := by rw [Hid, hold6.out _ (heap_lt HG0.out) (by omega)]; exact HG0.out
  have e0 : w6.cell? ⟨w.heap.size, 0, none⟩ = some (.int .i64 g.link) := by rw [cell_at HW6.out]; rfl
  have e1 : w6.cell? ⟨w.heap.size, 1, none⟩ = some (.int .i64 g.p) := by rw [cell_at HW6.out]; rfl
  have z6 : w.heap.size < w6.heap.size := heap_lt HW6.out
  clear h4 HB2 HG0 HG1 HG2 hold6
  clear hre hx6
  go_wp2_with fail
  refine (HP.out w6 _ _).mono ?_
  rintro e w7 h7
  obtain ⟨cs, w8, rfl, hz, hst, hr, _, _⟩ := tl_put (w := w) (R := w.heap.size + 1) h7 HG6.out rfl HB6.out (by omega)
  clear h7
  go_wp2_with fail
  exact ret_wn rfl rfl hr.out.1 hz rfl hr.out.2
set_option maxRecDepth 100000 in
theorem radds_unused_e (w : World) {b n k wr : Int} {g : Wg} {xa : Addr} {cap m : Nat} {f u : Int} (ha : g.at_ = false) (hb : 0 ≤ b ∧ b ≤ 1024) (hn : 0 ≤ n ∧ n ≤ 16) (hl : leadV f n = 0) (hu : ¬ (u < 0 ∨ n ≤ u)) (hgl : 0 ≤ g.link ∧ g.link ≤ 100) (h00 : wr ≠ 0 ∧ wr ≠ 1 ∧ wr ≠ 2 ∧ wr ≠ 3) (hm : 1 < m) (hxa : xa.block < w.heap.size) (h0 : w.cell? xa = some (.int .i64 f)) (h1 : w.cell? ⟨xa.block, xa.off + 1, none⟩ = some (.int .i64 u)) : Calls Try.prog 68 #[.int .i64 b, .int .i64 n, .int .i64 k, .agg (wgC g), .slice (some xa) m cap, .int .i64 wr] w (Tl (endW 0 0) w) := by
  unfold wgC
  rw [ha]
  clear ha
  have m0 : ((m : Int) == 0) = false := by simp; omega
  have m1 : ((m : Int) == 1) = false := by simp; omega
  have m2 : 0 < m := by omega
  have m3 : (1 : Int) < (m : Int) := by omega
  have _u0 := And.intro h0 h1
  clear _u0
  have xb1 : xa.block < w.heap.size + 1 := by omega
  have xb2 : xa.block < w.heap.size + 1 + 1 := by omega
  have HP : Hid (∀ (w : World) c v, Calls Try.prog 83 #[.int .i64 c, .int .i64 v] w (Tl (putW c v) w)) := fun w c v => (rput_any w c v).mono tl_of
  have HE : Hid (∀ (w : World) v c, Calls Try.prog 71 #[.int .i64 v, .int .i64 c] w (Tl (endW v c) w)) := fun w v c => (rend_any w v c).mono tl_of
  have HL : Hid (∀ w : World, Calls Try.prog 44 #[.int .i64 f, .int .i64 n] w fun e w' => e = .returned (.int .i64 0) ∧ w' = w) := fun w => by have := rleads_any w f n; rw [hl] at this; exact this
  have hd : 0 ≤ u + 1 ∧ u + 1 ≤ 100 := by omega
  have q0 : decide (u < 0) = false := by simp; omega
  have q1 : decide (n ≤ u) = false := by simp; omega
  have hw1 : wrap64 (b + 2) = b + 2 := by unfold wrap64; omega
  have hwq : ∀ d, u + 1 = d → wrap64 (u + 1) = d := fun d h => by unfold wrap64; omega
  clear hl
  generalize hdd : u + 1 = d at hd ⊢
  have hw2 := hwq d hdd
  clear hdd hwq hu
  have hwl : wrap64 (b + g.link) = b + g.link := by unfold wrap64; omega
  have p0 : (wr == 0) = false := by simp; omega
  have p1 : (wr == 1) = false := by simp; omega
  have p2 : (wr == 2) = false := by simp; omega
  have p3 : (wr == 3) = false := by simp; omega
  clear h00
  clear hb hn hd hgl
  go_enter Try.func68, Try.ntmps68
  go_wp2_with fail
  refine (HL.out _).mono ?_
  rintro e w1 ⟨rfl, hw1⟩
  obtain rfl := hw1.symm
  clear hw1
  go_wp2_with fail
  obtain ⟨w2, hw2⟩ : ∃ w2, w2 = (World.alloc (World.alloc (World.alloc w (.cells #[.int .i64 g.link, .int .i64 g.p, .int .i64 g.node, .bool false, .int .i64 g.key, .int .i64 (g.reads : Int), .bool g.over, .int .i64 g.cell] 90)) (.cells #[.int .i64 0, .int .i64 0, .int .i64 0, .int .i64 0] 51)) (.cells #[.int .i64 0, .int .i64 0, .int .i64 0, .int .i64 0] 51)) := ⟨_, rfl⟩
  have HB2 : Hid (Below w.heap.size w w2) := by rw [hw2]; exact bl3 _ _ _ _
  have HG0 : Hid (w2.heap[w.heap.size]? = some (.cells #[.int .i64 g.link, .int .i64 g.p, .int .i64 g.node, .bool false, .int .i64 g.key, .int .i64 (g.reads : Int), .bool g.over, .int .i64 g.cell] 90 (0, 0))) := by rw [hw2]; exact hp_past (hp_past (hp_at (by simp)))
  have HG1 : Hid (w2.heap[w.heap.size + 1]? = some (.cells #[.int .i64 0, .int .i64 0, .int .i64 0, .int .i64 0] 51 (0, 0))) := by rw [hw2]; exact hp_past (hp_at (by simp))
  have HG2 : Hid (w2.heap[w.heap.size + 1 + 1]? = some (.cells #[.int .i64 0, .int .i64 0, .int .i64 0, .int .i64 0] 51 (0, 0))) := by rw [hw2]; exact hp_at (by simp)
  rw [← hw2]
  clear hw2
  refine (HP.out w2 _ _).mono ?_
  rintro e w4 h4
  obtain ⟨ce, w6, rfl, hze, hst6, hre, hold6, hx6⟩ := tl_put (w := w) (R := w.heap.size + 1 + 1) h4 HG2.out rfl HB2.out (by omega)
  have HB6 : Hid (Below w.heap.size w w6) := hx6.out.2
  have HG6 : Hid (w6.heap[w.heap.size + 1]? = some (.cells #[.int .i64 0, .int .i64 0, .int .i64 0, .int .i64 0] 51 (0, 0))) := by rw [Hid, hold6.out _ (heap_lt HG1.out) (by omega)]; exact HG1.out
  have HW6 : Hid (w6.heap[w.heap.size]? = some (.cells #[.int .i64 g.link, .int .i64 g.p, .int .i64 g.node, .bool false, .int .i64 g.key, .int .i64 (g.reads : Int), .bool g.over, .int .i64 g.cell] 90 (0, 0))) := by rw [Hid, hold6.out _ (heap_lt HG0.out) (by omega)]; exact HG0.out
  have e0 : w6.cell? ⟨w.heap.size, 0, none⟩ = some (.int .i64 g.link) := by rw [cell_at HW6.out]; rfl
  have e1 : w6.cell? ⟨w.heap.size, 1, none⟩ = some (.int .i64 g.p) := by rw [cell_at HW6.out]; rfl
  have z6 : w.heap.size < w6.heap.size := heap_lt HW6.out
  clear h4 HB2 HG0 HG1 HG2 hold6
  clear hre hx6
  go_wp2_with fail
  refine (HE.out w6 _ _).mono ?_
  rintro e w7 h7
  obtain ⟨cs, w8, rfl, hz, hst, hr, _, _⟩ := tl_put (w := w) (R := w.heap.size + 1) h7 HG6.out rfl HB6.out (by omega)
  clear h7
  go_wp2_with fail
  exact ret_wn rfl rfl hr.out.1 hz rfl hr.out.2
end Go.Proofs.Ytaffkcliepfcmaa.Ch
