/- The document's machine of layer 11: how it lies. -/
import Derived.Test.YtbmmicfdnfpcaaaBpM
import Derived.Test.YtbmmicfdnfpcaaaBkN
import Derived.Test.YtbmmicfdnfpcaaaMemN
namespace Go.Proofs.Ytbmmicfdnfpcaaa
open Go.ChangeShapes Go.WideShapes Go.ChangeAt Go.RowKit

def numD (l : List Int) : List Value := l.map (Value.int .i64)
def dkR (s : Int) (mu : Bool) (st : Int) (lv : Value) (sg : List Nat) (n : Int) (kv : Value) (sn : Bool) : Array Value := #[.int .i64 s, .bool mu, .int .i64 st, lv, bsV sg 0, bsV sg 1, bsV sg 2, bsV sg 3, bsV sg 4, bsV sg 5, bsV sg 6, bsV sg 7, .int .i64 n, kv, .bool sn]
def DRaw (w : World) (Y : Nat) (s : Int) (mu : Bool) (st : Int) (lv : Value) (sg : List Nat) (n : Int) (kv : Value) (sn : Bool) : Prop := w.heap[Y]? = some (.cells (dkR s mu st lv sg n kv sn) 62 (0, 0))
theorem DRaw.keep {w : World} {Y : Nat} {s : Int} {mu : Bool} {st : Int} {lv : Value} {sg : List Nat} {n : Int} {kv : Value} {sn : Bool} {w' : World} {F : List Nat} (h : DRaw w Y s mu st lv sg n kv sn) (k : Keep F w w') (hx : Y ∉ F) : DRaw w' Y s mu st lv sg n kv sn := by
  unfold DRaw; rw [k.block _ (heap_lt h) hx]; exact h
theorem DRaw.below {w : World} {Y : Nat} {s : Int} {mu : Bool} {st : Int} {lv : Value} {sg : List Nat} {n : Int} {kv : Value} {sn : Bool} {w' : World} {B : Nat} (h : DRaw w Y s mu st lv sg n kv sn) (k : Below B w w') (hx : Y < B) : DRaw w' Y s mu st lv sg n kv sn := by
  unfold DRaw; rw [k.block _ hx]; exact h
theorem DRaw.cells {w : World} {Y : Nat} {s : Int} {mu : Bool} {st : Int} {lv : Value} {sg : List Nat} {n : Int} {kv : Value} {sn : Bool} (h : DRaw w Y s mu st lv sg n kv sn) : w.cell? ⟨Y, 0, none⟩ = some (.int .i64 s) ∧ w.cell? ⟨Y, 1, none⟩ = some (.bool mu) ∧ w.cell? ⟨Y, 2, none⟩ = some (.int .i64 st) ∧ w.cell? ⟨Y, 3, none⟩ = some lv ∧ w.cell? ⟨Y, 12, none⟩ = some (.int .i64 n) ∧ w.cell? ⟨Y, 13, none⟩ = some kv ∧ w.cell? ⟨Y, 14, none⟩ = some (.bool sn) :=
  ⟨by rw [cell_at h]; rfl, by rw [cell_at h]; rfl, by rw [cell_at h]; rfl, by rw [cell_at h]; rfl, by rw [cell_at h]; rfl, by rw [cell_at h]; rfl, by rw [cell_at h]; rfl⟩
theorem DRaw.sigAt {w : World} {Y : Nat} {s : Int} {mu : Bool} {st : Int} {lv : Value} {sg : List Nat} {n : Int} {kv : Value} {sn : Bool} (h : DRaw w Y s mu st lv sg n kv sn) (j : Nat) (hj : j < 8) : w.cell? ⟨Y, 4 + j, none⟩ = some (bsV sg j) := by
  rw [cell_at h]
  match j, hj with
  | 0, _ | 1, _ | 2, _ | 3, _ | 4, _ | 5, _ | 6, _ | 7, _ => rfl
theorem DRaw.sig {w : World} {Y : Nat} {s : Int} {mu : Bool} {st : Int} {lv : Value} {sg : List Nat} {n : Int} {kv : Value} {sn : Bool} (h : DRaw w Y s mu st lv sg n kv sn) : w.cell? ⟨Y, 4, none⟩ = some (bsV sg 0) ∧ w.cell? ⟨Y, 5, none⟩ = some (bsV sg 1) ∧ w.cell? ⟨Y, 6, none⟩ = some (bsV sg 2) ∧ w.cell? ⟨Y, 7, none⟩ = some (bsV sg 3) ∧ w.cell? ⟨Y, 8, none⟩ = some (bsV sg 4) ∧ w.cell? ⟨Y, 9, none⟩ = some (bsV sg 5) ∧ w.cell? ⟨Y, 10, none⟩ = some (bsV sg 6) ∧ w.cell? ⟨Y, 11, none⟩ = some (bsV sg 7) :=
  ⟨by rw [cell_at h]; rfl, by rw [cell_at h]; rfl, by rw [cell_at h]; rfl, by rw [cell_at h]; rfl, by rw [cell_at h]; rfl, by rw [cell_at h]; rfl, by rw [cell_at h]; rfl, by rw [cell_at h]; rfl⟩
theorem DRaw.set3 {w : World} {Y : Nat} {s : Int} {mu : Bool} {st : Int} {lv : Value} {sg : List Nat} {n : Int} {kv : Value} {sn : Bool} (h : DRaw w Y s mu st lv sg n kv sn) (v : Value) : DRaw (w.setCell ⟨Y, 3, none⟩ v) Y s mu st v sg n kv sn := by unfold DRaw; rw [heap_set h]; rfl
theorem DRaw.set12 {w : World} {Y : Nat} {s : Int} {mu : Bool} {st : Int} {lv : Value} {sg : List Nat} {n : Int} {kv : Value} {sn : Bool} (h : DRaw w Y s mu st lv sg n kv sn) (v : Int) : DRaw (w.setCell ⟨Y, 12, none⟩ (.int .i64 v)) Y s mu st lv sg v kv sn := by unfold DRaw; rw [heap_set h]; rfl
theorem DRaw.set13 {w : World} {Y : Nat} {s : Int} {mu : Bool} {st : Int} {lv : Value} {sg : List Nat} {n : Int} {kv : Value} {sn : Bool} (h : DRaw w Y s mu st lv sg n kv sn) (v : Value) : DRaw (w.setCell ⟨Y, 13, none⟩ v) Y s mu st lv sg n v sn := by unfold DRaw; rw [heap_set h]; rfl
theorem DRaw.set14 {w : World} {Y : Nat} {s : Int} {mu : Bool} {st : Int} {lv : Value} {sg : List Nat} {n : Int} {kv : Value} {sn : Bool} (h : DRaw w Y s mu st lv sg n kv sn) (v : Bool) : DRaw (w.setCell ⟨Y, 14, none⟩ (.bool v)) Y s mu st lv sg n kv v := by unfold DRaw; rw [heap_set h]; rfl
theorem DRaw.setSig {w : World} {Y : Nat} {s : Int} {mu : Bool} {st : Int} {lv : Value} {sg : List Nat} {n : Int} {kv : Value} {sn : Bool} (h : DRaw w Y s mu st lv sg n kv sn) (t : List Nat) :
    DRaw ((((((((w.setCell ⟨Y, 4, none⟩ (bsV t 0)).setCell ⟨Y, 5, none⟩ (bsV t 1)).setCell ⟨Y, 6, none⟩ (bsV t 2)).setCell ⟨Y, 7, none⟩ (bsV t 3)).setCell ⟨Y, 8, none⟩ (bsV t 4)).setCell ⟨Y, 9, none⟩ (bsV t 5)).setCell ⟨Y, 10, none⟩ (bsV t 6)).setCell ⟨Y, 11, none⟩ (bsV t 7)) Y s mu st lv t n kv sn := by
  have h0 : w.heap[Y]? = some (.cells #[.int .i64 s, .bool mu, .int .i64 st, lv, bsV sg 0, bsV sg 1, bsV sg 2, bsV sg 3, bsV sg 4, bsV sg 5, bsV sg 6, bsV sg 7, .int .i64 n, kv, .bool sn] 62 (0, 0)) := h
  have h1 : ((w.setCell ⟨Y, 4, none⟩ (bsV t 0))).heap[Y]? = some (.cells #[.int .i64 s, .bool mu, .int .i64 st, lv, bsV t 0, bsV sg 1, bsV sg 2, bsV sg 3, bsV sg 4, bsV sg 5, bsV sg 6, bsV sg 7, .int .i64 n, kv, .bool sn] 62 (0, 0)) := by rw [heap_set h0]; rfl
  have h2 : (((w.setCell ⟨Y, 4, none⟩ (bsV t 0)).setCell ⟨Y, 5, none⟩ (bsV t 1))).heap[Y]? = some (.cells #[.int .i64 s, .bool mu, .int .i64 st, lv, bsV t 0, bsV t 1, bsV sg 2, bsV sg 3, bsV sg 4, bsV sg 5, bsV sg 6, bsV sg 7, .int .i64 n, kv, .bool sn] 62 (0, 0)) := by rw [heap_set h1]; rfl
  have h3 : ((((w.setCell ⟨Y, 4, none⟩ (bsV t 0)).setCell ⟨Y, 5, none⟩ (bsV t 1)).setCell ⟨Y, 6, none⟩ (bsV t 2))).heap[Y]? = some (.cells #[.int .i64 s, .bool mu, .int .i64 st, lv, bsV t 0, bsV t 1, bsV t 2, bsV sg 3, bsV sg 4, bsV sg 5, bsV sg 6, bsV sg 7, .int .i64 n, kv, .bool sn] 62 (0, 0)) := by rw [heap_set h2]; rfl
  have h4 : (((((w.setCell ⟨Y, 4, none⟩ (bsV t 0)).setCell ⟨Y, 5, none⟩ (bsV t 1)).setCell ⟨Y, 6, none⟩ (bsV t 2)).setCell ⟨Y, 7, none⟩ (bsV t 3))).heap[Y]? = some (.cells #[.int .i64 s, .bool mu, .int .i64 st, lv, bsV t 0, bsV t 1, bsV t 2, bsV t 3, bsV sg 4, bsV sg 5, bsV sg 6, bsV sg 7, .int .i64 n, kv, .bool sn] 62 (0, 0)) := by rw [heap_set h3]; rfl
  have h5 : ((((((w.setCell ⟨Y, 4, none⟩ (bsV t 0)).setCell ⟨Y, 5, none⟩ (bsV t 1)).setCell ⟨Y, 6, none⟩ (bsV t 2)).setCell ⟨Y, 7, none⟩ (bsV t 3)).setCell ⟨Y, 8, none⟩ (bsV t 4))).heap[Y]? = some (.cells #[.int .i64 s, .bool mu, .int .i64 st, lv, bsV t 0, bsV t 1, bsV t 2, bsV t 3, bsV t 4, bsV sg 5, bsV sg 6, bsV sg 7, .int .i64 n, kv, .bool sn] 62 (0, 0)) := by rw [heap_set h4]; rfl
  have h6 : (((((((w.setCell ⟨Y, 4, none⟩ (bsV t 0)).setCell ⟨Y, 5, none⟩ (bsV t 1)).setCell ⟨Y, 6, none⟩ (bsV t 2)).setCell ⟨Y, 7, none⟩ (bsV t 3)).setCell ⟨Y, 8, none⟩ (bsV t 4)).setCell ⟨Y, 9, none⟩ (bsV t 5))).heap[Y]? = some (.cells #[.int .i64 s, .bool mu, .int .i64 st, lv, bsV t 0, bsV t 1, bsV t 2, bsV t 3, bsV t 4, bsV t 5, bsV sg 6, bsV sg 7, .int .i64 n, kv, .bool sn] 62 (0, 0)) := by rw [heap_set h5]; rfl
  have h7 : ((((((((w.setCell ⟨Y, 4, none⟩ (bsV t 0)).setCell ⟨Y, 5, none⟩ (bsV t 1)).setCell ⟨Y, 6, none⟩ (bsV t 2)).setCell ⟨Y, 7, none⟩ (bsV t 3)).setCell ⟨Y, 8, none⟩ (bsV t 4)).setCell ⟨Y, 9, none⟩ (bsV t 5)).setCell ⟨Y, 10, none⟩ (bsV t 6))).heap[Y]? = some (.cells #[.int .i64 s, .bool mu, .int .i64 st, lv, bsV t 0, bsV t 1, bsV t 2, bsV t 3, bsV t 4, bsV t 5, bsV t 6, bsV sg 7, .int .i64 n, kv, .bool sn] 62 (0, 0)) := by rw [heap_set h6]; rfl
  have h8 : (((((((((w.setCell ⟨Y, 4, none⟩ (bsV t 0)).setCell ⟨Y, 5, none⟩ (bsV t 1)).setCell ⟨Y, 6, none⟩ (bsV t 2)).setCell ⟨Y, 7, none⟩ (bsV t 3)).setCell ⟨Y, 8, none⟩ (bsV t 4)).setCell ⟨Y, 9, none⟩ (bsV t 5)).setCell ⟨Y, 10, none⟩ (bsV t 6)).setCell ⟨Y, 11, none⟩ (bsV t 7))).heap[Y]? = some (.cells #[.int .i64 s, .bool mu, .int .i64 st, lv, bsV t 0, bsV t 1, bsV t 2, bsV t 3, bsV t 4, bsV t 5, bsV t 6, bsV t 7, .int .i64 n, kv, .bool sn] 62 (0, 0)) := by rw [heap_set h7]; rfl
  exact h8
/-- The document's machine with its lists. -/
structure DM' (w : World) (base Y : Nat) (P : Bp) (mu : Bool) (x : Dc) (G : List Nat) (lv kv : Value) : Prop where
  m : DRaw w Y (P.s : Int) mu P.st lv P.sg (x.n : Int) kv x.sn
  ownW : w.ownsRow base 36 2 lv P.W.length (wtC P.W)
  ownL : w.ownsRow base 2 1 kv x.l.length (numD x.l)
  G : G = Y :: (lv.ownBlock.toList ++ kv.ownBlock.toList)
  bY : base ≤ Y
def DM (w : World) (base Y : Nat) (P : Bp) (mu : Bool) (x : Dc) (G : List Nat) : Prop := ∃ lv kv, DM' w base Y P mu x G lv kv
theorem own_apart {w : World} {b1 b2 : Nat} {e1 e2 : TypeId} {s1 s2 n1 n2 : Nat} {v1 v2 : Value} {x1 x2 : List Value} (h1 : w.ownsRow b1 e1 s1 v1 n1 x1) (h2 : w.ownsRow b2 e2 s2 v2 n2 x2) (he : e1 ≠ e2) : ∀ k, v1.ownBlock = some k → v2.ownBlock ≠ some k := fun k hk => by
  rcases h1.2 with ⟨rfl, _⟩ | ⟨g, cap, cur, rfl, _, hg, _⟩
  · simp [Value.ownBlock] at hk
  · have : g = k := by simpa [Value.ownBlock] using hk
    subst this
    exact own_ne h2 hg he
theorem DM.lt {w : World} {base Y : Nat} {P : Bp} {mu : Bool} {x : Dc} {G : List Nat} (h : DM w base Y P mu x G) : ∀ b ∈ G, base ≤ b ∧ b < w.heap.size := by
  obtain ⟨lv, kv, h⟩ := h
  intro b hb
  rw [h.G] at hb
  simp only [List.mem_cons, List.mem_append, Option.mem_toList] at hb
  rcases hb with rfl | hb | hb
  · exact ⟨h.bY, heap_lt h.m⟩
  · exact own_block h.ownW b (by simpa using hb)
  · exact own_block h.ownL b (by simpa using hb)
theorem DM'.keep {w w' : World} {base Y : Nat} {P : Bp} {mu : Bool} {x : Dc} {F G : List Nat} {lv kv : Value} (h : DM' w base Y P mu x G lv kv) (k : Keep F w w') (hd : ∀ b ∈ G, b ∉ F) : DM' w' base Y P mu x G lv kv := by
  have hG := h.G
  refine ⟨h.m.keep k (hd _ (by rw [hG]; simp)), own_keep h.ownW k (fun b hb => hd b ?_), own_keep h.ownL k (fun b hb => hd b ?_), h.G, h.bY⟩
  · rw [hG, hb]; simp
  · rw [hG, hb]; simp
theorem DM.keep {w w' : World} {base Y : Nat} {P : Bp} {mu : Bool} {x : Dc} {F G : List Nat} (h : DM w base Y P mu x G) (k : Keep F w w') (hd : ∀ b ∈ G, b ∉ F) : DM w' base Y P mu x G := by
  obtain ⟨lv, kv, h⟩ := h
  exact ⟨lv, kv, h.keep k hd⟩
theorem DM.below {w w' : World} {base Y : Nat} {P : Bp} {mu : Bool} {x : Dc} {G : List Nat} (h : DM w base Y P mu x G) (k : Below w.heap.size w w') : DM w' base Y P mu x G := h.keep (Keep.of_below k []) (fun _ _ => by simp)
/-- One cell of the machine is stored to. -/
theorem DM'.onRow {w w' : World} {base Y : Nat} {P : Bp} {mu : Bool} {x x' : Dc} {G : List Nat} {lv kv : Value} (h : DM' w base Y P mu x G lv kv) (hl : x'.l = x.l) (hr : DRaw w' Y (P.s : Int) mu P.st lv P.sg (x'.n : Int) kv x'.sn) (hk : Keep [Y] w w') : DM' w' base Y P mu x' G lv kv :=
  ⟨hr, own_keep h.ownW hk (fun b hb e => own_ne h.ownW h.m (by decide) (by simp at e; rw [← e]; exact hb)), by rw [hl]; exact own_keep h.ownL hk (fun b hb e => own_ne h.ownL h.m (by decide) (by simp at e; rw [← e]; exact hb)), h.G, h.bY⟩
/-- Both beside the document's memory. -/
structure DJ (w : World) (base : Nat) (q : Value) (c r : Nat) (L : List Ac) (K : List Nat) (Y : Nat) (P : Bp) (mu : Bool) (x : Dc) (G : List Nat) : Prop where
  ref : RefAt w base q c r L K
  dm : DM w base Y P mu x G
  apart : ∀ b ∈ G, b ∉ K
theorem DJ.below {w w' : World} {base : Nat} {q : Value} {c r : Nat} {L : List Ac} {K : List Nat} {Y : Nat} {P : Bp} {mu : Bool} {x : Dc} {G : List Nat} (h : DJ w base q c r L K Y P mu x G) (hb : Below w.heap.size w w') : DJ w' base q c r L K Y P mu x G :=
  ⟨h.ref.below hb, h.dm.below hb, h.apart⟩
theorem DJ.onRef {w w' : World} {base : Nat} {q : Value} {c r : Nat} {L L' : List Ac} {K K' : List Nat} {Y : Nat} {P : Bp} {mu : Bool} {x : Dc} {G : List Nat} (h : DJ w base q c r L K Y P mu x G) (hr : RefAt w' base q c r L' K') (hn : Next K K' w w') : DJ w' base q c r L' K' Y P mu x G :=
  ⟨hr, h.dm.keep hn.1 h.apart, fun b hb hk => by
    rcases hn.2 b hk with h1 | h1
    · exact h.apart b hb h1
    · have := (h.dm.lt b hb).2; omega⟩
theorem DJ.onDm {w w' : World} {base : Nat} {q : Value} {c r : Nat} {L : List Ac} {K : List Nat} {Y : Nat} {P : Bp} {mu : Bool} {x x' : Dc} {G G' : List Nat} (h : DJ w base q c r L K Y P mu x G) (hr : DM w' base Y P mu x' G') (hn : Next G G' w w') : DJ w' base q c r L K Y P mu x' G' :=
  ⟨h.ref.keep hn.1 (fun b hb hg => h.apart b hg hb), hr, fun b hb hk => by
    rcases hn.2 b hb with h1 | h1
    · exact h.apart b h1 hk
    · have := (h.ref.lt b hk).2; omega⟩
/-- A list of numbers that it keeps, read. -/
theorem own_num {w : World} {base g cap : Nat} {l : List Int} (h : w.ownsRow base 2 1 (.slice (some ⟨g, 0, none⟩) l.length cap) l.length (numD l)) (i : Nat) (hi : i < l.length) : w.cell? ⟨g, i, none⟩ = some (.int .i64 (l.getD i 0)) := by
  rcases h.2 with ⟨e, _⟩ | ⟨g', cap', cur, e, _, hh, _, _, _, ht⟩
  · cases e
  · simp at e
    obtain ⟨rfl, rfl⟩ := e
    rw [cell_at hh]
    have hu : (numD l)[i]? = some (.int .i64 (l.getD i 0)) := by simp [numD, hi]
    rw [← ht, List.getElem?_take] at hu
    split at hu
    · simpa using hu
    · cases hu
/-! What is looked at, as it is answered. -/
def loC (o : Lo) : Array Value := #[.bool o.th, .bool o.kn, .bool o.me, .bool o.hd, .int .i64 o.st, .int .i64 o.a.k, .int .i64 o.a.i, .int .i64 o.a.j]
def noLo : Array Value := #[.bool false, .bool false, .bool false, .bool false, .int .i64 0, .int .i64 0, .int .i64 0, .int .i64 0]
theorem ret_lo {fn : Func} {p : Tmp} {R : Ending → World → Prop} {a : Act} {w : World} {g : Nat} {cs : Array Value} (h : fn.results = #[.cell p 98]) (hp : a.tmps.getD p undef = .pointer (some ⟨g, 0, none⟩))
    (hg : w.heap[g]? = some (.cells cs 98 (0, 0))) (hz : cs.size = 8) (hd : a.defers = []) (hR : R (.returned (.agg cs)) w) : bodyPost Try.prog fn R .ret a w :=
  bodyPost_ret (results_cell_row h _ _ g 98 cs (0, 0) _ hp hg Try.underlying98 rfl (by rw [hz]; kernel_rfl)) hd hR
def laidL (w : World) (B : Nat) (c0 c1 c2 c3 c4 c5 c6 c7 : Value) : World := ((((((((w.setCell ⟨B, 0, none⟩ c0).setCell ⟨B, 1, none⟩ c1).setCell ⟨B, 2, none⟩ c2).setCell ⟨B, 3, none⟩ c3).setCell ⟨B, 4, none⟩ c4).setCell ⟨B, 5, none⟩ c5).setCell ⟨B, 6, none⟩ c6).setCell ⟨B, 7, none⟩ c7)
theorem belowL {w0 w : World} {A B : Nat} (hk : Below A w0 w) (hB : A ≤ B) (c0 c1 c2 c3 c4 c5 c6 c7 : Value) : Below A w0 (laidL w B c0 c1 c2 c3 c4 c5 c6 c7) :=
  ((((((((hk.setCell hB _).setCell hB _).setCell hB _).setCell hB _).setCell hB _).setCell hB _).setCell hB _).setCell hB _)
theorem lo_set {w : World} {B : Nat} (h : w.heap[B]? = some (.cells noLo 98 (0, 0))) (c0 c1 c2 c3 c4 c5 c6 c7 : Value) :
    (laidL w B c0 c1 c2 c3 c4 c5 c6 c7).heap[B]? = some (.cells #[c0, c1, c2, c3, c4, c5, c6, c7] 98 (0, 0)) := by
  have h0 : w.heap[B]? = some (.cells #[.bool false, .bool false, .bool false, .bool false, .int .i64 0, .int .i64 0, .int .i64 0, .int .i64 0] 98 (0, 0)) := h
  have h1 : ((w.setCell ⟨B, 0, none⟩ c0)).heap[B]? = some (.cells #[c0, .bool false, .bool false, .bool false, .int .i64 0, .int .i64 0, .int .i64 0, .int .i64 0] 98 (0, 0)) := by rw [heap_set h0]; rfl
  have h2 : (((w.setCell ⟨B, 0, none⟩ c0).setCell ⟨B, 1, none⟩ c1)).heap[B]? = some (.cells #[c0, c1, .bool false, .bool false, .int .i64 0, .int .i64 0, .int .i64 0, .int .i64 0] 98 (0, 0)) := by rw [heap_set h1]; rfl
  have h3 : ((((w.setCell ⟨B, 0, none⟩ c0).setCell ⟨B, 1, none⟩ c1).setCell ⟨B, 2, none⟩ c2)).heap[B]? = some (.cells #[c0, c1, c2, .bool false, .int .i64 0, .int .i64 0, .int .i64 0, .int .i64 0] 98 (0, 0)) := by rw [heap_set h2]; rfl
  have h4 : (((((w.setCell ⟨B, 0, none⟩ c0).setCell ⟨B, 1, none⟩ c1).setCell ⟨B, 2, none⟩ c2).setCell ⟨B, 3, none⟩ c3)).heap[B]? = some (.cells #[c0, c1, c2, c3, .int .i64 0, .int .i64 0, .int .i64 0, .int .i64 0] 98 (0, 0)) := by rw [heap_set h3]; rfl
  have h5 : ((((((w.setCell ⟨B, 0, none⟩ c0).setCell ⟨B, 1, none⟩ c1).setCell ⟨B, 2, none⟩ c2).setCell ⟨B, 3, none⟩ c3).setCell ⟨B, 4, none⟩ c4)).heap[B]? = some (.cells #[c0, c1, c2, c3, c4, .int .i64 0, .int .i64 0, .int .i64 0] 98 (0, 0)) := by rw [heap_set h4]; rfl
  have h6 : (((((((w.setCell ⟨B, 0, none⟩ c0).setCell ⟨B, 1, none⟩ c1).setCell ⟨B, 2, none⟩ c2).setCell ⟨B, 3, none⟩ c3).setCell ⟨B, 4, none⟩ c4).setCell ⟨B, 5, none⟩ c5)).heap[B]? = some (.cells #[c0, c1, c2, c3, c4, c5, .int .i64 0, .int .i64 0] 98 (0, 0)) := by rw [heap_set h5]; rfl
  have h7 : ((((((((w.setCell ⟨B, 0, none⟩ c0).setCell ⟨B, 1, none⟩ c1).setCell ⟨B, 2, none⟩ c2).setCell ⟨B, 3, none⟩ c3).setCell ⟨B, 4, none⟩ c4).setCell ⟨B, 5, none⟩ c5).setCell ⟨B, 6, none⟩ c6)).heap[B]? = some (.cells #[c0, c1, c2, c3, c4, c5, c6, .int .i64 0] 98 (0, 0)) := by rw [heap_set h6]; rfl
  have h8 : (((((((((w.setCell ⟨B, 0, none⟩ c0).setCell ⟨B, 1, none⟩ c1).setCell ⟨B, 2, none⟩ c2).setCell ⟨B, 3, none⟩ c3).setCell ⟨B, 4, none⟩ c4).setCell ⟨B, 5, none⟩ c5).setCell ⟨B, 6, none⟩ c6).setCell ⟨B, 7, none⟩ c7)).heap[B]? = some (.cells #[c0, c1, c2, c3, c4, c5, c6, c7] 98 (0, 0)) := by rw [heap_set h7]; rfl
  exact h8
theorem lo_cells {w : World} {B : Nat} (h : w.heap[B]? = some (.cells noLo 98 (0, 0))) :
    (w.cell? ⟨B, 0, none⟩ = some (.bool false) ∧ w.cell? ⟨B, 1, none⟩ = some (.bool false) ∧ w.cell? ⟨B, 2, none⟩ = some (.bool false) ∧ w.cell? ⟨B, 3, none⟩ = some (.bool false) ∧ w.cell? ⟨B, 4, none⟩ = some (.int .i64 0) ∧ w.cell? ⟨B, 5, none⟩ = some (.int .i64 0) ∧ w.cell? ⟨B, 6, none⟩ = some (.int .i64 0) ∧ w.cell? ⟨B, 7, none⟩ = some (.int .i64 0)) ∧
    (w.frozen? ⟨B, 0, none⟩ = false ∧ w.frozen? ⟨B, 1, none⟩ = false ∧ w.frozen? ⟨B, 2, none⟩ = false ∧ w.frozen? ⟨B, 3, none⟩ = false ∧ w.frozen? ⟨B, 4, none⟩ = false ∧ w.frozen? ⟨B, 5, none⟩ = false ∧ w.frozen? ⟨B, 6, none⟩ = false ∧ w.frozen? ⟨B, 7, none⟩ = false) :=
  ⟨⟨by rw [cell_at h]; rfl, by rw [cell_at h]; rfl, by rw [cell_at h]; rfl, by rw [cell_at h]; rfl, by rw [cell_at h]; rfl, by rw [cell_at h]; rfl, by rw [cell_at h]; rfl, by rw [cell_at h]; rfl⟩, frozen_at h 0, frozen_at h 1, frozen_at h 2, frozen_at h 3, frozen_at h 4, frozen_at h 5, frozen_at h 6, frozen_at h 7⟩
theorem lo_read {w : World} {B : Nat} {o : Lo} (h : w.heap[B]? = some (.cells (loC o) 98 (0, 0))) :
    w.cell? ⟨B, 0, none⟩ = some (.bool o.th) ∧ w.cell? ⟨B, 1, none⟩ = some (.bool o.kn) ∧ w.cell? ⟨B, 2, none⟩ = some (.bool o.me) ∧ w.cell? ⟨B, 3, none⟩ = some (.bool o.hd) ∧ w.cell? ⟨B, 4, none⟩ = some (.int .i64 o.st) ∧ w.cell? ⟨B, 5, none⟩ = some (.int .i64 o.a.k) ∧ w.cell? ⟨B, 6, none⟩ = some (.int .i64 o.a.i) ∧ w.cell? ⟨B, 7, none⟩ = some (.int .i64 o.a.j) :=
  ⟨by rw [cell_at h]; rfl, by rw [cell_at h]; rfl, by rw [cell_at h]; rfl, by rw [cell_at h]; rfl, by rw [cell_at h]; rfl, by rw [cell_at h]; rfl, by rw [cell_at h]; rfl, by rw [cell_at h]; rfl⟩
end Go.Proofs.Ytbmmicfdnfpcaaa
