/- The program's machine of layer 11 beside a memory: what calls do to both. -/
import Derived.Test.YtbmmicfdnfpcaaaBkB
import Derived.Deep.RegionHeld3
namespace Go.Proofs.Ytbmmicfdnfpcaaa
open Go.ChangeShapes Go.WideShapes Go.ChangeAt Go.RowKit
attribute [local go_sem ↓] Go.wp_at_zero Go.wp_at_succ

/-- A machine and a memory. -/
structure BS (w : World) (base : Nat) (p : Value) (c r : Nat) (L : List Ac) (F : List Nat) (Z : Nat) (P : Bp) (b : Bk) (lv : Value) : Prop where
  mem : MemAt w base p c r L F
  row : BRow w Z P b lv
  own : w.ownsRow base 36 2 lv P.W.length (wtC P.W)
  out : Z ∉ F
  gout : ∀ k, lv.ownBlock = some k → k ∉ Z :: F
  lo : base ≤ Z
theorem BS.lt {w : World} {base : Nat} {p : Value} {c r : Nat} {L : List Ac} {F : List Nat} {Z : Nat} {P : Bp} {b : Bk} {lv : Value} (h : BS w base p c r L F Z P b lv) : ∀ q ∈ Z :: F, base ≤ q ∧ q < w.heap.size := fun q hq => by
  rcases List.mem_cons.1 hq with rfl | hq
  · exact ⟨h.lo, heap_lt h.row⟩
  · exact h.mem.lt q hq
theorem BS.keep {w w' : World} {base : Nat} {p : Value} {c r : Nat} {L : List Ac} {F G : List Nat} {Z : Nat} {P : Bp} {b : Bk} {lv : Value} (h : BS w base p c r L F Z P b lv) (k : Keep G w w') (hd : ∀ q ∈ Z :: F, q ∉ G) (hl : ∀ q, lv.ownBlock = some q → q ∉ G) : BS w' base p c r L F Z P b lv :=
  ⟨h.mem.keep k (fun q hq => hd q (List.mem_cons_of_mem _ hq)), h.row.keep k (hd Z (by simp)), own_keep h.own k hl, h.out, h.gout, h.lo⟩
theorem BS.below {w w' : World} {base : Nat} {p : Value} {c r : Nat} {L : List Ac} {F : List Nat} {Z : Nat} {P : Bp} {b : Bk} {lv : Value} (h : BS w base p c r L F Z P b lv) (hb : Below w.heap.size w w') : BS w' base p c r L F Z P b lv := h.keep (Keep.of_below hb []) (fun _ _ => by simp) (fun _ _ => by simp)
theorem BS.onMem {w w' : World} {base : Nat} {p : Value} {c r : Nat} {L L' : List Ac} {F F' : List Nat} {Z : Nat} {P : Bp} {b : Bk} {lv : Value} (h : BS w base p c r L F Z P b lv) (hm : MemAt w' base p c r L' F') (hn : Next F F' w w') : BS w' base p c r L' F' Z P b lv := by
  have hZ := heap_lt h.row
  refine ⟨hm, h.row.keep hn.1 h.out, own_keep h.own hn.1 (fun q hq e => h.gout q hq (List.mem_cons_of_mem _ e)), fun e => ?_, fun k hk e => ?_, h.lo⟩
  · rcases hn.2 Z e with h1 | h1
    · exact h.out h1
    · omega
  · rcases List.mem_cons.1 e with e | e
    · exact h.gout k hk (by simp [e])
    · rcases hn.2 k e with h1 | h1
      · exact h.gout k hk (List.mem_cons_of_mem _ h1)
      · have := (own_block h.own k hk).2; omega
theorem BS.onRow {w w' : World} {base : Nat} {p : Value} {c r : Nat} {L : List Ac} {F : List Nat} {Z : Nat} {P : Bp} {b b' : Bk} {lv : Value} (h : BS w base p c r L F Z P b lv) (hr : BRow w' Z P b' lv) (hk : Keep [Z] w w') : BS w' base p c r L F Z P b' lv :=
  ⟨h.mem.keep hk (fun q hq e => by simp at e; exact h.out (e ▸ hq)), hr, own_keep h.own hk (fun q hq e => by simp at e; exact h.gout q hq (by simp [e])), h.out, h.gout, h.lo⟩
theorem BS.slice {w : World} {base : Nat} {p : Value} {c r : Nat} {L : List Ac} {F : List Nat} {Z : Nat} {P : Bp} {b : Bk} {lv : Value} (h : BS w base p c r L F Z P b lv) : ∃ a cap, lv = .slice a P.W.length cap := own_slice h.own
/-- A machine, a memory and an answer, under way. -/
structure AS (w0 w : World) (base : Nat) (p : Value) (c r : Nat) (L : List Ac) (F F' : List Nat) (Z : Nat) (P : Bp) (b : Bk) (lv : Value) : Prop where
  an : An w0 w
  bs : BS w base p c r L F' Z P b lv
  nx : Next (Z :: F) (Z :: F') w0 w
  no : w0.heap.size ∉ Z :: F'
  nl : ∀ k, lv.ownBlock = some k → k ≠ w0.heap.size
  hb : base ≤ w0.heap.size
theorem AS.new {w w' : World} {base : Nat} {p : Value} {c r : Nat} {L : List Ac} {F : List Nat} {Z : Nat} {P : Bp} {b : Bk} {lv : Value} (h : BS w base p c r L F Z P b lv) (hb : base ≤ w.heap.size)
    (k : Below (w.alloc (.cells #[.int .i64 0, .int .i64 0, .int .i64 0, .bool false] 52)).heap.size (w.alloc (.cells #[.int .i64 0, .int .i64 0, .int .i64 0, .bool false] 52)) w') : AS w w' base p c r L F F Z P b lv := by
  have kb := below_then (below_a1 w _) k
  refine ⟨An.below (w := w.alloc _) (heap_alloc_new _ _) k, h.below kb, Next.of_below kb _, fun e => ?_, fun q hq e => ?_, hb⟩
  · have := (h.lt _ e).2; omega
  · have := (own_block h.own q hq).2; omega
theorem AS.below {w0 w w' : World} {base : Nat} {p : Value} {c r : Nat} {L : List Ac} {F F' : List Nat} {Z : Nat} {P : Bp} {b : Bk} {lv : Value} (h : AS w0 w base p c r L F F' Z P b lv) (k : Below w.heap.size w w') : AS w0 w' base p c r L F F' Z P b lv :=
  ⟨h.an.below k, h.bs.below k, h.nx.trans (Next.of_below k _), h.no, h.nl, h.hb⟩
theorem AS.onMem {w0 w w' : World} {base : Nat} {p : Value} {c r : Nat} {L L' : List Ac} {F F' F'' : List Nat} {Z : Nat} {P : Bp} {b : Bk} {lv : Value} (h : AS w0 w base p c r L F F' Z P b lv) (hm : MemAt w' base p c r L' F'') (hn : Next F' F'' w w') : AS w0 w' base p c r L' F F'' Z P b lv :=
  ⟨h.an.keep hn.1 (fun e => h.no (List.mem_cons_of_mem _ e)), h.bs.onMem hm hn, h.nx.trans (nextX hn), fun e => by
    rcases List.mem_cons.1 e with e | e
    · exact h.no (by simp [e])
    · rcases hn.2 _ e with h1 | h1
      · exact h.no (List.mem_cons_of_mem _ h1)
      · have := heap_lt h.an; omega, h.nl, h.hb⟩
theorem AS.onRow {w0 w w' : World} {base : Nat} {p : Value} {c r : Nat} {L : List Ac} {F F' : List Nat} {Z : Nat} {P : Bp} {b b' : Bk} {lv : Value} (h : AS w0 w base p c r L F F' Z P b lv) (hr : BRow w' Z P b' lv) (hk : Keep [Z] w w') : AS w0 w' base p c r L F F' Z P b' lv :=
  ⟨h.an.keep hk (fun e => h.no (by simp at e; simp [e])), h.bs.onRow hr hk, h.nx.trans ⟨hk.mono (fun q hq => by simp at hq; simp [hq]), fun q hq => Or.inl hq⟩, h.no, h.nl, h.hb⟩
theorem AS.size {w0 w : World} {base : Nat} {p : Value} {c r : Nat} {L : List Ac} {F F' : List Nat} {Z : Nat} {P : Bp} {b : Bk} {lv : Value} (h : AS w0 w base p c r L F F' Z P b lv) : base ≤ w.heap.size := Nat.le_trans h.hb h.nx.1.size
theorem AS.fin {w0 w : World} {base : Nat} {p : Value} {c r : Nat} {L : List Ac} {F F' : List Nat} {Z : Nat} {P : Bp} {b : Bk} {lv : Value} (h : AS w0 w base p c r L F F' Z P b lv) (k : Int) (y : Bool) : BS (laid4 w w0.heap.size k y) base p c r L F' Z P b lv ∧ Next (Z :: F) (Z :: F') w0 (laid4 w w0.heap.size k y) :=
  ⟨h.bs.keep (keepB k y) (fun q hq e => by simp at e; exact h.no (e ▸ hq)) (fun q hq e => by simp at e; exact h.nl q hq e), keep4 h.nx.1 (Nat.le_refl _) k y, h.nx.2⟩
theorem AS.drew {w0 w : World} {base : Nat} {p : Value} {c r : Nat} {L : List Ac} {F F' : List Nat} {Z : Nat} {P : Bp} {b : Bk} {lv : Value} (h : AS w0 w base p c r L F F' Z P b lv) : AS w0 w.drew base p c r L F F' Z P b lv := h.below (below_drawn (Below.refl _ _) 1)
/-- What a function of the machine's answers and makes of all. -/
def Does (f : FuncId) (w : World) (base : Nat) (p : Value) (c r : Nat) (F : List Nat) (Z : Nat) (P : Bp) (lv : Value) (t : Int) (k : Int) (L' : List Ac) (b' : Bk) : Prop :=
  Calls Try.prog f #[.pointer (some ⟨Z, 0, none⟩), p, .int .i64 t] w fun e w' => e = .returned (ansM k) ∧ ∃ F', BS w' base p c r L' F' Z P b' lv ∧ Next (Z :: F) (Z :: F') w w'
theorem as_store {w0 w : World} {base : Nat} {p : Value} {c r : Nat} {L : List Ac} {F F' : List Nat} {Z : Nat} {P : Bp} {b : Bk} {lv : Value} (h : AS w0 w base p c r L F F' Z P b lv) (hL : L.length < 3298534883328) (t : Int) (a : Ad) (z : Int) (ha : isAd c r a = true) :
    Calls Try.prog 13 #[p, .int .i64 t, .agg #[.int .i64 a.k, .int .i64 a.i, .int .i64 a.j], .int .i64 z] w fun e w' => e = .returned (.int .i64 0) ∧ ∃ F'', AS w0 w' base p c r (storeL c r L t a z) F F'' Z P b lv := by
  have := store_any h.bs.mem h.size hL t a z
  rw [if_pos ha] at this
  refine this.mono ?_
  rintro e w' ⟨rfl, F'', h1, h2⟩
  exact ⟨rfl, F'', h.onMem h1 h2⟩
theorem as_load {w0 w : World} {base : Nat} {p : Value} {c r : Nat} {L : List Ac} {F F' : List Nat} {Z : Nat} {P : Bp} {b : Bk} {lv : Value} (h : AS w0 w base p c r L F F' Z P b lv) (hL : L.length < 3298534883328) (t : Int) (a : Ad) (ha : isAd c r a = true) :
    Calls Try.prog 84 #[p, .int .i64 t, .agg #[.int .i64 a.k, .int .i64 a.i, .int .i64 a.j]] w fun e w' => e = .returned (.tuple #[.int .i64 (wordOf L a), .int .i64 0]) ∧ ∃ F'', AS w0 w' base p c r (loadL c r L t a) F F'' Z P b lv := by
  have := load_any h.bs.mem h.size hL t a
  rw [if_pos ha, if_pos ha] at this
  refine this.mono ?_
  rintro e w' ⟨rfl, F'', h1, h2⟩
  exact ⟨rfl, F'', h.onMem h1 h2⟩
theorem AS.start {w : World} {base : Nat} {p : Value} {c r : Nat} {L : List Ac} {F : List Nat} {Z : Nat} {P : Bp} {b : Bk} {lv : Value} (h : BS w base p c r L F Z P b lv) (hb : base ≤ w.heap.size) : AS w (w.alloc (.cells #[.int .i64 0, .int .i64 0, .int .i64 0, .bool false] 52)) base p c r L F F Z P b lv := AS.new h hb (Below.refl _ _)
theorem AS.cells {w0 w : World} {base : Nat} {p : Value} {c r : Nat} {L : List Ac} {F F' : List Nat} {Z : Nat} {P : Bp} {b : Bk} {lv : Value} (h : AS w0 w base p c r L F F' Z P b lv) : w.cell? ⟨Z, 0, none⟩ = some (.int .i64 (P.s : Int)) ∧ w.cell? ⟨Z, 1, none⟩ = some (.int .i64 P.st) ∧ w.cell? ⟨Z, 2, none⟩ = some lv ∧
    w.cell? ⟨Z, 11, none⟩ = some (fnB b.nx) ∧ w.cell? ⟨Z, 12, none⟩ = some (.int .i64 (b.wd : Int)) ∧ w.cell? ⟨Z, 13, none⟩ = some (.int .i64 b.old) ∧ w.cell? ⟨Z, 14, none⟩ = some (.bool b.kn) ∧ w.cell? ⟨Z, 15, none⟩ = some (.int .i64 (b.wr : Int)) := BRaw.cells h.bs.row
theorem AS.fz {w0 w : World} {base : Nat} {p : Value} {c r : Nat} {L : List Ac} {F F' : List Nat} {Z : Nat} {P : Bp} {b : Bk} {lv : Value} (h : AS w0 w base p c r L F F' Z P b lv) : w.frozen? ⟨Z, 11, none⟩ = false ∧ w.frozen? ⟨Z, 12, none⟩ = false ∧ w.frozen? ⟨Z, 13, none⟩ = false ∧ w.frozen? ⟨Z, 14, none⟩ = false ∧ w.frozen? ⟨Z, 15, none⟩ = false := BRaw.fz h.bs.row
theorem AS.z {w0 w : World} {base : Nat} {p : Value} {c r : Nat} {L : List Ac} {F F' : List Nat} {Z : Nat} {P : Bp} {b : Bk} {lv : Value} (h : AS w0 w base p c r L F F' Z P b lv) : Z < w.heap.size := heap_lt h.bs.row
theorem as_goOn {w0 w : World} {base : Nat} {p : Value} {c r : Nat} {L : List Ac} {F F' : List Nat} {Z : Nat} {P : Bp} {b : Bk} {lv : Value} (h : AS w0 w base p c r L F F' Z P b lv) (hp : BpOk P) (hb : b.wr ≤ P.W.length) :
    Calls Try.prog 64 #[.pointer (some ⟨Z, 0, none⟩)] w fun e w' => e = .returned (.tuple #[]) ∧ AS w0 w' base p c r L F F' Z P (goB P b) lv := by
  obtain ⟨a, cap, hl⟩ := h.bs.slice
  exact (bgoOn_any h.bs.row hl hp.len hb).mono fun _ _ q => ⟨q.1, h.onRow q.2.1 q.2.2⟩
theorem as_lookAt {w0 w : World} {base : Nat} {p : Value} {c r : Nat} {L : List Ac} {F F' : List Nat} {Z : Nat} {P : Bp} {b : Bk} {lv : Value} (h : AS w0 w base p c r L F F' Z P b lv) (hp : BpOk P) (hb : b.wr ≤ P.W.length) (st : Int) :
    Calls Try.prog 65 #[.pointer (some ⟨Z, 0, none⟩), .int .i64 st] w fun e w' => e = .returned (.tuple #[]) ∧ AS w0 w' base p c r L F F' Z P (lookAtB P b st) lv := by
  obtain ⟨a, cap, hl⟩ := h.bs.slice
  exact (blookAt_any h.bs.row hl hp hb st).mono fun _ _ q => ⟨q.1, h.onRow q.2.1 q.2.2⟩
theorem as_toWord {w0 w : World} {base : Nat} {p : Value} {c r : Nat} {L : List Ac} {F F' : List Nat} {Z : Nat} {P : Bp} {b : Bk} {lv : Value} (h : AS w0 w base p c r L F F' Z P b lv) (hp : BpOk P) (hb : b.wr ≤ P.W.length) (hd : b.wd ≤ 8) (ho : olderOk P b.old) :
    Calls Try.prog 81 #[.pointer (some ⟨Z, 0, none⟩)] w fun e w' => e = .returned (.tuple #[]) ∧ AS w0 w' base p c r L F F' Z P (toWordB P b) lv := by
  obtain ⟨a, cap, hl⟩ := h.bs.slice
  exact (btoWord_any h.bs.row hl hp hb hd ho).mono fun _ _ q => ⟨q.1, h.onRow q.2.1 q.2.2⟩
theorem as_over {w0 w : World} {base : Nat} {p : Value} {c r : Nat} {L : List Ac} {F F' : List Nat} {Z : Nat} {P : Bp} {b : Bk} {lv : Value} (h : AS w0 w base p c r L F F' Z P b lv) (hp : BpOk P) (hb : b.wr ≤ P.W.length) :
    Calls Try.prog 79 #[.pointer (some ⟨Z, 0, none⟩)] w fun e w' => e = .returned (ansM 2) ∧ AS w0 w' base p c r L F F' Z P (overB P b) lv := by
  obtain ⟨a, cap, hl⟩ := h.bs.slice
  exact (bover_any h.bs.row hl hp hb).mono fun _ _ q => ⟨q.1, h.onRow q.2.1 q.2.2⟩
theorem as_moved {w0 w : World} {base : Nat} {p : Value} {c r : Nat} {L : List Ac} {F F' : List Nat} {Z : Nat} {P : Bp} {b : Bk} {lv : Value} (h : AS w0 w base p c r L F F' Z P b lv) :
    Calls Try.prog 48 #[] w fun e w' => e = .returned (ansM 2) ∧ AS w0 w' base p c r L F F' Z P b lv := (bmoved_any w).mono fun _ _ q => ⟨q.1, h.below q.2⟩
theorem as_waits {w0 w : World} {base : Nat} {p : Value} {c r : Nat} {L : List Ac} {F F' : List Nat} {Z : Nat} {P : Bp} {b : Bk} {lv : Value} (h : AS w0 w base p c r L F F' Z P b lv) :
    Calls Try.prog 78 #[] w fun e w' => e = .returned (ansM 1) ∧ AS w0 w' base p c r L F F' Z P b lv := (bwaits_any w).mono fun _ _ q => ⟨q.1, h.below q.2⟩
theorem as_headOf {w0 w : World} {base : Nat} {p : Value} {c r : Nat} {L : List Ac} {F F' : List Nat} {Z : Nat} {P : Bp} {b : Bk} {lv : Value} (h : AS w0 w base p c r L F F' Z P b lv) (st : Int) :
    Calls Try.prog 62 #[.pointer (some ⟨Z, 0, none⟩), .int .i64 st] w fun e w' => e = .returned (.agg #[.int .i64 2, .int .i64 (slotV st P.s), .int .i64 0]) ∧ AS w0 w' base p c r L F F' Z P b lv := (bheadOf_any h.bs.row st).mono fun _ _ q => ⟨q.1, h.below q.2⟩
theorem as_wordAt {w0 w : World} {base : Nat} {p : Value} {c r : Nat} {L : List Ac} {F F' : List Nat} {Z : Nat} {P : Bp} {b : Bk} {lv : Value} (h : AS w0 w base p c r L F F' Z P b lv) (st : Int) :
    Calls Try.prog 46 #[.pointer (some ⟨Z, 0, none⟩), .int .i64 st] w fun e w' => e = .returned (.agg #[.int .i64 3, .int .i64 (slotV st P.s), .int .i64 (b.wd : Int)]) ∧ AS w0 w' base p c r L F F' Z P b lv := (bwordAt_any h.bs.row st).mono fun _ _ q => ⟨q.1, h.below q.2⟩
end Go.Proofs.Ytbmmicfdnfpcaaa
