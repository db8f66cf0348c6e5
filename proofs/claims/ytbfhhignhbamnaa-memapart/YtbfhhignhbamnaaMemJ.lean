/- One call of a script, over the program's memory and the document's. -/
import Derived.Test.YtbfhhignhbamnaaTouH
import Derived.Test.YtbfhhignhbamnaaMemT
namespace Go.Proofs.Ytbfhhignhbamnaa
set_option linter.unusedVariables false
open Go.ChangeShapes Go.WideShapes Go.ChangeAt Go.RowKit

theorem Next.left {F F' G : List Nat} {w w' : World} (h : Next F F' w w') : Next (F ++ G) (F' ++ G) w w' :=
  ⟨h.1.mono (fun b hb => by simp [hb]), fun b hb => by
    rcases List.mem_append.1 hb with h1 | h1
    · rcases h.2 b h1 with h2 | h2
      · exact Or.inl (by simp [h2])
      · exact Or.inr h2
    · exact Or.inl (by simp [h1])⟩
theorem Next.right {F G G' : List Nat} {w w' : World} (h : Next G G' w w') : Next (F ++ G) (F ++ G') w w' :=
  ⟨h.1.mono (fun b hb => by simp [hb]), fun b hb => by
    rcases List.mem_append.1 hb with h1 | h1
    · exact Or.inl (by simp [h1])
    · rcases h.2 b h1 with h2 | h2
      · exact Or.inl (by simp [h2])
      · exact Or.inr h2⟩
/-- The program's memory and the document's, apart from one another. -/
structure Duo (w : World) (base : Nat) (p q : Value) (c r : Nat) (L K : List Ac) (F G : List Nat) : Prop where
  mem : MemAt w base p c r L F
  ref : RefAt w base q c r K G
  apart : ∀ b ∈ F, b ∉ G
theorem Duo.onMem {w w' : World} {base : Nat} {p q : Value} {c r : Nat} {L L' K : List Ac} {F F' G : List Nat} (h : Duo w base p q c r L K F G) (hm : MemAt w' base p c r L' F') (hn : Next F F' w w') : Duo w' base p q c r L' K F' G :=
  ⟨hm, h.ref.keep hn.1 (fun b hb hf => h.apart b hf hb), fun b hb hg => by
    rcases hn.2 b hb with h1 | h1
    · exact h.apart b h1 hg
    · have := (h.ref.lt b hg).2; omega⟩
theorem Duo.onRef {w w' : World} {base : Nat} {p q : Value} {c r : Nat} {L K K' : List Ac} {F G G' : List Nat} (h : Duo w base p q c r L K F G) (hm : RefAt w' base q c r K' G') (hn : Next G G' w w') : Duo w' base p q c r L K' F G' :=
  ⟨h.mem.keep hn.1 (fun b hb hf => h.apart b hb hf), hm, fun b hb hg => by
    rcases hn.2 b hg with h1 | h1
    · exact h.apart b hb h1
    · have := (h.mem.lt b hb).2; omega⟩
theorem Duo.below {w w' : World} {base : Nat} {p q : Value} {c r : Nat} {L K : List Ac} {F G : List Nat} (h : Duo w base p q c r L K F G) (hb : Below w.heap.size w w') : Duo w' base p q c r L K F G :=
  ⟨h.mem.below hb, h.ref.below hb, h.apart⟩
/-- .. beside an act in a block of its own. -/
structure DB (w0 : World) (F0 G0 : List Nat) (w : World) (base : Nat) (p q : Value) (c r : Nat) (L K : List Ac) (F G : List Nat) (B : Nat) (x : Tk) : Prop where
  duo : Duo w base p q c r L K F G
  box : w.heap[B]? = some (.cells (tkC x) 37)
  outF : B ∉ F
  outG : B ∉ G
  next : Next (F0 ++ G0) (F ++ G) w0 w
theorem DB.onMem {w0 : World} {F0 G0 : List Nat} {w w' : World} {base : Nat} {p q : Value} {c r : Nat} {L L' K : List Ac} {F F' G : List Nat} {B : Nat} {x : Tk} (h : DB w0 F0 G0 w base p q c r L K F G B x) (hm : MemAt w' base p c r L' F') (hn : Next F F' w w') : DB w0 F0 G0 w' base p q c r L' K F' G B x :=
  ⟨h.duo.onMem hm hn, hn.row h.box h.outF, hn.out (heap_lt h.box) h.outF, h.outG, h.next.trans hn.left⟩
theorem DB.onRef {w0 : World} {F0 G0 : List Nat} {w w' : World} {base : Nat} {p q : Value} {c r : Nat} {L K K' : List Ac} {F G G' : List Nat} {B : Nat} {x : Tk} (h : DB w0 F0 G0 w base p q c r L K F G B x) (hm : RefAt w' base q c r K' G') (hn : Next G G' w w') : DB w0 F0 G0 w' base p q c r L K' F G' B x :=
  ⟨h.duo.onRef hm hn, hn.row h.box h.outG, h.outF, hn.out (heap_lt h.box) h.outG, h.next.trans hn.right⟩
theorem DB.below {w0 : World} {F0 G0 : List Nat} {w w' : World} {base : Nat} {p q : Value} {c r : Nat} {L K : List Ac} {F G : List Nat} {B : Nat} {x : Tk} (h : DB w0 F0 G0 w base p q c r L K F G B x) (hb : Below w.heap.size w w') : DB w0 F0 G0 w' base p q c r L K F G B x :=
  ⟨h.duo.below hb, by rw [hb.block _ (heap_lt h.box)]; exact h.box, h.outF, h.outG, h.next.trans (Next.of_below hb _)⟩
theorem DB.cells {w0 : World} {F0 G0 : List Nat} {w : World} {base : Nat} {p q : Value} {c r : Nat} {L K : List Ac} {F G : List Nat} {B : Nat} {x : Tk} (h : DB w0 F0 G0 w base p q c r L K F G B x) :
    w.cell? ⟨B, 1, none⟩ = some (.int .i64 x.t) ∧ w.cell? ⟨B, 2, none⟩ = some (.int .i64 x.a.k) ∧ w.cell? ⟨B, 3, none⟩ = some (.int .i64 x.a.i) ∧ w.cell? ⟨B, 4, none⟩ = some (.int .i64 x.a.j) ∧ w.cell? ⟨B, 5, none⟩ = some (.int .i64 x.o) ∧ w.cell? ⟨B, 6, none⟩ = some (.int .i64 x.v) ∧ w.cell? ⟨B, 7, none⟩ = some (.int .i64 x.n) :=
  ⟨by rw [cell_at h.box]; rfl, by rw [cell_at h.box]; rfl, by rw [cell_at h.box]; rfl, by rw [cell_at h.box]; rfl, by rw [cell_at h.box]; rfl, by rw [cell_at h.box]; rfl, by rw [cell_at h.box]; rfl⟩
theorem MemAt.bounds {w : World} {base : Nat} {p : Value} {c r : Nat} {L : List Ac} {F : List Nat} (h : MemAt w base p c r L F) : c < 1000000 ∧ r < 1000000 := by
  obtain ⟨M, H, S, C, v, h⟩ := h
  exact ⟨h.c, h.r⟩
theorem RefAt.count {w : World} {base R : Nat} {c r : Nat} {L : List Ac} {F : List Nat} (h : RefAt w base (.pointer (some ⟨R, 0, none⟩)) c r L F) : ∃ a cap, w.cell? ⟨R, 2, none⟩ = some (.slice a L.length cap) := by
  obtain ⟨R', v, h⟩ := h
  obtain rfl : R = R' := by simpa using h.p
  obtain ⟨a, cap, rfl⟩ := own_slice h.own
  exact ⟨a, cap, by rw [cell_at h.m]; rfl⟩


set_option maxRecDepth 100000 in
set_option maxHeartbeats 6400000 in
theorem does_load {w : World} {base : Nat} {p q : Value} {c r : Nat} {L : List Ac} {F G : List Nat} (h : Duo w base p q c r L L F G) (hb : base ≤ w.heap.size) (hL : L.length < 2199023255552) (hG : Good c r L) (k t ak ai aj o z n : Int) (hk : k = 1) :
    Calls Try.prog 11 #[p, q, .agg #[.int .i64 k, .int .i64 t, .int .i64 ak, .int .i64 ai, .int .i64 aj, .int .i64 o, .int .i64 z, .int .i64 n]] w fun e w' => e = .returned (.bool true) ∧ ∃ F' G', Duo w' base p q c r (loadL c r L t ⟨ak, ai, aj⟩) (loadL c r L t ⟨ak, ai, aj⟩) F' G' ∧ Next (F ++ G) (F' ++ G') w w' := by
  have HD : Hid (DB w F G (w.alloc (.cells (tkC ⟨k, t, ⟨ak, ai, aj⟩, o, z, n⟩) 37)) base p q c r L L F G w.heap.size ⟨k, t, ⟨ak, ai, aj⟩, o, z, n⟩) :=
    ⟨h.below (below_a1 _ _), heap_alloc_new _ _, fun e => by have := (h.mem.lt _ e).2; omega, fun e => by have := (h.ref.lt _ e).2; omega, Next.of_below (below_a1 _ _) _⟩
  obtain ⟨M, rfl⟩ := h.mem.ptr
  obtain ⟨R, rfl⟩ := h.ref.ptr
  have hba : base ≤ (w.alloc (.cells (tkC ⟨k, t, ⟨ak, ai, aj⟩, o, z, n⟩) 37)).heap.size := by simp; omega
  subst hk
  have H1 : Hid (∀ (w : World) F, MemAt w base (.pointer (some ⟨M, 0, none⟩)) c r L F → base ≤ w.heap.size → Calls Try.prog 15 #[.pointer (some ⟨M, 0, none⟩), .int .i64 t, .agg #[.int .i64 ak, .int .i64 ai, .int .i64 aj]] w fun e w' => e = .returned (.tuple #[.int .i64 (if isAd c r ⟨ak, ai, aj⟩ then wordOf L ⟨ak, ai, aj⟩ else 0), .int .i64 (if isAd c r ⟨ak, ai, aj⟩ then 0 else 1)]) ∧ ∃ F', MemAt w' base (.pointer (some ⟨M, 0, none⟩)) c r (loadL c r L t ⟨ak, ai, aj⟩) F' ∧ Next F F' w w') := fun w F h hb => load_any h hb hL t ⟨ak, ai, aj⟩
  have H2 : Hid (∀ (w : World) F, RefAt w base (.pointer (some ⟨R, 0, none⟩)) c r L F → base ≤ w.heap.size → Calls Try.prog 20 #[.pointer (some ⟨R, 0, none⟩), .int .i64 t, .agg #[.int .i64 ak, .int .i64 ai, .int .i64 aj]] w fun e w' => e = .returned (.tuple #[.int .i64 (if isAd c r ⟨ak, ai, aj⟩ then wordOf L ⟨ak, ai, aj⟩ else 0), .int .i64 (if isAd c r ⟨ak, ai, aj⟩ then 0 else 1)]) ∧ ∃ F', RefAt w' base (.pointer (some ⟨R, 0, none⟩)) c r (loadL c r L t ⟨ak, ai, aj⟩) F' ∧ Next F F' w w') := fun w F h hb => rload_any h hb hL t ⟨ak, ai, aj⟩
  generalize (if isAd c r ⟨ak, ai, aj⟩ then wordOf L ⟨ak, ai, aj⟩ else 0) = y1 at H1 H2
  generalize (if isAd c r ⟨ak, ai, aj⟩ then (0 : Int) else 1) = y2 at H1 H2
  generalize loadL c r L t ⟨ak, ai, aj⟩ = LL at H1 H2 ⊢
  unfold tkC at HD hba
  clear h
  go_enter Try.func11, Try.ntmps11
  go_wp2_with fail
  refine (H1.out _ _ HD.out.duo.mem hba).mono ?_
  rintro e w1 ⟨rfl, F1, hm1, hn1⟩
  have HD1 : Hid (DB w F G w1 base (.pointer (some ⟨M, 0, none⟩)) (.pointer (some ⟨R, 0, none⟩)) c r LL L F1 G w.heap.size ⟨1, t, ⟨ak, ai, aj⟩, o, z, n⟩) := HD.out.onMem hm1 hn1
  have hb1 : base ≤ w1.heap.size := Nat.le_trans hba hn1.1.size
  obtain ⟨x1, x2, x3, x4, x5, x6, x7⟩ := HD1.out.cells
  clear hm1 hn1
  go_wp2_with fail
  refine (H2.out _ _ HD1.out.duo.ref hb1).mono ?_
  rintro e w2 ⟨rfl, G2, hm2, hn2⟩
  have HD2 : Hid (DB w F G w2 base (.pointer (some ⟨M, 0, none⟩)) (.pointer (some ⟨R, 0, none⟩)) c r LL LL F1 G2 w.heap.size ⟨1, t, ⟨ak, ai, aj⟩, o, z, n⟩) := HD1.out.onRef hm2 hn2
  clear hm2 hn2 x1 x2 x3 x4 x5 x6 x7
  go_wp2
  go_ret
  exact ⟨by simp, F1, G2, HD2.out.duo, HD2.out.next⟩


set_option maxRecDepth 100000 in
set_option maxHeartbeats 6400000 in
theorem does_store {w : World} {base : Nat} {p q : Value} {c r : Nat} {L : List Ac} {F G : List Nat} (h : Duo w base p q c r L L F G) (hb : base ≤ w.heap.size) (hL : L.length < 2199023255552) (hG : Good c r L) (k t ak ai aj o z n : Int) (hk : k = 2) :
    Calls Try.prog 11 #[p, q, .agg #[.int .i64 k, .int .i64 t, .int .i64 ak, .int .i64 ai, .int .i64 aj, .int .i64 o, .int .i64 z, .int .i64 n]] w fun e w' => e = .returned (.bool true) ∧ ∃ F' G', Duo w' base p q c r (storeL c r L t ⟨ak, ai, aj⟩ z) (storeL c r L t ⟨ak, ai, aj⟩ z) F' G' ∧ Next (F ++ G) (F' ++ G') w w' := by
  have HD : Hid (DB w F G (w.alloc (.cells (tkC ⟨k, t, ⟨ak, ai, aj⟩, o, z, n⟩) 37)) base p q c r L L F G w.heap.size ⟨k, t, ⟨ak, ai, aj⟩, o, z, n⟩) :=
    ⟨h.below (below_a1 _ _), heap_alloc_new _ _, fun e => by have := (h.mem.lt _ e).2; omega, fun e => by have := (h.ref.lt _ e).2; omega, Next.of_below (below_a1 _ _) _⟩
  obtain ⟨M, rfl⟩ := h.mem.ptr
  obtain ⟨R, rfl⟩ := h.ref.ptr
  have hba : base ≤ (w.alloc (.cells (tkC ⟨k, t, ⟨ak, ai, aj⟩, o, z, n⟩) 37)).heap.size := by simp; omega
  subst hk
  have H1 : Hid (∀ (w : World) F, MemAt w base (.pointer (some ⟨M, 0, none⟩)) c r L F → base ≤ w.heap.size → Calls Try.prog 16 #[.pointer (some ⟨M, 0, none⟩), .int .i64 t, .agg #[.int .i64 ak, .int .i64 ai, .int .i64 aj], .int .i64 z] w fun e w' => e = .returned (.int .i64 (if isAd c r ⟨ak, ai, aj⟩ then 0 else 1)) ∧ ∃ F', MemAt w' base (.pointer (some ⟨M, 0, none⟩)) c r (storeL c r L t ⟨ak, ai, aj⟩ z) F' ∧ Next F F' w w') := fun w F h hb => store_any h hb hL t ⟨ak, ai, aj⟩ z
  have H2 : Hid (∀ (w : World) F, RefAt w base (.pointer (some ⟨R, 0, none⟩)) c r L F → base ≤ w.heap.size → Calls Try.prog 21 #[.pointer (some ⟨R, 0, none⟩), .int .i64 t, .agg #[.int .i64 ak, .int .i64 ai, .int .i64 aj], .int .i64 z] w fun e w' => e = .returned (.int .i64 (if isAd c r ⟨ak, ai, aj⟩ then 0 else 1)) ∧ ∃ F', RefAt w' base (.pointer (some ⟨R, 0, none⟩)) c r (storeL c r L t ⟨ak, ai, aj⟩ z) F' ∧ Next F F' w w') := fun w F h hb => rstore_any h hb hL t ⟨ak, ai, aj⟩ z
  generalize (if isAd c r ⟨ak, ai, aj⟩ then (0 : Int) else 1) = y2 at H1 H2
  generalize storeL c r L t ⟨ak, ai, aj⟩ z = LL at H1 H2 ⊢
  unfold tkC at HD hba
  clear h
  go_enter Try.func11, Try.ntmps11
  go_wp2_with fail
  refine (H1.out _ _ HD.out.duo.mem hba).mono ?_
  rintro e w1 ⟨rfl, F1, hm1, hn1⟩
  have HD1 : Hid (DB w F G w1 base (.pointer (some ⟨M, 0, none⟩)) (.pointer (some ⟨R, 0, none⟩)) c r LL L F1 G w.heap.size ⟨2, t, ⟨ak, ai, aj⟩, o, z, n⟩) := HD.out.onMem hm1 hn1
  have hb1 : base ≤ w1.heap.size := Nat.le_trans hba hn1.1.size
  obtain ⟨x1, x2, x3, x4, x5, x6, x7⟩ := HD1.out.cells
  clear hm1 hn1
  go_wp2_with fail
  refine (H2.out _ _ HD1.out.duo.ref hb1).mono ?_
  rintro e w2 ⟨rfl, G2, hm2, hn2⟩
  have HD2 : Hid (DB w F G w2 base (.pointer (some ⟨M, 0, none⟩)) (.pointer (some ⟨R, 0, none⟩)) c r LL LL F1 G2 w.heap.size ⟨2, t, ⟨ak, ai, aj⟩, o, z, n⟩) := HD1.out.onRef hm2 hn2
  clear hm2 hn2 x1 x2 x3 x4 x5 x6 x7
  go_wp2
  go_ret
  exact ⟨by simp, F1, G2, HD2.out.duo, HD2.out.next⟩


set_option maxRecDepth 100000 in
set_option maxHeartbeats 6400000 in
theorem does_swap {w : World} {base : Nat} {p q : Value} {c r : Nat} {L : List Ac} {F G : List Nat} (h : Duo w base p q c r L L F G) (hb : base ≤ w.heap.size) (hL : L.length < 2199023255552) (hG : Good c r L) (k t ak ai aj o z n : Int) (hk : k = 3) :
    Calls Try.prog 11 #[p, q, .agg #[.int .i64 k, .int .i64 t, .int .i64 ak, .int .i64 ai, .int .i64 aj, .int .i64 o, .int .i64 z, .int .i64 n]] w fun e w' => e = .returned (.bool true) ∧ ∃ F' G', Duo w' base p q c r (swapL c r L t ⟨ak, ai, aj⟩ o z) (swapL c r L t ⟨ak, ai, aj⟩ o z) F' G' ∧ Next (F ++ G) (F' ++ G') w w' := by
  have HD : Hid (DB w F G (w.alloc (.cells (tkC ⟨k, t, ⟨ak, ai, aj⟩, o, z, n⟩) 37)) base p q c r L L F G w.heap.size ⟨k, t, ⟨ak, ai, aj⟩, o, z, n⟩) :=
    ⟨h.below (below_a1 _ _), heap_alloc_new _ _, fun e => by have := (h.mem.lt _ e).2; omega, fun e => by have := (h.ref.lt _ e).2; omega, Next.of_below (below_a1 _ _) _⟩
  obtain ⟨M, rfl⟩ := h.mem.ptr
  obtain ⟨R, rfl⟩ := h.ref.ptr
  have hba : base ≤ (w.alloc (.cells (tkC ⟨k, t, ⟨ak, ai, aj⟩, o, z, n⟩) 37)).heap.size := by simp; omega
  subst hk
  have H1 : Hid (∀ (w : World) F, MemAt w base (.pointer (some ⟨M, 0, none⟩)) c r L F → base ≤ w.heap.size → Calls Try.prog 17 #[.pointer (some ⟨M, 0, none⟩), .int .i64 t, .agg #[.int .i64 ak, .int .i64 ai, .int .i64 aj], .int .i64 o, .int .i64 z] w fun e w' => e = .returned (.tuple #[.bool (isAd c r ⟨ak, ai, aj⟩ && wordOf L ⟨ak, ai, aj⟩ == o), .int .i64 (if isAd c r ⟨ak, ai, aj⟩ then 0 else 1)]) ∧ ∃ F', MemAt w' base (.pointer (some ⟨M, 0, none⟩)) c r (swapL c r L t ⟨ak, ai, aj⟩ o z) F' ∧ Next F F' w w') := fun w F h hb => swap_any h hb hL t ⟨ak, ai, aj⟩ o z
  have H2 : Hid (∀ (w : World) F, RefAt w base (.pointer (some ⟨R, 0, none⟩)) c r L F → base ≤ w.heap.size → Calls Try.prog 22 #[.pointer (some ⟨R, 0, none⟩), .int .i64 t, .agg #[.int .i64 ak, .int .i64 ai, .int .i64 aj], .int .i64 o, .int .i64 z] w fun e w' => e = .returned (.tuple #[.bool (isAd c r ⟨ak, ai, aj⟩ && wordOf L ⟨ak, ai, aj⟩ == o), .int .i64 (if isAd c r ⟨ak, ai, aj⟩ then 0 else 1)]) ∧ ∃ F', RefAt w' base (.pointer (some ⟨R, 0, none⟩)) c r (swapL c r L t ⟨ak, ai, aj⟩ o z) F' ∧ Next F F' w w') := fun w F h hb => rswap_any h hb hL t ⟨ak, ai, aj⟩ o z
  generalize (isAd c r ⟨ak, ai, aj⟩ && wordOf L ⟨ak, ai, aj⟩ == o) = y1 at H1 H2
  generalize (if isAd c r ⟨ak, ai, aj⟩ then (0 : Int) else 1) = y2 at H1 H2
  generalize swapL c r L t ⟨ak, ai, aj⟩ o z = LL at H1 H2 ⊢
  unfold tkC at HD hba
  clear h
  go_enter Try.func11, Try.ntmps11
  go_wp2_with fail
  refine (H1.out _ _ HD.out.duo.mem hba).mono ?_
  rintro e w1 ⟨rfl, F1, hm1, hn1⟩
  have HD1 : Hid (DB w F G w1 base (.pointer (some ⟨M, 0, none⟩)) (.pointer (some ⟨R, 0, none⟩)) c r LL L F1 G w.heap.size ⟨3, t, ⟨ak, ai, aj⟩, o, z, n⟩) := HD.out.onMem hm1 hn1
  have hb1 : base ≤ w1.heap.size := Nat.le_trans hba hn1.1.size
  obtain ⟨x1, x2, x3, x4, x5, x6, x7⟩ := HD1.out.cells
  clear hm1 hn1
  go_wp2_with fail
  refine (H2.out _ _ HD1.out.duo.ref hb1).mono ?_
  rintro e w2 ⟨rfl, G2, hm2, hn2⟩
  have HD2 : Hid (DB w F G w2 base (.pointer (some ⟨M, 0, none⟩)) (.pointer (some ⟨R, 0, none⟩)) c r LL LL F1 G2 w.heap.size ⟨3, t, ⟨ak, ai, aj⟩, o, z, n⟩) := HD1.out.onRef hm2 hn2
  clear hm2 hn2 x1 x2 x3 x4 x5 x6 x7
  go_wp2
  go_ret
  exact ⟨by simp, F1, G2, HD2.out.duo, HD2.out.next⟩


set_option maxRecDepth 100000 in
set_option maxHeartbeats 6400000 in
theorem does_peek {w : World} {base : Nat} {p q : Value} {c r : Nat} {L : List Ac} {F G : List Nat} (h : Duo w base p q c r L L F G) (hb : base ≤ w.heap.size) (hL : L.length < 2199023255552) (hG : Good c r L) (k t ak ai aj o z n : Int) (hk : k = 4) :
    Calls Try.prog 11 #[p, q, .agg #[.int .i64 k, .int .i64 t, .int .i64 ak, .int .i64 ai, .int .i64 aj, .int .i64 o, .int .i64 z, .int .i64 n]] w fun e w' => e = .returned (.bool true) ∧ ∃ F' G', Duo w' base p q c r (L) (L) F' G' ∧ Next (F ++ G) (F' ++ G') w w' := by
  have HD : Hid (DB w F G (w.alloc (.cells (tkC ⟨k, t, ⟨ak, ai, aj⟩, o, z, n⟩) 37)) base p q c r L L F G w.heap.size ⟨k, t, ⟨ak, ai, aj⟩, o, z, n⟩) :=
    ⟨h.below (below_a1 _ _), heap_alloc_new _ _, fun e => by have := (h.mem.lt _ e).2; omega, fun e => by have := (h.ref.lt _ e).2; omega, Next.of_below (below_a1 _ _) _⟩
  obtain ⟨M, rfl⟩ := h.mem.ptr
  obtain ⟨R, rfl⟩ := h.ref.ptr
  have hba : base ≤ (w.alloc (.cells (tkC ⟨k, t, ⟨ak, ai, aj⟩, o, z, n⟩) 37)).heap.size := by simp; omega
  subst hk
  have H1 : Hid (∀ (w : World) F, MemAt w base (.pointer (some ⟨M, 0, none⟩)) c r L F → Calls Try.prog 14 #[.pointer (some ⟨M, 0, none⟩), .agg #[.int .i64 ak, .int .i64 ai, .int .i64 aj]] w fun e w' => e = .returned (.tuple #[.int .i64 (if isAd c r ⟨ak, ai, aj⟩ then wordOf L ⟨ak, ai, aj⟩ else 0), .int .i64 (if isAd c r ⟨ak, ai, aj⟩ then 0 else 1)]) ∧ Below w.heap.size w w') := fun w F h => peek_any h ⟨ak, ai, aj⟩
  have H2 : Hid (∀ (w : World) F, RefAt w base (.pointer (some ⟨R, 0, none⟩)) c r L F → Calls Try.prog 23 #[.pointer (some ⟨R, 0, none⟩), .agg #[.int .i64 ak, .int .i64 ai, .int .i64 aj]] w fun e w' => e = .returned (.tuple #[.int .i64 (if isAd c r ⟨ak, ai, aj⟩ then wordOf L ⟨ak, ai, aj⟩ else 0), .int .i64 (if isAd c r ⟨ak, ai, aj⟩ then 0 else 1)]) ∧ Below w.heap.size w w') := fun w F h => rpeek_any h (by omega) ⟨ak, ai, aj⟩
  generalize (if isAd c r ⟨ak, ai, aj⟩ then wordOf L ⟨ak, ai, aj⟩ else 0) = y1 at H1 H2
  generalize (if isAd c r ⟨ak, ai, aj⟩ then (0 : Int) else 1) = y2 at H1 H2
  unfold tkC at HD hba
  clear h
  go_enter Try.func11, Try.ntmps11
  go_wp2_with fail
  refine (H1.out _ _ HD.out.duo.mem).mono ?_
  rintro e w1 ⟨rfl, hb1⟩
  have HD1 : Hid (DB w F G w1 base (.pointer (some ⟨M, 0, none⟩)) (.pointer (some ⟨R, 0, none⟩)) c r L L F G w.heap.size ⟨4, t, ⟨ak, ai, aj⟩, o, z, n⟩) := HD.out.below hb1
  obtain ⟨x1, x2, x3, x4, x5, x6, x7⟩ := HD1.out.cells
  clear hb1
  go_wp2_with fail
  refine (H2.out _ _ HD1.out.duo.ref).mono ?_
  rintro e w2 ⟨rfl, hb2⟩
  have HD2 : Hid (DB w F G w2 base (.pointer (some ⟨M, 0, none⟩)) (.pointer (some ⟨R, 0, none⟩)) c r L L F G w.heap.size ⟨4, t, ⟨ak, ai, aj⟩, o, z, n⟩) := HD1.out.below hb2
  clear hb2 x1 x2 x3 x4 x5 x6 x7
  go_wp2
  go_ret
  exact ⟨by simp, F, G, HD2.out.duo, HD2.out.next⟩


set_option maxRecDepth 100000 in
set_option maxHeartbeats 6400000 in
theorem does_count {w : World} {base : Nat} {p q : Value} {c r : Nat} {L : List Ac} {F G : List Nat} (h : Duo w base p q c r L L F G) (hb : base ≤ w.heap.size) (hL : L.length < 2199023255552) (hG : Good c r L) (k t ak ai aj o z n : Int) (hk : k = 5) :
    Calls Try.prog 11 #[p, q, .agg #[.int .i64 k, .int .i64 t, .int .i64 ak, .int .i64 ai, .int .i64 aj, .int .i64 o, .int .i64 z, .int .i64 n]] w fun e w' => e = .returned (.bool true) ∧ ∃ F' G', Duo w' base p q c r (L) (L) F' G' ∧ Next (F ++ G) (F' ++ G') w w' := by
  have HD : Hid (DB w F G (w.alloc (.cells (tkC ⟨k, t, ⟨ak, ai, aj⟩, o, z, n⟩) 37)) base p q c r L L F G w.heap.size ⟨k, t, ⟨ak, ai, aj⟩, o, z, n⟩) :=
    ⟨h.below (below_a1 _ _), heap_alloc_new _ _, fun e => by have := (h.mem.lt _ e).2; omega, fun e => by have := (h.ref.lt _ e).2; omega, Next.of_below (below_a1 _ _) _⟩
  obtain ⟨M, rfl⟩ := h.mem.ptr
  obtain ⟨R, rfl⟩ := h.ref.ptr
  have hba : base ≤ (w.alloc (.cells (tkC ⟨k, t, ⟨ak, ai, aj⟩, o, z, n⟩) 37)).heap.size := by simp; omega
  subst hk
  have H1 : Hid (∀ (w : World) F, MemAt w base (.pointer (some ⟨M, 0, none⟩)) c r L F → Calls Try.prog 19 #[.pointer (some ⟨M, 0, none⟩)] w fun e w' => e = .returned (.int .i64 (L.length : Int)) ∧ w' = w) := fun w F h => count_any h
  unfold tkC at HD hba
  obtain ⟨ra, rc, hrc⟩ := HD.out.duo.ref.count
  have hRl : R < w.heap.size := by
    obtain ⟨R', v', h'⟩ := h.ref
    obtain rfl : R = R' := by simpa using h'.p
    exact heap_lt h'.m
  clear h
  go_enter Try.func11, Try.ntmps11
  go_wp2_with fail
  refine (H1.out _ _ HD.out.duo.mem).mono ?_
  rintro e w1 ⟨rfl, rfl⟩
  have hrc' : w.cell? ⟨R, 2, none⟩ = some (.slice ra L.length rc) := by rw [World.cell?_alloc_past _ _ _ hRl] at hrc; exact hrc
  clear hrc
  go_wp2
  go_ret
  exact ⟨by simp, F, G, HD.out.duo, HD.out.next⟩


set_option maxRecDepth 100000 in
set_option maxHeartbeats 6400000 in
theorem does_log {w : World} {base : Nat} {p q : Value} {c r : Nat} {L : List Ac} {F G : List Nat} (h : Duo w base p q c r L L F G) (hb : base ≤ w.heap.size) (hL : L.length < 2199023255552) (hG : Good c r L) (k t ak ai aj o z n : Int) (hk : k = 6) :
    Calls Try.prog 11 #[p, q, .agg #[.int .i64 k, .int .i64 t, .int .i64 ak, .int .i64 ai, .int .i64 aj, .int .i64 o, .int .i64 z, .int .i64 n]] w fun e w' => e = .returned (.bool true) ∧ ∃ F' G', Duo w' base p q c r (L) (L) F' G' ∧ Next (F ++ G) (F' ++ G') w w' := by
  have HD : Hid (DB w F G (w.alloc (.cells (tkC ⟨k, t, ⟨ak, ai, aj⟩, o, z, n⟩) 37)) base p q c r L L F G w.heap.size ⟨k, t, ⟨ak, ai, aj⟩, o, z, n⟩) :=
    ⟨h.below (below_a1 _ _), heap_alloc_new _ _, fun e => by have := (h.mem.lt _ e).2; omega, fun e => by have := (h.ref.lt _ e).2; omega, Next.of_below (below_a1 _ _) _⟩
  obtain ⟨M, rfl⟩ := h.mem.ptr
  obtain ⟨R, rfl⟩ := h.ref.ptr
  have hba : base ≤ (w.alloc (.cells (tkC ⟨k, t, ⟨ak, ai, aj⟩, o, z, n⟩) 37)).heap.size := by simp; omega
  subst hk
  have HBN := h.mem.bounds
  have H1 : Hid (∀ (w : World) F G, MemAt w base (.pointer (some ⟨M, 0, none⟩)) c r L F → RefAt w base (.pointer (some ⟨R, 0, none⟩)) c r L G → Calls Try.prog 12 #[.pointer (some ⟨M, 0, none⟩), .pointer (some ⟨R, 0, none⟩), .int .i64 n] w fun e w' => e = .returned (.bool true) ∧ Below w.heap.size w w') := fun w F G h1 h2 => logs_any h1 h2 hL n
  unfold tkC at HD hba
  clear h HBN
  go_enter Try.func11, Try.ntmps11
  go_wp2_with fail
  refine (H1.out _ _ _ HD.out.duo.mem HD.out.duo.ref).mono ?_
  rintro e w1 ⟨rfl, hb1⟩
  have HD1 : Hid (DB w F G w1 base (.pointer (some ⟨M, 0, none⟩)) (.pointer (some ⟨R, 0, none⟩)) c r L L F G w.heap.size ⟨6, t, ⟨ak, ai, aj⟩, o, z, n⟩) := HD.out.below hb1
  clear hb1
  go_wp2
  go_ret
  exact ⟨by simp, F, G, HD1.out.duo, HD1.out.next⟩


set_option maxRecDepth 100000 in
set_option maxHeartbeats 6400000 in
theorem does_touched {w : World} {base : Nat} {p q : Value} {c r : Nat} {L : List Ac} {F G : List Nat} (h : Duo w base p q c r L L F G) (hb : base ≤ w.heap.size) (hL : L.length < 2199023255552) (hG : Good c r L) (k t ak ai aj o z n : Int) (hk : k = 7) :
    Calls Try.prog 11 #[p, q, .agg #[.int .i64 k, .int .i64 t, .int .i64 ak, .int .i64 ai, .int .i64 aj, .int .i64 o, .int .i64 z, .int .i64 n]] w fun e w' => e = .returned (.bool true) ∧ ∃ F' G', Duo w' base p q c r (L) (L) F' G' ∧ Next (F ++ G) (F' ++ G') w w' := by
  have HD : Hid (DB w F G (w.alloc (.cells (tkC ⟨k, t, ⟨ak, ai, aj⟩, o, z, n⟩) 37)) base p q c r L L F G w.heap.size ⟨k, t, ⟨ak, ai, aj⟩, o, z, n⟩) :=
    ⟨h.below (below_a1 _ _), heap_alloc_new _ _, fun e => by have := (h.mem.lt _ e).2; omega, fun e => by have := (h.ref.lt _ e).2; omega, Next.of_below (below_a1 _ _) _⟩
  obtain ⟨M, rfl⟩ := h.mem.ptr
  obtain ⟨R, rfl⟩ := h.ref.ptr
  have hba : base ≤ (w.alloc (.cells (tkC ⟨k, t, ⟨ak, ai, aj⟩, o, z, n⟩) 37)).heap.size := by simp; omega
  subst hk
  have HBN := h.mem.bounds
  have H1 : Hid (∀ (w : World) F G, MemAt w base (.pointer (some ⟨M, 0, none⟩)) c r L F → RefAt w base (.pointer (some ⟨R, 0, none⟩)) c r L G → Calls Try.prog 13 #[.pointer (some ⟨M, 0, none⟩), .pointer (some ⟨R, 0, none⟩)] w fun e w' => e = .returned (.bool true) ∧ Below w.heap.size w w') := fun w F G h1 h2 => ltouched_any h1 h2 hL hG HBN.1 HBN.2 hG
  unfold tkC at HD hba
  clear h HBN
  go_enter Try.func11, Try.ntmps11
  go_wp2_with fail
  refine (H1.out _ _ _ HD.out.duo.mem HD.out.duo.ref).mono ?_
  rintro e w1 ⟨rfl, hb1⟩
  have HD1 : Hid (DB w F G w1 base (.pointer (some ⟨M, 0, none⟩)) (.pointer (some ⟨R, 0, none⟩)) c r L L F G w.heap.size ⟨7, t, ⟨ak, ai, aj⟩, o, z, n⟩) := HD.out.below hb1
  clear hb1
  go_wp2
  go_ret
  exact ⟨by simp, F, G, HD1.out.duo, HD1.out.next⟩


set_option maxRecDepth 100000 in
set_option maxHeartbeats 6400000 in
theorem does_else {w : World} {base : Nat} {p q : Value} {c r : Nat} {L : List Ac} {F G : List Nat} (h : Duo w base p q c r L L F G) (hb : base ≤ w.heap.size) (hL : L.length < 2199023255552) (hG : Good c r L) (k t ak ai aj o z n : Int) (hk : k ≠ 1 ∧ k ≠ 2 ∧ k ≠ 3 ∧ k ≠ 4 ∧ k ≠ 5 ∧ k ≠ 6 ∧ k ≠ 7) :
    Calls Try.prog 11 #[p, q, .agg #[.int .i64 k, .int .i64 t, .int .i64 ak, .int .i64 ai, .int .i64 aj, .int .i64 o, .int .i64 z, .int .i64 n]] w fun e w' => e = .returned (.bool true) ∧ ∃ F' G', Duo w' base p q c r (L) (L) F' G' ∧ Next (F ++ G) (F' ++ G') w w' := by
  have HD : Hid (DB w F G (w.alloc (.cells (tkC ⟨k, t, ⟨ak, ai, aj⟩, o, z, n⟩) 37)) base p q c r L L F G w.heap.size ⟨k, t, ⟨ak, ai, aj⟩, o, z, n⟩) :=
    ⟨h.below (below_a1 _ _), heap_alloc_new _ _, fun e => by have := (h.mem.lt _ e).2; omega, fun e => by have := (h.ref.lt _ e).2; omega, Next.of_below (below_a1 _ _) _⟩
  obtain ⟨M, rfl⟩ := h.mem.ptr
  obtain ⟨R, rfl⟩ := h.ref.ptr
  have hba : base ≤ (w.alloc (.cells (tkC ⟨k, t, ⟨ak, ai, aj⟩, o, z, n⟩) 37)).heap.size := by simp; omega
  have b1 : (k == 1) = false := by simp; omega
  have b2 : (k == 2) = false := by simp; omega
  have b3 : (k == 3) = false := by simp; omega
  have b4 : (k == 4) = false := by simp; omega
  have b5 : (k == 5) = false := by simp; omega
  have b6 : (k == 6) = false := by simp; omega
  have b7 : (k == 7) = false := by simp; omega
  unfold tkC at HD hba
  clear h hk
  go_enter Try.func11, Try.ntmps11
  go_wp2
  go_ret
  exact ⟨by simp, F, G, HD.out.duo, HD.out.next⟩

theorem does_any {w : World} {base : Nat} {p q : Value} {c r : Nat} {L : List Ac} {F G : List Nat} (h : Duo w base p q c r L L F G) (hb : base ≤ w.heap.size) (hL : L.length < 2199023255552) (hG : Good c r L) (x : Tk) :
    Calls Try.prog 11 #[p, q, .agg (tkC x)] w fun e w' => e = .returned (.bool true) ∧ ∃ F' G', Duo w' base p q c r (stepL c r L x) (stepL c r L x) F' G' ∧ Next (F ++ G) (F' ++ G') w w' := by
  obtain ⟨k, t, ⟨ak, ai, aj⟩, o, z, n⟩ := x
  by_cases k1 : k = 1
  · rw [k1, stepL_1]; exact does_load h hb hL hG 1 t ak ai aj o z n rfl
  by_cases k2 : k = 2
  · rw [k2, stepL_2]; exact does_store h hb hL hG 2 t ak ai aj o z n rfl
  by_cases k3 : k = 3
  · rw [k3, stepL_3]; exact does_swap h hb hL hG 3 t ak ai aj o z n rfl
  rw [stepL_else _ _ _ _ _ _ _ _ _ k1 k2 k3]
  by_cases k4 : k = 4
  · exact does_peek h hb hL hG k t ak ai aj o z n k4
  by_cases k5 : k = 5
  · exact does_count h hb hL hG k t ak ai aj o z n k5
  by_cases k6 : k = 6
  · exact does_log h hb hL hG k t ak ai aj o z n k6
  by_cases k7 : k = 7
  · exact does_touched h hb hL hG k t ak ai aj o z n k7
  exact does_else h hb hL hG k t ak ai aj o z n ⟨k1, k2, k3, k4, k5, k6, k7⟩
end Go.Proofs.Ytbfhhignhbamnaa
