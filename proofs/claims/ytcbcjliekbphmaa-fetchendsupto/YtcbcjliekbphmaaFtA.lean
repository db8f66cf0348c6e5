/- The program's machine of layer 9: New, Start, Reads, goesOver, look. -/
import Derived.Test.YtcbcjliekbphmaaFcJ
import Derived.Test.YtcbcjliekbphmaaSigP
import Derived.RegionTactic
import Derived.BigRegion
namespace Go.Proofs.Ytcbcjliekbphmaa
open Go.ChangeShapes Go.WideShapes Go.ChangeAt Go.RowKit
attribute [local go_sem ↓] Go.wp_at_zero Go.wp_at_succ

theorem KAt.tail {w : World} {X : Nat} {P : Cp} {b : Ck} (h : KAt w X P b) : w.cell? ⟨X, 16, none⟩ = some (.int .i64 (P.s : Int)) ∧ w.cell? ⟨X, 17, none⟩ = some (.int .i64 P.cell) ∧ w.cell? ⟨X, 26, none⟩ = some (.bool P.read) ∧ w.cell? ⟨X, 27, none⟩ = some (.int .i64 P.val) :=
  ⟨by rw [cell_at h]; rfl, by rw [cell_at h]; rfl, by rw [cell_at h]; rfl, by rw [cell_at h]; rfl⟩
theorem KAt.tfz {w : World} {X : Nat} {P : Cp} {b : Ck} (h : KAt w X P b) : w.frozen? ⟨X, 26, none⟩ = false ∧ w.frozen? ⟨X, 27, none⟩ = false := ⟨frozen_at h 26, frozen_at h 27⟩
theorem KAt.treads {w : World} {X : Nat} {P : Cp} {b : Ck} (h : KAt w X P b) : w.cell? ⟨X, 18, none⟩ = some (rdV P.rd 0) ∧ w.cell? ⟨X, 19, none⟩ = some (rdV P.rd 1) ∧ w.cell? ⟨X, 20, none⟩ = some (rdV P.rd 2) ∧ w.cell? ⟨X, 21, none⟩ = some (rdV P.rd 3) ∧ w.cell? ⟨X, 22, none⟩ = some (rdV P.rd 4) ∧ w.cell? ⟨X, 23, none⟩ = some (rdV P.rd 5) ∧ w.cell? ⟨X, 24, none⟩ = some (rdV P.rd 6) ∧ w.cell? ⟨X, 25, none⟩ = some (rdV P.rd 7) :=
  ⟨by rw [cell_at h]; rfl, by rw [cell_at h]; rfl, by rw [cell_at h]; rfl, by rw [cell_at h]; rfl, by rw [cell_at h]; rfl, by rw [cell_at h]; rfl, by rw [cell_at h]; rfl, by rw [cell_at h]; rfl⟩
/-- The cell is read: what it told. -/
def lookP (P : Cp) (v : Int) : Cp := ⟨P.s, P.z, P.rd, P.last, P.cell, true, v⟩
theorem kset_look {w : World} {X : Nat} {P : Cp} {b : Ck} (h : KAt w X P b) (v : Int) : KAt ((w.setCell ⟨X, 27, none⟩ (.int .i64 v)).setCell ⟨X, 26, none⟩ (.bool true)) X (lookP P v) b := by
  have h1 : KAt (w.setCell ⟨X, 27, none⟩ (.int .i64 v)) X ⟨P.s, P.z, P.rd, P.last, P.cell, P.read, v⟩ b := by unfold KAt; rw [heap_set h]; rfl
  unfold KAt
  rw [heap_set h1]
  rfl
theorem pok_look {P : Cp} (h : POk P) (v : Int) : POk (lookP P v) := ⟨h.s1, h.s16, h.z0, h.z1, h.rd⟩
theorem kmid_look {P : Cp} {b : Ck} (h : KMid P b) (v : Int) : KMid (lookP P v) b := ⟨h.lo, h.hi, h.far, h.w, h.c1, h.c2, h.rd, h.e⟩
theorem kok_look {P : Cp} {b : Ck} {n : Nat} (h : KOk P b n) (v : Int) : KOk (lookP P v) b n := by
  refine ⟨pok_look h.p v, ?_⟩
  rcases h.c with c | ⟨c, k, m⟩ | ⟨c, k, m1, m2, m3⟩ | ⟨c, k, m⟩ | c | c
  · exact Or.inl c
  · exact Or.inr (Or.inl ⟨c, kmid_look k v, m⟩)
  · exact Or.inr (Or.inr (Or.inl ⟨c, kmid_look k v, m1, m2, m3⟩))
  · exact Or.inr (Or.inr (Or.inr (Or.inl ⟨c, kmid_look k v, m⟩)))
  · exact Or.inr (Or.inr (Or.inr (Or.inr (Or.inl c))))
  · exact Or.inr (Or.inr (Or.inr (Or.inr (Or.inr c))))

theorem fstart_any {w : World} {X : Nat} {P : Cp} {b : Ck} (h : KAt w X P b) : Calls Try.prog 25 #[.pointer (some ⟨X, 0, none⟩)] w fun e w' => e = .returned (.tuple #[.int .i64 (if b.st = 4 then b.comp else 0), .int .i64 (if b.st = 4 then b.seen else 0), .bool (decide (b.st = 4))]) ∧ Below w.heap.size w w' := by
  have HC : Hid (Calls Try.prog 49 #[.pointer (some ⟨X, 0, none⟩)] w fun e w' => e = .returned (.tuple #[.int .i64 (if b.st = 4 then b.comp else 0), .int .i64 (if b.st = 4 then b.seen else 0), .bool (decide (b.st = 4))]) ∧ Below w.heap.size w w') := cstart_any h
  have hx : X < w.heap.size := heap_lt h
  obtain ⟨x0, x1, x2, x3, x4, x5, x6, x7⟩ := h.cells
  generalize (if b.st = 4 then b.comp else 0) = cc at *
  generalize (if b.st = 4 then b.seen else 0) = ss at *
  generalize decide (b.st = 4) = yy at *
  clear h
  go_enter Try.func25, Try.ntmps25
  go_wp2_with fail
  refine HC.out.mono ?_
  rintro e w1 ⟨rfl, hb⟩
  have HB : Hid (Below w.heap.size w w1) := hb
  clear hb x0 x1 x2 x3 x4 x5 x6 x7
  go_wp2
  go_ret3
  exact ⟨rfl, HB.out⟩
set_option maxRecDepth 10000 in
theorem freads_any {w : World} {X : Nat} {P : Cp} {b : Ck} (h : KAt w X P b) : Calls Try.prog 41 #[.pointer (some ⟨X, 0, none⟩)] w fun e w' => e = .returned (.agg #[rdV P.rd 0, rdV P.rd 1, rdV P.rd 2, rdV P.rd 3, rdV P.rd 4, rdV P.rd 5, rdV P.rd 6, rdV P.rd 7]) ∧ Below w.heap.size w w' := by
  obtain ⟨t0, t1, t2, t3, t4, t5, t6, t7⟩ := h.treads
  have hx : X < w.heap.size := heap_lt h
  clear h
  unfold rdV at *
  generalize P.rd.getD 0 0 = n0 at *
  generalize P.rd.getD 1 0 = n1 at *
  generalize P.rd.getD 2 0 = n2 at *
  generalize P.rd.getD 3 0 = n3 at *
  generalize P.rd.getD 4 0 = n4 at *
  generalize P.rd.getD 5 0 = n5 at *
  generalize P.rd.getD 6 0 = n6 at *
  generalize P.rd.getD 7 0 = n7 at *
  go_enter Try.func41, Try.ntmps41
  go_wp2
  exact Sg.ret_sig rfl rfl (heap_alloc_new _ _) rfl rfl ⟨rfl, below_a1 _ _⟩
def goesF (c r : Nat) (P : Cp) : Bool := decide (r = P.s) && decide (P.cell < (c : Int))
theorem fgoes_any {w : World} {base : Nat} {p : Value} {c r : Nat} {L : List Ac} {F : List Nat} {X : Nat} {P : Cp} {b : Ck} (hm : MemAt w base p c r L F) (h : KAt w X P b) :
    Calls Try.prog 35 #[.pointer (some ⟨X, 0, none⟩), p] w fun e w' => e = .returned (.bool (goesF c r P)) ∧ Below w.heap.size w w' := by
  have HS : Hid (Calls Try.prog 43 #[p] w fun e w' => e = .returned (.tuple #[.int .i64 (c : Int), .int .i64 (r : Int)]) ∧ Below w.heap.size w w') := sizes_any hm
  obtain ⟨M, rfl⟩ := hm.ptr
  have HX : Hid (KAt w X P b) := h
  have hx : X < w.heap.size := heap_lt h
  have hd : ((r : Int) == (P.s : Int)) = decide (r = P.s) := by rw [Bool.eq_iff_iff]; simp; try omega
  clear hm h
  unfold goesF
  generalize hdd : decide (r = P.s) = d1 at *
  generalize hde : decide (P.cell < (c : Int)) = d2 at *
  go_enter Try.func35, Try.ntmps35
  go_wp2_with fail
  refine HS.out.mono ?_
  rintro e w1 ⟨rfl, hb⟩
  have hX1 := HX.out.below hb hx
  obtain ⟨t0, t1, t2, t3⟩ := hX1.tail
  have hx1 : X < w1.heap.size := heap_lt hX1
  have HB : Hid (Below w.heap.size w w1) := hb
  clear hb hX1
  cases d1
  · go_wp2
    first | (go_ret; exact ⟨rfl, HB.out⟩) | (go_quiet (fail); go_wp2; go_ret; exact ⟨rfl, below_drawn HB.out _⟩)
  · go_wp2
    first | (go_ret; exact ⟨rfl, HB.out⟩) | (go_quiet (fail); go_wp2; go_ret; exact ⟨rfl, below_drawn HB.out _⟩)
theorem ks_load {w w1 w2 : World} {base : Nat} {p : Value} {c r : Nat} {L L' : List Ac} {F F' : List Nat} {X B : Nat} {P : Cp} {b : Ck} {o : Obj} (h : KS w base p c r L F X P b) (hb : Below w.heap.size w w1) (hB : w1.heap[B]? = some o) (hlo : w.heap.size ≤ B)
    (hm : MemAt w2 base p c r L' F') (hn : Next F F' w1 w2) : w2.heap[B]? = some o ∧ KS w2 base p c r L' F' X P b ∧ B ∉ X :: F' ∧ Next (X :: F) (X :: F') w w2 := by
  have hx : X < w.heap.size := heap_lt h.at_
  have hF : ∀ q ∈ F, q < w.heap.size := fun q hq => (h.mem.lt q hq).2
  have hs := hb.size
  have hB1 := heap_lt hB
  refine ⟨hn.row hB (fun e => by have := hF _ e; omega), ⟨hm, (h.at_.below hb hx).keep hn.1 h.out, ?_, h.lo⟩, ?_, ?_, ?_⟩
  · intro e
    rcases hn.2 X e with h1 | h1
    · exact h.out h1
    · omega
  · intro e
    rcases List.mem_cons.1 e with e | e
    · omega
    · rcases hn.2 B e with h1 | h1
      · have := hF _ h1; omega
      · omega
  · exact ((Keep.of_below hb F).trans hn.1 (fun q hq => Or.inl hq)).mono (fun q hq => by simp [hq])
  · intro q hq
    rcases List.mem_cons.1 hq with rfl | hq
    · exact Or.inl (by simp)
    · rcases hn.2 q hq with h1 | h1
      · exact Or.inl (by simp [h1])
      · exact Or.inr (by omega)
/-- The machine's block changes. -/
theorem ks_moves {w w2 w3 : World} {base : Nat} {p : Value} {c r : Nat} {L : List Ac} {F F' : List Nat} {X B : Nat} {P P' : Cp} {b b' : Ck} {o : Obj} (hB : w2.heap[B]? = some o) (h : KS w2 base p c r L F' X P b) (hBX : B ∉ X :: F') (hn : Next (X :: F) (X :: F') w w2)
    (ha : KAt w3 X P' b') (hk : Keep [X] w2 w3) : w3.heap[B]? = some o ∧ KS w3 base p c r L F' X P' b' ∧ Next (X :: F) (X :: F') w w3 := by
  refine ⟨by rw [hk.block B (heap_lt hB) (fun e => hBX (by simp at e; simp [e]))]; exact hB, ⟨h.mem.keep hk (fun q hq e => by simp at e; exact h.out (e ▸ hq)), ha, h.out, h.lo⟩, ?_, hn.2⟩
  exact hn.1.trans hk (fun q hq => by simp at hq; subst hq; exact Or.inl (by simp))
/-- An answer with a value is laid. -/
def ansW (k e v : Int) (y : Bool) : Value := .agg #[.int .i64 k, .int .i64 e, .int .i64 v, .bool y]
def laidW (w : World) (B : Nat) (k e v : Int) (y : Bool) : World := (((w.setCell ⟨B, 0, none⟩ (.int .i64 k)).setCell ⟨B, 1, none⟩ (.int .i64 e)).setCell ⟨B, 2, none⟩ (.int .i64 v)).setCell ⟨B, 3, none⟩ (.bool y)
theorem ansW_set {w : World} {B : Nat} {cs : Array Value} (hz : cs.size = 4) (h : w.heap[B]? = some (.cells cs 49 (0, 0))) (k e v : Int) (y : Bool) :
    (laidW w B k e v y).heap[B]? = some (.cells #[.int .i64 k, .int .i64 e, .int .i64 v, .bool y] 49 (0, 0)) := by
  have h1 := heap_set (i := 0) (v := .int .i64 k) h
  have h2 := heap_set (i := 1) (v := .int .i64 e) h1
  have h3 := heap_set (i := 2) (v := .int .i64 v) h2
  have h4 := heap_set (i := 3) (v := .bool y) h3
  unfold laidW
  rw [h4]
  obtain ⟨l⟩ := cs
  match l, hz with
  | [_, _, _, _], _ => rfl
theorem keepW {w0 w : World} {F : List Nat} {B : Nat} (hk : Keep F w0 w) (hB : w0.heap.size ≤ B) (k e v : Int) (y : Bool) : Keep F w0 (laidW w B k e v y) :=
  (((hk.setCell _ _ (Or.inr hB)).setCell _ _ (Or.inr hB)).setCell _ _ (Or.inr hB)).setCell _ _ (Or.inr hB)
theorem keepWB {w : World} {B : Nat} (k e v : Int) (y : Bool) : Keep [B] w (laidW w B k e v y) :=
  ((((Keep.refl [B] w).setCell _ _ (Or.inl (by simp))).setCell _ _ (Or.inl (by simp))).setCell _ _ (Or.inl (by simp))).setCell _ _ (Or.inl (by simp))
/-- A block that is new changes. -/
theorem ks_other {w w3 w4 : World} {base : Nat} {p : Value} {c r : Nat} {L : List Ac} {F F' : List Nat} {X B : Nat} {P : Cp} {b : Ck} (h : KS w3 base p c r L F' X P b) (hB : B ∉ X :: F') (hlo : w.heap.size ≤ B) (hn : Next (X :: F) (X :: F') w w3) (hk : Keep [B] w3 w4) :
    KS w4 base p c r L F' X P b ∧ Next (X :: F) (X :: F') w w4 :=
  ⟨h.keep hk (fun q hq e => by simp at e; exact hB (e ▸ hq)), hn.1.trans hk (fun q hq => by simp at hq; subst hq; exact Or.inr hlo), hn.2⟩
def cellA (P : Cp) : Ad := ⟨4, P.cell, 0⟩
theorem cellA_is {c r : Nat} {P : Cp} (h0 : 0 ≤ P.cell) (h1 : P.cell < (c : Int)) : isAd c r (cellA P) = true := by
  unfold isAd cellA
  simp [h0, h1]
set_option maxRecDepth 10000 in
theorem flook_any {w : World} {base : Nat} {p : Value} {c r : Nat} {L : List Ac} {F : List Nat} {X : Nat} {P : Cp} {b : Ck} (h : KS w base p c r L F X P b) (hb : base ≤ w.heap.size) (hL : L.length < 3298534883328) (h0 : 0 ≤ P.cell) (h1 : P.cell < (c : Int)) (t : Int) :
    Calls Try.prog 36 #[.pointer (some ⟨X, 0, none⟩), p, .int .i64 t] w fun e w' => e = .returned (ansE 2 0 true) ∧ ∃ F', KS w' base p c r (loadL c r L t (cellA P)) F' X (lookP P (wordOf L (cellA P))) b ∧ Next (X :: F) (X :: F') w w' := by
  have HL : Hid (∀ (w' : World), Below w.heap.size w w' → Calls Try.prog 55 #[p, .int .i64 t, .agg #[.int .i64 4, .int .i64 P.cell, .int .i64 0]] w' fun e w'' => e = .returned (.tuple #[.int .i64 (wordOf L (cellA P)), .int .i64 0]) ∧ ∃ F', MemAt w'' base p c r (loadL c r L t (cellA P)) F' ∧ Next F F' w' w'') := fun w' hb' => by
    have := load_any (h.mem.below hb') (Nat.le_trans hb hb'.size) hL t (cellA P)
    rw [if_pos (cellA_is h0 h1), if_pos (cellA_is h0 h1)] at this
    exact this
  have hx : X < w.heap.size := heap_lt h.at_
  have HH : Hid (KS w base p c r L F X P b) := h
  obtain ⟨M, rfl⟩ := h.mem.ptr
  obtain ⟨t0, t1, t2, t3⟩ := h.at_.tail
  obtain ⟨f0, f1⟩ := h.at_.tfz
  clear h h0 h1
  unfold ansE
  generalize wordOf L (cellA P) = v at *
  generalize loadL c r L t (cellA P) = L' at *
  go_enter Try.func36, Try.ntmps36
  go_wp2_with fail
  refine (HL.out _ (below_a1 _ _)).mono ?_
  rintro e w1 ⟨rfl, F', hm1, hn1⟩
  obtain ⟨r1, k1, o1, n1⟩ := ks_load HH.out (below_a1 _ _) (heap_alloc_new _ _) (Nat.le_refl _) hm1 hn1
  have HR1 : Hid (w1.heap[w.heap.size]? = some (.cells #[.int .i64 0, .int .i64 0, .int .i64 0, .bool false] 49 (0, 0))) := r1
  have HK1 : Hid (KS w1 base (.pointer (some ⟨M, 0, none⟩)) c r L' F' X P b ∧ w.heap.size ∉ X :: F' ∧ Next (X :: F) (X :: F') w w1) := ⟨k1, o1, n1⟩
  obtain ⟨⟨a0, a1, a2, a3⟩, g0, g1, g2, g3⟩ := ans_cells r1
  clear t0 t1 t2 t3 f0 f1
  obtain ⟨t0, t1, t2, t3⟩ := k1.at_.tail
  obtain ⟨f0, f1⟩ := k1.at_.tfz
  have hx1 : X < w1.heap.size := heap_lt k1.at_
  have hB1 : w.heap.size < w1.heap.size := heap_lt r1
  have hne : X ≠ w.heap.size := fun e => o1 (by simp [e])
  have hne2 : w.heap.size ≠ X := fun e => o1 (by simp [e])
  clear hm1 hn1 r1 k1 o1 n1
  go_wp2
  obtain ⟨r2, k2, n2⟩ := ks_moves HR1.out HK1.out.1 HK1.out.2.1 HK1.out.2.2 (kset_look HK1.out.1.at_ v) (kkeep (kkeep (Keep.refl _ _) _ _) _ _)
  exact ret_ans rfl rfl (ansE_set rfl r2 2 0 true) rfl rfl ⟨rfl, F', ks_other k2 HK1.out.2.1 (Nat.le_refl _) n2 (keepEB 2 0 true)⟩
/-- A new machine. -/
def newP (s : Nat) (z : Int) (rd : List Nat) (cell : Int) : Cp := ⟨s, z, Sg.put rd (Sg.sigN cell), true, cell, false, 0⟩
def laidS (w : World) (B : Nat) (c0 c1 c2 c3 c4 c5 c6 c7 : Value) : World := (((((((w.setCell ⟨B, 0, none⟩ c0).setCell ⟨B, 1, none⟩ c1).setCell ⟨B, 2, none⟩ c2).setCell ⟨B, 3, none⟩ c3).setCell ⟨B, 4, none⟩ c4).setCell ⟨B, 5, none⟩ c5).setCell ⟨B, 6, none⟩ c6).setCell ⟨B, 7, none⟩ c7
theorem belowS {w0 w : World} {A B : Nat} (hk : Below A w0 w) (hB : A ≤ B) (c0 c1 c2 c3 c4 c5 c6 c7 : Value) : Below A w0 (laidS w B c0 c1 c2 c3 c4 c5 c6 c7) :=
  (((((((hk.setCell hB _).setCell hB _).setCell hB _).setCell hB _).setCell hB _).setCell hB _).setCell hB _).setCell hB _
theorem laidS_row {w : World} {B : Nat} {d0 d1 d2 d3 d4 d5 d6 d7 : Value} (h : w.heap[B]? = some (.cells #[d0, d1, d2, d3, d4, d5, d6, d7] 24 (0, 0))) (c0 c1 c2 c3 c4 c5 c6 c7 : Value) :
    (laidS w B c0 c1 c2 c3 c4 c5 c6 c7).heap[B]? = some (.cells #[c0, c1, c2, c3, c4, c5, c6, c7] 24 (0, 0)) := by
  have h0 : (w.setCell ⟨B, 0, none⟩ c0).heap[B]? = some (.cells #[c0, d1, d2, d3, d4, d5, d6, d7] 24 (0, 0)) := by rw [heap_set h]; rfl
  have h1 := heap_set (i := 1) (v := c1) h0
  have h2 := heap_set (i := 2) (v := c2) h1
  have h3 := heap_set (i := 3) (v := c3) h2
  have h4 := heap_set (i := 4) (v := c4) h3
  have h5 := heap_set (i := 5) (v := c5) h4
  have h6 := heap_set (i := 6) (v := c6) h5
  have h7 := heap_set (i := 7) (v := c7) h6
  unfold laidS
  rw [h7]
  rfl
theorem sig_cells {w : World} {B : Nat} {c0 c1 c2 c3 c4 c5 c6 c7 : Value} (h : w.heap[B]? = some (.cells #[c0, c1, c2, c3, c4, c5, c6, c7] 24 (0, 0))) :
    (w.cell? ⟨B, 0, none⟩ = some c0 ∧ w.cell? ⟨B, 1, none⟩ = some c1 ∧ w.cell? ⟨B, 2, none⟩ = some c2 ∧ w.cell? ⟨B, 3, none⟩ = some c3 ∧ w.cell? ⟨B, 4, none⟩ = some c4 ∧ w.cell? ⟨B, 5, none⟩ = some c5 ∧ w.cell? ⟨B, 6, none⟩ = some c6 ∧ w.cell? ⟨B, 7, none⟩ = some c7) ∧
    (w.frozen? ⟨B, 0, none⟩ = false ∧ w.frozen? ⟨B, 1, none⟩ = false ∧ w.frozen? ⟨B, 2, none⟩ = false ∧ w.frozen? ⟨B, 3, none⟩ = false ∧ w.frozen? ⟨B, 4, none⟩ = false ∧ w.frozen? ⟨B, 5, none⟩ = false ∧ w.frozen? ⟨B, 6, none⟩ = false ∧ w.frozen? ⟨B, 7, none⟩ = false) :=
  ⟨⟨by rw [cell_at h]; rfl, by rw [cell_at h]; rfl, by rw [cell_at h]; rfl, by rw [cell_at h]; rfl, by rw [cell_at h]; rfl, by rw [cell_at h]; rfl, by rw [cell_at h]; rfl, by rw [cell_at h]; rfl⟩, frozen_at h 0, frozen_at h 1, frozen_at h 2, frozen_at h 3, frozen_at h 4, frozen_at h 5, frozen_at h 6, frozen_at h 7⟩
theorem KAt0.cells {w : World} {X : Nat} {P : Cp} {b : Ck} (h : KAt0 w X P b) : w.cell? ⟨X, 0, none⟩ = some (.int .i64 (P.s : Int)) ∧ w.cell? ⟨X, 1, none⟩ = some (.int .i64 P.z) ∧ w.cell? ⟨X, 2, none⟩ = some (rdV P.rd 0) ∧ w.cell? ⟨X, 3, none⟩ = some (rdV P.rd 1) ∧ w.cell? ⟨X, 4, none⟩ = some (rdV P.rd 2) ∧ w.cell? ⟨X, 5, none⟩ = some (rdV P.rd 3) ∧ w.cell? ⟨X, 6, none⟩ = some (rdV P.rd 4) ∧ w.cell? ⟨X, 7, none⟩ = some (rdV P.rd 5) ∧ w.cell? ⟨X, 8, none⟩ = some (rdV P.rd 6) ∧ w.cell? ⟨X, 9, none⟩ = some (rdV P.rd 7) ∧
    w.cell? ⟨X, 10, none⟩ = some (.bool P.last) ∧ w.cell? ⟨X, 11, none⟩ = some (.int .i64 b.st) ∧ w.cell? ⟨X, 12, none⟩ = some (.int .i64 b.seen) ∧ w.cell? ⟨X, 13, none⟩ = some (.int .i64 b.stamp) ∧ w.cell? ⟨X, 14, none⟩ = some (.int .i64 b.word) ∧ w.cell? ⟨X, 15, none⟩ = some (.int .i64 b.comp) :=
  ⟨by rw [cell_at h]; rfl, by rw [cell_at h]; rfl, by rw [cell_at h]; rfl, by rw [cell_at h]; rfl, by rw [cell_at h]; rfl, by rw [cell_at h]; rfl, by rw [cell_at h]; rfl, by rw [cell_at h]; rfl, by rw [cell_at h]; rfl, by rw [cell_at h]; rfl, by rw [cell_at h]; rfl, by rw [cell_at h]; rfl, by rw [cell_at h]; rfl, by rw [cell_at h]; rfl, by rw [cell_at h]; rfl, by rw [cell_at h]; rfl⟩
set_option maxRecDepth 10000 in
set_option maxHeartbeats 1600000 in
theorem fnew_yes (w : World) {s : Nat} {z : Int} {rd : List Nat} {cell : Int} (hs1 : 1 ≤ s) (hs : s ≤ 16) (hz : 0 ≤ z) (hz1 : z ≤ 9223372036854775807) (hr : Sg.Ok rd) (h0 : 0 ≤ cell) (h1 : cell < 1024) :
    Calls Try.prog 7 #[.int .i64 (s : Int), .int .i64 z, .agg #[rdV rd 0, rdV rd 1, rdV rd 2, rdV rd 3, rdV rd 4, rdV rd 5, rdV rd 6, rdV rd 7], .int .i64 cell] w fun e w' => ∃ X, e = .returned (.tuple #[.pointer (some ⟨X, 0, none⟩), .int .i64 0]) ∧ w.heap.size ≤ X ∧ KAt w' X (newP s z rd cell) (ckNew (newP s z rd cell)) ∧ Below w.heap.size w w' := by
  have hok : Sg.Ok (Sg.put rd (Sg.sigN cell)) := Sg.ok_put hr _ (Sg.sigN_lt _)
  have HW : Hid (∀ w, Calls Try.prog 28 #[.agg #[rdV rd 0, rdV rd 1, rdV rd 2, rdV rd 3, rdV rd 4, rdV rd 5, rdV rd 6, rdV rd 7], .int .i64 cell] w fun e w' => e = .returned (.agg #[rdV (newP s z rd cell).rd 0, rdV (newP s z rd cell).rd 1, rdV (newP s z rd cell).rd 2, rdV (newP s z rd cell).rd 3, rdV (newP s z rd cell).rd 4, rdV (newP s z rd cell).rd 5, rdV (newP s z rd cell).rd 6, rdV (newP s z rd cell).rd 7]) ∧ Below w.heap.size w w') := fun w => by
    rw [rd_cells hr.1, rd_cells (rd := (newP s z rd cell).rd) hok.1]; exact Sg.with_any rd hr cell w
  have HC : Hid (∀ w, Calls Try.prog 29 #[.int .i64 (s : Int), .int .i64 z, .agg #[rdV (newP s z rd cell).rd 0, rdV (newP s z rd cell).rd 1, rdV (newP s z rd cell).rd 2, rdV (newP s z rd cell).rd 3, rdV (newP s z rd cell).rd 4, rdV (newP s z rd cell).rd 5, rdV (newP s z rd cell).rd 6, rdV (newP s z rd cell).rd 7], .bool true] w fun e w' => e = .returned (.tuple #[.pointer (some ⟨w.heap.size + 1, 0, none⟩), .int .i64 0]) ∧ KAt0 w' (w.heap.size + 1) (newP s z rd cell) (ckNew (newP s z rd cell)) ∧ Below w.heap.size w w') := fun w => by
    rw [rd_cells (rd := (newP s z rd cell).rd) hok.1]
    exact cnew_yes w (P := newP s z rd cell) ⟨hs1, hs, hz, hz1, hok⟩
  have HCC : Hid (∀ w X, KAt0 w X (newP s z rd cell) (ckNew (newP s z rd cell)) → w.cell? ⟨X, 0, none⟩ = some (.int .i64 (s : Int)) ∧ w.cell? ⟨X, 1, none⟩ = some (.int .i64 z) ∧ w.cell? ⟨X, 2, none⟩ = some (rdV (newP s z rd cell).rd 0) ∧ w.cell? ⟨X, 3, none⟩ = some (rdV (newP s z rd cell).rd 1) ∧ w.cell? ⟨X, 4, none⟩ = some (rdV (newP s z rd cell).rd 2) ∧ w.cell? ⟨X, 5, none⟩ = some (rdV (newP s z rd cell).rd 3) ∧ w.cell? ⟨X, 6, none⟩ = some (rdV (newP s z rd cell).rd 4) ∧ w.cell? ⟨X, 7, none⟩ = some (rdV (newP s z rd cell).rd 5) ∧ w.cell? ⟨X, 8, none⟩ = some (rdV (newP s z rd cell).rd 6) ∧ w.cell? ⟨X, 9, none⟩ = some (rdV (newP s z rd cell).rd 7) ∧
    w.cell? ⟨X, 10, none⟩ = some (.bool true) ∧ w.cell? ⟨X, 11, none⟩ = some (.int .i64 0) ∧ w.cell? ⟨X, 12, none⟩ = some (.int .i64 0) ∧ w.cell? ⟨X, 13, none⟩ = some (.int .i64 z) ∧ w.cell? ⟨X, 14, none⟩ = some (.int .i64 0) ∧ w.cell? ⟨X, 15, none⟩ = some (.int .i64 z)) := fun w X h => h.cells
  have HKA : Hid (∀ w X, w.heap[X]? = some (.cells #[.int .i64 (s : Int), .int .i64 z, rdV (newP s z rd cell).rd 0, rdV (newP s z rd cell).rd 1, rdV (newP s z rd cell).rd 2, rdV (newP s z rd cell).rd 3, rdV (newP s z rd cell).rd 4, rdV (newP s z rd cell).rd 5, rdV (newP s z rd cell).rd 6, rdV (newP s z rd cell).rd 7, .bool true, .int .i64 0, .int .i64 0, .int .i64 z, .int .i64 0, .int .i64 z, .int .i64 (s : Int), .int .i64 cell, rdV (newP s z rd cell).rd 0, rdV (newP s z rd cell).rd 1, rdV (newP s z rd cell).rd 2, rdV (newP s z rd cell).rd 3, rdV (newP s z rd cell).rd 4, rdV (newP s z rd cell).rd 5, rdV (newP s z rd cell).rd 6, rdV (newP s z rd cell).rd 7, .bool false, .int .i64 0] 92 (0, 0)) → KAt w X (newP s z rd cell) (ckNew (newP s z rd cell))) := fun w X h => h
  have d0 : decide (cell < 0) = false := decide_eq_false (by omega)
  have d1 : decide (1024 ≤ cell) = false := decide_eq_false (by omega)
  have d2 : decide (cell < 1024) = true := decide_eq_true h1
  unfold rdV at *
  generalize newP s z rd cell = P at *
  generalize P.rd.getD 0 0 = n0 at *
  generalize P.rd.getD 1 0 = n1 at *
  generalize P.rd.getD 2 0 = n2 at *
  generalize P.rd.getD 3 0 = n3 at *
  generalize P.rd.getD 4 0 = n4 at *
  generalize P.rd.getD 5 0 = n5 at *
  generalize P.rd.getD 6 0 = n6 at *
  generalize P.rd.getD 7 0 = n7 at *
  generalize rd.getD 0 0 = m0 at *
  generalize rd.getD 1 0 = m1 at *
  generalize rd.getD 2 0 = m2 at *
  generalize rd.getD 3 0 = m3 at *
  generalize rd.getD 4 0 = m4 at *
  generalize rd.getD 5 0 = m5 at *
  generalize rd.getD 6 0 = m6 at *
  generalize rd.getD 7 0 = m7 at *
  clear hs1 hs hz hz1 hr h0 h1 hok
  go_enter Try.func7, Try.ntmps7
  go_wp2_with fail
  refine (HW.out _).mono ?_
  rintro e w1 ⟨rfl, hb1⟩
  have HR1 : Hid (w1.heap[w.heap.size]? = some (.cells #[.int .u64 ((m0 : Nat) : Int), .int .u64 ((m1 : Nat) : Int), .int .u64 ((m2 : Nat) : Int), .int .u64 ((m3 : Nat) : Int), .int .u64 ((m4 : Nat) : Int), .int .u64 ((m5 : Nat) : Int), .int .u64 ((m6 : Nat) : Int), .int .u64 ((m7 : Nat) : Int)] 24 (0, 0))) := row_on (heap_alloc_new _ _) hb1
  have HB1 : Hid (Below w.heap.size w w1) := below_then (below_a1 _ _) hb1
  obtain ⟨⟨a0, a1, a2, a3, a4, a5, a6, a7⟩, g0, g1, g2, g3, g4, g5, g6, g7⟩ := sig_cells HR1.out
  have hB : w.heap.size < w1.heap.size := heap_lt HR1.out
  clear hb1
  go_wp2_with fail
  refine (HC.out _).mono ?_
  rintro e w2 ⟨rfl, hx2, hb2⟩
  have HR2 : Hid (w2.heap[w.heap.size]? = some (.cells #[.int .u64 ((n0 : Nat) : Int), .int .u64 ((n1 : Nat) : Int), .int .u64 ((n2 : Nat) : Int), .int .u64 ((n3 : Nat) : Int), .int .u64 ((n4 : Nat) : Int), .int .u64 ((n5 : Nat) : Int), .int .u64 ((n6 : Nat) : Int), .int .u64 ((n7 : Nat) : Int)] 24 (0, 0))) := row_on (laidS_row HR1.out _ _ _ _ _ _ _ _) hb2
  have HB2 : Hid (Below w.heap.size w w2) := below_then (belowS HB1.out (Nat.le_refl _) _ _ _ _ _ _ _ _) hb2
  obtain ⟨x0, x1, x2, x3, x4, x5, x6, x7, x8, x9, x10, x11, x12, x13, x14, x15⟩ := HCC.out _ _ hx2
  have hX : (laidS w1 w.heap.size (.int .u64 ((n0 : Nat) : Int)) (.int .u64 ((n1 : Nat) : Int)) (.int .u64 ((n2 : Nat) : Int)) (.int .u64 ((n3 : Nat) : Int)) (.int .u64 ((n4 : Nat) : Int)) (.int .u64 ((n5 : Nat) : Int)) (.int .u64 ((n6 : Nat) : Int)) (.int .u64 ((n7 : Nat) : Int))).heap.size + 1 < w2.heap.size := heap_lt hx2
  unfold laidS at hX
  clear hx2 hb2 a0 a1 a2 a3 a4 a5 a6 a7 g0 g1 g2 g3 g4 g5 g6 g7
  generalize ((((((((w1.setCell ⟨w.heap.size, 0, none⟩ (.int .u64 ((n0 : Nat) : Int))).setCell ⟨w.heap.size, 1, none⟩ (.int .u64 ((n1 : Nat) : Int))).setCell ⟨w.heap.size, 2, none⟩ (.int .u64 ((n2 : Nat) : Int))).setCell ⟨w.heap.size, 3, none⟩ (.int .u64 ((n3 : Nat) : Int))).setCell ⟨w.heap.size, 4, none⟩ (.int .u64 ((n4 : Nat) : Int))).setCell ⟨w.heap.size, 5, none⟩ (.int .u64 ((n5 : Nat) : Int))).setCell ⟨w.heap.size, 6, none⟩ (.int .u64 ((n6 : Nat) : Int))).setCell ⟨w.heap.size, 7, none⟩ (.int .u64 ((n7 : Nat) : Int))).heap.size + 1 = Y at *
  obtain ⟨⟨a0, a1, a2, a3, a4, a5, a6, a7⟩, _⟩ := sig_cells HR2.out
  have hB2 : w.heap.size < w2.heap.size := heap_lt HR2.out
  go_wp2
  go_region
  all_goals
    go_wp2
    go_ret2
    first
      | exact ⟨_, rfl, Nat.le_of_lt hB2, HKA.out _ _ (heap_alloc_new _ _), below_alloc HB2.out _⟩
      | exact ⟨_, rfl, Nat.le_of_lt hB2, HKA.out _ _ (heap_alloc_new _ _), below_drawn (below_alloc HB2.out _) _⟩
theorem fnew_no (w : World) (s z : Int) (rd : List Nat) (cell : Int) (hr : Sg.Ok rd) (h : ¬ (1 ≤ s ∧ s ≤ 16 ∧ 0 ≤ z ∧ 0 ≤ cell ∧ cell < 1024)) :
    Calls Try.prog 7 #[.int .i64 s, .int .i64 z, .agg #[rdV rd 0, rdV rd 1, rdV rd 2, rdV rd 3, rdV rd 4, rdV rd 5, rdV rd 6, rdV rd 7], .int .i64 cell] w fun e w' => e = .returned (.tuple #[.pointer none, .int .i64 1]) ∧ Below w.heap.size w w' := by
  have hok : Sg.Ok (Sg.put rd (Sg.sigN cell)) := Sg.ok_put hr _ (Sg.sigN_lt _)
  have HW : Hid (∀ w, Calls Try.prog 28 #[.agg #[rdV rd 0, rdV rd 1, rdV rd 2, rdV rd 3, rdV rd 4, rdV rd 5, rdV rd 6, rdV rd 7], .int .i64 cell] w fun e w' => e = .returned (.agg #[rdV (Sg.put rd (Sg.sigN cell)) 0, rdV (Sg.put rd (Sg.sigN cell)) 1, rdV (Sg.put rd (Sg.sigN cell)) 2, rdV (Sg.put rd (Sg.sigN cell)) 3, rdV (Sg.put rd (Sg.sigN cell)) 4, rdV (Sg.put rd (Sg.sigN cell)) 5, rdV (Sg.put rd (Sg.sigN cell)) 6, rdV (Sg.put rd (Sg.sigN cell)) 7]) ∧ Below w.heap.size w w') := fun w => by
    rw [rd_cells hr.1, rd_cells hok.1]; exact Sg.with_any rd hr cell w
  have HC : Hid (¬ (1 ≤ s ∧ s ≤ 16 ∧ 0 ≤ z) → ∀ w, Calls Try.prog 29 #[.int .i64 s, .int .i64 z, .agg #[rdV (Sg.put rd (Sg.sigN cell)) 0, rdV (Sg.put rd (Sg.sigN cell)) 1, rdV (Sg.put rd (Sg.sigN cell)) 2, rdV (Sg.put rd (Sg.sigN cell)) 3, rdV (Sg.put rd (Sg.sigN cell)) 4, rdV (Sg.put rd (Sg.sigN cell)) 5, rdV (Sg.put rd (Sg.sigN cell)) 6, rdV (Sg.put rd (Sg.sigN cell)) 7], .bool true] w fun e w' => e = .returned (.tuple #[.pointer none, .int .i64 1]) ∧ Below w.heap.size w w') := fun hno w => by
    rw [rd_cells hok.1]
    exact cnew_no w s z _ true hno
  unfold rdV at *
  generalize (Sg.put rd (Sg.sigN cell)).getD 0 0 = n0 at *
  generalize (Sg.put rd (Sg.sigN cell)).getD 1 0 = n1 at *
  generalize (Sg.put rd (Sg.sigN cell)).getD 2 0 = n2 at *
  generalize (Sg.put rd (Sg.sigN cell)).getD 3 0 = n3 at *
  generalize (Sg.put rd (Sg.sigN cell)).getD 4 0 = n4 at *
  generalize (Sg.put rd (Sg.sigN cell)).getD 5 0 = n5 at *
  generalize (Sg.put rd (Sg.sigN cell)).getD 6 0 = n6 at *
  generalize (Sg.put rd (Sg.sigN cell)).getD 7 0 = n7 at *
  generalize rd.getD 0 0 = m0 at *
  generalize rd.getD 1 0 = m1 at *
  generalize rd.getD 2 0 = m2 at *
  generalize rd.getD 3 0 = m3 at *
  generalize rd.getD 4 0 = m4 at *
  generalize rd.getD 5 0 = m5 at *
  generalize rd.getD 6 0 = m6 at *
  generalize rd.getD 7 0 = m7 at *
  by_cases c0 : cell < 0
  · have d0 : decide (cell < 0) = true := decide_eq_true c0
    clear h c0 hok
    go_enter Try.func7, Try.ntmps7
    go_wp2
    go_ret2
    exact ⟨rfl, below_a1 _ _⟩
  · have d0 : decide (cell < 0) = false := decide_eq_false c0
    by_cases c1 : 1024 ≤ cell
    · have d1 : decide (1024 ≤ cell) = true := decide_eq_true c1
      clear h c0 c1 hok
      go_enter Try.func7, Try.ntmps7
      go_wp2
      go_ret2
      exact ⟨rfl, below_a1 _ _⟩
    · have d1 : decide (1024 ≤ cell) = false := decide_eq_false c1
      have HC2 : Hid (∀ w, Calls Try.prog 29 #[.int .i64 s, .int .i64 z, .agg #[.int .u64 ((n0 : Nat) : Int), .int .u64 ((n1 : Nat) : Int), .int .u64 ((n2 : Nat) : Int), .int .u64 ((n3 : Nat) : Int), .int .u64 ((n4 : Nat) : Int), .int .u64 ((n5 : Nat) : Int), .int .u64 ((n6 : Nat) : Int), .int .u64 ((n7 : Nat) : Int)], .bool true] w fun e w' => e = .returned (.tuple #[.pointer none, .int .i64 1]) ∧ Below w.heap.size w w') := HC.out (fun hc => h ⟨hc.1, hc.2.1, hc.2.2, by omega, by omega⟩)
      clear h hok HC hr
      go_enter Try.func7, Try.ntmps7
      go_wp2_with fail
      refine (HW.out _).mono ?_
      rintro e w1 ⟨rfl, hb1⟩
      have HR1 : Hid (w1.heap[w.heap.size]? = some (.cells #[.int .u64 ((m0 : Nat) : Int), .int .u64 ((m1 : Nat) : Int), .int .u64 ((m2 : Nat) : Int), .int .u64 ((m3 : Nat) : Int), .int .u64 ((m4 : Nat) : Int), .int .u64 ((m5 : Nat) : Int), .int .u64 ((m6 : Nat) : Int), .int .u64 ((m7 : Nat) : Int)] 24 (0, 0))) := row_on (heap_alloc_new _ _) hb1
      have HB1 : Hid (Below w.heap.size w w1) := below_then (below_a1 _ _) hb1
      obtain ⟨⟨a0, a1, a2, a3, a4, a5, a6, a7⟩, g0, g1, g2, g3, g4, g5, g6, g7⟩ := sig_cells HR1.out
      have hB : w.heap.size < w1.heap.size := heap_lt HR1.out
      clear hb1
      go_wp2_with fail
      refine (HC2.out _).mono ?_
      rintro e w2 ⟨rfl, hb2⟩
      have HB2 : Hid (Below w.heap.size w w2) := below_then (belowS HB1.out (Nat.le_refl _) _ _ _ _ _ _ _ _) hb2
      clear hb2 a0 a1 a2 a3 a4 a5 a6 a7 g0 g1 g2 g3 g4 g5 g6 g7
      go_wp2
      go_ret2
      exact ⟨rfl, HB2.out⟩
end Go.Proofs.Ytcbcjliekbphmaa
