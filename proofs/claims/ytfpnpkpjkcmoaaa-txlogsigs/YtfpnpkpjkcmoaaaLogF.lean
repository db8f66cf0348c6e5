/- The document's log as it lies: New, Write, Own, Writes, Clear. -/
import Derived.Test.YtfpnpkpjkcmoaaaTabI
import Derived.Test.YtfpnpkpjkcmoaaaLogM
import Derived.Test.YtfpnpkpjkcmoaaaSigQ
namespace Go.Proofs.Ytfpnpkpjkcmoaaa
open Go.ChangeShapes Go.WideShapes Go.ChangeAt Go.RowKit

/-- Numbers as the program holds them. -/
def tC (T : List Int) : List Value := T.map (Value.int .i64)
structure RLog' (w : World) (base : Nat) (p : Value) (s : Tb) (T : List Int) (G : List Nat) (Y : Nat) (q v : Value) (G' : List Nat) : Prop where
  p : p = .pointer (some ⟨Y, 0, none⟩)
  log : w.heap[Y]? = some (.cells #[q, v] 64 (0, 0))
  tab : RTab w base q s G'
  told : w.ownsRow base 3 1 v T.length (tC T)
  F : G = Y :: v.ownBlock.toList ++ G'
  bY : base ≤ Y
  aY : Y ∉ G'
  aT : ∀ b, v.ownBlock = some b → b ∉ G'
def RLog (w : World) (base : Nat) (p : Value) (s : Tb) (T : List Int) (G : List Nat) : Prop := ∃ Y q v G', RLog' w base p s T G Y q v G'
theorem RLog.lt {w : World} {base : Nat} {p : Value} {s : Tb} {T : List Int} {G : List Nat} (h : RLog w base p s T G) : ∀ b ∈ G, base ≤ b ∧ b < w.heap.size := by
  obtain ⟨Y, q, v, G', h⟩ := h
  intro b hb
  rw [h.F] at hb
  simp only [List.cons_append, List.mem_cons, List.mem_append, Option.mem_toList] at hb
  rcases hb with rfl | hb | hb
  · exact ⟨h.bY, heap_lt h.log⟩
  · exact own_block h.told b (by simpa using hb)
  · exact h.tab.lt b hb
theorem RLog.keep {w w' : World} {base : Nat} {p : Value} {s : Tb} {T : List Int} {F G : List Nat} (h : RLog w base p s T G) (k : Keep F w w') (hd : ∀ b ∈ G, b ∉ F) : RLog w' base p s T G := by
  obtain ⟨Y, q, v, G', h⟩ := h
  have hF := h.F
  refine ⟨Y, q, v, G', h.p, ?_, h.tab.keep k (fun b hb => hd b ?_), own_keep h.told k (fun b hb => hd b ?_), h.F, h.bY, h.aY, h.aT⟩
  · rw [k.block _ (heap_lt h.log) (hd _ (by rw [hF]; simp))]; exact h.log
  · rw [hF]; simp [hb]
  · rw [hF, hb]; simp
theorem RLog.below {w w' : World} {base : Nat} {p : Value} {s : Tb} {T : List Int} {G : List Nat} (h : RLog w base p s T G) (k : Below w.heap.size w w') : RLog w' base p s T G := h.keep (Keep.of_below k []) (fun _ _ => by simp)
theorem RLog.ptr {w : World} {base : Nat} {p : Value} {s : Tb} {T : List Int} {G : List Nat} (h : RLog w base p s T G) : ∃ Y, p = .pointer (some ⟨Y, 0, none⟩) := by
  obtain ⟨Y, q, v, G', h⟩ := h
  exact ⟨Y, h.p⟩
theorem RLog.base {w : World} {base base' : Nat} {p : Value} {s : Tb} {T : List Int} {G : List Nat} (h : RLog w base p s T G) (hb : base' ≤ base) : RLog w base' p s T G := by
  obtain ⟨Y, q, v, G', h⟩ := h
  exact ⟨Y, q, v, G', h.p, h.log, h.tab.base hb, own_base h.told hb, h.F, by have := h.bY; omega, h.aY, h.aT⟩
/-- Its table has become another. -/
theorem RLog'.tabs {w w' : World} {base : Nat} {p : Value} {s s' : Tb} {T : List Int} {G : List Nat} {Y : Nat} {q v : Value} {G' G2 : List Nat} (h : RLog' w base p s T G Y q v G') (ht : RTab w' base q s' G2) (k : Next G' G2 w w') :
    ∃ G3, RLog w' base p s' T G3 ∧ Next G G3 w w' := by
  have hout : ∀ b, b < w.heap.size → b ∉ G' → b ∉ G2 := fun b hb hn hm => by
    rcases k.2 b hm with e | e
    · exact hn e
    · omega
  refine ⟨Y :: v.ownBlock.toList ++ G2, ⟨Y, q, v, G2, h.p, ?_, ht, own_keep h.told k.1 h.aT, rfl, h.bY, hout _ (heap_lt h.log) h.aY, fun b hb => hout b (own_block h.told b hb).2 (h.aT b hb)⟩, ?_, ?_⟩
  · rw [k.1.block _ (heap_lt h.log) h.aY]; exact h.log
  · rw [h.F]; exact k.1.mono (fun b hb => by simp [hb])
  · intro b hb
    rw [h.F]
    simp only [List.cons_append, List.mem_cons, List.mem_append] at hb ⊢
    rcases hb with hb | hb | hb
    · exact Or.inl (Or.inl hb)
    · exact Or.inl (Or.inr (Or.inl hb))
    · rcases k.2 b hb with e | e
      · exact Or.inl (Or.inr (Or.inr e))
      · exact Or.inr e

theorem rlnew_no (w : World) (m : Int) (h : ¬ (1 ≤ m ∧ m ≤ 24)) : Calls Try.prog 10 #[.int .i64 m] w fun e w' => e = .returned (.tuple #[.pointer none, .int .i64 1]) ∧ w' = w := by
  have HN : Hid (∀ w : World, Calls Try.prog 22 #[.int .i64 m] w fun e w' => e = .returned (.tuple #[.pointer none, .int .i64 1]) ∧ w' = w) := fun w => rnew_no w m h
  clear h
  go_enter Try.func10, Try.ntmps10
  go_wp2_with fail
  refine (HN.out _).mono ?_
  rintro e w1 ⟨rfl, rfl⟩
  go_wp2
  go_ret2
  exact ⟨rfl, rfl⟩
theorem rlnew_yes (w : World) (m : Nat) (h1 : 1 ≤ m) (h24 : m ≤ 24) : Calls Try.prog 10 #[.int .i64 (m : Int)] w fun e w' => ∃ p G, e = .returned (.tuple #[p, .int .i64 0]) ∧ RLog w' w.heap.size p (empty m) [] G ∧ Below w.heap.size w w' := by
  have HN : Hid (∀ w : World, Calls Try.prog 22 #[.int .i64 (m : Int)] w fun e w' => ∃ p G, e = .returned (.tuple #[p, .int .i64 0]) ∧ RTab w' w.heap.size p (empty m) G ∧ Below w.heap.size w w') := fun w => rnew_yes w m h1 h24
  clear h1 h24
  go_enter Try.func10, Try.ntmps10
  go_wp2_with fail
  refine (HN.out _).mono ?_
  rintro e w1 ⟨p1, G1, rfl, hr, hb⟩
  have HW : Hid (RTab w1 w.heap.size p1 (empty m) G1 ∧ Below w.heap.size w w1) := ⟨hr, hb⟩
  obtain ⟨X, rfl⟩ := hr.ptr
  clear hr hb
  go_wp2
  go_ret2
  exact ⟨_, _, rfl, ⟨w1.heap.size, .pointer (some ⟨X, 0, none⟩), .slice none 0 0, G1, rfl, heap_alloc_new _ _, HW.out.1.below (below_a1 _ _), World.ownsRow_nil _ _ _ _, rfl, HW.out.2.size, fun hm => by have := (HW.out.1.lt _ hm).2; omega, fun b hb => by simp [Value.ownBlock] at hb⟩, below_then HW.out.2 (below_a1 _ _)⟩
theorem rlwrite_any {w : World} {base : Nat} {p : Value} {s : Tb} {T : List Int} {G : List Nat} (h : RLog w base p s T G) (hi : Inv s) (hb : base ≤ w.heap.size) (c v : Int) : Calls Try.prog 23 #[p, .int .i64 c, .int .i64 v] w fun e w' => e = .returned (.int .i64 (writeE s c)) ∧ ∃ G', RLog w' base p (put s c v) T G' ∧ Next G G' w w' := by
  obtain ⟨Y, q, t, G', h⟩ := h
  obtain rfl := h.p
  have HP : Hid (Calls Try.prog 38 #[q, .int .i64 c, .int .i64 v] w fun e w' => e = .returned (.int .i64 (putE s c)) ∧ ∃ G', RTab w' base q (put s c v) G' ∧ Next _ G' w w') := rput_any h.tab hi hb c v
  have HL : Hid (∀ w' G2, RTab w' base q (put s c v) G2 → Next G' G2 w w' → ∃ G3, RLog w' base (.pointer (some ⟨Y, 0, none⟩)) (put s c v) T G3 ∧ Next G G3 w w') := fun w' G2 ht hk => h.tabs ht hk
  have h0 : w.cell? ⟨Y, 0, none⟩ = some q := by rw [cell_at h.log]; rfl
  obtain ⟨X, rfl⟩ := h.tab.ptr
  clear h
  unfold writeE
  generalize putE s c = z at *
  go_enter Try.func23, Try.ntmps23
  go_wp2_with fail
  refine HP.out.mono ?_
  rintro e w1 ⟨rfl, G2, ht, hk⟩
  have HE : Hid (∃ G3, RLog w1 base (.pointer (some ⟨Y, 0, none⟩)) (put s c v) T G3 ∧ Next G G3 w w1) := HL.out w1 G2 ht hk
  clear ht hk
  by_cases hz : z = 2
  · subst hz
    go_wp2
    go_ret
    exact ⟨rfl, HE.out⟩
  · have e2 : (z == 2) = false := by simpa using hz
    go_wp2
    go_ret
    exact ⟨rfl, HE.out⟩
theorem rlown_any {w : World} {base : Nat} {p : Value} {s : Tb} {T : List Int} {G : List Nat} (h : RLog w base p s T G) (hi : Inv s) (c : Int) : Calls Try.prog 24 #[p, .int .i64 c] w fun e w' => e = .returned (.tuple #[.int .i64 (getV s c), .bool (getY s c)]) ∧ Below w.heap.size w w' := by
  obtain ⟨Y, q, t, G', h⟩ := h
  obtain rfl := h.p
  have HP : Hid (Calls Try.prog 39 #[q, .int .i64 c] w fun e w' => e = .returned (.tuple #[.int .i64 (getV s c), .bool (getY s c)]) ∧ Below w.heap.size w w') := rget_any h.tab hi c
  have h0 : w.cell? ⟨Y, 0, none⟩ = some q := by rw [cell_at h.log]; rfl
  obtain ⟨X, rfl⟩ := h.tab.ptr
  clear h
  go_enter Try.func24, Try.ntmps24
  go_wp2_with fail
  refine HP.out.mono ?_
  rintro e w1 ⟨rfl, hb⟩
  have HB : Hid (Below w.heap.size w w1) := hb
  clear hb
  go_wp2
  go_ret2
  exact ⟨rfl, HB.out⟩
theorem rlwrites_any {w : World} {base : Nat} {p : Value} {s : Tb} {T : List Int} {G : List Nat} (h : RLog w base p s T G) (hi : Inv s) : Calls Try.prog 29 #[p] w fun e w' => ∃ v, e = .returned v ∧ w'.ownsRow w.heap.size 39 2 v s.R.length (rowsC s.R) ∧ Below w.heap.size w w' := by
  obtain ⟨Y, q, t, G', h⟩ := h
  obtain rfl := h.p
  have HP : Hid (Calls Try.prog 42 #[q] w fun e w' => ∃ v, e = .returned v ∧ w'.ownsRow w.heap.size 39 2 v s.R.length (rowsC s.R) ∧ Below w.heap.size w w') := rlist_any h.tab hi
  have h0 : w.cell? ⟨Y, 0, none⟩ = some q := by rw [cell_at h.log]; rfl
  obtain ⟨X, rfl⟩ := h.tab.ptr
  clear h
  go_enter Try.func29, Try.ntmps29
  go_wp2_with fail
  refine HP.out.mono ?_
  rintro e w1 ⟨v, rfl, ho, hb⟩
  have HE : Hid (w1.ownsRow w.heap.size 39 2 v s.R.length (rowsC s.R) ∧ Below w.heap.size w w1) := ⟨ho, hb⟩
  obtain ⟨va, vc, rfl⟩ := own_slice ho
  clear ho hb
  go_wp2
  go_ret
  exact ⟨_, rfl, HE.out⟩
/-- What was told is forgotten. -/
theorem RLog'.forget {w : World} {base : Nat} {p : Value} {s : Tb} {T : List Int} {G : List Nat} {Y : Nat} {q v : Value} {G' : List Nat} (h : RLog' w base p s T G Y q v G') : ∃ G3, RLog (w.setCell ⟨Y, 1, none⟩ (.slice none 0 0)) base p s [] G3 ∧ Next G G3 w (w.setCell ⟨Y, 1, none⟩ (.slice none 0 0)) := by
  have hk : Keep [Y] w (w.setCell ⟨Y, 1, none⟩ (.slice none 0 0)) := (Keep.refl _ _).setCell _ _ (by simp)
  refine ⟨Y :: G', ⟨Y, q, .slice none 0 0, G', h.p, by rw [heap_set h.log]; rfl, h.tab.keep hk (fun b hb hm => by simp at hm; subst hm; exact h.aY hb), World.ownsRow_nil _ _ _ _, rfl, h.bY, h.aY, fun b hb => by simp [Value.ownBlock] at hb⟩, ?_, fun b hb => Or.inl ?_⟩
  · rw [h.F]; exact hk.mono (fun b hb => by simp at hb; simp [hb])
  · rw [h.F]
    simp only [List.cons_append, List.mem_cons, List.mem_append] at hb ⊢
    rcases hb with hb | hb
    · exact Or.inl hb
    · exact Or.inr (Or.inr hb)
theorem rlclear_any {w : World} {base : Nat} {p : Value} {s : Tb} {T : List Int} {G : List Nat} (h : RLog w base p s T G) (hi : Inv s) (hb : base ≤ w.heap.size) : Calls Try.prog 30 #[p] w fun e w' => e = .returned (.tuple #[]) ∧ ∃ G', RLog w' base p (empty s.m) [] G' ∧ Next G G' w w' := by
  obtain ⟨Y, q, t, G', h⟩ := h
  obtain rfl := h.p
  have HP : Hid (Calls Try.prog 37 #[q] w fun e w' => e = .returned (.tuple #[]) ∧ ∃ G', RTab w' base q (empty s.m) G' ∧ Next _ G' w w') := rclear_any h.tab hi hb
  have HL : Hid (RLog' w base (.pointer (some ⟨Y, 0, none⟩)) s T G Y q t G') := h
  have h0 : w.cell? ⟨Y, 0, none⟩ = some q := by rw [cell_at h.log]; rfl
  obtain ⟨X, rfl⟩ := h.tab.ptr
  clear h
  go_enter Try.func30, Try.ntmps30
  go_wp2_with fail
  refine HP.out.mono ?_
  rintro e w1 ⟨rfl, G2, ht, hk⟩
  have hlog : w1.heap[Y]? = some (.cells #[.pointer (some ⟨X, 0, none⟩), t] 64 (0, 0)) := by rw [hk.1.block _ (heap_lt HL.out.log) HL.out.aY]; exact HL.out.log
  have d1 : w1.cell? ⟨Y, 1, none⟩ = some t := by rw [cell_at hlog]; rfl
  have f1 := frozen_at hlog 1
  obtain ⟨G3, hl3, hn3⟩ := HL.out.tabs ht hk
  have HE : Hid (∃ G4, RLog (w1.setCell ⟨Y, 1, none⟩ (.slice none 0 0)) base (.pointer (some ⟨Y, 0, none⟩)) (empty s.m) [] G4 ∧ Next G G4 w (w1.setCell ⟨Y, 1, none⟩ (.slice none 0 0))) := by
    obtain ⟨Y', q', v', G5, hl⟩ := hl3
    obtain rfl : Y = Y' := by have := hl.p; simpa using this
    obtain ⟨G4, h4, hn4⟩ := hl.forget
    exact ⟨G4, h4, hn3.trans hn4⟩
  obtain ⟨ta, tc, rfl⟩ := own_slice HL.out.told
  clear ht hk hlog hl3 hn3
  go_wp2
  go_end0
  exact ⟨rfl, HE.out⟩
end Go.Proofs.Ytfpnpkpjkcmoaaa
