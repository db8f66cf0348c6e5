/- The document's Clear, New, Put. -/
import Derived.Test.YtfpnpkpjkcmoaaaTabF
namespace Go.Proofs.Ytfpnpkpjkcmoaaa
open Go.ChangeShapes Go.WideShapes Go.ChangeAt Go.RowKit

/-- A table whose places are being laid. -/
structure Lay (w0 wr : World) (base : Nat) (X m j : Nat) (u : Value) : Prop where
  m : wr.heap[X]? = some (.cells #[.int .i64 (m : Int), .slice none 0 0, u] 73 (0, 0))
  place : wr.ownsRow base 3 1 u j (List.replicate j (.int .i64 (-1)))
  keep : Keep [X] w0 wr
  new : ∀ b, u.ownBlock = some b → w0.heap.size ≤ b
  base : base ≤ w0.heap.size

theorem Lay.far {w0 wr : World} {base X m j : Nat} {u : Value} (h : Lay w0 wr base X m j u) : u.ownBlock ≠ some X := own_ne h.place h.m (by decide)
/-- The table's block behind an append to a list of its own. -/
theorem grown_block {wr w3 : World} {o ob : Obj} {X : Nat} {u : Value} (hX : wr.heap[X]? = some ob) (hne : u.ownBlock ≠ some X) (hg : (wr.alloc o).grownBy w3 u.ownBlock) : w3.heap[X]? = some ob := by
  have hlt := heap_lt hX
  rw [hg.block X (by simp; omega) (fun e => hne e.symm), Below.heap_alloc _ _ _ hlt]
  exact hX
theorem Lay.next {w0 wr w3 : World} {base X m j : Nat} {u u' : Value} {o : Obj} (h : Lay w0 wr base X m j u) (hown : w3.ownsRow base 3 1 u' (j + 1) (List.replicate j (.int .i64 (-1)) ++ [.int .i64 (-1)])) (hg : (wr.alloc o).grownBy w3 u.ownBlock) (hat : u'.ownBlock = u.ownBlock ∨ ∃ g, u'.ownBlock = some g ∧ wr.heap.size ≤ g) :
    Lay w0 (w3.setCell ⟨X, 2, none⟩ u') base X m (j + 1) u' := by
  have h1 := grown_block h.m h.far hg
  have hk : Keep [X] w0 w3 := (h.keep.alloc o).grown hg (fun b hb => Or.inr (h.new b hb))
  refine ⟨?_, ?_, hk.setCell _ _ (by simp), fun b hb => ?_, h.base⟩
  · rw [heap_set h1]; rfl
  · have e : List.replicate (j + 1) (Value.int .i64 (-1)) = List.replicate j (.int .i64 (-1)) ++ [.int .i64 (-1)] := List.replicate_succ'
    rw [e]
    exact own_keep hown ((Keep.refl [X] _).setCell _ _ (by simp)) (fun b hb hm => by
      simp only [List.mem_cons, List.not_mem_nil, or_false] at hm
      subst hm
      exact own_ne hown h1 (by decide) hb)
  · rcases hat with e | ⟨g, e, hge⟩
    · exact h.new b (by rw [← e]; exact hb)
    · rw [e] at hb
      simp at hb
      subst hb
      have := h.keep.size
      omega

set_option maxRecDepth 10000 in
theorem rclear_raw {w : World} {base X m : Nat} {v u : Value} (hX : w.heap[X]? = some (.cells #[.int .i64 (m : Int), v, u] 73 (0, 0))) (h1 : 1 ≤ m) (h24 : m ≤ 24) (hb : base ≤ w.heap.size) (hv : ∃ a n c, v = .slice a n c) (hu : ∃ a n c, u = .slice a n c) :
    Calls Try.prog 37 #[.pointer (some ⟨X, 0, none⟩)] w fun e w' => e = .returned (.tuple #[]) ∧ ∃ u', Lay w w' base X m (2 ^ pw m) u' := by
  obtain ⟨i0, hi, hz0, hz1, hz2⟩ := info_parts info_int
  have HS : Hid (∀ w, Calls Try.prog 47 #[.int .i64 (m : Int)] w fun e w' => e = .returned (.tuple #[.int .i64 ((2 ^ pw m : Nat) : Int), .int .i64 (64 - (pw m : Int))]) ∧ w' = w) := rsize_any m h1 h24
  have h64 := pw_64 (pw_bound m).2
  have c0 : w.cell? ⟨X, 0, none⟩ = some (.int .i64 (m : Int)) := by rw [cell_at hX]; rfl
  have c1 : w.cell? ⟨X, 1, none⟩ = some v := by rw [cell_at hX]; rfl
  have c2 : w.cell? ⟨X, 2, none⟩ = some u := by rw [cell_at hX]; rfl
  have f1 := frozen_at hX 1
  have f2 := frozen_at hX 2
  have HX : Hid (w.heap[X]? = some (.cells #[.int .i64 (m : Int), v, u] 73 (0, 0))) := hX
  obtain ⟨va, vn, vc, rfl⟩ := hv
  obtain ⟨ua, un, uc, rfl⟩ := hu
  clear hX
  generalize 2 ^ pw m = N at *
  go_enter Try.func37, Try.ntmps37
  go_wp2_with fail
  refine (HS.out _).mono ?_
  rintro e w' ⟨rfl, rfl⟩
  have HL0 : Hid (Lay w' ((w'.setCell ⟨X, 1, none⟩ (.slice none 0 0)).setCell ⟨X, 2, none⟩ (.slice none 0 0)) base X m 0 (.slice none 0 0)) :=
    ⟨by rw [heap_set (heap_set HX.out 1 _) 2 _]; rfl, by simpa using World.ownsRow_nil _ _ _ _, ((Keep.refl _ _).setCell _ _ (by simp)).setCell _ _ (by simp), fun b hb => by simp [Value.ownBlock] at hb, hb⟩
  go_wp2
  go_loopw [4] (fun iv wr => ∃ (j : Nat) (u : Value), j ≤ N ∧ iv = .int .i64 j ∧ Lay w' wr base X m j u) (fun iv _ => N - (intOf iv).toNat)
  case atStart => exact ⟨0, _, Nat.zero_le _, rfl, HL0.out⟩
  case round =>
    obtain ⟨j, u, hj, rfl, hlay⟩ := hrel
    have HL : Hid (Lay w' wr base X m j u) := hlay
    have d2 : wr.cell? ⟨X, 2, none⟩ = some u := by rw [cell_at hlay.m]; rfl
    have hXs := heap_lt hlay.m
    have hsz : base ≤ wr.heap.size := Nat.le_trans hlay.base hlay.keep.size
    obtain ⟨ua, uc, rfl⟩ := own_slice hlay.place
    clear hlay c0 c1 c2 f1 f2
    by_cases hlt : j < N
    · have hd : decide ((j : Int) < (N : Int)) = true := by simp; omega
      have hX1 : X ≠ wr.heap.size := by omega
      go_wp2_with (at_builtin; refine wpList_append_lies _ rfl _ _ 36 rfl base 3 i0 _ 1 8 Try.underlying36 hi hz0 hz1 hz2 rfl (by decide) _ _ _ rfl (HL.out.place.alloc _) ⟨wr.heap.size, 0, none⟩ 1 1 [.int .i64 (-1)] rfl rfl ?c1 ?c2 (by decide) ?c3 ?c4 ?c5 _ rfl ?_)
      case c1 => exact World.news_of_block (cs := #[.int .i64 (-1)]) (t := 3) (fr := (0, 0)) (heap_alloc_new wr _)
      case c2 => simp [Value.oneCell']
      case c3 => unfold maxLen; omega
      case c4 => omega
      case c5 => first | omega | (simp; omega)
      intro gg cap' w3 hown1 hgrow hat _
      have hb3 := grown_block HL.out.m HL.out.far hgrow
      have e2 : w3.cell? ⟨X, 2, none⟩ = some (.slice ua j uc) := by rw [cell_at hb3]; rfl
      have f2 := frozen_at hb3 2
      have HN : Hid (Lay w' (w3.setCell ⟨X, 2, none⟩ (.slice (some ⟨gg, 0, none⟩) (j + 1) cap')) base X m (j + 1) (.slice (some ⟨gg, 0, none⟩) (j + 1) cap')) := HL.out.next hown1 hgrow (by
        rcases hat with e | e
        · exact Or.inl e.symm
        · exact Or.inr ⟨gg, rfl, by omega⟩)
      clear hown1 hgrow hat hb3
      go_wp2
      go_roundw
      case rel => exact ⟨j + 1, _, by omega, by go_num, HN.out⟩
      case measure => simp [intOf]; omega
    · obtain rfl : j = N := by omega
      go_wp2
      go_end0
      exact ⟨rfl, _, HL.out⟩
theorem placeC_empty (m : Nat) : placeC (empty m) = List.replicate (2 ^ pw m) (.int .i64 (-1)) := by
  simp [placeC, empty, List.map_const']
theorem Lay.done {w0 wr : World} {base X m : Nat} {u : Value} (h : Lay w0 wr base X m (2 ^ pw m) u) (hX : base ≤ X) : RTab wr base (.pointer (some ⟨X, 0, none⟩)) (empty m) (X :: u.ownBlock.toList) :=
  ⟨X, _, u, rfl, h.m, World.ownsRow_nil _ _ _ _, by rw [placeC_empty]; exact h.place, rfl, hX⟩
theorem rclear_any {w : World} {base : Nat} {p : Value} {s : Tb} {G : List Nat} (h : RTab w base p s G) (hi : Inv s) (hb : base ≤ w.heap.size) : Calls Try.prog 37 #[p] w fun e w' => e = .returned (.tuple #[]) ∧ ∃ G', RTab w' base p (empty s.m) G' ∧ Next G G' w w' := by
  obtain ⟨X, v, u, h⟩ := h
  obtain rfl := h.p
  obtain ⟨a1, c1, e1⟩ := own_slice h.rows
  obtain ⟨a2, c2, e2⟩ := own_slice h.place
  refine (rclear_raw h.m hi.m1 hi.m24 hb ⟨_, _, _, e1⟩ ⟨_, _, _, e2⟩).mono ?_
  rintro e w' ⟨rfl, u', hl⟩
  refine ⟨rfl, _, hl.done h.bX, hl.keep.mono (fun b hb => by rw [h.F]; simp at hb ⊢; exact Or.inl hb), fun b hb => ?_⟩
  simp only [List.mem_cons, Option.mem_toList] at hb
  rcases hb with rfl | hb
  · exact Or.inl (by rw [h.F]; simp)
  · exact Or.inr (hl.new b (by simpa using hb))
theorem rnew_no (w : World) (m : Int) (h : ¬ (1 ≤ m ∧ m ≤ 24)) : Calls Try.prog 22 #[.int .i64 m] w fun e w' => e = .returned (.tuple #[.pointer none, .int .i64 1]) ∧ w' = w := by
  by_cases h1 : m < 1
  · go_enter Try.func22, Try.ntmps22
    go_wp2
    go_ret2
    exact ⟨rfl, rfl⟩
  · have h2 : 24 < m := by omega
    go_enter Try.func22, Try.ntmps22
    go_wp2
    go_ret2
    exact ⟨rfl, rfl⟩
theorem rnew_yes (w : World) (m : Nat) (h1 : 1 ≤ m) (h : m ≤ 24) : Calls Try.prog 22 #[.int .i64 (m : Int)] w fun e w' => ∃ p G, e = .returned (.tuple #[p, .int .i64 0]) ∧ RTab w' w.heap.size p (empty m) G ∧ Below w.heap.size w w' := by
  have HC : Hid (∀ o, o = Obj.cells #[.int .i64 (m : Int), .slice none 0 0, .slice none 0 0] 73 → Calls Try.prog 37 #[.pointer (some ⟨w.heap.size, 0, none⟩)] (w.alloc o) fun e w' => e = .returned (.tuple #[]) ∧ ∃ u', Lay (w.alloc o) w' w.heap.size w.heap.size m (2 ^ pw m) u') := by
    rintro o rfl
    exact rclear_raw (heap_alloc_new w _) h1 h (by simp) ⟨_, _, _, rfl⟩ ⟨_, _, _, rfl⟩
  go_enter Try.func22, Try.ntmps22
  go_wp2_with fail
  refine (HC.out _ rfl).mono ?_
  rintro e w' ⟨rfl, u', hl⟩
  have HL : Hid (RTab w' w.heap.size (.pointer (some ⟨w.heap.size, 0, none⟩)) (empty m) (w.heap.size :: u'.ownBlock.toList)) := hl.done (Nat.le_refl _)
  have HB : Hid (Below w.heap.size w w') := (below_a1 _ _).trans (hl.keep.below (by simp) (fun b hb => by simp at hb; omega))
  clear hl
  go_wp2
  go_ret2
  exact ⟨_, _, rfl, HL.out, HB.out⟩

theorem rput_keep {w : World} {base : Nat} {p : Value} {s : Tb} {G : List Nat} (h : RTab w base p s G) : ∃ G', RTab w base p s G' ∧ Next G G' w w := ⟨G, h, Next.refl _ _⟩
/-- A row becomes another. -/
theorem own_set {w : World} {base g n cap s : Nat} {e : TypeId} {xs : List Value} (h : w.ownsRow base e s (.slice (some ⟨g, 0, none⟩) n cap) n xs) (o : Nat) (v : Value) : (w.setCell ⟨g, o, none⟩ v).ownsRow base e s (.slice (some ⟨g, 0, none⟩) n cap) n (xs.set o v) := by
  refine ⟨by rw [List.length_set]; exact h.1, ?_⟩
  rcases h.2 with ⟨e, _⟩ | ⟨g', cap', cur, e, hb, hg, h1, h2, h3, h4⟩
  · cases e
  · simp at e
    obtain ⟨rfl, rfl⟩ := e
    refine Or.inr ⟨g, cap, cur.setIfInBounds o v, rfl, hb, heap_set hg o v, h1, h2, by simpa using h3, ?_⟩
    rw [← h4, Array.toList_setIfInBounds, List.take_set]
theorem rowsC_set (R : List Wr) (i : Nat) (c v : Int) (hi : i < R.length) (hc : R[i].c = c) : (rowsC R).set (i * 2 + 1) (.int .i64 v) = rowsC (R.set i ⟨c, v⟩) := by
  induction R generalizing i with
  | nil => simp at hi
  | cons x R ih =>
    have e : ∀ (y : Wr) (S : List Wr), rowsC (y :: S) = wrC y ++ rowsC S := fun _ _ => rfl
    cases i with
    | zero =>
      simp at hc
      simp [e, wrC, hc]
    | succ i =>
      have h2 : (wrC x).length = 2 := rfl
      rw [List.set_cons_succ, e, e, ← ih i (by simpa using hi) (by simpa using hc), List.set_append_right _ _ (by omega), h2, show (i + 1) * 2 + 1 - 2 = i * 2 + 1 by omega]
theorem placeC_set (s : Tb) (q z : Nat) (hq : q < 2 ^ s.k) (R : List Wr) : (placeC s).set q (.int .i64 (z : Int)) = placeC { s with R := R, P := fun x => if x = q then z + 1 else s.P x } := by
  apply List.ext_getElem?
  intro i
  rw [List.getElem?_set]
  unfold placeC
  by_cases h : q = i
  · subst h
    simp [hq]
  · by_cases hi : i < 2 ^ s.k
    · have : ¬ i = q := fun e => h e.symm
      simp [h, hi, this]
    · simp [h, hi]
end Go.Proofs.Ytfpnpkpjkcmoaaa
