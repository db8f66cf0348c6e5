/- Lists of numbers, when two are the same, and what the program's Of answers. -/
import Derived.Test.YthenkidhcfholaaDoorSigL
namespace Go.Proofs.YthenkidhcfholaaDoor
open Go.ChangeShapes Go.WideShapes Go.ChangeAt Go.RowKit

/-- A list of numbers lies behind a slice. -/
def Lst (w : World) (v : Value) (l : List Int) : Prop := ∃ a cap, v = .slice a l.length cap ∧ l.length ≤ 9223372036854775807 ∧ (l = [] ∨ ∃ x, a = some x ∧ ∀ i, i < l.length → w.cell? (x.add i) = some (.int .i64 (l.getD i 0)))
theorem Lst.later {w w' : World} {v : Value} {l : List Int} (h : Lst w v l) (hb : Below w.heap.size w w') : Lst w' v l := by
  obtain ⟨a, cap, hv, hm, hl⟩ := h
  refine ⟨a, cap, hv, hm, ?_⟩
  rcases hl with h0 | ⟨x, hx, hc⟩
  · exact Or.inl h0
  · exact Or.inr ⟨x, hx, fun i hi => cell_later hb (hc i hi)⟩
theorem add_at (g i : Nat) : (⟨g, 0, none⟩ : Addr).add i = ⟨g, i, none⟩ := by unfold Addr.add; split <;> simp_all
theorem own_lst {w : World} {base : Nat} {v : Value} {l : List Nat} (h : w.ownsRow base 3 1 v l.length (iv l)) : Lst w v (l.map fun (k : Nat) => (k : Int)) := by
  obtain ⟨_, h⟩ := h
  rcases h with ⟨rfl, hn⟩ | ⟨g, cap, cur, rfl, hg, hb, hn, hm, hc, ht⟩
  · have : l = [] := List.length_eq_zero_iff.1 hn
    subst this
    exact ⟨_, _, rfl, by simp, Or.inl rfl⟩
  · refine ⟨_, _, by rw [List.length_map], by simp only [maxLen, List.length_map] at *; omega, Or.inr ⟨_, rfl, fun i hi => ?_⟩⟩
    have hi' : i < l.length := by simpa using hi
    have e1 : (cur.toList.take (l.length * 1))[i]? = some (Value.int .i64 ((l.map fun (k : Nat) => (k : Int)).getD i 0)) := by
      rw [ht]
      simp [iv, hi']
    rw [List.getElem?_take] at e1
    split at e1
    · rw [add_at, cell_of_row _ _ i cur 3 (0, 0) hb]
      simpa using e1
    · cases e1

/-- A list of numbers that is handed in. -/
theorem open_list {H : Type} {enc : TypeId × Value → H} {W : World} {base : Nat} {v : Value} {d : DataW H} {p : List MemPlace}
    (hv : Value.okWide Tryd.prog W .any base 22 v) (h : DataW.Trod enc Tryd.prog W 0 (fun _ => true) true 22 v d p) : ∃ l, Lst W v l ∧ (d = .nil ∧ l = [] ∨ ∃ elems spare, d = .slice elems spare ∧ elems.length = l.length) := by
  obtain ⟨a, len, cap, rfl⟩ := okWide_slice Tryd.underlying22 hv
  obtain ⟨fuel, hf⟩ := h
  rcases open_ints Tryd.underlying22 Tryd.underlying3 (by kernel_rfl) hf with ⟨hcs, hx⟩ | ⟨x, n, c, zs, hcs, _, hl, hm, hz, hx, hcell, _⟩
  · simp [Value.cells] at hcs
    obtain ⟨rfl, rfl, rfl⟩ := hcs
    exact ⟨[], ⟨none, 0, rfl, by simp, Or.inl rfl⟩, Or.inl ⟨(Prod.mk.inj hx).1, rfl⟩⟩
  · simp [Value.cells] at hcs
    obtain ⟨rfl, rfl, rfl⟩ := hcs
    have hz' : zs.length = cap := by simpa using hz
    have hlen : (zs.take len).length = len := by rw [List.length_take]; omega
    refine ⟨zs.take len, ⟨some x, cap, by rw [hlen], by rw [hlen]; unfold maxLen at hm; omega, Or.inr ⟨x, rfl, fun i hi => ?_⟩⟩, Or.inr ⟨_, _, (Prod.mk.inj hx).1, by simp [lits]⟩⟩
    rw [hlen] at hi
    rw [hcell i (by omega)]
    simp [List.getD_eq_getElem?_getD, hi]

theorem ints_any (w : World) (v u : Value) (l m : List Int) (hv : Lst w v l) (hu : Lst w u m) :
    Calls Tryd.prog 26 #[v, u] w fun e w' => e = .returned (.bool (l == m)) ∧ ∃ n, w' = w.drewN n := by
  obtain ⟨a, ca, rfl, hbig, hl⟩ := hv
  obtain ⟨b, cb, rfl, _, hm⟩ := hu
  by_cases hlen : l.length = m.length
  · by_cases h0 : l = []
    · subst h0
      have hm0 : m = [] := List.length_eq_zero_iff.1 hlen.symm
      subst hm0
      clear hl hm hlen
      go_enter Tryd.func26, Tryd.ntmps26
      go_wp2
      refine wp_loop_rounds 1 ?_
      rw [rounds_succ]
      go_wp2
      go_ret
      exact ⟨rfl, 0, rfl⟩
    · have hm0 : m ≠ [] := fun e => h0 (List.length_eq_zero_iff.1 (by rw [hlen, e]; rfl))
      obtain ⟨x, rfl, hx⟩ := hl.resolve_left h0
      obtain ⟨y, rfl, hy⟩ := hm.resolve_left hm0
      have HX : Hid (∀ i, i < l.length → w.cell? (x.add i) = some (.int .i64 (l.getD i 0))) := hx
      have HY : Hid (∀ i, i < m.length → w.cell? (y.add i) = some (.int .i64 (m.getD i 0))) := hy
      have HLEN : Hid (l.length = m.length) := hlen
      clear hl hm hx hy h0 hm0 hlen
      have HEQ : Hid ((∀ k, k < l.length → l.getD k 0 = m.getD k 0) → (l == m) = true) := by
        intro h
        rw [beq_iff_eq]
        apply List.ext_getElem HLEN.out
        intro i h1 h2
        have := h i h1
        simpa [h1, h2] using this
      have HNE : Hid (∀ k, k < l.length → l.getD k 0 ≠ m.getD k 0 → (l == m) = false) := by
        intro k hk h
        rw [beq_eq_false_iff_ne]
        intro e
        exact h (by rw [e])
      have HLM : Hid (m.length = l.length) := HLEN.out.symm
      rw [← HLEN.out] at HY
      rw [HLM.out]
      generalize hn : l.length = n at *
      generalize (l == m) = r at *
      clear HLEN HLM hn
      have hne : ((n : Int) != (n : Int)) = false := by simp
      go_enter Tryd.func26, Tryd.ntmps26
      go_wp2
      go_loopw [5] (fun i wr => ∃ j : Nat, j ≤ n ∧ i = .int .i64 j ∧ (∀ k, k < j → l.getD k 0 = m.getD k 0) ∧ ∃ q, wr = w.drewN q) (fun i _ => n - (intOf i).toNat)
      case atStart => exact ⟨0, Nat.zero_le _, rfl, fun k hk => absurd hk (by omega), 0, rfl⟩
      case round =>
        obtain ⟨j, hj, rfl, hsame, hwr⟩ := hrel
        have HS : Hid (∀ k, k < j → l.getD k 0 = m.getD k 0) := hsame
        have HW : Hid (∃ q, wr = w.drewN q) := hwr
        clear hsame hwr
        by_cases hlt : j < n
        · have hcx : wr.cell? (x.add j) = some (.int .i64 (l.getD j 0)) := by obtain ⟨q, rfl⟩ := HW.out; exact HX.out j hlt
          have hcy : wr.cell? (y.add j) = some (.int .i64 (m.getD j 0)) := by obtain ⟨q, rfl⟩ := HW.out; exact HY.out j hlt
          have HNE' := HNE.out j hlt
          have HN2 : Hid (l.getD j 0 ≠ m.getD j 0 → r = false) := HNE'
          have HS2 : Hid (l.getD j 0 = m.getD j 0 → ∀ k, k < j + 1 → l.getD k 0 = m.getD k 0) := fun h k hk => by
            by_cases e : k = j
            · rw [e]; exact h
            · exact HS.out k (by omega)
          clear HNE'
          generalize l.getD j 0 = p at *
          generalize m.getD j 0 = q at *
          by_cases hpq : p = q
          · have hb : (p != q) = false := by simp [hpq]
            have HS3 : Hid (∀ k, k < j + 1 → l.getD k 0 = m.getD k 0) := HS2.out hpq
            clear hpq
            go_wp2
            go_quiet (fail)
            go_wp2
            go_roundw
            case rel => exact ⟨j + 1, by omega, by go_num, HS3.out, by obtain ⟨q, rfl⟩ := HW.out; exact ⟨_, World.drewN_drewN _ _ _⟩⟩
            case measure => simp [intOf]; omega
          · have hb : (p != q) = true := by simp [hpq]
            have hr : r = false := HN2.out hpq
            have HR : Hid (r = false) := hr
            clear hpq hr
            go_wp2
            go_quiet (fail)
            go_wp2
            go_ret
            exact ⟨by rw [HR.out]; rfl, by obtain ⟨q, rfl⟩ := HW.out; exact ⟨_, World.drewN_drewN _ _ _⟩⟩
        · have e : j = n := by omega
          subst e
          have HR : Hid (r = true) := HEQ.out HS.out
          go_wp2
          go_ret
          exact ⟨by rw [HR.out]; rfl, HW.out⟩
  · have he : (l == m) = false := by
      rw [beq_eq_false_iff_ne]; intro e; exact hlen (by rw [e])
    rw [he]
    have hne : ((l.length : Int) != (m.length : Int)) = true := by simp; omega
    clear hl hm he
    go_enter Tryd.func26, Tryd.ntmps26
    go_wp2
    go_ret
    exact ⟨rfl, 0, rfl⟩

/-! ### the signature of a list of cells -/
def ofTo (l : List Int) (i : Nat) : List Nat := (l.take i).foldl (fun s c => put s (sigN c)) nought
def ofAll (l : List Int) : List Nat := l.foldl (fun s c => put s (sigN c)) nought
theorem ofTo_zero (l : List Int) : ofTo l 0 = nought := rfl
theorem ofTo_all (l : List Int) : ofTo l l.length = ofAll l := by unfold ofTo ofAll; rw [List.take_length]
theorem ofTo_succ (l : List Int) (i : Nat) (h : i < l.length) : ofTo l (i + 1) = put (ofTo l i) (sigN (l.getD i 0)) := by
  unfold ofTo
  rw [List.take_add_one, List.foldl_append]
  simp [h]
theorem ok_ofTo (l : List Int) (i : Nat) : Ok (ofTo l i) := by
  unfold ofTo
  generalize l.take i = m
  suffices h : ∀ (m : List Int) (s : List Nat), Ok s → Ok (m.foldl (fun s c => put s (sigN c)) s) from h m nought ok_nought
  intro m
  induction m with
  | nil => intro s hs; exact hs
  | cons c m ih => intro s hs; exact ih _ (ok_put hs _ (sigN_lt c))
theorem ok_ofAll (l : List Int) : Ok (ofAll l) := by rw [← ofTo_all]; exact ok_ofTo _ _

/-- Two rows, one behind the other. -/
def Two (b : Nat) (w : World) (c0 c1 : Array Value) : Prop := w.heap[b]? = some (.cells c0 25 (0, 0)) ∧ w.heap[b + 1]? = some (.cells c1 25 (0, 0))
theorem Two.later {b : Nat} {w w' : World} {c0 c1 : Array Value} (h : Two b w c0 c1) (hb : Below w.heap.size w w') : Two b w' c0 c1 := ⟨row_later h.1 hb, row_later h.2 hb⟩
theorem Two.set1 {b : Nat} {w : World} {c0 c1 : Array Value} (h : Two b w c0 c1) (c : Array Value) : Two b (w.setRow (b + 1) c) c0 c :=
  ⟨by rw [setRow_other _ _ _ _ (by omega)]; exact h.1, setRow_heap _ _ _ _ _ _ h.2⟩
theorem Two.new (w : World) (c0 c1 : Array Value) : Two w.heap.size ((w.alloc (.cells c0 25)).alloc (.cells c1 25)) c0 c1 :=
  ⟨heap_alloc2_old _ _ _, heap_alloc2_new _ _ _⟩

theorem of_any (w : World) (v : Value) (l : List Int) (hv : Lst w v l) :
    Calls Tryd.prog 10 #[v] w fun e w' => e = .returned (sv (ofAll l)) ∧ Below w.heap.size w w' := by
  obtain ⟨a, ca, rfl, hbig, hl⟩ := hv
  have HC : Hid (∀ i, i < l.length → ∃ x, a = some x ∧ w.cell? (x.add i) = some (.int .i64 (l.getD i 0))) := by
    intro i hi
    rcases hl with rfl | ⟨x, hx, hc⟩
    · exact absurd hi (by simp)
    · exact ⟨x, hx, hc i hi⟩
  clear hl
  have HE : Hid (ofTo l l.length = ofAll l) := ofTo_all l
  have HW : Hid (∀ (i : Nat) (w : World), i < l.length → Calls Tryd.prog 12 #[.agg (sc (ofTo l i)), .int .i64 (l.getD i 0)] w fun e w' => e = .returned (.agg (sc (ofTo l (i + 1)))) ∧ Below w.heap.size w w') := by
    intro i w hi
    rw [ofTo_succ l i hi]
    exact with_any _ (ok_ofTo l i) _ w
  generalize hn : l.length = n at *
  unfold sv
  go_enter Tryd.func10, Tryd.ntmps10
  go_wp2
  go_loopw [8] (fun i wr => ∃ j : Nat, j ≤ n ∧ i = .int .i64 j ∧ Two w.heap.size wr (sc nought) (sc (ofTo l j)) ∧ Below w.heap.size w wr) (fun i _ => n - (intOf i).toNat)
  case atStart => exact ⟨0, Nat.zero_le _, rfl, Two.new _ _ _, below_a2 _ _ _⟩
  case round =>
    obtain ⟨j, hj, rfl, ht, hbel⟩ := hrel
    have HT : Hid (Two w.heap.size wr (sc nought) (sc (ofTo l j))) := ht
    have HL : Hid (Below w.heap.size w wr) := hbel
    have hz : (sc (ofTo l j)).size = 8 := by rw [sc_size]; exact (ok_ofTo l j).1
    have hz' : (sc (ofTo l (j + 1))).size = 8 := by rw [sc_size]; exact (ok_ofTo l (j + 1)).1
    have h1 := sc_one (ofTo l j)
    have h1' := sc_one (ofTo l (j + 1))
    clear ht hbel
    by_cases hlt : j < n
    · obtain ⟨x, rfl, hx⟩ := HC.out j hlt
      have hcx : wr.cell? (x.add j) = some (.int .i64 (l.getD j 0)) := cell_later HL.out hx
      have HW' : Hid (∀ w : World, Calls Tryd.prog 12 #[.agg (sc (ofTo l j)), .int .i64 (l.getD j 0)] w fun e w' => e = .returned (.agg (sc (ofTo l (j + 1)))) ∧ Below w.heap.size w w') := fun w => HW.out j w hlt
      clear hx
      have hd : decide ((j : Int) < (n : Int)) = true := by simp; omega
      generalize hcj : sc (ofTo l (j + 1)) = cj at *
      have HCJ : Hid (sc (ofTo l (j + 1)) = cj) := hcj
      clear hcj
      generalize sc (ofTo l j) = cs at *
      generalize l.getD j 0 = c at *
      have hpk := pack8 cs hz
      have hl0 := row_cells HT.out.2 hz
      go_wp2_with fail
      refine (HW'.out _).mono ?_
      rintro e w1 ⟨rfl, hb1⟩
      have HT1 : Hid (Two w.heap.size w1 (sc nought) cs) := HT.out.later hb1
      have HL1 : Hid (Below w.heap.size w w1) := below_then HL.out hb1
      clear hb1 hl0 hcx
      have hst := store_row (P := Tryd.prog) HT1.out.2 hz hz' h1'
      go_wp2
      go_roundw
      case rel => exact ⟨j + 1, by omega, by go_num, by rw [HCJ.out]; exact HT1.out.set1 _, below_setRow HL1.out _ (by omega) _⟩
      case measure => simp [intOf]; omega
    · have e : j = n := by omega
      subst e
      rw [HE.out] at hz h1 HT
      generalize hco : sc (ofAll l) = co at *
      have HCO : Hid (sc (ofAll l) = co) := hco
      clear hco
      have hpo := pack8 co hz
      have hl3 := row_cells HT.out.2 hz
      have hst := store_row (P := Tryd.prog) HT.out.1 rfl hz h1
      go_wp2
      exact ret_sig rfl rfl (setRow_heap _ _ _ _ _ _ HT.out.1) hz rfl ⟨by rw [HCO.out], below_setRow HL.out _ (by omega) _⟩
end Go.Proofs.YthenkidhcfholaaDoor
