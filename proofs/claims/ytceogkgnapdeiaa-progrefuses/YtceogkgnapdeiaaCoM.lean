/- Collections over cells (layers 15 to 18): what a call under way wants, and lists of numbers as they lie. -/
import Derived.Test.YtceogkgnapdeiaaBlk
import Derived.Test.YtceogkgnapdeiaaAppW
import Derived.Deep.DeepHandedRow
import Derived.Laws.StructEq
namespace Go.Proofs.Ytceogkgnapdeiaa
open Go.ChangeShapes Go.WideShapes Go.ChangeAt Go.RowKit

/-- What is wanted: kind (2: a read, 3: a write, 6: it is through), cell, value, code. -/
structure Wn where
  kind : Int
  cell : Int
  val : Int
  code : Int
  deriving DecidableEq
def wnC (x : Wn) : Array Value := #[.int .i64 x.kind, .int .i64 x.cell, .int .i64 x.val, .int .i64 x.code]
def wn0 : Wn := ⟨0, 0, 0, 0⟩
def endW (v c : Int) : Wn := ⟨6, 0, if c = 0 then v else 0, c⟩
def readW (c : Int) : Wn := ⟨2, c, 0, 0⟩
def putW (c v : Int) : Wn := ⟨3, c, v, 0⟩
def Sx (z : Int) : Prop := -9223372036854775808 ≤ z ∧ z ≤ 9223372036854775807
/-- May a call be: of a base, a capacity, so many arguments as asked for. -/
def takesV (base most want args : Int) : Bool := decide (0 ≤ most) && decide (most ≤ 16) && decide (0 ≤ base) && decide (base ≤ 1024) && decide (want = args)

/-- The number at a place (0: there is none). -/
def nth (l : List Int) (i : Nat) : Int := l.getD i 0
theorem nth_at {l : List Int} {i : Nat} (h : i < l.length) : nth l i = l[i] := by simp [nth, List.getD, h]
theorem nth_snoc (l : List Int) (x : Int) (i : Nat) (h : i < l.length) : nth (l ++ [x]) i = nth l i := by simp [nth, List.getElem?_append_left h]
theorem nth_last (l : List Int) (x : Int) : nth (l ++ [x]) l.length = x := by simp [nth]
theorem nth_one (x : Int) : nth [x] 0 = x := rfl
def numC (l : List Int) : List Value := l.map (Value.int .i64)
theorem numC_len (l : List Int) : (numC l).length = l.length := by simp [numC]
theorem numC_snoc (l : List Int) (x : Int) : numC (l ++ [x]) = numC l ++ [.int .i64 x] := by simp [numC]
theorem numC_get (l : List Int) (i : Nat) (hi : i < l.length) : (numC l)[i]? = some (.int .i64 (nth l i)) := by simp [numC, nth, hi]
/-- A list of numbers lies behind a slice. -/
def Nl (w : World) (v : Value) (l : List Int) : Prop := ∃ a cap, v = .slice a l.length cap ∧ l.length ≤ 17592186044416 ∧ l.length ≤ cap ∧ (cap ≤ 9223372036854775807 ∧ (a = none → cap = 0)) ∧ (∀ x ∈ l, Sx x) ∧ (l.length = 0 ∨ ∃ x, a = some x ∧ x.block < w.heap.size ∧ ∀ i, i < l.length → w.cell? (x.add i) = some (.int .i64 (nth l i)))
theorem Nl.later {w w' : World} {v : Value} {l : List Int} {B : Nat} (h : Nl w v l) (hb : Below B w w') (hB : w.heap.size ≤ B) : Nl w' v l := by
  obtain ⟨a, cap, hv, hm, hc1, hc2, hr, hl⟩ := h
  refine ⟨a, cap, hv, hm, hc1, hc2, hr, ?_⟩
  rcases hl with h0 | ⟨x, hx, hxb, hc⟩
  · exact Or.inl h0
  · exact Or.inr ⟨x, hx, Nat.lt_of_lt_of_le hxb hb.size, fun i hi => cell_later hb (by rw [add_block]; omega) (hc i hi)⟩
theorem Nl.keep {w w' : World} {F : List Nat} {v : Value} {l : List Int} (h : Nl w v l) (hk : Keep F w w') (hF : ∀ a n c, v = .slice (some a) n c → a.block ∉ F) : Nl w' v l := by
  obtain ⟨a, cap, hv, hm, hc1, hc2, hr, hl⟩ := h
  refine ⟨a, cap, hv, hm, hc1, hc2, hr, ?_⟩
  rcases hl with h0 | ⟨x, hx, hxb, hc⟩
  · exact Or.inl h0
  · have hb := hk.block x.block hxb (hF x _ _ (by rw [hv, hx]))
    exact Or.inr ⟨x, hx, Nat.lt_of_lt_of_le hxb hk.size, fun i hi => by
      rw [← hc i hi]
      unfold World.cell?
      rw [add_block, hb]⟩
theorem Nl.w64 {w : World} {v : Value} {l : List Int} (h : Nl w v l) : ∀ x ∈ l, Sx x := by
  obtain ⟨a, cap, hv, hm, hc1, hc2, hr, hl⟩ := h
  exact hr
theorem Nl.nil {w : World} : Nl w (.slice none 0 0) [] := ⟨none, 0, rfl, by simp, by simp, by simp, by simp, Or.inl rfl⟩
theorem nl_w64 {l : List Int} (h : ∀ x ∈ l, Sx x) (i : Nat) : Sx (nth l i) := by
  by_cases hi : i < l.length
  · have : nth l i = l[i] := by simp [nth, hi]
    rw [this]
    exact h _ (List.getElem_mem hi)
  · have : nth l i = 0 := by simp [nth, hi]
    rw [this]
    exact ⟨by decide, by decide⟩
theorem Nl.of_own {w : World} {base : Nat} {v : Value} {l : List Int} (h : w.ownsRow base 2 1 v l.length (numC l)) (hn : l.length ≤ 17592186044416) (hr : ∀ x ∈ l, Sx x) : Nl w v l := by
  have hc := h
  obtain ⟨_, h⟩ := h
  rcases h with ⟨rfl, h0⟩ | ⟨g, cap, cur, rfl, hg, hb, h1, h2, _⟩
  · exact ⟨none, 0, by rw [h0], hn, by omega, ⟨by omega, fun _ => rfl⟩, hr, Or.inl h0⟩
  · refine ⟨some ⟨g, 0, none⟩, cap, rfl, hn, h1, ⟨by unfold maxLen at h2; omega, fun h => by cases h⟩, hr, ?_⟩
    by_cases h0 : l.length = 0
    · exact Or.inl h0
    · refine Or.inr ⟨⟨g, 0, none⟩, rfl, heap_lt hb, fun i hi => ?_⟩
      have e : (⟨g, 0, none⟩ : Addr).add i = ⟨g, i, none⟩ := by unfold Addr.add; split <;> simp_all
      rw [e]
      exact own_cells hc _ _ (numC_get l i hi)

/-! ### lists that are handed in -/
theorem ncells_i64 : Try.prog.cellsOf 2 = 1 := by kernel_rfl
theorem nbytes_i64 : Try.prog.bytesOf 2 = 8 := by kernel_rfl
theorem info_i64 : (Try.prog.info? 2).map (fun i => (i.zero, i.size, i.bytes)) = some (some (.int .i64 0), 1, 8) := by kernel_rfl
theorem sx_of_wf {z : Int} (h : (Lit.int .i64 z).wf = true) : Sx z := by
  have : -9223372036854775808 ≤ z ∧ z ≤ 9223372036854775807 := by simpa [Lit.wf, IntKind.min, IntKind.max, IntKind.signed, IntKind.bits] using h
  exact this
theorem open_nums {H : Type} {enc : TypeId × Value → H} {W : World} {fuel : Nat} {cs : List Value} {x : DataW H × List MemPlace} (hw : (x.1.weights Try.prog 25).all (· ≤ reachBytes) = true)
    (hf : DataW.trod enc Try.prog W 0 (fun _ => true) true fuel 25 cs = some x) : ∃ v l, cs = [v] ∧ Nl W v l := by
  rcases Go.Deep.open_slice Try.underlying25 hf with ⟨hcs, hx⟩ | ⟨x0, n, c, m, n', D, Pl, hcs, hq, hl, hm, hmm, hx, hcell⟩
  · exact ⟨_, [], hcs, none, _, rfl, by simp, by simp, by simp, by simp, Or.inl rfl⟩
  · have hmc : m = c := by simpa using hmm
    subst hmc
    have hlen : n ≤ 17592186044416 := by
      rw [hx] at hw
      simp only [DataW.weights, Try.underlying25, List.all_cons, Bool.and_eq_true, decide_eq_true_eq, nbytes_i64, List.length_map, List.length_range] at hw
      have := hw.1
      unfold reachBytes at this
      omega
    have hrow : ∀ i, i < n → ∃ a : Int, W.cell? (x0.add i) = some (.int .i64 a) ∧ Sx a ∧ x0.block < W.heap.size := fun i hi => by
      obtain ⟨cs', hc, ht⟩ := hcell i (by omega)
      obtain ⟨a, rfl, _, hwf⟩ := DataW.trod_int Try.underlying2 ht
      rw [ncells_i64, Nat.mul_one] at hc
      have hj := (World.cells?_some hc).2.2
      have hb0 : W.cell? (x0.add i) = some (.int .i64 a) := by
        have := hj 0 (by decide)
        rw [add_zero'] at this
        rw [this]; simp
      refine ⟨a, hb0, sx_of_wf hwf, ?_⟩
      have := World.block_lt_of_cell? _ _ hb0
      rwa [add_block] at this
    obtain ⟨S, hSl, hS⟩ := list_choose (0 : Int) _ n hrow
    subst hSl
    refine ⟨_, S, hcs, some x0, m, rfl, hlen, hl, ⟨by unfold maxLen at hm; omega, fun h => by cases h⟩, ?_, ?_⟩
    · intro x hx
      obtain ⟨i, hi, rfl⟩ := List.mem_iff_getElem.1 hx
      have := (hS i hi).2.1
      simpa [nth, hi] using this
    · by_cases h0 : S.length = 0
      · exact Or.inl h0
      · exact Or.inr ⟨x0, rfl, (hS 0 (by omega)).2.2, fun i hi => (hS i hi).1⟩
set_option maxRecDepth 100000 in
theorem nums_arg {H : Type} {enc : TypeId × Value → H} {W : World} {base : Nat} {v : Value} {d : DataW H} {p : List MemPlace} (hw : (d.weights Try.prog 25).all (· ≤ reachBytes) = true)
    (hv : Value.okWide Try.prog W .any base 25 v) (h : DataW.Trod enc Try.prog W 0 (fun _ => true) true 25 v d p) : ∃ l, Nl W v l := by
  obtain ⟨a, len, cap, rfl⟩ := okWide_slice Try.underlying25 hv
  obtain ⟨fuel, hf⟩ := h
  obtain ⟨v', l, hc, hS⟩ := open_nums hw hf
  simp [Value.cells] at hc
  subst hc
  exact ⟨l, hS⟩
theorem wnC_size (x : Wn) : (wnC x).size = 4 := rfl
theorem wnC_one (x : Wn) : (wnC x).all (·.oneCell') = true := by simp [wnC, Value.oneCell']
theorem store_wn {P : Program} {w : World} {b : Nat} {t : TypeId} {old cs : Array Value} (h : w.heap[b]? = some (.cells old t (0, 0))) (hz : old.size = 4) (hc : cs.size = 4) (h1 : cs.all (·.oneCell') = true) : (storeCells ⟨b, 0, none⟩ cs.toList 0).run P w = .ok () (w.setRow b cs) := by
  have := run_storeCells_from (P := P) b t cs.toList 0 old w h (by simp [hz, hc]) (fun v hv => (Array.all_eq_true_iff_forall_mem.1 h1) v (by simpa using hv))
  simpa using this
theorem row_next {w w' : World} {o : Obj} (hb : Below (w.alloc o).heap.size (w.alloc o) w') : w'.heap[w.heap.size]? = some o := by
  rw [hb.block _ (by simp)]; exact heap_alloc_new _ _
theorem below_next {w w' : World} {o : Obj} (hb : Below (w.alloc o).heap.size (w.alloc o) w') : Below w.heap.size w w' := below_then (below_a1 _ _) hb
theorem Keep.row (w : World) (b : Nat) (cs : Array Value) : Keep [b] w (w.setRow b cs) := ⟨rfl, rfl, rfl, by rw [setRow_size]; exact Nat.le_refl _, fun q _ hq => setRow_other _ _ _ _ (by simpa using hq)⟩
theorem row_next2 {w w' : World} {o1 o2 : Obj} (hb : Below ((w.alloc o1).alloc o2).heap.size ((w.alloc o1).alloc o2) w') : w'.heap[w.heap.size + 1]? = some o2 := by
  have := row_next hb
  simpa using this
theorem row_next1 {w w' : World} {o1 o2 : Obj} (hb : Below ((w.alloc o1).alloc o2).heap.size ((w.alloc o1).alloc o2) w') : w'.heap[w.heap.size]? = some o1 := by
  rw [hb.block _ (by simp; omega)]
  exact heap_alloc2_old _ _ _
theorem below_next2 {w w' : World} {o1 o2 : Obj} (hb : Below ((w.alloc o1).alloc o2).heap.size ((w.alloc o1).alloc o2) w') : Below w.heap.size w w' := below_then (below_a1 _ _) (below_next hb)
theorem wn_len4 {α : Type} {l : List α} (h : l.length = 4) : ∃ a b c d, l = [a, b, c, d] := by
  match l, h with
  | [a, b, c, d], _ => exact ⟨a, b, c, d, rfl⟩
theorem eq_wn (x : Wn) (w : World) (d : Nat) : (Op.equalIn (d + 2) 40 (.agg (wnC x)) (.agg (wnC x))).run Try.prog w = .ok true w := by
  rw [run_equalIn_struct w (d + 1) 40 _ _ (by kernel_rfl) (by kernel_rfl)]
  have hf : (Try.prog.fieldsOf 40).toList.map (fun f => (f.name, f.type, f.offset)) = [("Kind", 3, 0), ("Cell", 3, 1), ("Value", 2, 2), ("Code", 3, 3)] := by kernel_rfl
  generalize (Try.prog.fieldsOf 40).toList = fs at *
  have hl : fs.length = 4 := by have := congrArg List.length hf; simpa using this
  obtain ⟨f0, f1, f2, f3, rfl⟩ := wn_len4 hl
  simp only [List.map_cons, List.map_nil, List.cons.injEq, Prod.mk.injEq, and_true] at hf
  obtain ⟨⟨n0, t0, o0⟩, ⟨n1, t1, o1⟩, ⟨n2, t2, o2⟩, n3, t3, o3⟩ := hf
  have p0 : (part 3 (wnC x) 0).run Try.prog w = .ok (.int .i64 x.kind) w := run_part_plain w (by kernel_rfl) rfl
  have p1 : (part 3 (wnC x) 1).run Try.prog w = .ok (.int .i64 x.cell) w := run_part_plain w (by kernel_rfl) rfl
  have p2 : (part 2 (wnC x) 2).run Try.prog w = .ok (.int .i64 x.val) w := run_part_plain w (by kernel_rfl) rfl
  have p3 : (part 3 (wnC x) 3).run Try.prog w = .ok (.int .i64 x.code) w := run_part_plain w (by kernel_rfl) rfl
  have q1 := fun v : Int => run_equalIn_int (P := Try.prog) w d 3 .i64 .i64 v v Try.underlying3
  have q2 := fun v : Int => run_equalIn_int (P := Try.prog) w d 2 .i64 .i64 v v Try.underlying2
  simp [Op.eqFields, n0, n1, n2, n3, t0, t1, t2, t3, o0, o1, o2, o3, p0, p1, p2, p3, q1, q2]
theorem neq_wn (x : Wn) (w : World) : (binOp .neq 40 (.agg (wnC x)) (.agg (wnC x))).run Try.prog w = .ok (.bool false) w := by
  rw [run_neq_struct, eq_wn x w 9998]
  rfl
theorem eql_wn (x : Wn) (w : World) : (binOp .eql 40 (.agg (wnC x)) (.agg (wnC x))).run Try.prog w = .ok (.bool true) w := by
  rw [run_eql_struct, eq_wn x w 9998]
  rfl
theorem new_wn {P : Program} {w : World} {t : TypeId} {z cs : Array Value} (hz : z.size = 4) (hc : cs.size = 4) (h1 : cs.all (·.oneCell') = true) : ∃ w', (storeCells ⟨w.heap.size, 0, none⟩ cs.toList 0).run P (w.alloc (.cells z t)) = .ok () w' ∧ w'.heap[w.heap.size]? = some (.cells cs t (0, 0)) ∧ Below w.heap.size w w' ∧ w'.heap.size = w.heap.size + 1 :=
  ⟨_, store_wn (heap_alloc_new w _) hz hc h1, setRow_heap _ _ _ _ _ _ (heap_alloc_new w _), below_row (below_a1 _ _) _ (Nat.le_refl _) _, by rw [setRow_size]; simp⟩
theorem wn_cells {w : World} {b : Nat} {t : TypeId} {x : Wn} (h : w.heap[b]? = some (.cells (wnC x) t (0, 0))) : w.cell? ⟨b, 0, none⟩ = some (.int .i64 x.kind) ∧ w.cell? ⟨b, 1, none⟩ = some (.int .i64 x.cell) ∧ w.cell? ⟨b, 2, none⟩ = some (.int .i64 x.val) ∧ w.cell? ⟨b, 3, none⟩ = some (.int .i64 x.code) :=
  ⟨by rw [cell_at h]; rfl, by rw [cell_at h]; rfl, by rw [cell_at h]; rfl, by rw [cell_at h]; rfl⟩
/-- A want that a function hands back, out of its variable. -/
theorem ret_wn {fn : Func} {p : Tmp} {R : Ending → World → Prop} {a : Act} {w : World} {g : Nat} {cs : Array Value} (h : fn.results = #[.cell p 40]) (hp : a.tmps.getD p undef = .pointer (some ⟨g, 0, none⟩))
    (hg : w.heap[g]? = some (.cells cs 40 (0, 0))) (hz : cs.size = 4) (hd : a.defers = []) (hR : R (.returned (.agg cs)) w) : bodyPost Try.prog fn R .ret a w := by
  refine bodyPost_ret (v := .agg cs) ?_ hd hR
  have hp' : a.tmps[p]?.getD undef = .pointer (some ⟨g, 0, none⟩) := by simpa using hp
  have hl := run_loadVar_row (P := Try.prog) w g 40 40 cs (0, 0) _ hg Try.underlying40 rfl (by rw [hz]; kernel_rfl)
  simp [results, h, hp', asAddr, hl]
end Go.Proofs.Ytceogkgnapdeiaa
