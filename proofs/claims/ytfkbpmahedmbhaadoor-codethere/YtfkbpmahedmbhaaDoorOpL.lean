/- Lists of instructions: as they lie, as they are handed in; Same. -/
import Derived.Test.YtfkbpmahedmbhaaDoorCodB
import Derived.Test.YtfkbpmahedmbhaaDoorCodP
import Derived.Deep.DeepHandedRow
namespace Go.Proofs.YtfkbpmahedmbhaaDoor
open Go.ChangeShapes Go.WideShapes Go.ChangeAt Go.RowKit

def opC (x : Int × Int) : List Value := [.int .i64 x.1, .int .i64 x.2]
def opsC (l : List (Int × Int)) : List Value := l.flatMap opC
theorem opsC_len (l : List (Int × Int)) : (opsC l).length = l.length * 2 := by
  induction l with
  | nil => rfl
  | cons x l ih => simp only [opsC, List.flatMap_cons, List.length_append, List.length_cons] at ih ⊢; rw [ih]; simp [opC]; omega
theorem opsC_snoc (l : List (Int × Int)) (x : Int × Int) : opsC (l ++ [x]) = opsC l ++ [.int .i64 x.1, .int .i64 x.2] := by simp [opsC, opC]
theorem opsC_get (l : List (Int × Int)) (i : Nat) (hi : i < l.length) : (opsC l)[i * 2]? = some (.int .i64 (l.getD i (0, 0)).1) ∧ (opsC l)[i * 2 + 1]? = some (.int .i64 (l.getD i (0, 0)).2) := by
  induction l generalizing i with
  | nil => simp at hi
  | cons x l ih =>
    have e : opsC (x :: l) = opC x ++ opsC l := rfl
    have h2 : (opC x).length = 2 := rfl
    rw [e]
    cases i with
    | zero => exact ⟨rfl, rfl⟩
    | succ i =>
      obtain ⟨h1, h3⟩ := ih i (by simpa using hi)
      rw [List.getElem?_append_right (by omega), List.getElem?_append_right (by omega), h2, show (i + 1) * 2 - 2 = i * 2 by omega, show (i + 1) * 2 + 1 - 2 = i * 2 + 1 by omega, h1, h3]
      simp
/-- A list of instructions lies behind a slice. -/
def OLst (w : World) (v : Value) (l : List (Int × Int)) : Prop := ∃ a cap, v = .slice a l.length cap ∧ l.length ≤ 8796093022208 ∧ (l.length = 0 ∨ ∃ x, a = some x ∧ x.block < w.heap.size ∧ ∀ i, i < l.length →
  w.cell? (x.add (i * 2)) = some (.int .i64 (l.getD i (0, 0)).1) ∧ w.cell? ⟨(x.add (i * 2)).block, (x.add (i * 2)).off + 1, none⟩ = some (.int .i64 (l.getD i (0, 0)).2))
theorem OLst.later {w w' : World} {v : Value} {l : List (Int × Int)} {B : Nat} (h : OLst w v l) (hb : Below B w w') (hB : w.heap.size ≤ B) : OLst w' v l := by
  obtain ⟨a, cap, hv, hm, hl⟩ := h
  refine ⟨a, cap, hv, hm, ?_⟩
  rcases hl with h0 | ⟨x, hx, hxb, hc⟩
  · exact Or.inl h0
  · exact Or.inr ⟨x, hx, Nat.lt_of_lt_of_le hxb hb.size, fun i hi => ⟨cell_later hb (by rw [add_block]; omega) (hc i hi).1, cell_later (a := ⟨(x.add (i * 2)).block, (x.add (i * 2)).off + 1, none⟩) hb (show (x.add (i * 2)).block < B by rw [add_block]; omega) (hc i hi).2⟩⟩
theorem OLst.of_own {w : World} {base : Nat} {v : Value} {l : List (Int × Int)} (h : w.ownsRow base 23 2 v l.length (opsC l)) (hn : l.length ≤ 8796093022208) : OLst w v l := by
  have hc := h
  obtain ⟨_, h⟩ := h
  rcases h with ⟨rfl, h0⟩ | ⟨g, cap, cur, rfl, hg, hb, _⟩
  · exact ⟨none, 0, by rw [h0], hn, Or.inl h0⟩
  · refine ⟨some ⟨g, 0, none⟩, cap, rfl, hn, ?_⟩
    by_cases h0 : l.length = 0
    · exact Or.inl h0
    · refine Or.inr ⟨⟨g, 0, none⟩, rfl, heap_lt hb, fun i hi => ?_⟩
      obtain ⟨h1, h2⟩ := opsC_get l i hi
      have e : (⟨g, 0, none⟩ : Addr).add (i * 2) = ⟨g, i * 2, none⟩ := by unfold Addr.add; split <;> simp_all
      rw [e]
      exact ⟨own_cells hc _ _ h1, own_cells hc _ _ h2⟩

/-! ### lists that are handed in -/
theorem ocells_int : Tryd.prog.cellsOf 3 = 1 := by kernel_rfl
theorem ocells_i64 : Tryd.prog.cellsOf 2 = 1 := by kernel_rfl
theorem ocells_op : Tryd.prog.cellsOf 23 = 2 := by kernel_rfl
theorem obytes_op : Tryd.prog.bytesOf 23 = 16 := by kernel_rfl
theorem olen2 {α : Type} {l : List α} (h : l.length = 2) : ∃ a b, l = [a, b] := by
  match l, h with
  | [a, b], _ => exact ⟨a, b, rfl⟩
theorem op_of_cells {H : Type} {enc : TypeId × Value → H} {W : World} {fuel : Nat} {cs : List Value} {x : DataW H × List MemPlace}
    (hf : DataW.trod enc Tryd.prog W 0 (fun _ => true) true fuel 23 cs = some x) : ∃ a b : Int, cs = [.int .i64 a, .int .i64 b] := by
  obtain ⟨xs, m, _, hx, hl, hlen, hfd⟩ := DataW.trod_struct Tryd.underlying23 hf
  have hl2 : cs.length = 2 := by rw [hl, ocells_op]
  obtain ⟨c0, c1, rfl⟩ := olen2 hl2
  obtain ⟨y0, y1, rfl⟩ := olen2 hlen
  have g0 := hfd 0 _ rfl
  have g1 := hfd 1 _ rfl
  simp [ocells_int, ocells_i64] at g0 g1
  obtain ⟨a0, z0, _, _⟩ := DataW.trod_int Tryd.underlying3 g0
  obtain ⟨a1, z1, _, _⟩ := DataW.trod_int Tryd.underlying2 g1
  simp only [List.cons.injEq, and_true] at z0 z1
  subst z0 z1
  exact ⟨a0, a1, rfl⟩
theorem open_ops {H : Type} {enc : TypeId × Value → H} {W : World} {fuel : Nat} {cs : List Value} {x : DataW H × List MemPlace} (hw : (x.1.weights Tryd.prog 28).all (· ≤ reachBytes) = true)
    (hf : DataW.trod enc Tryd.prog W 0 (fun _ => true) true fuel 28 cs = some x) : ∃ v l, cs = [v] ∧ OLst W v l := by
  rcases Go.Deep.open_slice Tryd.underlying28 hf with ⟨hcs, hx⟩ | ⟨x0, n, c, m, n', D, Pl, hcs, _, hl, hm, hmm, hx, hcell⟩
  · exact ⟨_, [], hcs, none, _, rfl, by simp, Or.inl rfl⟩
  · have hmc : m = c := by simpa using hmm
    subst hmc
    have hlen : n ≤ 8796093022208 := by
      rw [hx] at hw
      simp only [DataW.weights, Tryd.underlying28, List.all_cons, Bool.and_eq_true, decide_eq_true_eq, obytes_op, List.length_map, List.length_range] at hw
      have := hw.1
      unfold reachBytes at this
      omega
    have hrow : ∀ i, i < n → ∃ r : Int × Int, (W.cell? (x0.add (i * 2)) = some (.int .i64 r.1) ∧ W.cell? ⟨(x0.add (i * 2)).block, (x0.add (i * 2)).off + 1, none⟩ = some (.int .i64 r.2)) ∧ x0.block < W.heap.size := fun i hi => by
      obtain ⟨cs', hc, ht⟩ := hcell i (by omega)
      obtain ⟨a, b, rfl⟩ := op_of_cells ht
      rw [ocells_op] at hc
      have hj := (World.cells?_some hc).2.2
      have hb0 : W.cell? ((x0.add (i * 2)).add 0) = some (.int .i64 a) := by rw [hj 0 (by decide)]; simp
      have hb1 : W.cell? ((x0.add (i * 2)).add 1) = some (.int .i64 b) := by rw [hj 1 (by decide)]; simp
      rw [add_zero'] at hb0
      rw [add_pos' _ _ (by decide)] at hb1
      refine ⟨(a, b), ⟨hb0, hb1⟩, ?_⟩
      have := World.block_lt_of_cell? _ _ hb0
      rwa [add_block] at this
    obtain ⟨S, hSl, hS⟩ := list_choose ((0 : Int), (0 : Int)) _ n hrow
    refine ⟨_, S, hcs, some x0, m, by rw [hSl], by omega, ?_⟩
    by_cases h0 : n = 0
    · exact Or.inl (by omega)
    · exact Or.inr ⟨x0, rfl, (hS 0 (by omega)).2, fun i hi => (hS i (by omega)).1⟩
set_option maxRecDepth 100000 in
theorem ops_arg {H : Type} {enc : TypeId × Value → H} {W : World} {base : Nat} {v : Value} {d : DataW H} {p : List MemPlace} (hw : (d.weights Tryd.prog 28).all (· ≤ reachBytes) = true)
    (hv : Value.okWide Tryd.prog W .any base 28 v) (h : DataW.Trod enc Tryd.prog W 0 (fun _ => true) true 28 v d p) : ∃ l, OLst W v l := by
  obtain ⟨a, len, cap, rfl⟩ := okWide_slice Tryd.underlying28 hv
  obtain ⟨fuel, hf⟩ := h
  obtain ⟨v', l, hc, hS⟩ := open_ops hw hf
  simp [Value.cells] at hc
  subst hc
  exact ⟨l, hS⟩

/-! ### Same -/
theorem take_ne {l m : List (Int × Int)} {i : Nat} (h1 : i < l.length) (h2 : i < m.length) (h : l.take i = m.take i) (hx : l.getD i (0, 0) = m.getD i (0, 0)) : l.take (i + 1) = m.take (i + 1) := by
  rw [List.take_succ_eq_append_getElem h1, List.take_succ_eq_append_getElem h2, h]
  simp [List.getD, h1, h2] at hx
  rw [hx]
theorem same_any {w : World} {u v : Value} {l m : List (Int × Int)} (hu : OLst w u l) (hv : OLst w v m) : Calls Tryd.prog 15 #[u, v] w fun e w' => e = .returned (.bool (decide (l = m))) ∧ Below w.heap.size w w' := by
  obtain ⟨a, ca, rfl, hla, hl⟩ := hu
  obtain ⟨b, cb, rfl, hlb, hm⟩ := hv
  by_cases hlen : l.length = m.length
  · have hld : ((l.length : Int) == (m.length : Int)) = true := by simp; omega
    have HL : Hid (l.length = 0 ∨ ∃ x, a = some x ∧ x.block < w.heap.size ∧ ∀ i, i < l.length → w.cell? (x.add (i * 2)) = some (.int .i64 (l.getD i (0, 0)).1) ∧ w.cell? ⟨(x.add (i * 2)).block, (x.add (i * 2)).off + 1, none⟩ = some (.int .i64 (l.getD i (0, 0)).2)) := hl
    have HM : Hid (m.length = 0 ∨ ∃ x, b = some x ∧ x.block < w.heap.size ∧ ∀ i, i < m.length → w.cell? (x.add (i * 2)) = some (.int .i64 (m.getD i (0, 0)).1) ∧ w.cell? ⟨(x.add (i * 2)).block, (x.add (i * 2)).off + 1, none⟩ = some (.int .i64 (m.getD i (0, 0)).2)) := hm
    clear hl hm
    obtain ⟨R, hR⟩ : ∃ R : Ending → World → Prop, R = fun e w' => e = .returned (.bool (decide (l = m))) ∧ Below w.heap.size w w' := ⟨_, rfl⟩
    have HR : Hid (R = fun e w' => e = .returned (.bool (decide (l = m))) ∧ Below w.heap.size w w') := hR
    rw [← hR]
    clear hR
    go_enter Tryd.func15, Tryd.ntmps15
    go_wp2
    go_loopw [5] (fun i wr => ∃ j : Nat, j ≤ l.length ∧ i = .int .i64 j ∧ l.take j = m.take j ∧ ∃ n, wr = w.drewN n) (fun i _ => l.length - (intOf i).toNat)
    case atStart => exact ⟨0, by omega, rfl, by simp, 0, rfl⟩
    case round =>
      obtain ⟨j, hj, rfl, hpre, n, hwr⟩ := hrel
      have HP : Hid (l.take j = m.take j) := hpre
      have HW : Hid (wr = w.drewN n) := hwr
      by_cases hlt : j < l.length
      · have hdl : decide ((j : Int) < (l.length : Int)) = true := by simp; omega
        obtain ⟨x, rfl, hxb, hxc⟩ := HL.out.resolve_left (by omega)
        obtain ⟨y, rfl, hyb, hyc⟩ := HM.out.resolve_left (by omega)
        obtain ⟨x1, x2⟩ := hxc j hlt
        obtain ⟨y1, y2⟩ := hyc j (by omega)
        have z1 : wr.cell? (x.add (j * 2)) = some (.int .i64 (l.getD j (0, 0)).1) := by rw [hwr]; exact x1
        have z2 : wr.cell? ⟨(x.add (j * 2)).block, (x.add (j * 2)).off + 1, none⟩ = some (.int .i64 (l.getD j (0, 0)).2) := by rw [hwr]; exact x2
        have z3 : wr.cell? (y.add (j * 2)) = some (.int .i64 (m.getD j (0, 0)).1) := by rw [hwr]; exact y1
        have z4 : wr.cell? ⟨(y.add (j * 2)).block, (y.add (j * 2)).off + 1, none⟩ = some (.int .i64 (m.getD j (0, 0)).2) := by rw [hwr]; exact y2
        have hj2 : j < m.length := by omega
        clear hxc hyc x1 x2 y1 y2 hpre hwr HL HM
        by_cases hxy : l.getD j (0, 0) = m.getD j (0, 0)
        · have HN : Hid (l.take (j + 1) = m.take (j + 1)) := take_ne hlt (by omega) HP.out hxy
          rw [← hxy] at z3 z4
          clear hxy HP
          generalize (l.getD j (0, 0)).1 = p1 at *
          generalize (l.getD j (0, 0)).2 = p2 at *
          generalize l.length = N at *
          go_wp2_with fail
          go_quiet (fail)
          go_wp2
          go_roundw
          case rel => exact ⟨j + 1, by omega, by go_num, HN.out, by rw [HW.out]; exact ⟨_, World.drewN_drewN _ _ _⟩⟩
          case measure => simp [intOf]; omega
        · have HE : Hid (decide (l = m) = false) := by
            show _ = _
            simp
            intro h
            rw [h] at hxy
            exact hxy rfl
          have hne : ((l.getD j (0, 0)).1 == (m.getD j (0, 0)).1) = false ∨ (l.getD j (0, 0)).1 = (m.getD j (0, 0)).1 ∧ ((l.getD j (0, 0)).2 == (m.getD j (0, 0)).2) = false := by
            by_cases h1 : (l.getD j (0, 0)).1 = (m.getD j (0, 0)).1
            · refine Or.inr ⟨h1, ?_⟩
              rw [beq_eq_false_iff_ne]
              exact fun h2 => hxy (Prod.ext h1 h2)
            · exact Or.inl (by rw [beq_eq_false_iff_ne]; exact h1)
          clear hxy HP
          generalize (l.getD j (0, 0)).1 = p1 at *
          generalize (l.getD j (0, 0)).2 = p2 at *
          generalize (m.getD j (0, 0)).1 = q1 at *
          generalize (m.getD j (0, 0)).2 = q2 at *
          generalize l.length = N at *
          rcases hne with hne | ⟨rfl, hne⟩
          · go_wp2_with fail
            go_quiet (fail)
            go_wp2
            rw [HR.out]
            exact ⟨by rw [HE.out]; rfl, by rw [HW.out]; exact below_drawn (below_drawn (Below.refl _ _) _) _⟩
          · go_wp2_with fail
            go_quiet (fail)
            go_wp2
            rw [HR.out]
            exact ⟨by rw [HE.out]; rfl, by rw [HW.out]; exact below_drawn (below_drawn (Below.refl _ _) _) _⟩
      · have hdl : decide ((j : Int) < (l.length : Int)) = false := by simp; omega
        have HE : Hid (decide (l = m) = true) := by
          show _ = _
          have h1 := HP.out
          rw [List.take_of_length_le (by omega), List.take_of_length_le (by omega)] at h1
          simp [h1]
        clear HL HM hpre hwr HP
        generalize l.length = N at *
        go_wp2
        rw [HR.out]
        exact ⟨by rw [HE.out]; rfl, by rw [HW.out]; exact below_drawn (Below.refl _ _) _⟩
  · have hld : ((l.length : Int) == (m.length : Int)) = false := by simp; omega
    have e : decide (l = m) = false := by simp; intro h; exact hlen (by rw [h])
    rw [e]
    clear hl hm
    go_enter Tryd.func15, Tryd.ntmps15
    go_wp2
    go_ret
    exact ⟨rfl, Below.refl _ _⟩
end Go.Proofs.YtfkbpmahedmbhaaDoor
