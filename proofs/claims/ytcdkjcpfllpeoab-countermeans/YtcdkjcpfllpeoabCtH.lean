/- What the cells of a row of counters say: the program's Shape and the document's. -/
import Derived.Test.YtcdkjcpfllpeoabCtA
import Derived.Test.YtcdkjcpfllpeoabCtR
import Derived.Test.YtcdkjcpfllpeoabCoH
namespace Go.Proofs.Ytcdkjcpfllpeoab.Ct
open Go.ChangeShapes Go.WideShapes Go.ChangeAt Go.RowKit
attribute [local go_sem ↓] Go.wp_at_zero Go.wp_at_succ

/-- Kind, values, error. -/
def okS (most : Int) (l : List Int) : Bool := (decide (0 ≤ most) && decide (most ≤ 16)) && decide ((l.length : Int) = sizeV most)
def kindS (most : Int) (l : List Int) : Int := if okS most l then 1 else 0
def valS (most : Int) (l : List Int) : List Int := if okS most l then l else []
def errS (most : Int) (l : List Int) : Int := if okS most l then 0 else 1
theorem okS_len {m : Int} {l : List Int} (h : okS m l = true) : l.length ≤ 16 := by
  simp only [okS, Bool.and_eq_true, decide_eq_true_eq] at h
  obtain ⟨⟨h1, h2⟩, h3⟩ := h
  unfold sizeV at h3
  rw [if_pos ⟨h1, h2⟩] at h3
  omega
set_option maxRecDepth 10000 in
theorem shape_any {w : World} (m : Int) {v : Value} {l : List Int} (hv : Nl w v l) : Calls Try.prog 9 #[.int .i64 m, v] w fun e w' => ∃ u, e = .returned (.tuple #[.agg (shC (kindS m l) u (.slice none 0 0)), .int .i64 (errS m l)]) ∧ w'.ownsRow w.heap.size 2 1 u (valS m l).length (numC (valS m l)) ∧ Below w.heap.size w w' := by
  have HC : Hid (∀ w : World, Calls Try.prog 13 #[.int .i64 m] w fun e w' => e = .returned (.bool (decide (0 ≤ m) && decide (m ≤ 16))) ∧ w' = w) := fun w => cap_any w m
  have HZ : Hid (∀ w : World, Calls Try.prog 16 #[.int .i64 m] w fun e w' => e = .returned (.int .i64 (sizeV m)) ∧ w' = w) := fun w => size_any w m
  have HN : Hid (∀ w' : World, Below w.heap.size w w' → Nl w' v l) := fun w' hb => hv.later hb (Nat.le_refl _)
  have hlen : okS m l = true → l.length ≤ 16 := okS_len
  obtain ⟨a, cap, rfl⟩ := nl_slice hv
  unfold kindS errS valS
  cases hq : okS m l with
  | false =>
    simp only [Bool.false_eq_true, if_false]
    unfold okS at hq
    generalize (decide (0 ≤ m) && decide (m ≤ 16)) = q1 at *
    clear hv HN hlen
    cases q1
    · clear hq
      go_enter Try.func9, Try.ntmps9
      go_wp2_with fail
      refine (HC.out _).mono ?_
      rintro e w1 ⟨rfl, rfl⟩
      go_wp2_with fail
      exact ret_sh rfl rfl (heap_alloc_new _ _) rfl rfl ⟨_, rfl, World.ownsRow_nil _ _ _ _, below_a1 _ _⟩
    · have hq2 : ((l.length : Int) == sizeV m) = false := by simpa using hq
      clear hq
      generalize sizeV m = z at *
      go_enter Try.func9, Try.ntmps9
      go_wp2_with fail
      refine (HC.out _).mono ?_
      rintro e w1 ⟨rfl, rfl⟩
      go_wp2_with fail
      refine (HZ.out _).mono ?_
      rintro e w1 ⟨rfl, rfl⟩
      go_wp2_with fail
      exact ret_sh rfl rfl (heap_alloc_new _ _) rfl rfl ⟨_, rfl, World.ownsRow_nil _ _ _ _, below_a1 _ _⟩
  | true =>
    simp only [if_true]
    have hl16 := hlen hq
    unfold okS at hq
    simp only [Bool.and_eq_true, decide_eq_true_eq] at hq
    have e1 : (decide (0 ≤ m) && decide (m ≤ 16)) = true := by simpa using hq.1
    rw [e1] at HC
    have e2 : ((l.length : Int) == sizeV m) = true := by simpa using hq.2
    rw [← hq.2] at HZ
    clear hv hlen hq e1 e2
    go_enter Try.func9, Try.ntmps9
    go_wp2_with fail
    refine (HC.out _).mono ?_
    rintro e w1 ⟨rfl, rfl⟩
    go_wp2_with fail
    refine (HZ.out _).mono ?_
    rintro e w1 ⟨rfl, rfl⟩
    go_wp2_with (at_builtin; refine wpList_append_nl _ rfl _ _ rfl w.heap.size _ 0 [] rfl (World.ownsRow_nil _ _ _ _) _ l rfl (HN.out _ (below_a1 _ _)) ?c1 ?c2 ?c3 ?_)
    case c1 => unfold maxLen; omega
    case c2 => omega
    case c3 => simp
    intro u w2 hown hgrow
    have hrow : w2.heap[w.heap.size]? = some (.cells #[.int .i64 0, .slice none 0 0, .slice none 0 0] 39 (0, 0)) := by rw [hgrow.block _ (by simp) (by simp [Value.ownBlock])]; exact heap_alloc_new _ _
    have HB : Hid (Below w.heap.size w w2) := (below_a1 w _).grown hgrow (by simp) (fun b hb => by simp [Value.ownBlock] at hb)
    have HO : Hid (w2.ownsRow w.heap.size 2 1 u l.length (numC l)) := hown
    have hst := store_sh (P := Try.prog) hrow rfl (shC_size 1 u (.slice none 0 0)) (shC_one 1 u HO.out)
    have HG : Hid (w2.heap[w.heap.size]? = some (.cells #[.int .i64 0, .slice none 0 0, .slice none 0 0] 39 (0, 0))) := hrow
    have hpk : #[.int .i64 1, u, .slice none 0 0] = shC 1 u (.slice none 0 0) := rfl
    have HKS : Hid ((shC 1 u (.slice none 0 0)).size = 3) := rfl
    obtain ⟨ua, uc, rfl⟩ := own_slice hown
    generalize hcs : shC 1 (.slice ua l.length uc) (.slice none 0 0) = cs at *
    have HCS : Hid (shC 1 (.slice ua l.length uc) (.slice none 0 0) = cs) := hcs
    clear hown hgrow hrow hcs HN HC HZ
    go_wp2_with fail
    refine ret_sh rfl rfl (setRow_heap _ _ _ _ _ _ HG.out) HKS.out rfl ⟨_, by rw [HCS.out]; rfl, ?_, below_row HB.out _ (Nat.le_refl _) _⟩
    exact own_keep HO.out (Keep.row w2 w.heap.size cs) (fun b hb => by simp; exact fun e => own_ne HO.out HG.out (by decide) (by rw [hb, e]))
/-- The document's shape under way: its block and the list in it. -/
def ShM (w0 wr : World) (B : Nat) (k : Int) (u : Value) (l : List Int) : Prop := Below w0.heap.size w0 wr ∧ wr.heap[B]? = some (.cells (shC k u (.slice none 0 0)) 39 (0, 0)) ∧ wr.ownsRow w0.heap.size 2 1 u l.length (numC l) ∧ w0.heap.size ≤ B
theorem fz_drew (w : World) (n : Nat) (a : Addr) : (w.drewN n).frozen? a = w.frozen? a := rfl
theorem ShM.push {w0 wr w1 : World} {B g cap j : Nat} {o : Obj} {k : Int} {u : Value} {l : List Int} (h : ShM w0 wr B k u (l.take j)) (hj : j < l.length) (hown : w1.ownsRow w0.heap.size 2 1 (.slice (some ⟨g, 0, none⟩) (j + 1) cap) (j + 1) (numC (l.take j) ++ [.int .i64 (nth l j)])) (hg : ((wr.alloc o).drewN 1).grownBy w1 u.ownBlock) :
    ShM w0 (w1.setCell ⟨B, 1, none⟩ (.slice (some ⟨g, 0, none⟩) (j + 1) cap)) B k (.slice (some ⟨g, 0, none⟩) (j + 1) cap) (l.take (j + 1)) := by
  obtain ⟨h1, h2, h3, h4⟩ := h
  have hB := heap_lt h2
  have hne := own_ne h3 h2 (by decide)
  have hr1 : w1.heap[B]? = some (.cells (shC k u (.slice none 0 0)) 39 (0, 0)) := by
    rw [hg.block _ (by show B < (wr.alloc o).heap.size; simp; omega) (fun e => hne e.symm)]
    show (wr.alloc o).heap[B]? = _
    rw [Below.heap_alloc _ _ _ hB]
    exact h2
  have hgB : g ≠ B := fun e => by
    have := own_ne hown hr1 (by decide)
    exact this (by rw [e]; rfl)
  have hb1 : Below w0.heap.size w0 w1 := (below_drawn (below_alloc h1 o) 1).grown hg (by show w0.heap.size ≤ (wr.alloc o).heap.size; have := h1.size; simp; omega) (fun b hb => (own_block h3 b hb).1)
  have hk : Keep [B] w1 (w1.setCell ⟨B, 1, none⟩ (.slice (some ⟨g, 0, none⟩) (j + 1) cap)) := (Keep.refl _ _).setCell _ _ (Or.inl (by simp))
  have hl : (l.take (j + 1)).length = j + 1 := by rw [List.length_take]; omega
  refine ⟨hb1.trans (hk.below hb1.size (by simpa using h4)), ?_, ?_, h4⟩
  · rw [heap_set hr1]
    rfl
  · rw [hl, num_snoc l j hj]
    exact own_keep hown hk (fun b hb => by simp [Value.ownBlock] at hb; subst hb; simpa using hgB)
theorem sh_meas {n j : Nat} (h : j < n) (hw : wrap64 ((j : Int) + 1) = ((j + 1 : Nat) : Int)) : n - (intOf (Value.int .i64 (wrap64 ((j : Int) + 1)))).toNat < n - (intOf (Value.int .i64 (j : Int))).toNat := by
  rw [hw]
  simp [intOf]
  omega
theorem sh_meas' {n j : Nat} (h : j < n) : n - (intOf (Value.int .i64 ((j : Int) + 1))).toNat < n - (intOf (Value.int .i64 (j : Int))).toNat := by
  simp [intOf]
  omega
theorem ShM.res {w0 wr w1 : World} {B C : Nat} {o : Obj} {k : Int} {u x : Value} {l : List Int} {cs : Array Value} (h : ShM w0 wr B k u l) (hC : wr.heap[C]? = some (.cells cs 39 (0, 0))) (hne : C ≠ B) (hg : ((wr.alloc o).drewN 1).grownBy w1 u.ownBlock) : (w1.setCell ⟨B, 1, none⟩ x).heap[C]? = some (.cells cs 39 (0, 0)) := by
  have hlt := heap_lt hC
  rw [heap_set_other _ _ (Ne.symm hne), hg.block _ (by show C < (wr.alloc o).heap.size; simp; omega) (fun e => own_ne h.2.2.1 hC (by decide) e.symm)]
  show (wr.alloc o).heap[C]? = _
  rw [Below.heap_alloc _ _ _ hlt]
  exact hC