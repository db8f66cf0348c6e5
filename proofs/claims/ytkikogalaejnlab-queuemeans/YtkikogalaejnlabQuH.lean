/- What the cells of a queue say: the program's Shape. -/
import Derived.Test.YtkikogalaejnlabQuA
import Derived.Test.YtkikogalaejnlabCoH
import Derived.Test.YtkikogalaejnlabCoB
import Derived.Deep.LoopGhost
namespace Go.Proofs.Ytkikogalaejnlab.Qu
open Go.ChangeShapes Go.WideShapes Go.ChangeAt Go.RowKit
attribute [local go_sem ↓] Go.wp_at_zero Go.wp_at_succ

/-- Kind, values, error. -/
def okS (most : Int) (l : List Int) : Bool := (decide (0 ≤ most) && decide (most ≤ 16)) && decide ((l.length : Int) = sizeV most)
def firS (f most : Int) : Bool := decide (f = 0) || (decide (0 < f) && decide (f < most))
def rgS (most : Int) (l : List Int) : Bool := decide (0 ≤ nth l 1) && decide (nth l 1 ≤ most) && firS (nth l 0) most
def rowS (most : Int) (l : List Int) : List Int := (List.range (nth l 1).toNat).map (fun k : Nat => nth l (2 + (behV (nth l 0) (k : Int) most).toNat))
def kindS (most : Int) (l : List Int) : Int := if okS most l then (if rgS most l then 2 else 0) else 0
def valS (most : Int) (l : List Int) : List Int := if okS most l then (if rgS most l then rowS most l else []) else []
def errS (most : Int) (l : List Int) : Int := if okS most l then (if rgS most l then 0 else 12) else 1
theorem okS_len {m : Int} {l : List Int} (h : okS m l = true) : (l.length : Int) = m + 2 ∧ 0 ≤ m ∧ m ≤ 16 := by
  simp only [okS, Bool.and_eq_true, decide_eq_true_eq] at h
  obtain ⟨⟨h1, h2⟩, h3⟩ := h
  unfold sizeV at h3
  rw [if_pos ⟨h1, h2⟩] at h3
  omega
theorem row_len (m : Int) (l : List Int) : (rowS m l).length = (nth l 1).toNat := by simp [rowS]
theorem row_at (m : Int) (l : List Int) (k : Nat) (h : k < (nth l 1).toNat) : nth (rowS m l) k = nth l (2 + (behV (nth l 0) (k : Int) m).toNat) := by
  rw [nth_at (by rw [row_len]; exact h)]
  simp [rowS]
theorem valS_len {m : Int} {l : List Int} : (valS m l).length ≤ 16 := by
  unfold valS
  split
  · rename_i h1
    split
    · rename_i h2
      simp only [rgS, Bool.and_eq_true, decide_eq_true_eq] at h2
      have := okS_len h1
      rw [row_len]
      omega
    · simp
  · simp
theorem valS_w64 {m : Int} {l : List Int} (h : ∀ x ∈ l, Sx x) : ∀ x ∈ valS m l, Sx x := by
  unfold valS
  split
  · split
    · intro x hx
      simp only [rowS, List.mem_map] at hx
      obtain ⟨k, _, rfl⟩ := hx
      exact nl_w64 h _
    · simp
  · simp
theorem isfirst_any (w : World) (f m : Int) : Calls Try.prog 17 #[.int .i64 f, .int .i64 m] w fun e w' => e = .returned (.bool (firS f m)) ∧ w' = w := by
  unfold firS
  by_cases h0 : f = 0
  · subst h0
    go_enter Try.func17, Try.ntmps17
    go_wp2
    go_ret
    exact ⟨rfl, rfl⟩
  · have e0 : (f == 0) = false := by simpa using h0
    have d0 : decide (f = 0) = false := by simpa using h0
    by_cases h1 : 0 < f
    · have d1 : decide (0 < f) = true := by simpa using h1
      by_cases h2 : f < m
      · have d2 : decide (f < m) = true := by simpa using h2
        clear h0 h1 h2
        go_enter Try.func17, Try.ntmps17
        go_wp2
        go_ret
        exact ⟨by simp [d0, d1, d2], rfl⟩
      · have d2 : decide (f < m) = false := by simpa using h2
        clear h0 h1 h2
        go_enter Try.func17, Try.ntmps17
        go_wp2
        go_ret
        exact ⟨by simp [d0, d1, d2], rfl⟩
    · have d1 : decide (0 < f) = false := by simpa using h1
      clear h0 h1
      go_enter Try.func17, Try.ntmps17
      go_wp2
      go_ret
      exact ⟨by simp [d0, d1], rfl⟩
/-- A shape's variable, written cell by cell. -/
theorem laid3 {w w2 : World} {cs : Array Value} (h : Below w.heap.size w w2) (hr : w2.heap[w.heap.size]? = some (.cells cs 34 (0, 0))) (hz : cs.size = 3) (a b c : Value) :
    (((w2.setCell ⟨w.heap.size, 0, none⟩ a).setCell ⟨w.heap.size, 1, none⟩ b).setCell ⟨w.heap.size, 2, none⟩ c).heap[w.heap.size]? = some (.cells #[a, b, c] 34 (0, 0)) ∧ Below w.heap.size w (((w2.setCell ⟨w.heap.size, 0, none⟩ a).setCell ⟨w.heap.size, 1, none⟩ b).setCell ⟨w.heap.size, 2, none⟩ c) := by
  have hk : Keep [w.heap.size] w2 (((w2.setCell ⟨w.heap.size, 0, none⟩ a).setCell ⟨w.heap.size, 1, none⟩ b).setCell ⟨w.heap.size, 2, none⟩ c) := (((Keep.refl _ _).setCell _ _ (Or.inl (by simp))).setCell _ _ (Or.inl (by simp))).setCell _ _ (Or.inl (by simp))
  refine ⟨?_, h.trans (hk.below h.size (by simp))⟩
  rw [heap_set (heap_set (heap_set hr 0 a) 1 b) 2 c]
  have : ((cs.setIfInBounds 0 a).setIfInBounds 1 b).setIfInBounds 2 c = #[a, b, c] := by
    obtain ⟨cs⟩ := cs
    match cs, hz with
    | [_, _, _], _ => rfl
  rw [this]
/-- A row that is filled. -/
def filR (V : List Int) (k j : Nat) : List Int := V.take j ++ List.replicate (k - j) 0
theorem fil_first (V : List Int) (k : Nat) : filR V k 0 = List.replicate k 0 := by simp [filR]
theorem fil_last (V : List Int) (k : Nat) (h : V.length = k) : filR V k k = V := by simp [filR, ← h]
theorem fil_len (V : List Int) (k j : Nat) (h : V.length = k) (hj : j ≤ k) : (filR V k j).length = k := by simp [filR, h]; omega
theorem fil_set (V : List Int) (k j : Nat) (h : V.length = k) (hj : j < k) : (filR V k j).set j (nth V j) = filR V k (j + 1) := by
  unfold filR
  rw [List.set_append_right _ _ (by simp; omega), nth_at (by omega), List.take_succ_eq_append_getElem (by omega)]
  have e1 : j - (List.take j V).length = 0 := by simp; omega
  rw [e1]
  obtain ⟨d, hd⟩ : ∃ d, k - j = d + 1 := ⟨k - j - 1, by omega⟩
  have e2 : k - (j + 1) = d := by omega
  rw [hd, e2, List.replicate_succ, List.set_cons_zero, List.append_assoc]
  rfl
/-- A shape under way: the row in its block, and the answer's variable. -/
structure FilM (w wr : World) (g k j : Nat) (V : List Int) : Prop where
  bel : Below w.heap.size w wr
  res : wr.heap[w.heap.size]? = some (.cells #[.int .i64 0, .slice none 0 0, .slice none 0 0] 34 (0, 0))
  row : wr.ownsRow w.heap.size 2 1 (.slice (some ⟨g, 0, none⟩) k k) k (numC (filR V k j))
theorem FilM.on {w wr w' : World} {g k j : Nat} {V : List Int} (h : FilM w wr g k j V) (hb : Below wr.heap.size wr w') : FilM w w' g k j V :=
  ⟨below_then h.bel hb, by rw [hb.block _ (heap_lt h.res)]; exact h.res, own_keep h.row (Keep.of_below hb []) (by simp)⟩
theorem FilM.ne {w wr : World} {g k j : Nat} {V : List Int} (h : FilM w wr g k j V) : g ≠ w.heap.size := fun e => own_ne h.row h.res (by decide) (by rw [e]; rfl)
theorem FilM.set {w wr : World} {g k j : Nat} {V : List Int} (h : FilM w wr g k j V) (hl : V.length = k) (hj : j < k) : FilM w (wr.setCell ⟨g, j, none⟩ (.int .i64 (nth V j))) g k (j + 1) V := by
  have hk : Keep [g] wr (wr.setCell ⟨g, j, none⟩ (.int .i64 (nth V j))) := (Keep.refl _ _).setCell _ _ (Or.inl (by simp))
  have hg := (own_block h.row g rfl).1
  refine ⟨h.bel.trans (hk.below h.bel.size (by simpa using hg)), by rw [heap_set_other _ _ h.ne]; exact h.res, ?_⟩
  rw [← fil_set V k j hl hj, ← numC_set]
  exact own_set h.row j _
theorem fil_wrap {j k : Nat} (hk : k ≤ 16) (hj : j < k) : wrap64 ((j : Int) + 1) = ((j + 1 : Nat) : Int) := by
  unfold wrap64
  omega
theorem fil_less {j k : Nat} (hj : j < k) : k - (j + 1) < k - j := by omega
set_option maxRecDepth 10000 in
theorem shape_any {w : World} (m : Int) {v : Value} {l : List Int} (hv : Nl w v l) : Calls Try.prog 7 #[.int .i64 m, v] w fun e w' => ∃ u, e = .returned (.tuple #[.agg (shC (kindS m l) u (.slice none 0 0)), .int .i64 (errS m l)]) ∧ w'.ownsRow w.heap.size 2 1 u (valS m l).length (numC (valS m l)) ∧ Below w.heap.size w w' := by
  have HC : Hid (∀ w : World, Calls Try.prog 14 #[.int .i64 m] w fun e w' => e = .returned (.bool (decide (0 ≤ m) && decide (m ≤ 16))) ∧ w' = w) := fun w => cap_any w m
  have HZ : Hid (∀ w : World, Calls Try.prog 16 #[.int .i64 m] w fun e w' => e = .returned (.int .i64 (sizeV m)) ∧ w' = w) := fun w => size_any w m
  have HF : Hid (∀ w : World, Calls Try.prog 17 #[.int .i64 (nth l 0), .int .i64 m] w fun e w' => e = .returned (.bool (firS (nth l 0) m)) ∧ w' = w) := fun w => isfirst_any w _ m
  have HN : Hid (∀ w' : World, Below w.heap.size w w' → Nl w' v l) := fun w' hb => hv.later hb (Nat.le_refl _)
  obtain ⟨a, cap, rfl⟩ := nl_slice hv
  obtain ⟨_, _, hc⟩ := nl_cells hv
  have HCC : Hid (∀ i, i < l.length → ∃ x, a = some x ∧ x.block < w.heap.size ∧ w.cell? (x.add i) = some (.int .i64 (nth l i))) := hc
  unfold kindS errS valS
  cases hq : okS m l with
  | false =>
    simp only [Bool.false_eq_true, if_false]
    unfold okS at hq
    generalize (decide (0 ≤ m) && decide (m ≤ 16)) = q1 at *
    clear hv HN hc HCC HF
    cases q1
    · clear hq
      go_enter Try.func7, Try.ntmps7
      go_wp2_with fail
      refine (HC.out _).mono ?_
      rintro e w1 ⟨rfl, rfl⟩
      go_wp2_with fail
      exact ret_sh rfl rfl (heap_alloc_new _ _) rfl rfl ⟨_, rfl, World.ownsRow_nil _ _ _ _, below_a1 _ _⟩
    · have hq2 : ((l.length : Int) == sizeV m) = false := by simpa using hq
      clear hq
      generalize sizeV m = z at *
      go_enter Try.func7, Try.ntmps7
      go_wp2_with fail
      refine (HC.out _).mono ?_
      rintro e w1 ⟨rfl, rfl⟩
      go_wp2_with fail
      refine (HZ.out _).mono ?_
      rintro e w1 ⟨rfl, rfl⟩
      go_wp2_with fail
      exact ret_sh rfl rfl (heap_alloc_new _ _) rfl rfl ⟨_, rfl, World.ownsRow_nil _ _ _ _, below_a1 _ _⟩
  | true =>
    simp only [if_true]
    obtain ⟨hlen, hm1, hm2⟩ := okS_len hq
    have hsz : sizeV m = (l.length : Int) := by unfold sizeV; rw [if_pos ⟨hm1, hm2⟩]; omega
    have e1 : (decide (0 ≤ m) && decide (m ≤ 16)) = true := by simp [hm1, hm2]
    rw [e1] at HC
    rw [hsz] at HZ
    obtain ⟨x, rfl, hxb, x0⟩ := hc 0 (by omega)
    obtain ⟨x', hx', _, x1⟩ := hc 1 (by omega)
    injection hx' with hx'
    subst hx'
    rw [add_zero'] at x0
    rw [add_pos' _ _ (by decide)] at x1
    have hn0 : 0 < l.length := by omega
    have hn1 : 1 < l.length := by omega
    have HLN : Hid ((l.length : Int) = m + 2 ∧ 0 ≤ m ∧ m ≤ 16) := ⟨hlen, hm1, hm2⟩
    clear hv hq e1 hc hsz hlen hm1 hm2
    obtain ⟨K, hK⟩ : ∃ K, (if rgS m l = true then (2 : Int) else 0) = K := ⟨_, rfl⟩
    obtain ⟨V, hV⟩ : ∃ V, (if rgS m l = true then rowS m l else []) = V := ⟨_, rfl⟩
    obtain ⟨E, hE⟩ : ∃ E, (if rgS m l = true then (0 : Int) else 12) = E := ⟨_, rfl⟩
    rw [hK, hV, hE]
    have HKV : Hid ((if rgS m l = true then (2 : Int) else 0) = K ∧ (if rgS m l = true then rowS m l else []) = V ∧ (if rgS m l = true then (0 : Int) else 12) = E) := ⟨hK, hV, hE⟩
    clear hK hV hE
    go_enter Try.func7, Try.ntmps7
    go_wp2_with fail
    refine (HC.out _).mono ?_
    rintro e w1 ⟨rfl, rfl⟩
    go_wp2_with fail
    refine (HZ.out _).mono ?_
    rintro e w1 ⟨rfl, rfl⟩
    go_wp2_with fail
    go_quiet (fail)
    obtain ⟨w2, hw2⟩ : ∃ w2, w2 = (w.alloc (.cells #[.int .i64 0, .slice none 0 0, .slice none 0 0] 34)).drewN nq := ⟨_, rfl⟩
    have HB2 : Hid (Below w.heap.size w w2 ∧ w2.heap[w.heap.size]? = some (.cells #[.int .i64 0, .slice none 0 0, .slice none 0 0] 34 (0, 0))) := by
      rw [hw2]
      exact ⟨below_drawn (below_a1 _ _) _, heap_alloc_new _ _⟩
    rw [← hw2]
    have b0 : w2.cell? ⟨w.heap.size, 0, none⟩ = some (.int .i64 0) := by rw [cell_at HB2.out.2]; rfl
    have b1 : w2.cell? ⟨w.heap.size, 1, none⟩ = some (.slice none 0 0) := by rw [cell_at HB2.out.2]; rfl
    have b2 : w2.cell? ⟨w.heap.size, 2, none⟩ = some (.slice none 0 0) := by rw [cell_at HB2.out.2]; rfl
    have f0 : w2.frozen? ⟨w.heap.size, 0, none⟩ = false := frozen_at HB2.out.2 0
    have f1 : w2.frozen? ⟨w.heap.size, 1, none⟩ = false := frozen_at HB2.out.2 1
    have f2 : w2.frozen? ⟨w.heap.size, 2, none⟩ = false := frozen_at HB2.out.2 2
    have hlt2 := heap_lt HB2.out.2
    clear hw2 x0 x1
    cases hr : rgS m l with
    | false =>
      have HE : Hid (K = 0 ∧ V = [] ∧ E = 12) := by have := HKV.out; rw [hr] at this; exact ⟨this.1.symm, this.2.1.symm, this.2.2.symm⟩
      unfold rgS at hr
      generalize nth l 0 = f at *
      generalize nth l 1 = le at *
      generalize l.length = n at *
      by_cases h1 : le < 0
      · have d1 : decide (le < 0) = true := by simpa using h1
        clear hr h1 HCC HN HKV HC HZ
        go_wp2_with fail
        obtain ⟨g1, g2⟩ := laid3 HB2.out.1 HB2.out.2 rfl (.int .i64 0) (.slice none 0 0) (.slice none 0 0)
        exact ret_sh rfl rfl g1 rfl rfl ⟨_, by rw [HE.out.1, HE.out.2.2]; rfl, by rw [HE.out.2.1]; exact World.ownsRow_nil _ _ _ _, g2⟩
      · have d1 : decide (le < 0) = false := by simpa using h1
        by_cases h2 : m < le
        · have d2 : decide (m < le) = true := by simpa using h2
          clear hr h1 h2 HCC HN HKV HC HZ
          go_wp2_with fail
          obtain ⟨g1, g2⟩ := laid3 HB2.out.1 HB2.out.2 rfl (.int .i64 0) (.slice none 0 0) (.slice none 0 0)
          exact ret_sh rfl rfl g1 rfl rfl ⟨_, by rw [HE.out.1, HE.out.2.2]; rfl, by rw [HE.out.2.1]; exact World.ownsRow_nil _ _ _ _, g2⟩
        · have d2 : decide (m < le) = false := by simpa using h2
          have hf : firS f m = false := by
            have e1 : decide (0 ≤ le) = true := by simp; omega
            have e2 : decide (le ≤ m) = true := by simp; omega
            rw [e1, e2] at hr
            simpa using hr
          rw [hf] at HF
          clear hr h1 h2 hf HCC HN HKV HC HZ
          go_wp2_with fail
          refine (HF.out _).mono ?_
          rintro e w1 ⟨rfl, rfl⟩
          go_wp2_with fail
          obtain ⟨g1, g2⟩ := laid3 HB2.out.1 HB2.out.2 rfl (.int .i64 0) (.slice none 0 0) (.slice none 0 0)
          exact ret_sh rfl rfl g1 rfl rfl ⟨_, by rw [HE.out.1, HE.out.2.2]; rfl, by rw [HE.out.2.1]; exact World.ownsRow_nil _ _ _ _, g2⟩
    | true =>
      have HE : Hid (K = 2 ∧ V = rowS m l ∧ E = 0) := by have := HKV.out; rw [hr] at this; exact ⟨this.1.symm, this.2.1.symm, this.2.2.symm⟩
      clear HKV
      simp only [rgS, Bool.and_eq_true, decide_eq_true_eq] at hr
      obtain ⟨⟨h1, h2⟩, h3⟩ := hr
      rw [h3] at HF
      obtain ⟨k, hk⟩ : ∃ k : Nat, nth l 1 = (k : Int) := ⟨(nth l 1).toNat, by omega⟩
      have HRL : Hid ((rowS m l).length = k ∧ k ≤ 16 ∧ (k : Int) ≤ m) := ⟨by rw [row_len, hk]; simp, by have := HLN.out; omega, by omega⟩
      have d1 : decide ((k : Int) < 0) = false := by simp
      have d2 : decide (m < (k : Int)) = false := by simp; omega
      rw [hk]
      clear h1 h2 h3
      obtain ⟨w3, hm3, ho3, hb3, hlt3⟩ := make_nums w2 k (by have := HRL.out; omega)
      obtain ⟨f, hfe⟩ : ∃ f, nth l 0 = f := ⟨_, rfl⟩
      have HFE : Hid (nth l 0 = f) := hfe
      rw [hfe] at HF ⊢
      clear hfe
      go_wp2_with fail
      refine (HF.out _).mono ?_
      rintro e w1 ⟨rfl, hw1⟩
      obtain rfl : w2 = w1 := hw1.symm
      have HFM : Hid (FilM w w3 w2.heap.size k 0 (rowS m l)) := ⟨below_then HB2.out.1 hb3, by rw [hb3.block _ hlt2]; exact HB2.out.2, by rw [fil_first]; exact own_base ho3 HB2.out.1.size⟩
      have HCL : Hid (∀ (j : Nat), j < k → ∃ q : Nat, 2 + behV f (j : Int) m = (q : Int) ∧ q < l.length ∧ nth (rowS m l) j = nth l q ∧ (∀ w : World, Calls Try.prog 18 #[.int .i64 f, .int .i64 (j : Int), .int .i64 m] w fun e w' => e = .returned (.int .i64 (q : Int)) ∧ Below w.heap.size w w') ∧ ∀ w', Below w.heap.size w w' → w'.cell? (x.add q) = some (.int .i64 (nth l q))) := fun j hj => by
        have hm0 : 0 < m := by have := HRL.out; omega
        obtain ⟨hz1, hz2⟩ := beh_lt (f := f) (k := (j : Int)) hm0
        have hq1 : (2 + (behV f (j : Int) m).toNat : Nat) < l.length := by have := HLN.out; omega
        have e1 : 2 + behV f (j : Int) m = ((2 + (behV f (j : Int) m).toNat : Nat) : Int) := by omega
        refine ⟨2 + (behV f (j : Int) m).toNat, e1, hq1, ?_, fun w => ?_, fun w' hb => ?_⟩
        · rw [row_at m l j (by rw [hk]; simpa using hj), HFE.out]
        · rw [← e1]
          exact cell_any w f _ m ⟨hm0, HLN.out.2.2⟩
        · obtain ⟨x', hx', hxb', hcc⟩ := HCC.out _ hq1
          injection hx' with hx'
          subst hx'
          exact cell_later hb (by rw [add_block]; exact hxb') hcc
      clear b0 b1 b2 f0 f1 f2 ho3 hb3 HB2 hlt2 hk HFE HCC HF HC HZ
      go_wp2_with fail
      generalize hg : w2.heap.size = g at *
      clear hm3 hlt3
      go_loopg [45] k (fun gh iv wr => ∃ j : Nat, gh = k - j ∧ j ≤ k ∧ iv = .int .i64 (j : Int) ∧ FilM w wr g k j (rowS m l))
      case atStart => exact ⟨0, by omega, by omega, rfl, HFM.out⟩
      case round =>
        obtain ⟨j, rfl, hj, rfl, hfm⟩ := hrel
        have HFW : Hid (FilM w wr g k j (rowS m l)) := hfm
        clear hfm HFM
        by_cases hlt : j < k
        · have hd : decide ((j : Int) < (k : Int)) = true := by simp; omega
          obtain ⟨q, hq1, hq2, hq3, HCQ0, hq4⟩ := HCL.out j hlt
          have HCQ := HCQ0
          have HIW : Hid (wrap64 ((j : Int) + 1) = ((j + 1 : Nat) : Int)) := fil_wrap HRL.out.2.1 hlt
          have HQ4 : Hid (∀ w', Below w.heap.size w w' → w'.cell? (x.add q) = some (.int .i64 (nth l q))) := hq4
          have HQ3 : Hid (nth (rowS m l) j = nth l q) := hq3
          clear hq4 hq3 HCQ0 hq1
          go_wp2_with fail
          refine (HCQ _).mono ?_
          rintro e w4 ⟨rfl, hb4⟩
          have HF4 : Hid (FilM w w4 g k j (rowS m l)) := HFW.out.on hb4
          have z0 := HQ4.out w4 HF4.out.bel
          have HF5 : Hid (FilM w (w4.setCell ⟨g, j, none⟩ (.int .i64 (nth l q))) g k (j + 1) (rowS m l)) := by have := HF4.out.set HRL.out.1 hlt; rw [HQ3.out] at this; exact this
          have y1 := (own_some HF4.out.row j (by omega)).2
          have y0 := own_cells HF4.out.row j _ (numC_get (filR (rowS m l) k j) j (by rw [fil_len _ _ _ HRL.out.1 hj]; exact hlt))
          generalize nth (filR (rowS m l) k j) j = c0 at *
          have ea := add_own g j
          generalize nth l q = c at *
          clear hb4 HFW HCQ HQ4 HQ3
          go_wp2_with fail
          go_roundg (k - (j + 1))
          case rel => exact ⟨j + 1, rfl, hlt, by first | rw [HIW.out] | go_num, HF5.out⟩
          case measure => exact fil_less hlt
        · have hd : decide ((j : Int) < (k : Int)) = false := by simp; omega
          obtain rfl : k = j := by omega
          have HO : Hid (wr.ownsRow w.heap.size 2 1 (.slice (some ⟨g, 0, none⟩) k k) k (numC (rowS m l))) := by have := HFW.out.row; rw [fil_last _ _ HRL.out.1] at this; exact this
          have hst := store_sh (P := Try.prog) HFW.out.res rfl (shC_size 2 (.slice (some ⟨g, 0, none⟩) k k) (.slice none 0 0)) (shC_one 2 _ HO.out)
          have hpk : #[.int .i64 2, .slice (some ⟨g, 0, none⟩) k k, .slice none 0 0] = shC 2 (.slice (some ⟨g, 0, none⟩) k k) (.slice none 0 0) := rfl
          have HKS : Hid ((shC 2 (.slice (some ⟨g, 0, none⟩) k k) (.slice none 0 0)).size = 3) := rfl
          generalize hcs : shC 2 (.slice (some ⟨g, 0, none⟩) k k) (.slice none 0 0) = cs at *
          have HCS : Hid (shC 2 (.slice (some ⟨g, 0, none⟩) k k) (.slice none 0 0) = cs) := hcs
          clear hcs HCL
          go_wp2_with fail
          refine ret_sh rfl rfl (setRow_heap _ _ _ _ _ _ HFW.out.res) HKS.out rfl ⟨_, by rw [HE.out.1, HE.out.2.2, HCS.out]; rfl, ?_, below_row HFW.out.bel _ (Nat.le_refl _) _⟩
          rw [HE.out.2.1, HRL.out.1]
          exact own_keep HO.out (Keep.row wr w.heap.size cs) (fun b hb => by simp; exact fun e => own_ne HO.out HFW.out.res (by decide) (by rw [hb, e]))
end Go.Proofs.Ytkikogalaejnlab.Qu
