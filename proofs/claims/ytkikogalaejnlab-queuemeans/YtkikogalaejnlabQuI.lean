/- What the cells of a queue say: the document's Shape. -/
import Derived.Test.YtkikogalaejnlabQuH
import Derived.Test.YtkikogalaejnlabQuR
namespace Go.Proofs.Ytkikogalaejnlab.Qu
open Go.ChangeShapes Go.WideShapes Go.ChangeAt Go.RowKit
attribute [local go_sem ↓] Go.wp_at_zero Go.wp_at_succ

/-- The document's shape under way: its block and the list in it. -/
def ShM (w0 wr : World) (B : Nat) (k : Int) (u : Value) (l : List Int) : Prop := Below w0.heap.size w0 wr ∧ wr.heap[B]? = some (.cells (shC k u (.slice none 0 0)) 34 (0, 0)) ∧ wr.ownsRow w0.heap.size 2 1 u l.length (numC l) ∧ w0.heap.size ≤ B
theorem ShM.on {w0 wr w' : World} {B : Nat} {k : Int} {u : Value} {l : List Int} (h : ShM w0 wr B k u l) (hb : Below wr.heap.size wr w') : ShM w0 w' B k u l :=
  ⟨below_then h.1 hb, by rw [hb.block _ (heap_lt h.2.1)]; exact h.2.1, own_keep h.2.2.1 (Keep.of_below hb []) (by simp), h.2.2.2⟩
theorem ShM.push {w0 wr w1 : World} {B g cap j : Nat} {o : Obj} {k : Int} {u : Value} {l : List Int} (h : ShM w0 wr B k u (l.take j)) (hj : j < l.length) (hown : w1.ownsRow w0.heap.size 2 1 (.slice (some ⟨g, 0, none⟩) (j + 1) cap) (j + 1) (numC (l.take j) ++ [.int .i64 (nth l j)])) (hg : (wr.alloc o).grownBy w1 u.ownBlock) :
    ShM w0 (w1.setCell ⟨B, 1, none⟩ (.slice (some ⟨g, 0, none⟩) (j + 1) cap)) B k (.slice (some ⟨g, 0, none⟩) (j + 1) cap) (l.take (j + 1)) := by
  obtain ⟨h1, h2, h3, h4⟩ := h
  have hB := heap_lt h2
  have hne := own_ne h3 h2 (by decide)
  have hr1 : w1.heap[B]? = some (.cells (shC k u (.slice none 0 0)) 34 (0, 0)) := by
    rw [hg.block _ (by simp; omega) (fun e => hne e.symm), Below.heap_alloc _ _ _ hB]
    exact h2
  have hgB : g ≠ B := fun e => by
    have := own_ne hown hr1 (by decide)
    exact this (by rw [e]; rfl)
  have hb1 : Below w0.heap.size w0 w1 := (below_alloc h1 o).grown hg (by have := h1.size; simp; omega) (fun b hb => (own_block h3 b hb).1)
  have hk : Keep [B] w1 (w1.setCell ⟨B, 1, none⟩ (.slice (some ⟨g, 0, none⟩) (j + 1) cap)) := (Keep.refl _ _).setCell _ _ (Or.inl (by simp))
  have hl : (l.take (j + 1)).length = j + 1 := by rw [List.length_take]; omega
  refine ⟨hb1.trans (hk.below hb1.size (by simpa using h4)), ?_, ?_, h4⟩
  · rw [heap_set hr1]
    rfl
  · rw [hl, num_snoc l j hj]
    exact own_keep hown hk (fun b hb => by simp [Value.ownBlock] at hb; subst hb; simpa using hgB)
theorem ShM.res {w0 wr w1 : World} {B C : Nat} {o : Obj} {k : Int} {u x : Value} {l : List Int} {cs : Array Value} (h : ShM w0 wr B k u l) (hC : wr.heap[C]? = some (.cells cs 34 (0, 0))) (hne : C ≠ B) (hg : (wr.alloc o).grownBy w1 u.ownBlock) : (w1.setCell ⟨B, 1, none⟩ x).heap[C]? = some (.cells cs 34 (0, 0)) := by
  have hlt := heap_lt hC
  rw [heap_set_other _ _ (Ne.symm hne), hg.block _ (by simp; omega) (fun e => own_ne h.2.2.1 hC (by decide) e.symm), Below.heap_alloc _ _ _ hlt]
  exact hC
set_option maxRecDepth 10000 in
set_option maxHeartbeats 1000000 in
theorem rshape_any {w : World} (m : Int) {v : Value} {l : List Int} (hv : Nl w v l) : Calls Try.prog 8 #[.int .i64 m, v] w fun e w' => ∃ u, e = .returned (.tuple #[.agg (shC (kindS m l) u (.slice none 0 0)), .int .i64 (errS m l)]) ∧ w'.ownsRow w.heap.size 2 1 u (valS m l).length (numC (valS m l)) ∧ Below w.heap.size w w' := by
  have HC : Hid (∀ w : World, Calls Try.prog 19 #[.int .i64 m] w fun e w' => e = .returned (.bool (decide (0 ≤ m) && decide (m ≤ 16))) ∧ w' = w) := fun w => rright_any w m
  have HZ : Hid (∀ w : World, Calls Try.prog 20 #[.int .i64 m] w fun e w' => e = .returned (.int .i64 (sizeV m)) ∧ w' = w) := fun w => rsize_any w m
  obtain ⟨i0, hi, hz0, hz1, hz2⟩ := info_parts info_i64
  obtain ⟨a, cap, rfl⟩ := nl_slice hv
  obtain ⟨_, _, hc⟩ := nl_cells hv
  have HCC : Hid (∀ i, i < l.length → ∃ x, a = some x ∧ x.block < w.heap.size ∧ w.cell? (x.add i) = some (.int .i64 (nth l i))) := hc
  unfold kindS errS valS
  cases hq : okS m l with
  | false =>
    simp only [Bool.false_eq_true, if_false]
    unfold okS at hq
    generalize (decide (0 ≤ m) && decide (m ≤ 16)) = q1 at *
    clear hv hc HCC hi hz0 hz1 hz2
    cases q1
    · clear hq
      go_enter Try.func8, Try.ntmps8
      go_wp2_with fail
      refine (HC.out _).mono ?_
      rintro e w1 ⟨rfl, rfl⟩
      go_wp2_with fail
      exact ret_sh rfl rfl (heap_alloc_new _ _) rfl rfl ⟨_, rfl, World.ownsRow_nil _ _ _ _, below_a1 _ _⟩
    · have hq2 : ((l.length : Int) == sizeV m) = false := by simpa using hq
      clear hq
      generalize sizeV m = z at *
      go_enter Try.func8, Try.ntmps8
      go_wp2_with fail
      refine (HC.out _).mono ?_
      rintro e w1 ⟨rfl, rfl⟩
      go_wp2_with fail
      refine (HZ.out _).mono ?_
      rintro e w1 ⟨rfl, rfl⟩
      go_wp2_with fail
      exact ret_sh rfl rfl (heap_alloc_new _ _) rfl rfl ⟨_, rfl, World.ownsRow_nil _ _ _ _, below_a1 _ _⟩
  | true =>
    simp only [if_true]
    obtain ⟨hlen, hm1, hm2⟩ := okS_len hq
    have hsz : sizeV m = (l.length : Int) := by unfold sizeV; rw [if_pos ⟨hm1, hm2⟩]; omega
    have e1 : (decide (0 ≤ m) && decide (m ≤ 16)) = true := by simp [hm1, hm2]
    rw [e1] at HC
    rw [hsz] at HZ
    obtain ⟨x, rfl, hxb, x0⟩ := hc 0 (by omega)
    obtain ⟨x', hx', _, x1⟩ := hc 1 (by omega)
    injection hx' with hx'
    subst hx'
    rw [add_zero'] at x0
    rw [add_pos' _ _ (by decide)] at x1
    have hn0 : 0 < l.length := by omega
    have hn1 : 1 < l.length := by omega
    have HLN : Hid ((l.length : Int) = m + 2 ∧ 0 ≤ m ∧ m ≤ 16) := ⟨hlen, hm1, hm2⟩
    clear hv hq e1 hc hsz hlen hm1 hm2
    cases hr : rgS m l with
    | false =>
      simp only [Bool.false_eq_true, if_false]
      unfold rgS at hr
      generalize nth l 0 = f at *
      generalize nth l 1 = le at *
      generalize l.length = n at *
      have fin : Hid (∀ w : World, w = w) := fun _ => rfl
      by_cases h1 : le < 0
      · have d1 : decide (le < 0) = true := by simpa using h1
        clear hr h1 HCC
        go_enter Try.func8, Try.ntmps8
        go_wp2_with fail
        refine (HC.out _).mono ?_
        rintro e w1 ⟨rfl, rfl⟩
        go_wp2_with fail
        refine (HZ.out _).mono ?_
        rintro e w1 ⟨rfl, rfl⟩
        go_wp2_with fail
        exact ret_sh rfl rfl (heap_alloc_new _ _) rfl rfl ⟨_, rfl, World.ownsRow_nil _ _ _ _, below_a1 _ _⟩
      · have d1 : decide (le < 0) = false := by simpa using h1
        by_cases h2 : m < le
        · have d2 : decide (m < le) = true := by simpa using h2
          clear hr h1 h2 HCC
          go_enter Try.func8, Try.ntmps8
          go_wp2_with fail
          refine (HC.out _).mono ?_
          rintro e w1 ⟨rfl, rfl⟩
          go_wp2_with fail
          refine (HZ.out _).mono ?_
          rintro e w1 ⟨rfl, rfl⟩
          go_wp2_with fail
          exact ret_sh rfl rfl (heap_alloc_new _ _) rfl rfl ⟨_, rfl, World.ownsRow_nil _ _ _ _, below_a1 _ _⟩
        · have d2 : decide (m < le) = false := by simpa using h2
          have hf : firS f m = false := by
            have e1 : decide (0 ≤ le) = true := by simp; omega
            have e2 : decide (le ≤ m) = true := by simp; omega
            rw [e1, e2] at hr
            simpa using hr
          have hf' : ¬ (f = 0 ∨ 0 < f ∧ f < m) := by
            intro h
            unfold firS at hf
            rcases h with h | ⟨h, h'⟩
            · simp [h] at hf
            · simp [h, h'] at hf
          by_cases h3 : f < 0
          · have d3 : decide (f < 0) = true := by simpa using h3
            clear hr h1 h2 h3 hf hf' HCC
            go_enter Try.func8, Try.ntmps8
            go_wp2_with fail
            refine (HC.out _).mono ?_
            rintro e w1 ⟨rfl, rfl⟩
            go_wp2_with fail
            refine (HZ.out _).mono ?_
            rintro e w1 ⟨rfl, rfl⟩
            go_wp2_with fail
            exact ret_sh rfl rfl (heap_alloc_new _ _) rfl rfl ⟨_, rfl, World.ownsRow_nil _ _ _ _, below_a1 _ _⟩
          · have d3 : decide (f < 0) = false := by simpa using h3
            have d4 : decide (0 < f) = true := by simp; omega
            have d5 : decide (m ≤ f) = true := by simp; omega
            clear hr h1 h2 h3 hf hf' HCC
            go_enter Try.func8, Try.ntmps8
            go_wp2_with fail
            refine (HC.out _).mono ?_
            rintro e w1 ⟨rfl, rfl⟩
            go_wp2_with fail
            refine (HZ.out _).mono ?_
            rintro e w1 ⟨rfl, rfl⟩
            go_wp2_with fail
            exact ret_sh rfl rfl (heap_alloc_new _ _) rfl rfl ⟨_, rfl, World.ownsRow_nil _ _ _ _, below_a1 _ _⟩
    | true =>
      simp only [if_true]
      simp only [rgS, Bool.and_eq_true, decide_eq_true_eq] at hr
      obtain ⟨⟨h1, h2⟩, h3⟩ := hr
      obtain ⟨k, hk⟩ : ∃ k : Nat, nth l 1 = (k : Int) := ⟨(nth l 1).toNat, by omega⟩
      have HRL : Hid ((rowS m l).length = k ∧ k ≤ 16 ∧ (k : Int) ≤ m) := ⟨by rw [row_len, hk]; simp, by have := HLN.out; omega, by omega⟩
      have hf : nth l 0 = 0 ∨ 0 < nth l 0 ∧ nth l 0 < m := by
        unfold firS at h3
        simpa using h3
      have d1 : decide ((k : Int) < 0) = false := by simp
      have d2 : decide (m < (k : Int)) = false := by simp; omega
      have d3 : decide (nth l 0 < 0) = false := by simp; omega
      rw [hk] at x1
      have HFE : Hid (∃ f, nth l 0 = f) := ⟨_, rfl⟩
      obtain ⟨f, hfe⟩ := HFE.out
      rw [hfe] at x0 d3 hf
      by_cases hf0 : f = 0
      · have d4 : decide (0 < f) = false := by simp; omega
        clear h1 h2 h3 hf hf0
        obtain ⟨HCL, _⟩ : Hid (∀ (j : Nat), j < k → ∃ (q : Nat) (z : Int), IntKind.i64.wrap (2 + z) = (q : Int) ∧ q < l.length ∧ nth (rowS m l) j = nth l q ∧ (∀ w : World, Calls Try.prog 21 #[.int .i64 f, .int .u64 (IntKind.u64.wrap (j : Int)), .int .i64 m] w fun e w' => e = .returned (.int .i64 z) ∧ Below w.heap.size w w') ∧ ∀ w', Below w.heap.size w w' → w'.cell? (x.add q) = some (.int .i64 (nth l q))) ∧ True := ⟨fun j hj => by
          have hm0 : 0 < m := by have := HRL.out; omega
          obtain ⟨hz1, hz2⟩ := beh_lt (f := f) (k := (j : Int)) hm0
          have hq1 : (2 + (behV f (j : Int) m).toNat : Nat) < l.length := by have := HLN.out; omega
          have e1 : 2 + behV f (j : Int) m = ((2 + (behV f (j : Int) m).toNat : Nat) : Int) := by omega
          refine ⟨2 + (behV f (j : Int) m).toNat, behV f (j : Int) m, ?_, hq1, ?_, fun w => ?_, fun w' hb => ?_⟩
          · rw [← e1, IntKind.wrap_i64]
            have := HLN.out
            omega
          · rw [row_at m l j (by rw [hk]; simpa using hj), hfe]
          · rw [uw_wrap]
            exact rbeh_any w f _ m ⟨hm0, HLN.out.2.2⟩
          · obtain ⟨x', hx', hxb', hcc⟩ := HCC.out _ hq1
            injection hx' with hx'
            subst hx'
            exact cell_later hb (by rw [add_block]; exact hxb') hcc, trivial⟩
        clear hk hfe HCC
        go_enter Try.func8, Try.ntmps8
        go_wp2_with fail
        refine (HC.out _).mono ?_
        rintro e w1 ⟨rfl, rfl⟩
        go_wp2_with fail
        refine (HZ.out _).mono ?_
        rintro e w1 ⟨rfl, hw1⟩
        obtain rfl : w.alloc (.cells #[.int .i64 0, .slice none 0 0, .slice none 0 0] 34) = w1 := hw1.symm
        go_wp2_with fail
        go_loopg [10] k (fun gh iv wr => ∃ (j : Nat) (u : Value), gh = k - j ∧ j ≤ k ∧ iv = .int .i64 (j : Int) ∧ ShM w wr (w.heap.size + 1) 2 u ((rowS m l).take j) ∧ wr.heap[w.heap.size]? = some (.cells #[.int .i64 0, .slice none 0 0, .slice none 0 0] 34 (0, 0)))
        case atStart => exact ⟨0, .slice none 0 0, by omega, by omega, rfl, ⟨below_then (below_a1 _ _) (below_a1 _ _), heap_alloc2_new _ _ _, World.ownsRow_nil _ _ _ _, by omega⟩, heap_alloc2_old _ _ _⟩
        case round =>
          obtain ⟨j, u, rfl, hj, rfl, hsm, hres⟩ := hrel
          have HSM : Hid (ShM w wr (w.heap.size + 1) 2 u ((rowS m l).take j)) := hsm
          have HRES : Hid (wr.heap[w.heap.size]? = some (.cells #[.int .i64 0, .slice none 0 0, .slice none 0 0] 34 (0, 0))) := hres
          have htl : ((rowS m l).take j).length = j := by rw [List.length_take]; have := HRL.out; omega
          have HOW : Hid (wr.ownsRow w.heap.size 2 1 u j (numC ((rowS m l).take j))) := by have := hsm.2.2.1; rw [htl] at this; exact this
          by_cases hlt : j < k
          · have hd : decide ((j : Int) < (k : Int)) = true := by simp; omega
            obtain ⟨q, z, hq1, hq2, hq3, hq5, hq4⟩ := HCL.out j hlt
            have hB : w.heap.size + 1 < wr.heap.size := heap_lt hsm.2.1
            have hc1 : wr.cell? ⟨w.heap.size + 1, 1, none⟩ = some u := by rw [cell_at hsm.2.1]; rfl
            obtain ⟨ua, uc, rfl⟩ := own_slice HOW.out
            have HIW : Hid (wrap64 ((j : Int) + 1) = ((j + 1 : Nat) : Int)) := fil_wrap HRL.out.2.1 hlt
            have HQ : Hid ((∀ w', Below w.heap.size w w' → w'.cell? (x.add q) = some (.int .i64 (nth l q))) ∧ nth (rowS m l) j = nth l q) := ⟨hq4, hq3⟩
            have HCQ : Hid (∀ w : World, Calls Try.prog 21 #[.int .i64 f, .int .u64 (IntKind.u64.wrap (j : Int)), .int .i64 m] w fun e w' => e = .returned (.int .i64 z) ∧ Below w.heap.size w w') := hq5
            have HPU : Hid (∀ (w4 : World), Below wr.heap.size wr w4 → ShM w w4 (w.heap.size + 1) 2 (.slice ua j uc) ((rowS m l).take j) ∧ w4.heap[w.heap.size]? = some (.cells #[.int .i64 0, .slice none 0 0, .slice none 0 0] 34 (0, 0)) ∧ w4.cell? ⟨w.heap.size + 1, 1, none⟩ = some (.slice ua j uc) ∧ w4.frozen? ⟨w.heap.size + 1, 1, none⟩ = false ∧ w4.cell? (x.add q) = some (.int .i64 (nth l q)) ∧ w.heap.size + 1 < w4.heap.size ∧ x.block < w4.heap.size ∧ w.heap.size ≤ w4.heap.size ∧ w4.ownsRow w.heap.size 2 1 (.slice ua j uc) j (numC ((rowS m l).take j))) := fun w4 hb => by
              have h1 := HSM.out.on hb
              have h2 := h1.2.2.1
              rw [htl] at h2
              exact ⟨h1, by rw [hb.block _ (heap_lt HRES.out)]; exact HRES.out, by rw [cell_at h1.2.1]; rfl, frozen_at h1.2.1 1, hq4 w4 h1.1, heap_lt h1.2.1, Nat.lt_of_lt_of_le hxb h1.1.size, h1.1.size, h2⟩
            have hk16 : k ≤ 16 := HRL.out.2.1
            have hne : (Value.slice ua j uc).ownBlock ≠ some (w.heap.size + 1) := own_ne hsm.2.2.1 hsm.2.1 (by decide)
            clear hsm hres htl hq3 hq4 hq5
            go_wp2_with fail
            go_region_law
              ((first
              | (refine step_lies_wide _ (by rfl) _ _ _ (by rfl) w.heap.size 2 i0 _ 1 8 Try.underlying30 hi hz0 hz1 hz2 rfl (by omega) (.slice ua j uc) j (numC ((rowS m l).take j)) (by rfl) (p9.alloc _)
                  ⟨w4.heap.size, 0, none⟩ 1 1 [.int .i64 (nth l q)] (by rfl) (by rfl) (World.news_of_block (cs := #[.int .i64 (nth l q)]) (t := 2) (fr := (0, 0)) (heap_alloc_new w4 _)) (by simp [Value.oneCell'])
                  (by omega) (by unfold maxLen; omega) (by omega) (by simp; omega) (w4.heap.size + 1) (by simp) ?_; intro gg cap' w1 hown1 hgrow hat hlt1; have hs1 : w1.cell? ⟨w.heap.size + 1, 1, none⟩ = some (.slice ua j uc) := (by rw [hgrow.cell_far _ (by simp; omega) (Ne.symm hne)]; simp [p6, World.cell?_alloc_past, p3]); have hs2 : w1.frozen? ⟨w.heap.size + 1, 1, none⟩ = false := (by rw [hgrow.frozen_far _ (by simp; omega) (Ne.symm hne), World.frozen?_alloc_past _ _ _ p6]; exact p4))
              | (go_simp; go_at_call 21; refine (HCQ.out _).mono ?_; rintro e w4 ⟨rfl, hb4⟩; obtain ⟨p1, p2, p3, p4, p5, p6, p7, p8, p9⟩ := HPU.out w4 (below_then (bl_drew1 _) hb4))))
            all_goals
              have HS : Hid (ShM w (w1.setCell ⟨w.heap.size + 1, 1, none⟩ (.slice (some ⟨gg, 0, none⟩) (j + 1) cap')) (w.heap.size + 1) 2 (.slice (some ⟨gg, 0, none⟩) (j + 1) cap') ((rowS m l).take (j + 1))) := p1.push (by rw [HRL.out.1]; exact hlt) (by rw [HQ.out.2]; exact hown1) hgrow
              have HS2 : Hid ((w1.setCell ⟨w.heap.size + 1, 1, none⟩ (.slice (some ⟨gg, 0, none⟩) (j + 1) cap')).heap[w.heap.size]? = some (.cells #[.int .i64 0, .slice none 0 0, .slice none 0 0] 34 (0, 0))) := p1.res p2 (by omega) hgrow
              clear hown1 hgrow hat hs1 hs2 p1 p2 p3 p4 p5 p6 p7 p8 p9 hb4 hlt1 HPU HCQ HQ
              go_wp2_with fail
              go_roundg (k - (j + 1))
              case rel => exact ⟨j + 1, _, rfl, hlt, by first | rw [HIW.out] | go_num, HS.out, HS2.out⟩
              case measure => exact fil_less hlt
          · have hd : decide ((j : Int) < (k : Int)) = false := by simp; omega
            obtain rfl : k = j := by omega
            have hrl : (rowS m l).take k = rowS m l := by rw [← HRL.out.1, List.take_length]
            rw [hrl] at HSM HOW
            have b0 : wr.cell? ⟨w.heap.size + 1, 0, none⟩ = some (.int .i64 2) := by rw [cell_at hsm.2.1]; rfl
            have b1 : wr.cell? ⟨w.heap.size + 1, 1, none⟩ = some u := by rw [cell_at hsm.2.1]; rfl
            have b2 : wr.cell? ⟨w.heap.size + 1, 2, none⟩ = some (.slice none 0 0) := by rw [cell_at hsm.2.1]; rfl
            have hst := store_sh (P := Try.prog) hres rfl (shC_size 2 u (.slice none 0 0)) (shC_one 2 u HOW.out)
            have HKS : Hid ((shC 2 u (.slice none 0 0)).size = 3) := rfl
            obtain ⟨ua, uc, rfl⟩ := own_slice HOW.out
            have hpk : #[.int .i64 2, .slice ua k uc, .slice none 0 0] = shC 2 (.slice ua k uc) (.slice none 0 0) := rfl
            have hz3 : (shC 2 (.slice ua k uc) (.slice none 0 0)).size = 3 := rfl
            generalize hcs : shC 2 (.slice ua k uc) (.slice none 0 0) = cs at hst hpk hz3 HKS
            have HCS : Hid (shC 2 (.slice ua k uc) (.slice none 0 0) = cs) := hcs
            clear hsm hres hcs htl HCL hrl
            go_wp2_with fail
            refine ret_sh rfl rfl (setRow_heap _ _ _ _ _ _ HRES.out) HKS.out rfl ⟨_, by rw [HCS.out]; rfl, ?_, below_row HSM.out.1 _ (Nat.le_refl _) _⟩
            rw [HRL.out.1]
            exact own_keep HOW.out (Keep.row wr w.heap.size cs) (fun b hb => by simp; exact fun e => own_ne HOW.out HRES.out (by decide) (by rw [hb, e]))
      · have d4 : decide (0 < f) = true := by simp; omega
        have d5 : decide (m ≤ f) = false := by simp; omega
        clear h1 h2 h3 hf hf0
        obtain ⟨HCL, _⟩ : Hid (∀ (j : Nat), j < k → ∃ (q : Nat) (z : Int), IntKind.i64.wrap (2 + z) = (q : Int) ∧ q < l.length ∧ nth (rowS m l) j = nth l q ∧ (∀ w : World, Calls Try.prog 21 #[.int .i64 f, .int .u64 (IntKind.u64.wrap (j : Int)), .int .i64 m] w fun e w' => e = .returned (.int .i64 z) ∧ Below w.heap.size w w') ∧ ∀ w', Below w.heap.size w w' → w'.cell? (x.add q) = some (.int .i64 (nth l q))) ∧ True := ⟨fun j hj => by
          have hm0 : 0 < m := by have := HRL.out; omega
          obtain ⟨hz1, hz2⟩ := beh_lt (f := f) (k := (j : Int)) hm0
          have hq1 : (2 + (behV f (j : Int) m).toNat : Nat) < l.length := by have := HLN.out; omega
          have e1 : 2 + behV f (j : Int) m = ((2 + (behV f (j : Int) m).toNat : Nat) : Int) := by omega
          refine ⟨2 + (behV f (j : Int) m).toNat, behV f (j : Int) m, ?_, hq1, ?_, fun w => ?_, fun w' hb => ?_⟩
          · rw [← e1, IntKind.wrap_i64]
            have := HLN.out
            omega
          · rw [row_at m l j (by rw [hk]; simpa using hj), hfe]
          · rw [uw_wrap]
            exact rbeh_any w f _ m ⟨hm0, HLN.out.2.2⟩
          · obtain ⟨x', hx', hxb', hcc⟩ := HCC.out _ hq1
            injection hx' with hx'
            subst hx'
            exact cell_later hb (by rw [add_block]; exact hxb') hcc, trivial⟩
        clear hk hfe HCC
        go_enter Try.func8, Try.ntmps8
        go_wp2_with fail
        refine (HC.out _).mono ?_
        rintro e w1 ⟨rfl, rfl⟩
        go_wp2_with fail
        refine (HZ.out _).mono ?_
        rintro e w1 ⟨rfl, hw1⟩
        obtain rfl : w.alloc (.cells #[.int .i64 0, .slice none 0 0, .slice none 0 0] 34) = w1 := hw1.symm
        go_wp2_with fail
        go_loopg [10] k (fun gh iv wr => ∃ (j : Nat) (u : Value), gh = k - j ∧ j ≤ k ∧ iv = .int .i64 (j : Int) ∧ ShM w wr (w.heap.size + 1) 2 u ((rowS m l).take j) ∧ wr.heap[w.heap.size]? = some (.cells #[.int .i64 0, .slice none 0 0, .slice none 0 0] 34 (0, 0)))
        case atStart => exact ⟨0, .slice none 0 0, by omega, by omega, rfl, ⟨below_then (below_a1 _ _) (below_a1 _ _), heap_alloc2_new _ _ _, World.ownsRow_nil _ _ _ _, by omega⟩, heap_alloc2_old _ _ _⟩
        case round =>
          obtain ⟨j, u, rfl, hj, rfl, hsm, hres⟩ := hrel
          have HSM : Hid (ShM w wr (w.heap.size + 1) 2 u ((rowS m l).take j)) := hsm
          have HRES : Hid (wr.heap[w.heap.size]? = some (.cells #[.int .i64 0, .slice none 0 0, .slice none 0 0] 34 (0, 0))) := hres
          have htl : ((rowS m l).take j).length = j := by rw [List.length_take]; have := HRL.out; omega
          have HOW : Hid (wr.ownsRow w.heap.size 2 1 u j (numC ((rowS m l).take j))) := by have := hsm.2.2.1; rw [htl] at this; exact this
          by_cases hlt : j < k
          · have hd : decide ((j : Int) < (k : Int)) = true := by simp; omega
            obtain ⟨q, z, hq1, hq2, hq3, hq5, hq4⟩ := HCL.out j hlt
            have hB : w.heap.size + 1 < wr.heap.size := heap_lt hsm.2.1
            have hc1 : wr.cell? ⟨w.heap.size + 1, 1, none⟩ = some u := by rw [cell_at hsm.2.1]; rfl
            obtain ⟨ua, uc, rfl⟩ := own_slice HOW.out
            have HIW : Hid (wrap64 ((j : Int) + 1) = ((j + 1 : Nat) : Int)) := fil_wrap HRL.out.2.1 hlt
            have HQ : Hid ((∀ w', Below w.heap.size w w' → w'.cell? (x.add q) = some (.int .i64 (nth l q))) ∧ nth (rowS m l) j = nth l q) := ⟨hq4, hq3⟩
            have HCQ : Hid (∀ w : World, Calls Try.prog 21 #[.int .i64 f, .int .u64 (IntKind.u64.wrap (j : Int)), .int .i64 m] w fun e w' => e = .returned (.int .i64 z) ∧ Below w.heap.size w w') := hq5
            have HPU : Hid (∀ (w4 : World), Below wr.heap.size wr w4 → ShM w w4 (w.heap.size + 1) 2 (.slice ua j uc) ((rowS m l).take j) ∧ w4.heap[w.heap.size]? = some (.cells #[.int .i64 0, .slice none 0 0, .slice none 0 0] 34 (0, 0)) ∧ w4.cell? ⟨w.heap.size + 1, 1, none⟩ = some (.slice ua j uc) ∧ w4.frozen? ⟨w.heap.size + 1, 1, none⟩ = false ∧ w4.cell? (x.add q) = some (.int .i64 (nth l q)) ∧ w.heap.size + 1 < w4.heap.size ∧ x.block < w4.heap.size ∧ w.heap.size ≤ w4.heap.size ∧ w4.ownsRow w.heap.size 2 1 (.slice ua j uc) j (numC ((rowS m l).take j))) := fun w4 hb => by
              have h1 := HSM.out.on hb
              have h2 := h1.2.2.1
              rw [htl] at h2
              exact ⟨h1, by rw [hb.block _ (heap_lt HRES.out)]; exact HRES.out, by rw [cell_at h1.2.1]; rfl, frozen_at h1.2.1 1, hq4 w4 h1.1, heap_lt h1.2.1, Nat.lt_of_lt_of_le hxb h1.1.size, h1.1.size, h2⟩
            have hk16 : k ≤ 16 := HRL.out.2.1
            have hne : (Value.slice ua j uc).ownBlock ≠ some (w.heap.size + 1) := own_ne hsm.2.2.1 hsm.2.1 (by decide)
            clear hsm hres htl hq3 hq4 hq5
            go_wp2_with fail
            go_region_law
              ((first
              | (refine step_lies_wide _ (by rfl) _ _ _ (by rfl) w.heap.size 2 i0 _ 1 8 Try.underlying30 hi hz0 hz1 hz2 rfl (by omega) (.slice ua j uc) j (numC ((rowS m l).take j)) (by rfl) (p9.alloc _)
                  ⟨w4.heap.size, 0, none⟩ 1 1 [.int .i64 (nth l q)] (by rfl) (by rfl) (World.news_of_block (cs := #[.int .i64 (nth l q)]) (t := 2) (fr := (0, 0)) (heap_alloc_new w4 _)) (by simp [Value.oneCell'])
                  (by omega) (by unfold maxLen; omega) (by omega) (by simp; omega) (w4.heap.size + 1) (by simp) ?_; intro gg cap' w1 hown1 hgrow hat hlt1; have hs1 : w1.cell? ⟨w.heap.size + 1, 1, none⟩ = some (.slice ua j uc) := (by rw [hgrow.cell_far _ (by simp; omega) (Ne.symm hne)]; simp [p6, World.cell?_alloc_past, p3]); have hs2 : w1.frozen? ⟨w.heap.size + 1, 1, none⟩ = false := (by rw [hgrow.frozen_far _ (by simp; omega) (Ne.symm hne), World.frozen?_alloc_past _ _ _ p6]; exact p4))
              | (go_simp; go_at_call 21; refine (HCQ.out _).mono ?_; rintro e w4 ⟨rfl, hb4⟩; obtain ⟨p1, p2, p3, p4, p5, p6, p7, p8, p9⟩ := HPU.out w4 (below_then (bl_drew1 _) hb4))))
            all_goals
              have HS : Hid (ShM w (w1.setCell ⟨w.heap.size + 1, 1, none⟩ (.slice (some ⟨gg, 0, none⟩) (j + 1) cap')) (w.heap.size + 1) 2 (.slice (some ⟨gg, 0, none⟩) (j + 1) cap') ((rowS m l).take (j + 1))) := p1.push (by rw [HRL.out.1]; exact hlt) (by rw [HQ.out.2]; exact hown1) hgrow
              have HS2 : Hid ((w1.setCell ⟨w.heap.size + 1, 1, none⟩ (.slice (some ⟨gg, 0, none⟩) (j + 1) cap')).heap[w.heap.size]? = some (.cells #[.int .i64 0, .slice none 0 0, .slice none 0 0] 34 (0, 0))) := p1.res p2 (by omega) hgrow
              clear hown1 hgrow hat hs1 hs2 p1 p2 p3 p4 p5 p6 p7 p8 p9 hb4 hlt1 HPU HCQ HQ
              go_wp2_with fail
              go_roundg (k - (j + 1))
              case rel => exact ⟨j + 1, _, rfl, hlt, by first | rw [HIW.out] | go_num, HS.out, HS2.out⟩
              case measure => exact fil_less hlt
          · have hd : decide ((j : Int) < (k : Int)) = false := by simp; omega
            obtain rfl : k = j := by omega
            have hrl : (rowS m l).take k = rowS m l := by rw [← HRL.out.1, List.take_length]
            rw [hrl] at HSM HOW
            have b0 : wr.cell? ⟨w.heap.size + 1, 0, none⟩ = some (.int .i64 2) := by rw [cell_at hsm.2.1]; rfl
            have b1 : wr.cell? ⟨w.heap.size + 1, 1, none⟩ = some u := by rw [cell_at hsm.2.1]; rfl
            have b2 : wr.cell? ⟨w.heap.size + 1, 2, none⟩ = some (.slice none 0 0) := by rw [cell_at hsm.2.1]; rfl
            have hst := store_sh (P := Try.prog) hres rfl (shC_size 2 u (.slice none 0 0)) (shC_one 2 u HOW.out)
            have HKS : Hid ((shC 2 u (.slice none 0 0)).size = 3) := rfl
            obtain ⟨ua, uc, rfl⟩ := own_slice HOW.out
            have hpk : #[.int .i64 2, .slice ua k uc, .slice none 0 0] = shC 2 (.slice ua k uc) (.slice none 0 0) := rfl
            have hz3 : (shC 2 (.slice ua k uc) (.slice none 0 0)).size = 3 := rfl
            generalize hcs : shC 2 (.slice ua k uc) (.slice none 0 0) = cs at hst hpk hz3 HKS
            have HCS : Hid (shC 2 (.slice ua k uc) (.slice none 0 0) = cs) := hcs
            clear hsm hres hcs htl HCL hrl
            go_wp2_with fail
            refine ret_sh rfl rfl (setRow_heap _ _ _ _ _ _ HRES.out) HKS.out rfl ⟨_, by rw [HCS.out]; rfl, ?_, below_row HSM.out.1 _ (Nat.le_refl _) _⟩
            rw [HRL.out.1]
            exact own_keep HOW.out (Keep.row wr w.heap.size cs) (fun b hb => by simp; exact fun e => own_ne HOW.out HRES.out (by decide) (by rw [hb, e]))
end Go.Proofs.Ytkikogalaejnlab.Qu
