/- What the cells of a dict say: the program's Shape. -/
import Derived.Test.YtbajgbknjmbimabDiF
import Derived.Test.YtbajgbknjmbimabDiI
import Derived.Test.YtbajgbknjmbimabDiA
import Derived.Test.YtbajgbknjmbimabCoH
import Derived.Test.YtbajgbknjmbimabCoB
import Derived.Deep.LoopGhost
namespace Go.Proofs.Ytbajgbknjmbimab.Di
open Go.ChangeShapes Go.WideShapes Go.ChangeAt Go.RowKit
attribute [local go_sem ↓] Go.wp_at_zero Go.wp_at_succ

theorem info_pair : (Try.prog.info? 39).map (fun i => (i.zero, i.size, i.bytes)) = some (some (.agg #[.int .i64 0, .int .i64 0]), 2, 16) := by kernel_rfl
theorem ok_no {m : Int} {l : List Int} (h : okS m l = false) : (decide (0 ≤ m) && decide (m ≤ 16)) = false ∨ ((decide (0 ≤ m) && decide (m ≤ 16)) = true ∧ ((l.length : Int) == sizeV m) = false) := by
  unfold okS at h
  cases h1 : (decide (0 ≤ m) && decide (m ≤ 16)) with
  | false => exact Or.inl rfl
  | true =>
    rw [h1] at h
    refine Or.inr ⟨rfl, ?_⟩
    simpa using h
/-- The answer's variable, and the pairs, while the slots are looked at. -/
structure ShM (w wr : World) (vp : Value) (P : List (Int × Int)) : Prop where
  bel : Below w.heap.size w wr
  ans : wr.heap[w.heap.size]? = some (.cells #[.int .i64 0, .slice none 0 0, .slice none 0 0] 34 (0, 0))
  row : wr.ownsRow (w.heap.size + 1) 39 2 vp P.length (prC P)
theorem ShM.later {w wr w' : World} {vp : Value} {P : List (Int × Int)} (h : ShM w wr vp P) (hb : Below wr.heap.size wr w') : ShM w w' vp P := ⟨h.bel.trans (hb.mono h.bel.size), by rw [hb.block _ (heap_lt h.ans)]; exact h.ans, own_keep h.row (Keep.of_below hb []) (by simp)⟩
theorem prC_snoc (P : List (Int × Int)) (k v : Int) : prC (P ++ [(k, v)]) = prC P ++ [.int .i64 k, .int .i64 v] := by rw [prC_app]; rfl
theorem own_mem {v : Value} (b : Nat) (h : b ∈ (match v.ownBlock with | some b => [b] | none => [])) : v.ownBlock = some b := by
  cases hv : v.ownBlock with
  | none => rw [hv] at h; simp at h
  | some c => rw [hv] at h; simp at h; rw [h]
theorem ShM.push {w wr w5 : World} {vp : Value} {P : List (Int × Int)} {o : Obj} {g cp : Nat} {k v : Int} (h : ShM w wr vp P) (hown : w5.ownsRow (w.heap.size + 1) 39 2 (.slice (some ⟨g, 0, none⟩) (P.length + 1) cp) (P.length + 1) (prC P ++ [.int .i64 k, .int .i64 v])) (hg : (wr.alloc o).grownBy w5 vp.ownBlock) : ShM w w5 (.slice (some ⟨g, 0, none⟩) (P.length + 1) cp) (P ++ [(k, v)]) := by
  have hk : Keep (match vp.ownBlock with | some b => [b] | none => []) wr w5 := ((Keep.refl _ _).alloc o).grown hg (fun b hb => by rw [hb]; simp)
  refine ⟨h.bel.trans (hk.below h.bel.size (fun b hb => by have := (own_block h.row b (own_mem b hb)).1; omega)), ?_, by rw [prC_snoc, List.length_append]; exact hown⟩
  rw [hk.block _ (heap_lt h.ans) (fun hc => by have := (own_block h.row _ (own_mem _ hc)).1; omega)]
  exact h.ans
/-- Nothing is told: the answer's variable is laid with zeros. -/
theorem ShM.zero {w wr : World} {vp : Value} {P : List (Int × Int)} (h : ShM w wr vp P) : ∃ w5, (storeCells ⟨w.heap.size, 0, none⟩ (shC 0 (.slice none 0 0) (.slice none 0 0)).toList 0).run Try.prog wr = .ok () w5 ∧ Hid (w5.heap[w.heap.size]? = some (.cells (shC 0 (.slice none 0 0) (.slice none 0 0)) 34 (0, 0)) ∧ Below w.heap.size w w5) := by
  exact ⟨wr.setRow w.heap.size (shC 0 (.slice none 0 0) (.slice none 0 0)), store_sh h.ans rfl rfl (by simp [shC, Value.oneCell']), setRow_heap _ _ _ _ _ _ h.ans, below_row h.bel _ (Nat.le_refl _) _⟩
theorem ShM.tell {w wr w2 : World} {va : Option Addr} {n vc : Nat} {P Z : List (Int × Int)} (h : ShM w wr (.slice va n vc) P) (hro : w2.ownsRow (w.heap.size + 1) 39 2 (.slice va n vc) Z.length (prC Z)) (hk : Keep (Value.slice va n vc).ownBlock.toList wr w2) : ∃ w5, (storeCells ⟨w.heap.size, 0, none⟩ (shC 3 (.slice none 0 0) (.slice va n vc)).toList 0).run Try.prog w2 = .ok () w5 ∧ Hid (w5.heap[w.heap.size]? = some (.cells (shC 3 (.slice none 0 0) (.slice va n vc)) 34 (0, 0)) ∧ w5.ownsRow w.heap.size 39 2 (.slice va n vc) Z.length (prC Z) ∧ Below w.heap.size w w5) := by
  have hlow : ∀ b ∈ (Value.slice va n vc).ownBlock.toList, w.heap.size + 1 ≤ b := fun b hb => (own_block h.row b (by simpa using hb)).1
  have ha : w2.heap[w.heap.size]? = some (.cells #[.int .i64 0, .slice none 0 0, .slice none 0 0] 34 (0, 0)) := by
    rw [hk.block _ (heap_lt h.ans) (fun hc => by have := hlow _ hc; omega)]
    exact h.ans
  have hb2 : Below w.heap.size w w2 := h.bel.trans (hk.below h.bel.size (fun b hb => by have := hlow b hb; omega))
  refine ⟨w2.setRow w.heap.size (shC 3 (.slice none 0 0) (.slice va n vc)), store_sh ha rfl rfl (by simp [shC, Value.oneCell']), setRow_heap _ _ _ _ _ _ ha, ?_, below_row hb2 _ (Nat.le_refl _) _⟩
  exact own_base (own_keep hro (Keep.row _ _ _) (fun b hb => by have := (own_block hro b hb).1; simp; omega)) (Nat.le_succ _)
theorem len_wrap {n : Nat} (h : n ≤ 1000) : IntKind.i64.wrap (n : Int) = (n : Int) := by rw [IntKind.wrap_i64]; omega
theorem lt_cell {w : World} {a : Addr} {v : Value} (h : w.cell? a = some v) : a.block < w.heap.size := World.block_lt_of_cell? _ _ h
theorem slot_at {w w' : World} {a : Option Addr} {m : Int} {l : List Int} {j c : Nat} (hcc : ∀ i, i < l.length → ∃ x, a = some x ∧ x.block < w.heap.size ∧ w.cell? (x.add i) = some (.int .i64 (nth l i))) (hm : 0 ≤ m ∧ m ≤ 16 ∧ (l.length : Int) = 3 * m + 1) (hj : (j : Int) + ((c + 1 : Nat) : Int) = m) (hb : Below w.heap.size w w') :
    ∃ (x : Addr) (q0 q1 q2 : Nat) (st ky vl : Int), a = some x ∧ q0 < l.length ∧ q1 < l.length ∧ q2 < l.length ∧ w'.cell? (x.add q0) = some (.int .i64 st) ∧ w'.cell? (x.add q1) = some (.int .i64 ky) ∧ w'.cell? (x.add q2) = some (.int .i64 vl) ∧ Hid ((q0 = 1 + 3 * j ∧ q1 = 2 + 3 * j ∧ q2 = 3 + 3 * j) ∧ stV l (j : Int) = st ∧ kyV l (j : Int) = ky ∧ vlV l (j : Int) = vl) := by
  have h2 : 3 + 3 * j < l.length := by omega
  obtain ⟨x, hx, hxb, c0⟩ := hcc (1 + 3 * j) (by omega)
  obtain ⟨x', hx', _, c1⟩ := hcc (2 + 3 * j) (by omega)
  obtain ⟨x'', hx'', _, c2⟩ := hcc (3 + 3 * j) h2
  rw [hx] at hx' hx''
  injection hx' with e1
  injection hx'' with e2
  subst e1 e2
  refine ⟨x, 1 + 3 * j, 2 + 3 * j, 3 + 3 * j, _, _, _, hx, by omega, by omega, h2, cell_later hb (by rw [add_block]; exact hxb) c0, cell_later hb (by rw [add_block]; exact hxb) c1, cell_later hb (by rw [add_block]; exact hxb) c2, ⟨rfl, rfl, rfl⟩, ?_, ?_, ?_⟩
  · have : (clV (j : Int) 0).toNat = 1 + 3 * j := by unfold clV; omega
    unfold stV; rw [this]
  · have : (clV (j : Int) 1).toNat = 2 + 3 * j := by unfold clV; omega
    unfold kyV; rw [this]
  · have : (clV (j : Int) 2).toNat = 3 + 3 * j := by unfold clV; omega
    unfold vlV; rw [this]
theorem cell_at3 {j q0 q1 q2 : Nat} (hq : q0 = 1 + 3 * j ∧ q1 = 2 + 3 * j ∧ q2 = 3 + 3 * j) (hj : j ≤ 16) : Hid (∀ w : World, Calls Try.prog 20 #[.int .i64 (j : Int), .int .i64 0] w fun e w' => e = .returned (.int .i64 (q0 : Int)) ∧ w' = w) ∧ Hid (∀ w : World, Calls Try.prog 20 #[.int .i64 (j : Int), .int .i64 1] w fun e w' => e = .returned (.int .i64 (q1 : Int)) ∧ w' = w) ∧ Hid (∀ w : World, Calls Try.prog 20 #[.int .i64 (j : Int), .int .i64 2] w fun e w' => e = .returned (.int .i64 (q2 : Int)) ∧ w' = w) := by
  obtain ⟨rfl, rfl, rfl⟩ := hq
  have h : ∀ (p : Int) (q : Nat), 0 ≤ p ∧ p ≤ 2 → clV (j : Int) p = (q : Int) → ∀ w : World, Calls Try.prog 20 #[.int .i64 (j : Int), .int .i64 p] w fun e w' => e = .returned (.int .i64 (q : Int)) ∧ w' = w := fun p q hp hq w => by rw [← hq]; exact cellof_any w _ p (by omega) hp
  exact ⟨h 0 _ (by omega) (by unfold clV; omega), h 1 _ (by omega) (by unfold clV; omega), h 2 _ (by omega) (by unfold clV; omega)⟩
theorem all_bad {C : List Int} {n : Int} {i : Nat} (h : gdS C n (i : Int) = false) : ∀ {j : Nat}, i < j → allG C n j = false
  | 0, hi => by omega
  | j + 1, hi => by
    simp only [allG]
    by_cases hij : i = j
    · subst hij; rw [h]; simp
    · rw [all_bad h (by omega)]; rfl
theorem bad_slot {m : Int} {l : List Int} {j c : Nat} (hok : okS m l = true) (hj : (j : Int) + ((c + 1 : Nat) : Int) = m) (h : gdS l m (j : Int) = false) : kindS m l = 0 ∧ valS m l = [] ∧ errS m l = 12 := by
  have hr : rgS m l = false := by
    unfold rgS
    rw [all_bad h (by omega)]
    rfl
  unfold kindS valS errS
  rw [hok, hr]
  exact ⟨rfl, rfl, rfl⟩
theorem sh_next {m : Int} {l : List Int} {j c : Nat} (hm : 0 ≤ m ∧ m ≤ 16 ∧ (l.length : Int) = 3 * m + 1) (hj : (j : Int) + ((c + 1 : Nat) : Int) = m) : ((j + 1 : Nat) : Int) + (c : Int) = m ∧ wrap64 ((j : Int) + 1) = ((j + 1 : Nat) : Int) := by
  refine ⟨by omega, ?_⟩
  unfold wrap64
  omega
theorem st_bad {st : Int} {b : Bool} (h0 : st ≠ 0) (h1 : st ≠ 1) (h2 : st ≠ 2) : ((decide (0 ≤ st) && decide (st ≤ 2)) && b) = false := by
  have : (decide (0 ≤ st) && decide (st ≤ 2)) = false := by
    rw [Bool.eq_false_iff]
    intro h
    simp at h
    omega
  rw [this]
  rfl
set_option maxRecDepth 100000 in
set_option maxHeartbeats 2000000 in
theorem shape_any {w : World} (m : Int) {v : Value} {l : List Int} (hv : Nl w v l) : Calls Try.prog 8 #[.int .i64 m, v] w fun e w' => ∃ u, e = .returned (.tuple #[.agg (shC (kindS m l) (.slice none 0 0) u), .int .i64 (errS m l)]) ∧ w'.ownsRow w.heap.size 39 2 u (valS m l).length (prC (valS m l)) ∧ Below w.heap.size w w' := by
  have HCA : Hid (∀ w : World, Calls Try.prog 16 #[.int .i64 m] w fun e w' => e = .returned (.bool (decide (0 ≤ m) && decide (m ≤ 16))) ∧ w' = w) := fun w => cap_any w m
  have HSZ : Hid (∀ w : World, Calls Try.prog 19 #[.int .i64 m] w fun e w' => e = .returned (.int .i64 (sizeV m)) ∧ w' = w) := fun w => size_any w m
  have HNL : Hid (∀ w' : World, Below w.heap.size w w' → Nl w' v l) := fun w' hb => hv.later hb (Nat.le_refl _)
  obtain ⟨a, cap, rfl⟩ := nl_slice hv
  obtain ⟨_, hll, hcc⟩ := nl_cells hv
  cases hok : okS m l with
  | false =>
    have HV : Hid (kindS m l = 0 ∧ valS m l = [] ∧ errS m l = 1) := by unfold kindS valS errS; rw [hok]; exact ⟨rfl, rfl, rfl⟩
    rw [HV.out.1, HV.out.2.1, HV.out.2.2]
    rcases ok_no hok with h1 | ⟨h1, h2⟩
    · rw [h1] at HCA
      clear hok hcc hll hv HSZ h1
      go_enter Try.func8, Try.ntmps8
      go_wp2_with fail
      refine (HCA.out _).mono ?_
      rintro e w1 ⟨rfl, rfl⟩
      go_wp2_with fail
      exact ret_sh rfl rfl (heap_alloc_new _ _) rfl rfl ⟨_, rfl, World.ownsRow_nil _ _ _ _, below_a1 _ _⟩
    · rw [h1] at HCA
      clear hok hcc hll hv h1
      go_enter Try.func8, Try.ntmps8
      go_wp2_with fail
      refine (HCA.out _).mono ?_
      rintro e w1 ⟨rfl, rfl⟩
      go_wp2_with fail
      refine (HSZ.out _).mono ?_
      rintro e w1 ⟨rfl, rfl⟩
      go_wp2_with fail
      exact ret_sh rfl rfl (heap_alloc_new _ _) rfl rfl ⟨_, rfl, World.ownsRow_nil _ _ _ _, below_a1 _ _⟩
  | true =>
    obtain ⟨hlen, hm1, hm2⟩ := okS_len hok
    have h1 : (decide (0 ≤ m) && decide (m ≤ 16)) = true := by simp [hm1, hm2]
    have h2 : sizeV m = 3 * m + 1 := by unfold sizeV; rw [if_pos ⟨hm1, hm2⟩]
    rw [h1] at HCA
    rw [h2] at HSZ
    have h3 : ((l.length : Int) == 3 * m + 1) = true := by simp [hlen]
    have HMM : Hid (0 ≤ m ∧ m ≤ 16 ∧ (l.length : Int) = 3 * m + 1) := ⟨hm1, hm2, hlen⟩
    have HOK : Hid (okS m l = true) := hok
    obtain ⟨i0, hi0, hz0, hz1, hz2⟩ := info_parts info_pair
    clear hok h1 h2 hv
    go_enter Try.func8, Try.ntmps8
    go_wp2_with fail
    refine (HCA.out _).mono ?_
    rintro e wa ⟨rfl, hwa⟩
    subst hwa
    go_wp2_with fail
    refine (HSZ.out _).mono ?_
    rintro e wa ⟨rfl, hwa⟩
    subst hwa
    go_wp2_with fail
    go_loopg [6, 21] m.toNat (fun gh pv jv wr => ∃ (j c : Nat), c = gh ∧ (j : Int) + c = m ∧ jv = .int .i64 (j : Int) ∧ ShM w wr pv (prS l j) ∧ allG l m j = true)
    case atStart => exact ⟨0, m.toNat, rfl, by have := HMM.out; omega, rfl, ⟨below_a1 _ _, heap_alloc_new _ _, World.ownsRow_nil _ _ _ _⟩, rfl⟩
    case round =>
      obtain ⟨j, c, rfl, hjc, rfl, hsm, hall⟩ := hrel
      have HSM : Hid (ShM w wr u6 (prS l j)) := hsm
      have HAL : Hid (allG l m j = true) := hall
      clear hsm hall
      cases c with
      | zero =>
        have d1 : decide ((j : Int) < m) = false := by simp; omega
        have hjm : m.toNat = j := by omega
        have HJM : Hid (m.toNat = j) := hjm
        obtain ⟨x, rfl, hxb, hx0⟩ := hcc 0 (by have := HMM.out; omega)
        have x0 : wr.cell? x = some (.int .i64 (nth l 0)) := by rw [add_zero'] at hx0; exact cell_later HSM.out.bel hxb hx0
        have hl0 : 0 < l.length := by have := HMM.out; omega
        obtain ⟨va, vc, rfl⟩ := own_slice HSM.out.row
        have HRG : Hid (rgS m l = decide (nth l 0 = ((prS l j).length : Int))) := by unfold rgS; rw [hjm, HAL.out]; exact rfl
        have hpw : IntKind.i64.wrap ((prS l j).length : Int) = ((prS l j).length : Int) := len_wrap (by have h1 := pr_len l j; have h2 := HMM.out; omega)
        have HP16 : Hid ((prS l j).length ≤ 16) := by have h1 := pr_len l j; have h2 := HMM.out; exact (by omega : (prS l j).length ≤ 16)
        clear hjc hjm hcc hlen hm1 hm2 hll h3 hx0 hxb
        generalize hn0 : nth l 0 = z at *
        by_cases hz : z = ((prS l j).length : Int)
        · have HKD : Hid (kindS m l = 3 ∧ valS m l = inS l j ∧ errS m l = 0) := by
            have hr : rgS m l = true := by rw [HRG.out]; simpa using hz
            unfold kindS valS errS
            rw [HOK.out, hr, HJM.out]
            exact ⟨rfl, rfl, rfl⟩
          have hze : (z == ((prS l j).length : Int)) = true := by simpa using hz
          have HSO : Hid (Calls Try.prog 22 #[.slice va (prS l j).length vc, .func (.func 23) #[] #[]] wr fun e w' => e = .returned (.tuple #[]) ∧ w'.ownsRow (w.heap.size + 1) 39 2 (.slice va (prS l j).length vc) (inS l j).length (prC (inS l j)) ∧ Keep (Value.slice va (prS l j).length vc).ownBlock.toList wr w') := sort_to HSM.out.row HP16.out (in_perm l j) (in_ris HAL.out)
          clear hz HRG
          go_wp2_with fail
          refine HSO.out.mono ?_
          rintro e w2 ⟨rfl, hro, hk2⟩
          obtain ⟨w5, hs5, hr5⟩ := HSM.out.tell hro hk2
          have hpk : #[.int .i64 3, .slice none 0 0, .slice va (prS l j).length vc] = shC 3 (.slice none 0 0) (.slice va (prS l j).length vc) := rfl
          have hz3 : (shC 3 (.slice none 0 0) (.slice va (prS l j).length vc)).size = 3 := rfl
          generalize hk0 : shC 3 (.slice none 0 0) (.slice va (prS l j).length vc) = k0 at *
          have HK0 : Hid (shC 3 (.slice none 0 0) (.slice va (prS l j).length vc) = k0) := hk0
          clear hk0 hro hk2 HSO x0
          go_wp2_with fail
          exact ret_sh rfl rfl hr5.out.1 hz3 rfl ⟨_, by rw [HKD.out.1, HKD.out.2.2, HK0.out]; rfl, by rw [HKD.out.2.1]; exact hr5.out.2.1, hr5.out.2.2⟩
        · have HKB : Hid (kindS m l = 0 ∧ valS m l = [] ∧ errS m l = 12) := by
            have hr : rgS m l = false := by rw [HRG.out]; simpa using hz
            unfold kindS valS errS
            rw [HOK.out, hr]
            exact ⟨rfl, rfl, rfl⟩
          have hze : (z == ((prS l j).length : Int)) = false := by simpa using hz
          obtain ⟨w5, hs5, hr5⟩ := HSM.out.zero
          have hpk : #[.int .i64 0, .slice none 0 0, .slice none 0 0] = shC 0 (.slice none 0 0) (.slice none 0 0) := rfl
          have hz3 : (shC 0 (.slice none 0 0) (.slice none 0 0)).size = 3 := rfl
          generalize hk0 : shC 0 (.slice none 0 0) (.slice none 0 0) = k0 at *
          have HK0 : Hid (shC 0 (.slice none 0 0) (.slice none 0 0) = k0) := hk0
          clear hk0 HRG hz
          go_wp2_with fail
          exact ret_sh rfl rfl hr5.out.1 hz3 rfl ⟨_, by rw [HKB.out.1, HKB.out.2.2, HK0.out]; rfl, by rw [HKB.out.2.1]; exact World.ownsRow_nil _ _ _ _, hr5.out.2⟩
      | succ c =>
        have d1 : decide ((j : Int) < m) = true := by simp; omega
        obtain ⟨x, q0, q1, q2, st, ky, vl, rfl, hq0, hq1, hq2, x0, x1, x2, HV⟩ := slot_at (w' := wr) (hcc := hcc) HMM.out hjc HSM.out.bel
        obtain ⟨HC0, HC1, HC2⟩ := cell_at3 (j := j) HV.out.1 (by have := HMM.out; omega)
        have HJ16 : Hid (j ≤ 16) := by have h1 := HMM.out; exact (by omega : j ≤ 16)
        have HFI : Hid (∀ w' : World, Below w.heap.size w w' → Calls Try.prog 21 #[.int .i64 ky, .int .i64 m, .slice (some x) l.length cap] w' fun e w'' => e = .returned (.int .i64 (lookV l ky m).1) ∧ Below w'.heap.size w' w'') := fun w' hb => find_any (HNL.out w' hb) ⟨HMM.out.1, HMM.out.2.1⟩ HMM.out.2.2
        have HBAD : Hid (gdS l m (j : Int) = false → kindS m l = 0 ∧ valS m l = [] ∧ errS m l = 12) := fun h => bad_slot HOK.out hjc h
        have HNX : Hid (((j + 1 : Nat) : Int) + (c : Int) = m ∧ wrap64 ((j : Int) + 1) = ((j + 1 : Nat) : Int)) := sh_next HMM.out hjc
        have HGD : Hid (gdS l m (j : Int) = ((decide (0 ≤ st) && decide (st ≤ 2)) && (decide (st ≠ 1) || decide ((lookV l ky m).1 = (j : Int))))) := by unfold gdS; rw [← HV.out.2.1, ← HV.out.2.2.1]; exact rfl
        have HPR : Hid (prS l (j + 1) = if st = 1 then prS l j ++ [(ky, vl)] else prS l j) := by rw [Hid, ← HV.out.2.1, ← HV.out.2.2.1, ← HV.out.2.2.2]; exact rfl
        have HAN : Hid (gdS l m (j : Int) = true → allG l m (j + 1) = true) := fun h => by simp only [allG, HAL.out, h]; rfl
        clear hjc hcc hlen hm1 hm2 hll h3 HV
        go_wp2_with fail
        refine (HC0.out _).mono ?_
        rintro e wa ⟨rfl, hwa⟩
        obtain rfl : wr = wa := hwa.symm
        clear hwa
        by_cases s0 : st = 0
        · subst s0
          have HG : Hid (gdS l m (j : Int) = true) := by rw [Hid, HGD.out]; exact rfl
          have HS2 : Hid (ShM w wr u6 (prS l (j + 1))) := by rw [HPR.out, if_neg (by decide)]; exact HSM.out
          clear HBAD HGD HFI HPR
          go_wp2_with fail
          go_roundg c
          case rel => exact ⟨j + 1, c, rfl, HNX.out.1, by first | rw [HNX.out.2] | go_num, HS2.out, HAN.out HG.out⟩
          case measure => exact Nat.lt_succ_self c
        · have b0 : (st == 0) = false := by simpa using s0
          by_cases s2 : st = 2
          · subst s2
            have HG : Hid (gdS l m (j : Int) = true) := by rw [Hid, HGD.out]; exact rfl
            have HS2 : Hid (ShM w wr u6 (prS l (j + 1))) := by rw [HPR.out, if_neg (by decide)]; exact HSM.out
            clear HBAD HGD HFI HPR s0 b0
            go_wp2_with fail
            go_roundg c
            case rel => exact ⟨j + 1, c, rfl, HNX.out.1, by first | rw [HNX.out.2] | go_num, HS2.out, HAN.out HG.out⟩
            case measure => exact Nat.lt_succ_self c
          · have b2 : (st == 2) = false := by simpa using s2
            by_cases s1 : st = 1
            · subst s1
              clear s0 b0 s2 b2
              go_wp2_with fail
              refine (HC1.out _).mono ?_
              rintro e wa ⟨rfl, hwa⟩
              obtain rfl : wr = wa := hwa.symm
              clear hwa
              go_wp2_with fail
              refine (HFI.out _ HSM.out.bel).mono ?_
              rintro e w2 ⟨rfl, hb2⟩
              have HS2 : Hid (ShM w w2 u6 (prS l j)) := HSM.out.later hb2
              have y2 : w2.cell? (x.add q2) = some (.int .i64 vl) := cell_later hb2 (lt_cell x2) x2
              clear hb2 x0 x1 x2 HFI HSM
              generalize (lookV l ky m).1 = f at *
              by_cases hf : f = (j : Int)
              · have HG : Hid (gdS l m (j : Int) = true) := by rw [Hid, HGD.out, hf]; simp
                have HP2 : Hid (prS l (j + 1) = prS l j ++ [(ky, vl)]) := by rw [Hid, HPR.out, if_pos trivial]
                have hfe : (f == (j : Int)) = true := by simpa using hf
                rw [hf]
                have HPL : Hid ((prS l j).length ≤ 16) := by have h1 := pr_len l j; have h2 := HJ16.out; exact (by omega : (prS l j).length ≤ 16)
                obtain ⟨va, vc, rfl⟩ := own_slice HS2.out.row
                have hx2 : w.heap.size + 1 ≤ w2.heap.size := heap_lt HS2.out.ans
                clear HBAD HGD HPR hf hfe
                go_wp2_with fail
                refine (HC2.out _).mono ?_
                rintro e wa ⟨rfl, hwa⟩
                obtain rfl : w2 = wa := hwa.symm
                clear hwa
                go_wp2_with (at_builtin; refine list_lies_wide _ rfl _ _ 32 rfl (w.heap.size + 1) 39 i0 _ 2 16 Try.underlying32 hi0 hz0 hz1 hz2 rfl (by decide) _ _ _ rfl (HS2.out.row.alloc _) ⟨w2.heap.size, 0, none⟩ 1 1 [.int .i64 ky, .int .i64 vl] rfl rfl ?c1 ?c2 ?c3 ?c4 ?c5 ?c6 _ rfl ?_)
                case c1 => exact World.news_of_block (cs := #[.int .i64 ky, .int .i64 vl]) (t := 39) (fr := (0, 0)) (heap_alloc_new _ _)
                case c2 => intro u hu; simp at hu; rcases hu with rfl | rfl <;> rfl
                case c3 => decide
                case c4 => have := HPL.out; unfold maxLen; omega
                case c5 => have := HPL.out; omega
                case c6 => simp; omega
                intro g cp w5 hown hgrow hat _
                have HS5 : Hid (ShM w w5 (.slice (some ⟨g, 0, none⟩) ((prS l j).length + 1) cp) (prS l (j + 1))) := by rw [HP2.out]; exact HS2.out.push hown hgrow
                clear hown hgrow hat
                go_wp2_with fail
                go_roundg c
                case rel => exact ⟨j + 1, c, rfl, HNX.out.1, by first | rw [HNX.out.2] | go_num, HS5.out, HAN.out HG.out⟩
                case measure => exact Nat.lt_succ_self c
              · have HKB : Hid (kindS m l = 0 ∧ valS m l = [] ∧ errS m l = 12) := HBAD.out (by rw [HGD.out]; simp [hf])
                have hfe : (f == (j : Int)) = false := by simpa using hf
                obtain ⟨w5, hs5, hr5⟩ := HS2.out.zero
                have hpk : #[.int .i64 0, .slice none 0 0, .slice none 0 0] = shC 0 (.slice none 0 0) (.slice none 0 0) := rfl
                have hz : (shC 0 (.slice none 0 0) (.slice none 0 0)).size = 3 := rfl
                generalize hk0 : shC 0 (.slice none 0 0) (.slice none 0 0) = k0 at *
                have HK0 : Hid (shC 0 (.slice none 0 0) (.slice none 0 0) = k0) := hk0
                clear HBAD HGD HPR hf hk0
                go_wp2_with fail
                exact ret_sh rfl rfl hr5.out.1 hz rfl ⟨_, by rw [HKB.out.1, HKB.out.2.2, HK0.out]; rfl, by rw [HKB.out.2.1]; exact World.ownsRow_nil _ _ _ _, hr5.out.2⟩
            · have b1 : (st == 1) = false := by simpa using s1
              have HB := HBAD.out (by rw [HGD.out]; exact st_bad s0 s1 s2)
              obtain ⟨w5, hs5, hr5⟩ := HSM.out.zero
              have hpk : #[.int .i64 0, .slice none 0 0, .slice none 0 0] = shC 0 (.slice none 0 0) (.slice none 0 0) := rfl
              have hz : (shC 0 (.slice none 0 0) (.slice none 0 0)).size = 3 := rfl
              have HKB : Hid (kindS m l = 0 ∧ valS m l = [] ∧ errS m l = 12) := HB
              generalize hk0 : shC 0 (.slice none 0 0) (.slice none 0 0) = k0 at *
              have HK0 : Hid (shC 0 (.slice none 0 0) (.slice none 0 0) = k0) := hk0
              clear HBAD HGD HFI HPR s0 s1 s2 HB hk0
              go_wp2_with fail
              exact ret_sh rfl rfl hr5.out.1 hz rfl ⟨_, by rw [HKB.out.1, HKB.out.2.2, HK0.out]; rfl, by rw [HKB.out.2.1]; exact World.ownsRow_nil _ _ _ _, hr5.out.2⟩
end Go.Proofs.Ytbajgbknjmbimab.Di
