/- What the cells of a dict say, by the document: Shape. -/
import Derived.Test.YtbajgbknjmbimabDiJ
import Derived.Laws.AppendOwnNone
namespace Go.Proofs.Ytbajgbknjmbimab.Di
open Go.ChangeShapes Go.WideShapes Go.ChangeAt Go.RowKit
attribute [local go_sem ↓] Go.wp_at_zero Go.wp_at_succ

/-- A list of pairs behind a slice. -/
def Pl (w : World) (v : Value) (P : List (Int × Int)) : Prop := ∃ a cap, v = .slice a P.length cap ∧ P.length ≤ cap ∧ cap ≤ 9223372036854775807 ∧ (a = none → cap = 0) ∧ ∀ x, a = some x → x.block < w.heap.size ∧ ∀ j u, (prC P)[j]? = some u → w.cell? (x.add j) = some u
theorem Pl.of_own {w : World} {base : Nat} {v : Value} {P : List (Int × Int)} (h : w.ownsRow base 39 2 v P.length (prC P)) : Pl w v P := by
  have hc := h
  rcases h.2 with ⟨rfl, h0⟩ | ⟨g, cap, cur, rfl, hg, hb, h1, h2, _⟩
  · exact ⟨none, 0, by rw [h0], by omega, by omega, fun _ => rfl, fun x hx => by cases hx⟩
  · refine ⟨some ⟨g, 0, none⟩, cap, rfl, h1, by unfold maxLen at h2; omega, (fun h => by cases h), fun x hx => ?_⟩
    injection hx with hx
    subst hx
    refine ⟨heap_lt hb, fun j u hj => ?_⟩
    rw [add_own]
    exact own_cells hc _ _ hj
theorem Pl.later {w w' : World} {v : Value} {P : List (Int × Int)} (h : Pl w v P) (hb : Below w.heap.size w w') : Pl w' v P := by
  obtain ⟨a, cap, h1, h2, h3, h4, h5⟩ := h
  exact ⟨a, cap, h1, h2, h3, h4, fun x hx => ⟨Nat.lt_of_lt_of_le (h5 x hx).1 hb.size, fun j u hj => cell_later hb (by rw [add_block]; exact (h5 x hx).1) ((h5 x hx).2 j u hj)⟩⟩
theorem prC_take (P : List (Int × Int)) (k j : Nat) (u : Value) (h : (prC (P.take k))[j]? = some u) : (prC P)[j]? = some u := by
  have e : prC P = prC (P.take k) ++ prC (P.drop k) := by rw [← prC_app, List.take_append_drop]
  rw [e]
  have hj := (List.getElem?_eq_some_iff.1 h).1
  rw [List.getElem?_append_left hj]
  exact h
theorem prC_drop (P : List (Int × Int)) (k j : Nat) (u : Value) (hk : k ≤ P.length) (h : (prC (P.drop k))[j]? = some u) : (prC P)[k * 2 + j]? = some u := by
  have e : prC P = prC (P.take k) ++ prC (P.drop k) := by rw [← prC_app, List.take_append_drop]
  rw [e]
  have hl : (prC (P.take k)).length = k * 2 := by rw [prC_len]; simp; omega
  rw [List.getElem?_append_right (by omega), hl]
  rw [show k * 2 + j - k * 2 = j by omega]
  exact h
theorem Pl.take {w : World} {a : Option Addr} {n cap k : Nat} {P : List (Int × Int)} (h : Pl w (.slice a n cap) P) (hk : k ≤ P.length) : Pl w (.slice a k cap) (P.take k) := by
  obtain ⟨a', cap', h1, h2, h3, h4, h5⟩ := h
  injection h1 with e1 e2 e3
  subst e1 e3
  exact ⟨a, cap, by simp [hk], by simp; omega, h3, h4, fun x hx => ⟨(h5 x hx).1, fun j u hj => (h5 x hx).2 j u (prC_take P k j u hj)⟩⟩
theorem Pl.drop {w : World} {a : Option Addr} {n cap k : Nat} {P : List (Int × Int)} (h : Pl w (.slice a n cap) P) (hk : k ≤ P.length) : Pl w (.slice (if cap = k then a else a.map (·.add (k * 2))) (n - k) (cap - k)) (P.drop k) := by
  obtain ⟨a', cap', h1, h2, h3, h4, h5⟩ := h
  injection h1 with e1 e2 e3
  subst e1 e3 e2
  refine ⟨_, _, by rw [List.length_drop], by rw [List.length_drop]; omega, by omega, fun e => ?_, fun x hx => ?_⟩
  · by_cases hc : cap = k
    · omega
    · rw [if_neg hc] at e
      have : a = none := by cases a; rfl; cases e
      have := h4 this
      omega
  · by_cases hc : cap = k
    · rw [if_pos hc] at hx
      refine ⟨(h5 x hx).1, fun j u hj => ?_⟩
      have : P.drop k = [] := List.drop_eq_nil_of_le (by omega)
      rw [this] at hj
      simp [prC] at hj
    · rw [if_neg hc] at hx
      cases a with
      | none => cases hx
      | some y =>
        simp at hx
        subst hx
        refine ⟨by rw [add_block]; exact (h5 y rfl).1, fun j u hj => ?_⟩
        have h6 := (h5 y rfl).2 (k * 2 + j) u (prC_drop P k j u hk hj)
        rw [← h6]
        congr 1
        by_cases hk0 : k = 0
        · subst hk0; simp [add_zero']
        · by_cases hj0 : j = 0
          · subst hj0; simp [add_zero']
          · rw [add_pos' _ _ (by omega), add_pos' _ _ (by omega), add_pos' _ _ (by omega)]
            simp [Nat.add_assoc]
theorem prC_one (P : List (Int × Int)) : ∀ u ∈ prC P, u.oneCell' = true := fun u hu => by
  simp only [prC, List.mem_flatMap] at hu
  obtain ⟨p, _, hp⟩ := hu
  exact pC_one p u hp
/-- append of a whole list of pairs onto one that the call owns. -/
theorem wpList_append_pl (w : World) {ops : Array Oper} {rest : List Oper} {o : Oper} {a : Act} {Q : Exit → Act → World → Prop} (hgd : o.guard = none) (s x : Operand)
    (ho : o.op = .call { callee := .builtin .append, args := #[s, x], argTypes := #[32, 32] }) (base : Nat) (v : Value) (n : Nat) (xs : List Value) (hs : a.eval s = v) (hown : w.ownsRow base 39 2 v n xs)
    (u : Value) (P : List (Int × Int)) (hx : a.eval x = u) (hl : Pl w u P) (h63 : n + P.length ≤ 1000) (hbase : base ≤ w.heap.size)
    (h : ∀ v' w', w'.ownsRow base 39 2 v' (n + P.length) (xs ++ prC P) → w.grownBy w' v.ownBlock → wpList Try.prog ops Q rest (a.put o.dst v') w') : wpList Try.prog ops Q (o :: rest) a w := by
  obtain ⟨i0, hi, hz0, hz1, hz2⟩ := info_parts info_pair
  obtain ⟨ad, cap, rfl, hc1, hc2, hnil, hc⟩ := hl
  cases ad with
  | none =>
    obtain rfl : cap = 0 := hnil rfl
    obtain rfl : P = [] := List.eq_nil_of_length_eq_zero (by omega)
    refine wpList_append_own_none hgd s x 32 ho base 39 i0 2 Try.underlying32 hi v n xs hs hown hx ?_
    exact h v w (by simpa [prC] using hown) ⟨rfl, rfl, rfl, Nat.le_refl _, fun _ _ _ => rfl⟩
  | some ad =>
    refine wpList_append_own w hgd s x 32 ho base 39 i0 (.agg #[.int .i64 0, .int .i64 0]) 2 16 Try.underlying32 hi hz0 hz1 hz2 rfl (by decide) v n xs hs hown ad P.length cap (prC P) hx (by rw [prC_len]) (fun j u' hu => (hc ad rfl).2 j u' hu) (prC_one P) (by unfold maxLen; omega) (by omega) hbase fun v' w' h1 h2 _ => h v' w' h1 h2
theorem ins_at {p : Int × Int} : ∀ {P : List (Int × Int)} {k : Nat}, k ≤ P.length → (∀ i, i < k → ∀ hP : i < P.length, (P[i]).1 < p.1) → (∀ hk : k < P.length, ¬ (P[k]).1 < p.1) → insP p P = P.take k ++ p :: P.drop k
  | [], k, hk, _, _ => by simp at hk; subst hk; rfl
  | q :: P, 0, _, _, h2 => by
    have this : ¬ q.1 < p.1 := h2 (by simp)
    simp only [insP]
    rw [if_neg this]
    rfl
  | q :: P, k + 1, hk, h1, h2 => by
    have h0 : q.1 < p.1 := h1 0 (by omega) (by simp)
    simp only [insP]
    rw [if_pos h0, ins_at (k := k) (by simpa using hk) (fun i hi hP => h1 (i + 1) (by omega) (by simpa using hP)) (fun hk' => h2 (by simpa using hk'))]
    rfl
/-- The answer's variable, the shape under way, and its pairs. -/
structure RSh (w wr : World) (vp : Value) (P : List (Int × Int)) : Prop where
  bel : Below w.heap.size w wr
  ans : wr.heap[w.heap.size]? = some (.cells #[.int .i64 0, .slice none 0 0, .slice none 0 0] 34 (0, 0))
  sh : wr.heap[w.heap.size + 1]? = some (.cells #[.int .i64 3, .slice none 0 0, vp] 34 (0, 0))
  row : wr.ownsRow (w.heap.size + 2) 39 2 vp P.length (prC P)
theorem RSh.later {w wr w' : World} {vp : Value} {P : List (Int × Int)} (h : RSh w wr vp P) (hb : Below wr.heap.size wr w') : RSh w w' vp P := ⟨h.bel.trans (hb.mono h.bel.size), by rw [hb.block _ (heap_lt h.ans)]; exact h.ans, by rw [hb.block _ (heap_lt h.sh)]; exact h.sh, own_keep h.row (Keep.of_below hb []) (by simp)⟩
theorem RSh.zero {w wr : World} {vp : Value} {P : List (Int × Int)} (h : RSh w wr vp P) : ∃ w5, (storeCells ⟨w.heap.size, 0, none⟩ (shC 0 (.slice none 0 0) (.slice none 0 0)).toList 0).run Try.prog wr = .ok () w5 ∧ Hid (w5.heap[w.heap.size]? = some (.cells (shC 0 (.slice none 0 0) (.slice none 0 0)) 34 (0, 0)) ∧ Below w.heap.size w w5) := by
  exact ⟨wr.setRow w.heap.size (shC 0 (.slice none 0 0) (.slice none 0 0)), store_sh h.ans rfl rfl (by simp [shC, Value.oneCell']), setRow_heap _ _ _ _ _ _ h.ans, below_row h.bel _ (Nat.le_refl _) _⟩
theorem wr_i64 {a b : Int} (h : wrap64 a = b) : IntKind.i64.wrap a = b := by unfold wrap64 at h; rw [IntKind.wrap_i64]; exact h
theorem pr_cell {w : World} {base n cap : Nat} {va : Option Addr} {P : List (Int × Int)} (h : w.ownsRow base 39 2 (.slice va n cap) P.length (prC P)) {k : Nat} (hk : k < P.length) : ∃ x, va = some x ∧ w.cell? (x.add (k * 2)) = some (.int .i64 (P[k]).1) := by
  obtain ⟨a, c, h1, _, _, h4, h5⟩ := Pl.of_own h
  injection h1 with e1 e2 e3
  subst e1 e3
  cases va with
  | none => have := h4 rfl; have := Pl.of_own h; obtain ⟨_, _, e, h2, _⟩ := this; injection e with _ _ e3; omega
  | some x =>
    refine ⟨x, rfl, (h5 x rfl).2 (k * 2) _ ?_⟩
    have := prC_get P k 0 hk (by decide)
    rw [Nat.add_zero] at this
    rw [this]
    rfl
theorem pk_next {k n : Nat} (h : k < n) (hn : n ≤ 16) : wrap64 ((k : Int) + 1) = ((k + 1 : Nat) : Int) ∧ k + 1 ≤ n := by
  refine ⟨?_, h⟩
  unfold wrap64
  omega
theorem mq_less {n i : Nat} (hi : i < n) : n - (i + 1) < n - i := by omega
theorem RSh.tell {w wr : World} {va : Option Addr} {n vc : Nat} {P : List (Int × Int)} (h : RSh w wr (.slice va n vc) P) : ∃ w5, (storeCells ⟨w.heap.size, 0, none⟩ (shC 3 (.slice none 0 0) (.slice va n vc)).toList 0).run Try.prog wr = .ok () w5 ∧ Hid (w5.heap[w.heap.size]? = some (.cells (shC 3 (.slice none 0 0) (.slice va n vc)) 34 (0, 0)) ∧ w5.ownsRow w.heap.size 39 2 (.slice va n vc) P.length (prC P) ∧ Below w.heap.size w w5) := by
  refine ⟨wr.setRow w.heap.size (shC 3 (.slice none 0 0) (.slice va n vc)), store_sh h.ans rfl rfl (by simp [shC, Value.oneCell']), setRow_heap _ _ _ _ _ _ h.ans, ?_, below_row h.bel _ (Nat.le_refl _) _⟩
  exact own_base (own_keep h.row (Keep.row _ _ _) (fun b hb => by have := (own_block h.row b hb).1; simp; omega)) (Nat.le_add_right _ _)
theorem z_of {P : List (Int × Int)} {k : Nat} {ky vl : Int} (hk : k ≤ P.length) : (P.take k ++ (ky, vl) :: P.drop k).length = P.length + 1 ∧ prC (P.take k ++ (ky, vl) :: P.drop k) = prC (P.take k) ++ (.int .i64 ky :: .int .i64 vl :: prC (P.drop k)) := by
  refine ⟨by simp; omega, ?_⟩
  rw [prC_app]
  rfl
theorem RSh.next {w wc w3 : World} {vp v3 : Value} {P Z : List (Int × Int)} (h : RSh w wc vp P) (hb : Below wc.heap.size wc w3) (ho : w3.ownsRow wc.heap.size 39 2 v3 Z.length (prC Z)) : RSh w (w3.setCell ⟨w.heap.size + 1, 2, none⟩ v3) v3 Z := by
  have hs : w3.heap[w.heap.size + 1]? = some (.cells #[.int .i64 3, .slice none 0 0, vp] 34 (0, 0)) := by rw [hb.block _ (heap_lt h.sh)]; exact h.sh
  have hlt := heap_lt h.sh
  refine ⟨(h.bel.trans (hb.mono h.bel.size)).setCell (Nat.le_succ _) _, ?_, by rw [heap_set hs]; rfl, ?_⟩
  · rw [heap_set_other _ _ (by simp), hb.block _ (heap_lt h.ans)]
    exact h.ans
  · refine own_base (own_keep ho ((Keep.refl [w.heap.size + 1] w3).setCell _ _ (Or.inl (by simp))) (fun b hb' => ?_)) hlt
    have := (own_block ho b hb').1
    simp
    omega
theorem fn_a0 {m : Int} (h : 0 ≤ m) : ((0 : Nat) : Int) + (m.toNat : Int) = m := by omega
theorem fn_16 {m : Int} {j : Nat} (h : (j : Int) < m) (hm : m ≤ 16) : j ≤ 16 := by omega
theorem st_low {st : Int} {b : Bool} (h : st < 0) : ((decide (0 ≤ st) && decide (st ≤ 2)) && b) = false := by
  have : decide (0 ≤ st) = false := by simp; omega
  rw [this]; rfl
theorem st_high {st : Int} {b : Bool} (h : 2 < st) : ((decide (0 ≤ st) && decide (st ≤ 2)) && b) = false := by
  have : decide (st ≤ 2) = false := by simp; omega
  rw [this]; simp
theorem st_in {st : Int} (h : ¬ st < 0) (h2 : ¬ 2 < st) : (decide (0 ≤ st) && decide (st ≤ 2)) = true := by simp; omega
theorem in_len {C : List Int} {j : Nat} : (inS C j).length ≤ j := by rw [(in_perm C j).length_eq]; exact pr_len C j
set_option maxRecDepth 100000 in
set_option maxHeartbeats 2000000 in
theorem rshape_any {w : World} (m : Int) {v : Value} {l : List Int} (hv : Nl w v l) : Calls Try.prog 9 #[.int .i64 m, v] w fun e w' => ∃ u, e = .returned (.tuple #[.agg (shC (kindS m l) (.slice none 0 0) u), .int .i64 (errS m l)]) ∧ w'.ownsRow w.heap.size 39 2 u (valS m l).length (prC (valS m l)) ∧ Below w.heap.size w w' := by
  have HCA : Hid (∀ w : World, Calls Try.prog 25 #[.int .i64 m] w fun e w' => e = .returned (.bool (decide (0 ≤ m) && decide (m ≤ 16))) ∧ w' = w) := fun w => rright_any w m
  have HSZ : Hid (∀ w : World, Calls Try.prog 26 #[.int .i64 m] w fun e w' => e = .returned (.int .i64 (sizeV m)) ∧ w' = w) := fun w => rsize_any w m
  have HNL : Hid (∀ w' : World, Below w.heap.size w w' → Nl w' v l) := fun w' hb => hv.later hb (Nat.le_refl _)
  obtain ⟨a, cap, rfl⟩ := nl_slice hv
  obtain ⟨_, hll, hcc⟩ := nl_cells hv
  cases hok : okS m l with
  | false =>
    have HV : Hid (kindS m l = 0 ∧ valS m l = [] ∧ errS m l = 1) := by unfold kindS valS errS; rw [hok]; exact ⟨rfl, rfl, rfl⟩
    rw [HV.out.1, HV.out.2.1, HV.out.2.2]
    rcases ok_no hok with h1 | ⟨h1, h2⟩
    · rw [h1] at HCA
      clear hok hcc hll hv HSZ h1
      go_enter Try.func9, Try.ntmps9
      go_wp2_with fail
      refine (HCA.out _).mono ?_
      rintro e w1 ⟨rfl, rfl⟩
      go_wp2_with fail
      exact ret_sh rfl rfl (heap_alloc_new _ _) rfl rfl ⟨_, rfl, World.ownsRow_nil _ _ _ _, below_a1 _ _⟩
    · rw [h1] at HCA
      clear hok hcc hll hv h1
      go_enter Try.func9, Try.ntmps9
      go_wp2_with fail
      refine (HCA.out _).mono ?_
      rintro e w1 ⟨rfl, rfl⟩
      go_wp2_with fail
      refine (HSZ.out _).mono ?_
      rintro e w1 ⟨rfl, rfl⟩
      go_wp2_with fail
      exact ret_sh rfl rfl (heap_alloc_new _ _) rfl rfl ⟨_, rfl, World.ownsRow_nil _ _ _ _, below_a1 _ _⟩
  | true =>
    obtain ⟨hlen, hm1, hm2⟩ := okS_len hok
    have h1 : (decide (0 ≤ m) && decide (m ≤ 16)) = true := by simp [hm1, hm2]
    have h2 : sizeV m = 3 * m + 1 := by unfold sizeV; rw [if_pos ⟨hm1, hm2⟩]
    rw [h1] at HCA
    rw [h2] at HSZ
    have h3 : ((l.length : Int) == 3 * m + 1) = true := by simp [hlen]
    have HMM : Hid (0 ≤ m ∧ m ≤ 16 ∧ (l.length : Int) = 3 * m + 1) := ⟨hm1, hm2, hlen⟩
    have HOK : Hid (okS m l = true) := hok
    obtain ⟨i0, hi0, hz0, hz1, hz2⟩ := info_parts info_pair
    clear hok h1 h2 hv
    go_enter Try.func9, Try.ntmps9
    go_wp2_with fail
    refine (HCA.out _).mono ?_
    rintro e wa ⟨rfl, hwa⟩
    subst hwa
    go_wp2_with fail
    refine (HSZ.out _).mono ?_
    rintro e wa ⟨rfl, hwa⟩
    subst hwa
    go_wp2_with fail
    go_loopg [8] m.toNat (fun gh jv wr => ∃ (j c : Nat) (vp : Value), c = gh ∧ (j : Int) + c = m ∧ jv = .int .i64 (j : Int) ∧ RSh w wr vp (inS l j) ∧ allG l m j = true)
    case atStart => exact ⟨0, m.toNat, .slice none 0 0, rfl, fn_a0 HMM.out.1, rfl, ⟨below_then (below_a1 _ _) (below_a1 _ _), heap_alloc2_old _ _ _, alloc2_at _ _ _, World.ownsRow_nil _ _ _ _⟩, rfl⟩
    case round =>
      obtain ⟨j, c, vp, rfl, hjc, rfl, hsm, hall⟩ := hrel
      have HSM : Hid (RSh w wr vp (inS l j)) := hsm
      have HAL : Hid (allG l m j = true) := hall
      clear hsm hall
      cases c with
      | zero =>
        have d1 : decide ((j : Int) < m) = false := fn_d0 hjc
        have hjm : m.toNat = j := by omega
        have HJM : Hid (m.toNat = j) := hjm
        obtain ⟨x, rfl, hxb, hx0⟩ := hcc 0 (by have := HMM.out; omega)
        have x0 : wr.cell? x = some (.int .i64 (nth l 0)) := by rw [add_zero'] at hx0; exact cell_later HSM.out.bel hxb hx0
        have hl0 : 0 < l.length := by have := HMM.out; omega
        obtain ⟨va, vc, rfl⟩ := own_slice HSM.out.row
        have HRG : Hid (rgS m l = decide (nth l 0 = ((inS l j).length : Int))) := by unfold rgS; rw [hjm, HAL.out, (in_perm l j).length_eq]; exact rfl
        have hpw : IntKind.i64.wrap ((inS l j).length : Int) = ((inS l j).length : Int) := len_wrap (by have h1 := in_len (C := l) (j := j); have h2 := HMM.out; omega)
        have c0 : wr.cell? ⟨w.heap.size + 1, 0, none⟩ = some (.int .i64 3) := by rw [cell_at HSM.out.sh]; rfl
        have c1 : wr.cell? ⟨w.heap.size + 1, 1, none⟩ = some (.slice none 0 0) := by rw [cell_at HSM.out.sh]; rfl
        have c2 : wr.cell? ⟨w.heap.size + 1, 2, none⟩ = some (.slice va (inS l j).length vc) := by rw [cell_at HSM.out.sh]; rfl
        clear hjc hjm hcc hlen hm1 hm2 hll h3 hx0 hxb
        generalize hn0 : nth l 0 = z at *
        generalize hin : inS l j = P at *
        have HINJ : Hid (inS l j = P) := hin
        clear hin
        by_cases hz : z = (P.length : Int)
        · have HKD : Hid (kindS m l = 3 ∧ valS m l = P ∧ errS m l = 0) := by
            have hr : rgS m l = true := by rw [HRG.out]; simpa using hz
            unfold kindS valS errS
            rw [HOK.out, hr, HJM.out, HINJ.out]
            exact ⟨rfl, rfl, rfl⟩
          have hze : (z == (P.length : Int)) = true := by simpa using hz
          clear hz HRG
          go_wp2_with fail
          go_quiet (fail)
          obtain ⟨wx, hwx⟩ : ∃ wx, wx = wr.drewN nq := ⟨_, rfl⟩
          have HSX : Hid (RSh w wx (.slice va P.length vc) P) := by rw [hwx]; exact HSM.out.later (below_drawn (Below.refl _ _) _)
          rw [← hwx]
          have c0 : wx.cell? ⟨w.heap.size + 1, 0, none⟩ = some (.int .i64 3) := by rw [cell_at HSX.out.sh]; rfl
          have c1 : wx.cell? ⟨w.heap.size + 1, 1, none⟩ = some (.slice none 0 0) := by rw [cell_at HSX.out.sh]; rfl
          have c2 : wx.cell? ⟨w.heap.size + 1, 2, none⟩ = some (.slice va P.length vc) := by rw [cell_at HSX.out.sh]; rfl
          clear hwx x0
          obtain ⟨w5, hs5, hr5⟩ := HSX.out.tell
          have hpk : #[.int .i64 3, .slice none 0 0, .slice va P.length vc] = shC 3 (.slice none 0 0) (.slice va P.length vc) := rfl
          have hz3 : (shC 3 (.slice none 0 0) (.slice va P.length vc)).size = 3 := rfl
          generalize hk0 : shC 3 (.slice none 0 0) (.slice va P.length vc) = k0 at *
          have HK0 : Hid (shC 3 (.slice none 0 0) (.slice va P.length vc) = k0) := hk0
          clear hk0
          go_wp2_with fail
          exact ret_sh rfl rfl hr5.out.1 hz3 rfl ⟨_, by rw [HKD.out.1, HKD.out.2.2, HK0.out]; rfl, by rw [HKD.out.2.1]; exact hr5.out.2.1, hr5.out.2.2⟩
        · have HKB : Hid (kindS m l = 0 ∧ valS m l = [] ∧ errS m l = 12) := by
            have hr : rgS m l = false := by rw [HRG.out]; simpa using hz
            unfold kindS valS errS
            rw [HOK.out, hr]
            exact ⟨rfl, rfl, rfl⟩
          have hze : (z == (P.length : Int)) = false := by simpa using hz
          clear hz HRG
          go_wp2_with fail
          go_quiet (fail)
          obtain ⟨wx, hwx⟩ : ∃ wx, wx = wr.drewN nq := ⟨_, rfl⟩
          have HSX : Hid (RSh w wx (.slice va P.length vc) P) := by rw [hwx]; exact HSM.out.later (below_drawn (Below.refl _ _) _)
          rw [← hwx]
          have c0 : wx.cell? ⟨w.heap.size + 1, 0, none⟩ = some (.int .i64 3) := by rw [cell_at HSX.out.sh]; rfl
          have c1 : wx.cell? ⟨w.heap.size + 1, 1, none⟩ = some (.slice none 0 0) := by rw [cell_at HSX.out.sh]; rfl
          have c2 : wx.cell? ⟨w.heap.size + 1, 2, none⟩ = some (.slice va P.length vc) := by rw [cell_at HSX.out.sh]; rfl
          clear hwx x0
          obtain ⟨w5, hs5, hr5⟩ := HSX.out.zero
          have hpk : #[.int .i64 0, .slice none 0 0, .slice none 0 0] = shC 0 (.slice none 0 0) (.slice none 0 0) := rfl
          have hz3 : (shC 0 (.slice none 0 0) (.slice none 0 0)).size = 3 := rfl
          generalize hk0 : shC 0 (.slice none 0 0) (.slice none 0 0) = k0 at *
          have HK0 : Hid (shC 0 (.slice none 0 0) (.slice none 0 0) = k0) := hk0
          clear hk0
          go_wp2_with fail
          exact ret_sh rfl rfl hr5.out.1 hz3 rfl ⟨_, by rw [HKB.out.1, HKB.out.2.2, HK0.out]; rfl, by rw [HKB.out.2.1]; exact World.ownsRow_nil _ _ _ _, hr5.out.2⟩
      | succ c =>
        obtain ⟨d1, hjm, hjn⟩ := fn_d1 hjc
        obtain ⟨x, q0, q1, q2, rfl, ⟨b0, b1, b2⟩, x0, x1, x2, g0, g1, g2, g3⟩ := slot_in (w' := wr) (j : Int) hcc HMM.out ⟨Int.natCast_nonneg j, hjm⟩ HSM.out.bel
        have HFN : Hid (∀ w' : World, Below w.heap.size w w' → Calls Try.prog 27 #[.int .i64 m, .slice (some x) l.length cap, .int .i64 (j : Int)] w' fun e w'' => e = .returned (.bool (decide ((lookV l (kyV l (j : Int)) m).1 = (j : Int)))) ∧ Below w'.heap.size w' w'') := fun w' hb => rfinds_any (HNL.out w' hb) HMM.out ⟨Int.natCast_nonneg j, hjm⟩
        have HBAD : Hid (gdS l m (j : Int) = false → kindS m l = 0 ∧ valS m l = [] ∧ errS m l = 12) := fun h => bad_slot HOK.out hjc h
        have HNX : Hid (((j + 1 : Nat) : Int) + (c : Int) = m ∧ wrap64 ((j : Int) + 1) = ((j + 1 : Nat) : Int)) := sh_next HMM.out hjc
        have HAN : Hid (gdS l m (j : Int) = true → allG l m (j + 1) = true) := fun h => by simp only [allG, HAL.out, h]; rfl
        have HIN : Hid (inS l (j + 1) = if stV l (j : Int) = 1 then insP (kyV l (j : Int), vlV l (j : Int)) (inS l j) else inS l j) := rfl
        have HGD : Hid (gdS l m (j : Int) = ((decide (0 ≤ stV l (j : Int)) && decide (stV l (j : Int) ≤ 2)) && (decide (stV l (j : Int) ≠ 1) || decide ((lookV l (kyV l (j : Int)) m).1 = (j : Int))))) := rfl
        have HL16 : Hid ((inS l j).length ≤ 16) := Nat.le_trans in_len (fn_16 hjm HMM.out.2.1)
        generalize stV l (j : Int) = st at *
        generalize kyV l (j : Int) = ky at *
        generalize vlV l (j : Int) = vl at *
        generalize decide ((lookV l ky m).1 = (j : Int)) = fd at *
        clear hjc hcc hlen hm1 hm2 hll h3 hjm hjn
        by_cases s0 : st < 0
        · have HKB : Hid (kindS m l = 0 ∧ valS m l = [] ∧ errS m l = 12) := HBAD.out (by rw [HGD.out]; exact st_low s0)
          have e0 : decide (st < 0) = true := by simpa using s0
          obtain ⟨w5, hs5, hr5⟩ := HSM.out.zero
          have hpk : #[.int .i64 0, .slice none 0 0, .slice none 0 0] = shC 0 (.slice none 0 0) (.slice none 0 0) := rfl
          have hz3 : (shC 0 (.slice none 0 0) (.slice none 0 0)).size = 3 := rfl
          generalize hk0 : shC 0 (.slice none 0 0) (.slice none 0 0) = k0 at *
          have HK0 : Hid (shC 0 (.slice none 0 0) (.slice none 0 0) = k0) := hk0
          clear HBAD HGD HFN HIN s0 hk0
          go_wp2_with fail
          exact ret_sh rfl rfl hr5.out.1 hz3 rfl ⟨_, by rw [HKB.out.1, HKB.out.2.2, HK0.out]; rfl, by rw [HKB.out.2.1]; exact World.ownsRow_nil _ _ _ _, hr5.out.2⟩
        · have e0 : decide (st < 0) = false := by simpa using s0
          by_cases s2 : 2 < st
          · have HKB : Hid (kindS m l = 0 ∧ valS m l = [] ∧ errS m l = 12) := HBAD.out (by rw [HGD.out]; exact st_high s2)
            have e2 : decide (2 < st) = true := by simpa using s2
            obtain ⟨w5, hs5, hr5⟩ := HSM.out.zero
            have hpk : #[.int .i64 0, .slice none 0 0, .slice none 0 0] = shC 0 (.slice none 0 0) (.slice none 0 0) := rfl
            have hz3 : (shC 0 (.slice none 0 0) (.slice none 0 0)).size = 3 := rfl
            generalize hk0 : shC 0 (.slice none 0 0) (.slice none 0 0) = k0 at *
            have HK0 : Hid (shC 0 (.slice none 0 0) (.slice none 0 0) = k0) := hk0
            clear HBAD HGD HFN HIN s0 s2 hk0
            go_wp2_with fail
            exact ret_sh rfl rfl hr5.out.1 hz3 rfl ⟨_, by rw [HKB.out.1, HKB.out.2.2, HK0.out]; rfl, by rw [HKB.out.2.1]; exact World.ownsRow_nil _ _ _ _, hr5.out.2⟩
          · have e2 : decide (2 < st) = false := by simpa using s2
            have HST : Hid ((decide (0 ≤ st) && decide (st ≤ 2)) = true) := st_in s0 s2
            by_cases s1 : st = 1
            · subst s1
              clear s0 s2 e0 e2
              go_wp2_with fail
              refine (HFN.out _ HSM.out.bel).mono ?_
              rintro e w2 ⟨rfl, hb2⟩
              have HS2 : Hid (RSh w w2 vp (inS l j)) := HSM.out.later hb2
              have y1 : w2.cell? (x.add q1) = some (.int .i64 ky) := cell_later hb2 (lt_cell x1) x1
              have y2 : w2.cell? (x.add q2) = some (.int .i64 vl) := cell_later hb2 (lt_cell x2) x2
              clear hb2 x0 x1 x2 HFN HSM
              cases fd with
              | false =>
                have HKB : Hid (kindS m l = 0 ∧ valS m l = [] ∧ errS m l = 12) := HBAD.out (by rw [HGD.out]; rfl)
                obtain ⟨w5, hs5, hr5⟩ := HS2.out.zero
                have hpk : #[.int .i64 0, .slice none 0 0, .slice none 0 0] = shC 0 (.slice none 0 0) (.slice none 0 0) := rfl
                have hz3 : (shC 0 (.slice none 0 0) (.slice none 0 0)).size = 3 := rfl
                generalize hk0 : shC 0 (.slice none 0 0) (.slice none 0 0) = k0 at *
                have HK0 : Hid (shC 0 (.slice none 0 0) (.slice none 0 0) = k0) := hk0
                clear HBAD HGD HIN hk0
                go_wp2_with fail
                exact ret_sh rfl rfl hr5.out.1 hz3 rfl ⟨_, by rw [HKB.out.1, HKB.out.2.2, HK0.out]; rfl, by rw [HKB.out.2.1]; exact World.ownsRow_nil _ _ _ _, hr5.out.2⟩
              | true =>
                have HG : Hid (gdS l m (j : Int) = true) := by rw [Hid, HGD.out]; rfl
                have HI2 : Hid (inS l (j + 1) = insP (ky, vl) (inS l j)) := by rw [Hid, HIN.out, if_pos trivial]
                clear HBAD HGD HIN HST
                go_wp2_with fail
                have k0 := wr_i64 g0
                have k2 := wr_i64 g2
                have k3 := wr_i64 g3
                have z1 : ∀ o, (w2.alloc o).cell? (x.add q1) = some (.int .i64 ky) := fun o => cell_later (below_a1 w2 o) (lt_cell y1) y1
                have z2 : ∀ o, (w2.alloc o).cell? (x.add q2) = some (.int .i64 vl) := fun o => cell_later (below_a1 w2 o) (lt_cell y2) y2
                go_region
                obtain ⟨w3, hw3⟩ : ∃ w3, w3 = (w2.alloc (.cells #[.int .i64 ky, .int .i64 vl] 39)).drew := ⟨_, rfl⟩
                have hb3 : Below w2.heap.size w2 w3 := by rw [hw3]; exact below_drawn (below_a1 _ _) 1
                have HS3 : Hid (RSh w w3 vp (inS l j)) := HS2.out.later hb3
                have HP3 : Hid (w3.heap[w2.heap.size]? = some (.cells #[.int .i64 ky, .int .i64 vl] 39 (0, 0))) := by rw [hw3]; exact heap_alloc_new w2 _
                have HB2 : Hid (w.heap.size + 2 ≤ w2.heap.size) := heap_lt HS2.out.sh
                rw [← hw3]
                generalize w2.heap.size = B at *
                clear hw3 hb3 y1 y2 z1 z2 k0 k2 k3 g0 g1 g2 g3 b0 b1 b2 HS2
                generalize inS l j = P at *
                go_upto_block 2 with fail
                go_cut [12] (fun kv wx => ∃ k : Nat, kv = .int .i64 (k : Int) ∧ k ≤ P.length ∧ insP (ky, vl) P = P.take k ++ (ky, vl) :: P.drop k ∧ RSh w wx vp P ∧ wx.heap[B]? = some (.cells #[.int .i64 ky, .int .i64 vl] 39 (0, 0)))
                case first =>
                  go_wp2_with fail
                  go_loopg [12] P.length (fun gh kv wr => ∃ k : Nat, P.length - k = gh ∧ kv = .int .i64 (k : Int) ∧ k ≤ P.length ∧ (∀ i, i < k → ∀ hP : i < P.length, (P[i]).1 < ky) ∧ RSh w wr vp P ∧ wr.heap[B]? = some (.cells #[.int .i64 ky, .int .i64 vl] 39 (0, 0)))
                  case atStart => exact ⟨0, rfl, rfl, Nat.zero_le _, fun i hi => by omega, HS3.out, HP3.out⟩
                  case round =>
                    obtain ⟨k, rfl, rfl, hk, hlow, hrs, hpb⟩ := hrel
                    have HRS : Hid (RSh w wr vp P ∧ wr.heap[B]? = some (.cells #[.int .i64 ky, .int .i64 vl] 39 (0, 0)) ∧ ∀ i, i < k → ∀ hP : i < P.length, (P[i]).1 < ky) := ⟨hrs, hpb, hlow⟩
                    have HK : Hid (k ≤ P.length) := hk
                    obtain ⟨va, vc, rfl⟩ := own_slice hrs.row
                    have c2 : wr.cell? ⟨w.heap.size + 1, 2, none⟩ = some (.slice va P.length vc) := by rw [cell_at hrs.sh]; rfl
                    have p0 : wr.cell? ⟨B, 0, none⟩ = some (.int .i64 ky) := by rw [cell_at hpb]; rfl
                    by_cases hlt : k < P.length
                    · obtain ⟨x', hx', hxc⟩ := pr_cell hrs.row hlt
                      subst hx'
                      have d1 : decide ((k : Int) < (P.length : Int)) = true := by simpa using hlt
                      by_cases hky : (P[k]).1 < ky
                      · have d2 : decide ((P[k]).1 < ky) = true := by simpa using hky
                        have HN : Hid (∀ i, i < k + 1 → ∀ hP : i < P.length, (P[i]).1 < ky) := fun i hi hP => by
                          by_cases e : i = k
                          · subst e; exact hky
                          · exact hlow i (by omega) hP
                        have HKW : Hid (wrap64 ((k : Int) + 1) = ((k + 1 : Nat) : Int) ∧ k + 1 ≤ P.length) := pk_next hlt HL16.out
                        generalize (P[k]).1 = pk at *
                        clear hk hlow hrs hpb hky
                        go_wp2_with fail
                        go_quiet (fail)
                        go_wp2_with fail
                        go_roundg (P.length - (k + 1))
                        case rel => exact ⟨k + 1, rfl, by first | rw [HKW.out.1] | go_num, HKW.out.2, HN.out, HRS.out.1.later (below_drawn (Below.refl _ _) _), HRS.out.2.1⟩
                        case measure => exact mq_less hlt
                      · have d2 : decide ((P[k]).1 < ky) = false := by simpa using hky
                        have HE : Hid (insP (ky, vl) P = P.take k ++ (ky, vl) :: P.drop k) := ins_at hk hlow (fun _ => hky)
                        generalize (P[k]).1 = pk at *
                        clear hk hlow hrs hpb hky
                        go_wp2_with fail
                        go_quiet (fail)
                        go_wp2_with fail
                        go_meet
                        exact ⟨k, rfl, HK.out, HE.out, HRS.out.1.later (below_drawn (Below.refl _ _) _), HRS.out.2.1⟩
                    · have d1 : decide ((k : Int) < (P.length : Int)) = false := by simpa using hlt
                      have HE : Hid (insP (ky, vl) P = P.take k ++ (ky, vl) :: P.drop k) := ins_at hk hlow (fun h => absurd h hlt)
                      clear hk hlow hrs hpb
                      go_wp2_with fail
                      go_quiet (fail)
                      go_wp2_with fail
                      go_meet
                      exact ⟨k, rfl, HK.out, HE.out, HRS.out.1.later (below_drawn (Below.refl _ _) _), HRS.out.2.1⟩
                case rest =>
                  obtain ⟨k, rfl, hk, hins, hrs, hpb⟩ := hcut
                  have HRS : Hid (RSh w wc vp P ∧ wc.heap[B]? = some (.cells #[.int .i64 ky, .int .i64 vl] 39 (0, 0))) := ⟨hrs, hpb⟩
                  have HINS : Hid (inS l (j + 1) = P.take k ++ (ky, vl) :: P.drop k) := by rw [Hid, HI2.out, hins]
                  have HK : Hid (k ≤ P.length) := hk
                  obtain ⟨va, vc, rfl⟩ := own_slice hrs.row
                  have c2 : wc.cell? ⟨w.heap.size + 1, 2, none⟩ = some (.slice va P.length vc) := by rw [cell_at hrs.sh]; rfl
                  have p0 : wc.cell? ⟨B, 0, none⟩ = some (.int .i64 ky) := by rw [cell_at hpb]; rfl
                  have p1 : wc.cell? ⟨B, 1, none⟩ = some (.int .i64 vl) := by rw [cell_at hpb]; rfl
                  have hPc : P.length ≤ vc := by obtain ⟨_, _, e, h, _⟩ := Pl.of_own hrs.row; injection e with _ _ e; omega
                  have hkc : k ≤ vc := by omega
                  have HPL : Hid (Pl wc (.slice va P.length vc) P) := Pl.of_own HRS.out.1.row
                  have HPT : Hid (Pl wc (.slice va k vc) (P.take k)) := HPL.out.take HK.out
                  have HZ : Hid ((inS l (j + 1)).length = P.length + 1 ∧ prC (inS l (j + 1)) = prC (P.take k) ++ (.int .i64 ky :: .int .i64 vl :: prC (P.drop k))) := by rw [HINS.out]; exact z_of HK.out
                  have HTL : Hid ((P.take k).length = k ∧ k ≤ 16 ∧ (P.drop k).length = P.length - k) := ⟨by simp [HK.out], Nat.le_trans HK.out HL16.out, List.length_drop ..⟩
                  clear hins hrs hpb HI2 HS3 HP3
                  go_wp2_with (at_builtin; refine wpList_append_pl _ rfl _ _ rfl wc.heap.size (.slice none 0 0) 0 [] rfl (World.ownsRow_nil _ _ _ _) (.slice va k vc) (P.take k) rfl HPT.out ?c1 ?c2 ?_)
                  case c1 => have := HTL.out; omega
                  case c2 => exact Nat.le_refl _
                  intro v1 w1 hown1 hgr1
                  have hb1 : Below wc.heap.size wc w1 := (Below.refl _ _).grown hgr1 (Nat.le_refl _) (fun b hb => by cases hb)
                  have HO1 : Hid (w1.ownsRow wc.heap.size 39 2 v1 k (prC (P.take k))) := hown1
                  obtain ⟨a1, c1, rfl⟩ := own_slice HO1.out
                  have q0 : w1.cell? ⟨B, 0, none⟩ = some (.int .i64 ky) := cell_later hb1 (heap_lt HRS.out.2) p0
                  have q1 : w1.cell? ⟨B, 1, none⟩ = some (.int .i64 vl) := cell_later hb1 (heap_lt HRS.out.2) p1
                  have HB1 : Hid (Below wc.heap.size wc w1) := hb1
                  clear hown1 hgr1 hb1
                  have hw1 : wc.heap.size ≤ w1.heap.size := HB1.out.size
                  go_wp2_with (at_builtin; refine list_lies_wide _ rfl _ _ 32 rfl wc.heap.size 39 i0 _ 2 16 Try.underlying32 hi0 hz0 hz1 hz2 rfl (by decide) _ _ _ rfl (HO1.out.alloc _) ⟨w1.heap.size, 0, none⟩ 1 1 [.int .i64 ky, .int .i64 vl] rfl rfl ?c1 ?c2 ?c3 ?c4 ?c5 ?c6 _ rfl ?_)
                  case c1 => exact World.news_of_block (cs := #[.int .i64 ky, .int .i64 vl]) (t := 39) (fr := (0, 0)) (heap_alloc_new _ _)
                  case c2 => intro u hu; simp at hu; rcases hu with rfl | rfl <;> rfl
                  case c3 => decide
                  case c4 => have := HTL.out; unfold maxLen; omega
                  case c5 => have := HTL.out; omega
                  case c6 => simp; omega
                  intro g2 cp2 w2' hown2 hgr2 _ _
                  have hb2 : Below wc.heap.size wc w2' := (below_alloc HB1.out _).grown hgr2 (by simp; omega) (fun b hb => (own_block HO1.out b hb).1)
                  have HO2 : Hid (w2'.ownsRow wc.heap.size 39 2 (.slice (some ⟨g2, 0, none⟩) (k + 1) cp2) (k + 1) (prC (P.take k) ++ [.int .i64 ky, .int .i64 vl])) := hown2
                  have HB2' : Hid (Below wc.heap.size wc w2') := hb2
                  have c22 : w2'.cell? ⟨w.heap.size + 1, 2, none⟩ = some (.slice va P.length vc) := cell_later hb2 (heap_lt HRS.out.1.sh) c2
                  have hPD : Pl w2' (.slice (if vc = k then va else va.map (·.add (k * 2))) (P.length - k) (vc - k)) (P.drop k) := (HPL.out.drop HK.out).later hb2
                  clear hown2 hgr2 hb2 q0 q1 p0 p1 c2
                  have hw2 : wc.heap.size ≤ w2'.heap.size := HB2'.out.size
                  have hkP : k ≤ P.length := HK.out
                  by_cases hvk : vc = k
                  · rw [if_pos hvk] at hPD
                    subst hvk
                    have hPk : P.length = vc := by omega
                    have HPD : Hid (Pl w2' (.slice va 0 0) (P.drop vc)) := by rw [hPk, Nat.sub_self] at hPD; exact hPD
                    rw [hPk] at c22
                    have HDL : Hid ((P.drop vc).length = 0) := by rw [Hid, HTL.out.2.2, hPk, Nat.sub_self]
                    clear hPD hPc hkc hkP
                    go_wp2_with (at_builtin; refine wpList_append_pl _ rfl _ _ rfl wc.heap.size _ _ _ rfl HO2.out (.slice va 0 0) (P.drop vc) rfl HPD.out ?c1 ?c2 ?_)
                    case c1 => have := HDL.out; have := HTL.out; omega
                    case c2 => exact hw2
                    intro v3 w3' hown3 hgr3
                    have HS5 : Hid (RSh w (w3'.setCell ⟨w.heap.size + 1, 2, none⟩ v3) v3 (inS l (j + 1))) := HRS.out.1.next (HB2'.out.grown hgr3 hw2 (fun b hb => (own_block HO2.out b hb).1)) (by rw [HZ.out.1, HZ.out.2, hPk]; exact hown3)
                    have c32 : w3'.cell? ⟨w.heap.size + 1, 2, none⟩ = some (.slice va P.length vc) := cell_later (HB2'.out.grown hgr3 hw2 (fun b hb => (own_block HO2.out b hb).1)) (heap_lt HRS.out.1.sh) (by rw [cell_at HRS.out.1.sh]; rfl)
                    have f32 : w3'.frozen? ⟨w.heap.size + 1, 2, none⟩ = false := by
                      have := (HB2'.out.grown hgr3 hw2 (fun b hb => (own_block HO2.out b hb).1)).block _ (heap_lt HRS.out.1.sh)
                      exact frozen_at (by rw [this]; exact HRS.out.1.sh) 2
                    have hx3 : w.heap.size + 1 < w3'.heap.size := World.block_lt_of_cell? _ _ c32
                    obtain ⟨a3, c3, rfl⟩ := own_slice hown3
                    clear hown3 hgr3 c22
                    go_wp2_with fail
                    go_roundg c
                    case rel => exact ⟨j + 1, c, _, rfl, HNX.out.1, by first | rw [HNX.out.2] | go_num, HS5.out, HAN.out HG.out⟩
                    case measure => exact Nat.lt_succ_self c
                  · obtain ⟨y, rfl⟩ : ∃ y, va = some y := by
                      cases va with
                      | none => obtain ⟨_, _, e, _, _, h4, _⟩ := HPL.out; injection e with e1 _ e2; subst e1 e2; have := h4 rfl; omega
                      | some y => exact ⟨y, rfl⟩
                    rw [if_neg hvk] at hPD
                    have HPD : Hid (Pl w2' (.slice (some (y.add (k * 2))) (P.length - k) (vc - k)) (P.drop k)) := hPD
                    clear hPD
                    go_wp2_with (at_builtin; refine wpList_append_pl _ rfl _ _ rfl wc.heap.size _ _ _ rfl HO2.out (.slice (some (y.add (k * 2))) (P.length - k) (vc - k)) (P.drop k) rfl HPD.out ?c1 ?c2 ?_)
                    case c1 => have := HTL.out; have := HL16.out; omega
                    case c2 => exact hw2
                    intro v3 w3' hown3 hgr3
                    have hnn : k + 1 + (P.length - k) = P.length + 1 := by omega
                    rw [hnn] at hown3
                    have HS5 : Hid (RSh w (w3'.setCell ⟨w.heap.size + 1, 2, none⟩ v3) v3 (inS l (j + 1))) := HRS.out.1.next (HB2'.out.grown hgr3 hw2 (fun b hb => (own_block HO2.out b hb).1)) (by rw [HZ.out.1, HZ.out.2]; exact hown3)
                    have c32 : w3'.cell? ⟨w.heap.size + 1, 2, none⟩ = some (.slice (some y) P.length vc) := cell_later (HB2'.out.grown hgr3 hw2 (fun b hb => (own_block HO2.out b hb).1)) (heap_lt HRS.out.1.sh) (by rw [cell_at HRS.out.1.sh]; rfl)
                    have f32 : w3'.frozen? ⟨w.heap.size + 1, 2, none⟩ = false := by
                      have := (HB2'.out.grown hgr3 hw2 (fun b hb => (own_block HO2.out b hb).1)).block _ (heap_lt HRS.out.1.sh)
                      exact frozen_at (by rw [this]; exact HRS.out.1.sh) 2
                    have hx3 : w.heap.size + 1 < w3'.heap.size := World.block_lt_of_cell? _ _ c32
                    obtain ⟨a3, c3, rfl⟩ := own_slice hown3
                    clear hown3 hgr3 c22
                    go_wp2_with fail
                    go_roundg c
                    case rel => exact ⟨j + 1, c, _, rfl, HNX.out.1, by first | rw [HNX.out.2] | go_num, HS5.out, HAN.out HG.out⟩
                    case measure => exact Nat.lt_succ_self c
            · have e1 : (st == 1) = false := by simpa using s1
              have HG : Hid (gdS l m (j : Int) = true) := by rw [Hid, HGD.out, HST.out]; simp [s1]
              have HS2 : Hid (RSh w wr vp (inS l (j + 1))) := by rw [HIN.out, if_neg s1]; exact HSM.out
              clear HBAD HGD HIN HFN s0 s1 s2
              go_wp2_with fail
              go_roundg c
              case rel => exact ⟨j + 1, c, vp, rfl, HNX.out.1, by first | rw [HNX.out.2] | go_num, HS2.out, HAN.out HG.out⟩
              case measure => exact Nat.lt_succ_self c
end Go.Proofs.Ytbajgbknjmbimab.Di
