/- The program's Shape: all nodes, each once (by slices.Concat and slices.Sort). -/
import Derived.Test.YtaffkcliepfcmaaChSq
import Derived.Test.YtaffkcliepfcmaaChSo
import Derived.Lib.AppendZerosOnto
import Derived.Lib.SliceRun
import Derived.Laws.AppendOwnNone
import Derived.LoopN
namespace Go.Proofs.Ytaffkcliepfcmaa.Ch
open Go.ChangeShapes Go.WideShapes Go.ChangeAt Go.RowKit
attribute [local go_sem ↓] Go.wp_at_zero Go.wp_at_succ

set_option maxRecDepth 100000 in
theorem wpList_append_in (w : World) {ops : Array Oper} {rest : List Oper} {o : Oper} {a : Act} {Q : Exit → Act → World → Prop} (hgd : o.guard = none) (s x : Operand)
    (ho : o.op = .call { callee := .builtin .append, args := #[s, x], argTypes := #[63, 63] }) (base : Nat) (v : Value) (n : Nat) (xs : List Value) (hs : a.eval s = v) (hown : w.ownsRow base 3 1 v n xs)
    (u : Value) (l : List Int) (hx : a.eval x = u) (hl : Nl w u l) (h63 : n + l.length ≤ maxLen) (hbytes : (n + l.length) * 8 ≤ 140737488355328) (hbase : base ≤ w.heap.size)
    (h : ∀ v' w', w'.ownsRow base 3 1 v' (n + l.length) (xs ++ numC l) → w.grownBy w' v.ownBlock → wpList Try.prog ops Q rest (a.put o.dst v') w') : wpList Try.prog ops Q (o :: rest) a w := by
  obtain ⟨i0, hi, hz0, hz1, hz2⟩ := info_parts info_int
  obtain ⟨ad, cap, rfl, hbig, hc1, ⟨hc2, hnil⟩, _, hc⟩ := hl
  cases ad with
  | none =>
    have hl0 : l.length = 0 := by
      rcases hc with h0 | ⟨x, hx', _⟩
      · exact h0
      · cases hx'
    obtain rfl : l = [] := List.eq_nil_of_length_eq_zero hl0
    obtain rfl : cap = 0 := hnil rfl
    refine wpList_append_own_none hgd s x 63 ho base 3 i0 1 Try.underlying63 hi v n xs hs hown hx ?_
    exact h v w (by simpa [numC] using hown) ⟨rfl, rfl, rfl, Nat.le_refl _, fun _ _ _ => rfl⟩
  | some ad =>
    refine wpList_append_own w hgd s x 63 ho base 3 i0 (.int .i64 0) 1 8 Try.underlying63 hi hz0 hz1 hz2 rfl (by decide) v n xs hs hown ad l.length cap (numC l) hx (by rw [numC_len]; omega) (fun j u' hu => ?_) (fun u' hu => ?_) h63 hbytes hbase fun v' w' h1 h2 _ => h v' w' h1 h2
    · have hj : j < l.length := by
        have := (List.getElem?_eq_some_iff.1 hu).1
        rwa [numC_len] at this
      rw [numC_get l j hj] at hu
      obtain ⟨x, hx', _, hcell⟩ := hc.resolve_left (by omega)
      injection hx' with hx'
      subst hx'
      injection hu with hu
      rw [← hu]
      exact hcell j hj
    · simp only [numC, List.mem_map] at hu
      obtain ⟨z, _, rfl⟩ := hu
      rfl
theorem grow_none (w : World) : Calls Try.prog 72 #[.slice none 0 0, .int .i64 0] w fun e w' => e = .returned (.slice none 0 0) ∧ w' = w := by
  go_enter Try.func72, Try.ntmps72
  go_wp2_with fail
  go_ret
  exact ⟨rfl, rfl⟩
set_option maxRecDepth 100000 in
theorem grow_some (w : World) (n : Nat) (h1 : 1 ≤ n) (h2 : n ≤ 100) : Calls Try.prog 72 #[.slice none 0 0, .int .i64 (n : Int)] w fun e w' => ∃ v, e = .returned v ∧ w'.ownsRow w.heap.size 3 1 v 0 [] ∧ Below w.heap.size w w' := by
  obtain ⟨i0, hi, hz0, hz1, hz2⟩ := info_parts info_int
  have hold : (Builtin.firstCells i0.size 0 (.slice none 0 0)).run Try.prog w.drew = .ok ([] : List Value).toArray w.drew := run_firstCells_none w.drew i0.size 0 0 0
  have hrz : ∀ ty, (Builtin.append_ #[63, 3] ty #[.slice none 0 0, .int .i64 (n : Int)]).run Try.prog w =
      .ok (.slice (some ⟨w.heap.size, 0, none⟩) n (grownCap w n 0 3)) (w.drew.alloc (.cells (([] : List Value).toArray ++ Builtin.zeroCells (Value.int .i64 0).cells n ++ Builtin.zeroCells (Value.int .i64 0).cells (grownCap w n 0 3 - n)) 3)) := fun ty => by
    have h := Lib.run_append_grow_zeros w 63 3 ty 3 i0 (.int .i64 0) .i64 .i64 Try.underlying63 Try.underlying3 hi hz0 none 0 0 [] hold n (by omega) (by omega) (by omega) (by omega) (by rw [hz2]; omega) (growslice_fits (by omega) (by rw [hz2]; omega))
    rw [Nat.zero_add] at h
    exact h
  obtain ⟨G, hG⟩ : ∃ G, G = grownCap w n 0 3 := ⟨_, rfl⟩
  have hGn : n ≤ G := by rw [hG]; exact grownCap_ge w _ _ _
  have hGm : G ≤ maxLen := by rw [hG]; exact grownCap_le_maxLen w _ _ _ (by unfold maxLen; omega)
  rw [← hG] at hrz
  obtain ⟨cs, hcs⟩ : ∃ cs : Array Value, cs = (([] : List Value).toArray ++ Builtin.zeroCells (Value.int .i64 0).cells n ++ Builtin.zeroCells (Value.int .i64 0).cells (G - n)) := ⟨_, rfl⟩
  rw [← hcs] at hrz
  have HZ : Hid (cs.size = G ∧ n ≤ G ∧ G ≤ maxLen) := by
    have h9 : cs.size = G := by rw [hcs]; simp [Builtin.zeroCells, Value.cells]; omega
    exact ⟨h9, hGn, hGm⟩
  have hG2 : G ≤ 9223372036854775807 := by unfold maxLen at hGm; exact hGm
  have hw0 : wrap64 ((n : Int) - 0) = (n : Int) := by unfold wrap64; omega
  have d0 : decide ((n : Int) < 0) = false := by simp
  have d1 : decide ((0 : Int) < (n : Int)) = true := by simp; omega
  have d1n : 0 < n := by omega
  clear hcs hold hG hGm
  have HX : Hid (∀ w' : World, w' = w.drew.alloc (.cells cs 3) → w'.heap[w.heap.size]? = some (.cells cs 3 (0, 0)) ∧ Below w.heap.size w w') := fun w' h => by
    rw [h]
    exact ⟨heap_alloc_new w.drew _, below_then (below_drawn (Below.refl _ _) 1) (below_a1 _ _)⟩
  go_enter Try.func72, Try.ntmps72
  go_wp2_with (at_builtin; refine Lib.wpList_append_run _ rfl _ _ _ _ rfl _ _ rfl rfl _ _ (hrz _) ?_)
  go_ret
  obtain ⟨x1, x2⟩ := HX.out _ rfl
  exact ⟨_, rfl, ⟨rfl, Or.inr ⟨w.heap.size, G, cs, rfl, Nat.le_refl _, x1, by omega, HZ.out.2.2, by rw [HZ.out.1, Nat.mul_one], by simp⟩⟩, x2⟩
/-- Two rows, one behind the other. -/
theorem grow_any (w : World) (n : Nat) (h2 : n ≤ 100) : Calls Try.prog 72 #[.slice none 0 0, .int .i64 (n : Int)] w fun e w' => ∃ v, e = .returned v ∧ w'.ownsRow w.heap.size 3 1 v 0 [] ∧ Below w.heap.size w w' := by
  by_cases h : n = 0
  · subst h
    refine (grow_none w).mono ?_
    rintro e w' ⟨rfl, rfl⟩
    exact ⟨_, rfl, World.ownsRow_nil _ _ _ _, Below.refl _ _⟩
  · exact grow_some w n (by omega) h2
theorem own_low {w : World} {B B' : Nat} {e : TypeId} {s : Nat} {v : Value} {n : Nat} {xs : List Value} (h : w.ownsRow B e s v n xs) (hb : B' ≤ B) : w.ownsRow B' e s v n xs := by
  obtain ⟨h1, h2⟩ := h
  refine ⟨h1, ?_⟩
  rcases h2 with h2 | ⟨g, cap, cur, h3, h4, h5⟩
  · exact Or.inl h2
  · exact Or.inr ⟨g, cap, cur, h3, Nat.le_trans hb h4, h5⟩
set_option maxRecDepth 100000 in
set_option maxHeartbeats 1000000 in
theorem concat_any {w : World} {G : Nat} {v1 v2 : Value} {X Y : List Int} (hX : Nl w v1 X) (hY : Nl w v2 Y) (hx : X.length ≤ 40) (hy : Y.length ≤ 40) (h0 : w.cell? ⟨G, 0, none⟩ = some v1) (h1 : w.cell? ⟨G, 1, none⟩ = some v2) (hG : G < w.heap.size) :
    Calls Try.prog 42 #[.slice (some ⟨G, 0, none⟩) 2 2] w fun e w' => ∃ v, e = .returned v ∧ w'.ownsRow w.heap.size 3 1 v (X ++ Y).length (numC (X ++ Y)) ∧ Below w.heap.size w w' := by
  have HX : Hid (∀ w' : World, Below w.heap.size w w' → Nl w' v1 X) := fun w' hb => hX.later hb (Nat.le_refl _)
  have HY : Hid (∀ w' : World, Below w.heap.size w w' → Nl w' v2 Y) := fun w' hb => hY.later hb (Nat.le_refl _)
  obtain ⟨a1, c1, rfl⟩ := nl_slice hX
  obtain ⟨a2, c2, rfl⟩ := nl_slice hY
  have HC : Hid (∀ w' : World, Below w.heap.size w w' → w'.cell? ⟨G, 0, none⟩ = some (.slice a1 X.length c1) ∧ w'.cell? ⟨G, 1, none⟩ = some (.slice a2 Y.length c2)) := fun w' hb => ⟨cell_later hb hG h0, cell_later hb hG h1⟩
  have HGR : Hid (∀ w : World, Calls Try.prog 72 #[.slice none 0 0, .int .i64 ((X.length : Int) + (Y.length : Int))] w fun e w' => ∃ v, e = .returned v ∧ w'.ownsRow w.heap.size 3 1 v 0 [] ∧ Below w.heap.size w w') := fun w => by have := grow_any w (X.length + Y.length) (by omega); rw [Int.natCast_add] at this; exact this
  have e1 : wrap64 (X.length : Int) = (X.length : Int) := by unfold wrap64; omega
  have e2 : wrap64 ((X.length : Int) + (Y.length : Int)) = (X.length : Int) + (Y.length : Int) := by unfold wrap64; omega
  have d1 : decide ((X.length : Int) < 0) = false := by simp
  have d2 : decide ((X.length : Int) + (Y.length : Int) < 0) = false := by simp; omega
  clear hX hY
  go_enter Try.func42, Try.ntmps42
  go_wp2_with fail
  refine wp_loop_rounds 3 ?_
  rw [rounds_succ]
  go_wp2_with fail
  rw [rounds_succ]
  go_wp2_with fail
  rw [rounds_succ]
  go_wp2_with fail
  refine (HGR.out _).mono ?_
  rintro e w2 ⟨v, rfl, hown, hb⟩
  have HO2 : Hid (w2.ownsRow w.heap.size 3 1 v 0 [] ∧ Below w.heap.size w w2) := ⟨hown, hb⟩
  obtain ⟨q0, q1⟩ := HC.out w2 hb
  have hg2 : G < w2.heap.size := Nat.lt_of_lt_of_le hG hb.size
  have hs2 : w.heap.size ≤ w2.heap.size := hb.size
  obtain ⟨va, vc, rfl⟩ := own_slice HO2.out.1
  clear hown hb h0 h1
  go_wp2_with fail
  refine wp_loop_rounds 3 ?_
  rw [rounds_succ]
  go_wp2_with (at_builtin; refine wpList_append_in _ rfl _ _ rfl w.heap.size _ 0 [] rfl HO2.out.1 _ X rfl (HX.out w2 HO2.out.2) (by unfold maxLen; omega) (by omega) (by omega) ?_)
  intro v3 w3 hown3 hgr3
  have HO3 : Hid (w3.ownsRow w.heap.size 3 1 v3 X.length (numC X) ∧ Below w.heap.size w w3) := by
    refine ⟨?_, HO2.out.2.grown hgr3 (by omega) (fun b hb => by have := own_block HO2.out.1 b hb; omega)⟩
    exact hown3
  obtain ⟨q2, q3⟩ := HC.out w3 HO3.out.2
  have hg3 : G < w3.heap.size := Nat.lt_of_lt_of_le hG HO3.out.2.size
  have hs3 : w.heap.size ≤ w3.heap.size := HO3.out.2.size
  obtain ⟨va3, vc3, rfl⟩ := own_slice HO3.out.1
  clear hown3 hgr3 q0 q1 hg2 HO2
  go_wp2_with fail
  rw [rounds_succ]
  go_wp2_with (at_builtin; refine wpList_append_in _ rfl _ _ rfl w.heap.size _ X.length (numC X) rfl HO3.out.1 _ Y rfl (HY.out w3 HO3.out.2) (by unfold maxLen; omega) (by omega) (by omega) ?_)
  intro v4 w4 hown4 hgr4
  have HO4 : Hid (w4.ownsRow w.heap.size 3 1 v4 (X ++ Y).length (numC (X ++ Y)) ∧ Below w.heap.size w w4) := by
    refine ⟨?_, HO3.out.2.grown hgr4 (by omega) (fun b hb => by have := own_block HO3.out.1 b hb; omega)⟩
    rw [List.length_append, show numC (X ++ Y) = numC X ++ numC Y by simp [numC]]
    exact hown4
  clear hown4 hgr4 HO3 q2 q3
  go_wp2_with fail
  rw [rounds_succ]
  go_wp2_with fail
  go_ret
  exact ⟨_, rfl, HO4.out.1, HO4.out.2⟩
theorem heap_grow {w : World} {os : Array Obj} {b : Nat} (h : b < w.heap.size) : (Go.Sort.grow w os).heap[b]? = w.heap[b]? := by
  unfold Go.Sort.grow; exact Array.getElem?_append_left h
theorem put_other {w : World} {g b : Nat} {d : Array Int} (h : g ≠ b) : (Go.Sort.putRow (Value.int .i64) w g 0 d).heap[b]? = w.heap[b]? := by
  unfold Go.Sort.putRow Go.Sort.mapBlock
  simp [Array.getElem?_modify, h]
theorem srt_len (Z : List Int) : (srt Z).length = Z.length := by
  unfold srt
  exact List.length_mergeSort _
theorem srt_mem {Z : List Int} {x : Int} (h : x ∈ srt Z) : x ∈ Z := (List.mergeSort_perm Z _).mem_iff.1 h
theorem sort_any {w : World} {base : Nat} {v : Value} {Z : List Int} (h : w.ownsRow base 3 1 v Z.length (numC Z)) (hz : Z.length ≤ 100) (hs : ∀ x ∈ Z, Sx x) (hb : base ≤ w.heap.size) :
    Calls Try.prog 43 #[v] w fun e w' => e = .returned (.tuple #[]) ∧ Nl w' v (srt Z) ∧ Below base w w' := by
  have hc := h
  rcases h.2 with ⟨rfl, h0⟩ | ⟨g, cap, cur, rfl, hg, hgb, h1, h2, _⟩
  · have : Z = [] := List.eq_nil_of_length_eq_zero h0
    subst this
    refine (Try.slices_Sort_int_none none 0 w).mono ?_
    rintro e w' ⟨rfl, rfl⟩
    exact ⟨rfl, by simpa [srt] using Nl.nil, ⟨rfl, rfl, rfl, Nat.le_refl _, fun _ _ => rfl⟩⟩
  · have hgl := heap_lt hgb
    have hH : Go.Sort.Holds (Value.int .i64) w g 0 Z.toArray := fun j hj => by
      have hj' : j < Z.length := by simpa using hj
      rw [Nat.zero_add]
      refine ⟨?_, (own_some hc j (by simpa using hj')).2⟩
      rw [own_cells hc j _ (numC_get Z j hj'), nth_at hj']
      simp [hj']
    refine (Try.slices_Sort_int g 0 cap Z w hH hgl (by omega)).mono ?_
    rintro e w' ⟨rfl, n, os, hw'⟩
    have hw2 : w' = Go.Sort.grow (Go.Sort.putRow (Value.int .i64) (Go.Sort.ahead w n) g 0 (srt Z).toArray) os := hw'
    clear hw'
    subst hw2
    have hH2 := Go.Sort.holds_putRow (Value.int .i64) (Go.Sort.ahead w n) g 0 Z.toArray (srt Z).toArray hH (by simp [srt_len])
    have hsz : ∀ b, b < w.heap.size → b < (Go.Sort.putRow (Value.int .i64) (Go.Sort.ahead w n) g 0 (srt Z).toArray).heap.size := fun b hb => by rw [Go.Sort.size_putRow]; exact hb
    refine ⟨rfl, ⟨some ⟨g, 0, none⟩, cap, by rw [srt_len], by rw [srt_len]; omega, by rw [srt_len]; exact h1, ⟨by unfold maxLen at h2; omega, fun h => by cases h⟩, fun x hx => hs x (srt_mem hx), ?_⟩, ⟨rfl, rfl, rfl, ?_, fun b hb2 => ?_⟩⟩
    · by_cases h0 : (srt Z).length = 0
      · exact Or.inl h0
      · refine Or.inr ⟨⟨g, 0, none⟩, rfl, ?_, fun i hi => ?_⟩
        · show g < (Go.Sort.grow _ os).heap.size
          unfold Go.Sort.grow
          rw [Array.size_append]
          exact Nat.lt_of_lt_of_le (hsz g hgl) (Nat.le_add_right _ _)
        · have e : (⟨g, 0, none⟩ : Addr).add i = ⟨g, i, none⟩ := by unfold Addr.add; split <;> simp_all
          have h3 := (hH2 i (by simpa using hi)).1
          rw [Nat.zero_add] at h3
          rw [e, nth_at hi]
          have h4 : (Go.Sort.grow (Go.Sort.putRow (Value.int .i64) (Go.Sort.ahead w n) g 0 (srt Z).toArray) os).cell? ⟨g, i, none⟩ = (Go.Sort.putRow (Value.int .i64) (Go.Sort.ahead w n) g 0 (srt Z).toArray).cell? ⟨g, i, none⟩ := by
            unfold World.cell?
            rw [heap_grow (hsz g hgl)]
          have h5 : (srt Z).toArray[i]! = (srt Z)[i] := by simp [hi]
          rw [h5] at h3
          exact h4.trans h3
    · show w.heap.size ≤ (Go.Sort.grow _ os).heap.size
      unfold Go.Sort.grow
      rw [Array.size_append, Go.Sort.size_putRow]
      exact Nat.le_add_right _ _
    · show (Go.Sort.grow _ os).heap[b]? = w.heap[b]?
      rw [heap_grow (hsz b (by omega)), put_other (by omega)]
      rfl
theorem up_len (u : Nat) : (upto u).length = u := by simp [upto]
theorem up_nth {u i : Nat} (h : i < u) : nth (upto u) i = (i : Int) + 1 := by
  rw [nth_at (by rw [up_len]; exact h)]
  simp [upto]
set_option maxRecDepth 100000 in
set_option maxHeartbeats 1000000 in
theorem all_any {w : World} {u : Nat} {v1 v2 : Value} {X Y : List Int} (hX : Nl w v1 X) (hY : Nl w v2 Y) (hx : X.length ≤ 40) (hy : Y.length ≤ 40) : Calls Try.prog 25 #[.int .i64 (u : Int), v1, v2] w fun e w' => e = .returned (.bool (decide (srt (X ++ Y) = upto u))) ∧ Below w.heap.size w w' := by
  have HCO : Hid (∀ (w' : World) (G : Nat), Below w.heap.size w w' → w'.cell? ⟨G, 0, none⟩ = some v1 → w'.cell? ⟨G, 1, none⟩ = some v2 → G < w'.heap.size → Calls Try.prog 42 #[.slice (some ⟨G, 0, none⟩) 2 2] w' fun e w'' => ∃ v, e = .returned v ∧ w''.ownsRow w'.heap.size 3 1 v (X ++ Y).length (numC (X ++ Y)) ∧ Below w'.heap.size w' w'') := fun w' G hb h0 h1 hG => concat_any (hX.later hb (Nat.le_refl _)) (hY.later hb (Nat.le_refl _)) hx hy h0 h1 hG
  have HZ : Hid ((X ++ Y).length ≤ 100 ∧ ∀ x ∈ X ++ Y, Sx x) := by
    have : (X ++ Y).length ≤ 100 := by rw [List.length_append]; omega
    exact ⟨this, fun x h => (List.mem_append.1 h).elim (hX.w64 x) (hY.w64 x)⟩
  have HSO : Hid (∀ (w' : World) (v : Value), w'.ownsRow w.heap.size 3 1 v (X ++ Y).length (numC (X ++ Y)) → w.heap.size ≤ w'.heap.size → Calls Try.prog 43 #[v] w' fun e w'' => e = .returned (.tuple #[]) ∧ Nl w'' v (srt (X ++ Y)) ∧ Below w.heap.size w' w'') := fun w' v h hb => sort_any h HZ.out.1 HZ.out.2 hb
  obtain ⟨a1, c1, rfl⟩ := nl_slice hX
  obtain ⟨a2, c2, rfl⟩ := nl_slice hY
  have HSL : Hid ((srt (X ++ Y)).length = (X ++ Y).length) := srt_len _
  obtain ⟨b, hb⟩ : ∃ b, decide (srt (X ++ Y) = upto u) = b := ⟨_, rfl⟩
  have HBV : Hid (decide (srt (X ++ Y) = upto u) = b) := hb
  rw [hb]
  clear hb
  generalize X ++ Y = Z at *
  clear hX hY
  go_enter Try.func25, Try.ntmps25
  go_wp2_with fail
  refine (HCO.out _ w.heap.size (below_a1 _ _) (by rw [cell_at (heap_alloc_new _ _)]; rfl) (by rw [cell_at (heap_alloc_new _ _)]; rfl) (by simp)).mono ?_
  rintro e w2 ⟨v, rfl, hown, hb⟩
  have HO2 : Hid (w2.ownsRow w.heap.size 3 1 v Z.length (numC Z) ∧ Below w.heap.size w w2) := ⟨own_low hown (by simp), below_next hb⟩
  clear hown hb HCO
  go_wp2_with fail
  refine (HSO.out w2 v HO2.out.1 HO2.out.2.size).mono ?_
  rintro e w3 ⟨rfl, hn3, hb3⟩
  have HB3 : Hid (Below w.heap.size w w3) := HO2.out.2.trans hb3
  obtain ⟨va, vc, rfl⟩ := nl_slice hn3
  obtain ⟨_, _, hcell⟩ := nl_cells hn3
  have HC : Hid (∀ i, i < (srt Z).length → ∃ x, va = some x ∧ x.block < w3.heap.size ∧ w3.cell? (x.add i) = some (.int .i64 (nth (srt Z) i))) := hcell
  have HL : Hid ((srt Z).length ≤ 100) := by rw [Hid, HSL.out]; exact HZ.out.1
  clear hn3 hb3 hcell HSO HO2 HZ HSL
  generalize srt Z = S at *
  have hsl : S.length ≤ 100 := HL.out
  go_wp2_with fail
  go_loopg [18] S.length (fun gh iv wr => ∃ j : Nat, gh = S.length - j ∧ j ≤ S.length ∧ iv = .int .i64 (j : Int) ∧ wr = w3 ∧ ∀ k, k < j → nth S k = (k : Int) + 1)
  case atStart => exact ⟨0, by omega, by omega, rfl, rfl, by simp⟩
  case round =>
    obtain ⟨j, rfl, hj, rfl, rfl, hall⟩ := hrel
    have HA : Hid (∀ k, k < j → nth S k = (k : Int) + 1) := hall
    clear hall
    by_cases hlt : j < S.length
    · have d1 : decide ((j : Int) < (S.length : Int)) = true := by simp; omega
      obtain ⟨x, hx1, hxb, hx⟩ := HC.out j hlt
      subst hx1
      have hwp : wrap64 ((j : Int) + 1) = (j : Int) + 1 := by have := HL.out; unfold wrap64; omega
      by_cases hc : nth S j = (j : Int) + 1
      · have d2 : (nth S j == (j : Int) + 1) = true := by simpa using hc
        have HA2 : Hid (∀ k, k < j + 1 → nth S k = (k : Int) + 1) := fun k hk => by
          by_cases h9 : k < j
          · exact HA.out k h9
          · have : k = j := by omega
            subst this
            exact hc
        rw [hc] at hx
        have d3 : ((j : Int) + 1 == (j : Int) + 1) = true := by simp
        have HLT : Hid (j < S.length) := hlt
        clear hc d2
        go_wp2_with fail
        go_roundg (S.length - (j + 1))
        case rel => exact ⟨j + 1, rfl, HLT.out, by first | rfl | (rw [hwp]; simp) | go_num, rfl, HA2.out⟩
        case measure => have := HLT.out; omega
      · have d2 : (nth S j == (j : Int) + 1) = false := by simpa using hc
        have HR : Hid (b = false) := by rw [Hid, ← HBV.out]; exact decide_eq_false (fun h => hc (by
          have h9 : j < u := by rw [← up_len u, ← h]; exact hlt
          rw [h, up_nth h9]))
        generalize nth S j = p at *
        clear hc
        go_wp2_with fail
        go_ret
        exact ⟨by rw [HR.out]; rfl, HB3.out⟩
    · have d1 : decide ((j : Int) < (S.length : Int)) = false := by simp; omega
      obtain rfl : j = S.length := by omega
      by_cases hu : S.length = u
      · have d2 : ((S.length : Int) == (u : Int)) = true := by simp [hu]
        have d2n : (S.length == u) = true := by simp [hu]
        have HR : Hid (b = true) := by
          rw [Hid, ← HBV.out]
          refine decide_eq_true (List.ext_getElem (by rw [up_len]; exact hu) (fun i h1 h2 => ?_))
          have h3 := HA.out i h1
          rw [nth_at h1] at h3
          have h4 := up_nth (u := u) (i := i) (by omega)
          rw [nth_at h2] at h4
          rw [h3, h4]
        clear hu hlt
        go_wp2_with fail
        go_ret
        exact ⟨by rw [HR.out]; rfl, HB3.out⟩
      · have d2 : ((S.length : Int) == (u : Int)) = false := by simp; omega
        have d2n : (S.length == u) = false := by simp; omega
        have HR : Hid (b = false) := by rw [Hid, ← HBV.out]; exact decide_eq_false (fun h => hu (by rw [h, up_len]))
        clear hu hlt
        go_wp2_with fail
        go_ret
        exact ⟨by rw [HR.out]; rfl, HB3.out⟩
end Go.Proofs.Ytaffkcliepfcmaa.Ch
