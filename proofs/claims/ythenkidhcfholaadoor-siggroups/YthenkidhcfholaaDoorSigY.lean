/- When two signatures are the same in the document's answer, and when two lists of lists are. -/
import Derived.Test.YthenkidhcfholaaDoorSigI
namespace Go.Proofs.YthenkidhcfholaaDoor
open Go.ChangeShapes Go.WideShapes Go.ChangeAt Go.RowKit

theorem rsame_any (a b : List Nat) (ha : Ok a) (hb : Ok b) (w : World) :
    Calls Tryd.prog 42 #[sv a, sv b] w fun e w' => e = .returned (.bool (a == b)) ∧ Below w.heap.size w w' := by
  have hza := sc_size a
  have hzb := sc_size b
  rw [ha.1] at hza
  rw [hb.1] at hzb
  have HGA : Hid (∀ j, j < 8 → (sc a)[j]? = some (.int .u64 ((a.getD j 0 : Nat) : Int))) := fun j hj => sc_get a j (by rw [ha.1]; exact hj)
  have HGB : Hid (∀ j, j < 8 → (sc b)[j]? = some (.int .u64 ((b.getD j 0 : Nat) : Int))) := fun j hj => sc_get b j (by rw [hb.1]; exact hj)
  have HEQ : Hid ((∀ k, k < 8 → a.getD k 0 = b.getD k 0) → (a == b) = true) := by
    intro h
    rw [← all_same a b ha.1 hb.1, List.all_eq_true]
    intro i hi
    rw [h i (List.mem_range.1 hi)]
    simp
  have HNE : Hid (∀ k, k < 8 → a.getD k 0 ≠ b.getD k 0 → (a == b) = false) := by
    intro k _ h
    rw [beq_eq_false_iff_ne]
    intro e
    exact h (by rw [e])
  clear ha hb
  unfold sv
  generalize (a == b) = r at *
  generalize sc a = ca at *
  generalize sc b = cb at *
  go_enter Tryd.func42, Tryd.ntmps42
  go_wp2
  go_loopw [5] (fun i wr => ∃ j : Nat, j ≤ 8 ∧ i = .int .i64 j ∧ (∀ k, k < j → a.getD k 0 = b.getD k 0) ∧ ∃ q, wr = ((w.alloc (.cells ca 25)).alloc (.cells cb 25)).drewN q) (fun i _ => 8 - (intOf i).toNat)
  case atStart => exact ⟨0, by omega, rfl, fun k hk => absurd hk (by omega), 0, rfl⟩
  case round =>
    obtain ⟨j, hj, rfl, hsame, hwr⟩ := hrel
    have HS : Hid (∀ k, k < j → a.getD k 0 = b.getD k 0) := hsame
    have HW : Hid (∃ q, wr = ((w.alloc (.cells ca 25)).alloc (.cells cb 25)).drewN q) := hwr
    have HBL : Hid (Below w.heap.size w wr) := by obtain ⟨q, rfl⟩ := hwr; exact below_drawn (below_a2 _ _ _) q
    clear hsame hwr
    by_cases hlt : j < 8
    · have hja : (j : Int) < 8 := by omega
      have hca : wr.cell? ⟨w.heap.size, j, none⟩ = some (.int .u64 ((a.getD j 0 : Nat) : Int)) := by
        obtain ⟨q, rfl⟩ := HW.out
        rw [← HGA.out j hlt]
        exact cell_of_row _ _ j ca 25 (0, 0) (heap_alloc2_old w _ _)
      have hcb : wr.cell? ⟨w.heap.size + 1, j, none⟩ = some (.int .u64 ((b.getD j 0 : Nat) : Int)) := by
        obtain ⟨q, rfl⟩ := HW.out
        rw [← HGB.out j hlt]
        exact cell_of_row _ _ j cb 25 (0, 0) (heap_alloc2_new w _ _)
      have HN2 : Hid (a.getD j 0 ≠ b.getD j 0 → r = false) := HNE.out j hlt
      have HS2 : Hid (a.getD j 0 = b.getD j 0 → ∀ k, k < j + 1 → a.getD k 0 = b.getD k 0) := fun h k hk => by
        by_cases e : k = j
        · rw [e]; exact h
        · exact HS.out k (by omega)
      generalize a.getD j 0 = p at *
      generalize b.getD j 0 = q at *
      by_cases hpq : p = q
      · have hb : ((p : Int) != (q : Int)) = false := by simp [hpq]
        have HS3 : Hid (∀ k, k < j + 1 → a.getD k 0 = b.getD k 0) := HS2.out hpq
        clear hpq
        go_wp2
        go_quiet (fail)
        go_wp2
        go_roundw
        case rel => exact ⟨j + 1, by omega, by go_num, HS3.out, by obtain ⟨q, rfl⟩ := HW.out; exact ⟨_, World.drewN_drewN _ _ _⟩⟩
        case measure => simp [intOf]; omega
      · have hb : ((p : Int) != (q : Int)) = true := by simp; omega
        have HR : Hid (r = false) := HN2.out hpq
        clear hpq
        go_wp2
        go_quiet (fail)
        go_wp2
        go_ret
        exact ⟨by rw [HR.out]; rfl, below_drawn HBL.out _⟩
    · have e : j = 8 := by omega
      subst e
      have HR : Hid (r = true) := HEQ.out HS.out
      go_wp2
      go_ret
      exact ⟨by rw [HR.out]; rfl, HBL.out⟩

/-- A list of lists lies behind a slice of slices. -/
def GLst (w : World) (v : Value) (G : List (List Nat)) : Prop := ∃ (a : Option Addr) (cap : Nat) (vs : List Value), v = .slice a G.length cap ∧ G.length ≤ 9223372036854775807 ∧ (∀ i, i < G.length → ∃ x, a = some x ∧ w.cell? (x.add i) = some (vs.getD i undef) ∧ Lst w (vs.getD i undef) ((G.getD i []).map fun (k : Nat) => (k : Int)))
theorem Grp.lst {w : World} {base : Nat} {v : Value} {G : List (List Nat)} {vs : List Value} (h : Grp w base v G vs) (hm : G.length ≤ 9223372036854775807) : GLst w v G := by
  obtain ⟨a, cap, hv⟩ := own_slice h.1
  refine ⟨a, cap, vs, hv, hm, fun i hi => ?_⟩
  obtain ⟨g, cap', hv', _⟩ := h.form (by omega)
  refine ⟨⟨g, 0, none⟩, by rw [hv] at hv'; simp at hv'; exact hv'.1, ?_, own_lst (h.2.2.1 i hi)⟩
  rw [add_at]
  have h2 := h
  rw [hv'] at h2
  exact h2.cell i hi
theorem GLst.later {w w' : World} {v : Value} {G : List (List Nat)} (h : GLst w v G) (hb : Below w.heap.size w w') : GLst w' v G := by
  obtain ⟨a, cap, vs, hv, hm, hc⟩ := h
  refine ⟨a, cap, vs, hv, hm, fun i hi => ?_⟩
  obtain ⟨x, hx, h1, h2⟩ := hc i hi
  exact ⟨x, hx, cell_later hb h1, h2.later hb⟩

theorem cast_eq (a b : List Nat) : ((a.map fun (k : Nat) => (k : Int)) == (b.map fun (k : Nat) => (k : Int))) = (a == b) := by
  rw [Bool.eq_iff_iff, beq_iff_eq, beq_iff_eq]
  constructor
  · intro h
    apply List.ext_getElem?
    intro i
    have e := congrArg (·[i]?) h
    simp only [List.getElem?_map] at e
    cases ha : a[i]? <;> cases hb : b[i]? <;> simp_all <;> omega
  · intro h; rw [h]

theorem groupsEq_any (w : World) (v u : Value) (G H : List (List Nat)) (hv : GLst w v G) (hu : GLst w u H) :
    Calls Tryd.prog 33 #[v, u] w fun e w' => e = .returned (.bool (G == H)) ∧ ∃ n, w' = w.drewN n := by
  obtain ⟨a, ca, vs, rfl, hbig, hl⟩ := hv
  obtain ⟨b, cb, us, rfl, _, hm⟩ := hu
  by_cases hlen : G.length = H.length
  · have HX : Hid (∀ i, i < G.length → ∃ x, a = some x ∧ w.cell? (x.add i) = some (vs.getD i undef) ∧ Lst w (vs.getD i undef) ((G.getD i []).map fun (k : Nat) => (k : Int))) := hl
    have HY : Hid (∀ i, i < H.length → ∃ x, b = some x ∧ w.cell? (x.add i) = some (us.getD i undef) ∧ Lst w (us.getD i undef) ((H.getD i []).map fun (k : Nat) => (k : Int))) := hm
    clear hl hm
    have HEQ : Hid ((∀ k, k < G.length → G.getD k [] = H.getD k []) → (G == H) = true) := by
      intro h
      rw [beq_iff_eq]
      apply List.ext_getElem hlen
      intro i h1 h2
      have := h i h1
      simpa [h1, h2] using this
    have HNE : Hid (∀ k, k < G.length → G.getD k [] ≠ H.getD k [] → (G == H) = false) := by
      intro k hk h
      rw [beq_eq_false_iff_ne]
      intro e
      exact h (by rw [e])
    rw [← hlen] at HY
    rw [← hlen]
    generalize hn : G.length = n at *
    generalize (G == H) = r at *
    clear hlen hn
    have hne : ((n : Int) != (n : Int)) = false := by simp
    go_enter Tryd.func33, Tryd.ntmps33
    go_wp2
    go_loopw [5] (fun i wr => ∃ j : Nat, j ≤ n ∧ i = .int .i64 j ∧ (∀ k, k < j → G.getD k [] = H.getD k []) ∧ ∃ q, wr = w.drewN q) (fun i _ => n - (intOf i).toNat)
    case atStart => exact ⟨0, Nat.zero_le _, rfl, fun k hk => absurd hk (by omega), 0, rfl⟩
    case round =>
      obtain ⟨j, hj, rfl, hsame, hwr⟩ := hrel
      have HS : Hid (∀ k, k < j → G.getD k [] = H.getD k []) := hsame
      have HW : Hid (∃ q, wr = w.drewN q) := hwr
      clear hsame hwr
      by_cases hlt : j < n
      · obtain ⟨x, rfl, hcx, hlx⟩ := HX.out j hlt
        obtain ⟨y, rfl, hcy, hly⟩ := HY.out j hlt
        have hcx' : wr.cell? (x.add j) = some (vs.getD j undef) := by obtain ⟨q, rfl⟩ := HW.out; exact hcx
        have hcy' : wr.cell? (y.add j) = some (us.getD j undef) := by obtain ⟨q, rfl⟩ := HW.out; exact hcy
        have HI : Hid (∀ q, Calls Tryd.prog 26 #[vs.getD j undef, us.getD j undef] (wr.drewN q) fun e w' => e = .returned (.bool (G.getD j [] == H.getD j [])) ∧ ∃ m, w' = (wr.drewN q).drewN m) := fun q => by
          obtain ⟨q0, rfl⟩ := HW.out
          rw [← cast_eq]
          exact ints_any _ _ _ _ _ (hlx.later (below_drawn (below_drawn (Below.refl _ _) q0) q)) (hly.later (below_drawn (below_drawn (Below.refl _ _) q0) q))
        have HN2 : Hid (G.getD j [] ≠ H.getD j [] → r = false) := HNE.out j hlt
        have HS2 : Hid (G.getD j [] = H.getD j [] → ∀ k, k < j + 1 → G.getD k [] = H.getD k []) := fun h k hk => by
          by_cases e : k = j
          · rw [e]; exact h
          · exact HS.out k (by omega)
        clear hcx hcy hlx hly
        generalize vs.getD j undef = vx at *
        generalize us.getD j undef = ux at *
        generalize G.getD j [] = p at *
        generalize H.getD j [] = q at *
        by_cases hpq : p = q
        · have HS3 : Hid (∀ k, k < j + 1 → G.getD k [] = H.getD k []) := HS2.out hpq
          have HI2 : Hid (∀ q, Calls Tryd.prog 26 #[vx, ux] (wr.drewN q) fun e w' => e = .returned (.bool true) ∧ ∃ m, w' = (wr.drewN q).drewN m) := fun q0 => by
            have := HI.out q0
            rw [hpq] at this
            simpa using this
          clear hpq HI
          go_wp2
          go_quiet ((go_at_call 26; exact Calls.quiet_of (HI2.out _)))
          go_wp2
          go_roundw
          case rel => exact ⟨j + 1, by omega, by go_num, HS3.out, by obtain ⟨q, rfl⟩ := HW.out; exact ⟨_, World.drewN_drewN _ _ _⟩⟩
          case measure => simp [intOf]; omega
        · have HR : Hid (r = false) := HN2.out hpq
          have HI2 : Hid (∀ q, Calls Tryd.prog 26 #[vx, ux] (wr.drewN q) fun e w' => e = .returned (.bool false) ∧ ∃ m, w' = (wr.drewN q).drewN m) := fun q0 => by
            have := HI.out q0
            have hb : (p == q) = false := by simpa using hpq
            rwa [hb] at this
          clear hpq HI
          go_wp2
          go_quiet ((go_at_call 26; exact Calls.quiet_of (HI2.out _)))
          go_wp2
          go_ret
          exact ⟨by rw [HR.out]; rfl, by obtain ⟨q, rfl⟩ := HW.out; exact ⟨_, World.drewN_drewN _ _ _⟩⟩
      · have e : j = n := by omega
        subst e
        have HR : Hid (r = true) := HEQ.out HS.out
        go_wp2
        go_ret
        exact ⟨by rw [HR.out]; rfl, HW.out⟩
  · have he : (G == H) = false := by
      rw [beq_eq_false_iff_ne]; intro e; exact hlen (by rw [e])
    rw [he]
    have hne : ((G.length : Int) != (H.length : Int)) = true := by simp; omega
    clear hl hm he
    go_enter Tryd.func33, Tryd.ntmps33
    go_wp2
    go_ret
    exact ⟨rfl, 0, rfl⟩
end Go.Proofs.YthenkidhcfholaaDoor
