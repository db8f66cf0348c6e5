/- Parse of the program, of what Print writes. -/
import Derived.Test.YtbjopdmchmekpaaDoorAsY
import Derived.Test.YtbjopdmchmekpaaDoorAsU
import Derived.Defers
import Derived.Recover
import Derived.Laws.Pointers
namespace Go.Proofs.YtbjopdmchmekpaaDoor
open Go.ChangeShapes Go.WideShapes Go.ChangeAt Go.RowKit Go.WideMaps Go.Maps

theorem assert_nil (w : World) : (Instr.typeAssert .nilIface 20 33 true).run Tryd.prog w = .ok (.tuple #[.agg #[.int .i64 0, .int .i64 0], .bool false]) w := by kernel_rfl
set_option maxRecDepth 10000 in
theorem catch_idle (p q r : Addr) (w : World) :
    CallsD Tryd.prog 11 #[.pointer (some p), .pointer (some q), .pointer (some r)] .returning w fun e u' w' => e = .returned (.tuple #[]) ∧ u' = .returning ∧ Below w.heap.size w w' := by
  have hrep : Array.replicate 12 undef = #[undef, undef, undef, undef, undef, undef, undef, undef, undef, undef, undef, undef] := rfl
  refine callsD_of_wpS Tryd.func11 rfl fun c₀ cs hu => ?_
  apply wpS_seq
  apply wpS_region
  simp [wpOpsS, go_sem, recoverD, hu, Tryd.ntmps11, Exit.thenS, hrep, assert_nil]
  refine wpS_of_wp ?_
  go_wp2
  have hb : Below w.heap.size w (w.alloc (.cells #[.int .i64 0, .int .i64 0] 33)) := below_a1 _ _
  cases c₀
  simp_all [bodyPostS, results, Tryd.results11]
theorem assert_flt (w : World) (e p : Int) : (Instr.typeAssert (.iface 33 (.agg #[.int .i64 e, .int .i64 p])) 20 33 true).run Tryd.prog w = .ok (.tuple #[.agg #[.int .i64 e, .int .i64 p], .bool true]) w := by kernel_rfl
set_option maxRecDepth 10000 in
theorem catch_panicking (p q r : Nat) (e a : Int) (w : World) {c1 c2 c3 : Value} (h1 : w.heap[p]? = some (.cells #[c1] 9 (0, 0))) (h2 : w.heap[q]? = some (.cells #[c2] 22 (0, 0))) (h3 : w.heap[r]? = some (.cells #[c3] 3 (0, 0))) :
    CallsD Tryd.prog 11 #[.pointer (some ⟨p, 0, none⟩), .pointer (some ⟨q, 0, none⟩), .pointer (some ⟨r, 0, none⟩)] (.panicking (flt e a)) w fun r' u' w' => r' = .returned (.tuple #[]) ∧ u' = .panicking [{ v := .iface 33 (.agg #[.int .i64 e, .int .i64 a]), recovered := true }] ∧
      w'.heap[p]? = some (.cells #[.string ⟨#[]⟩] 9 (0, 0)) ∧ w'.heap[q]? = some (.cells #[.int .i64 e] 22 (0, 0)) ∧ w'.heap[r]? = some (.cells #[.int .i64 a] 3 (0, 0)) ∧ Keep [p, q, r] w w' := by
  have hrep : Array.replicate 12 undef = #[undef, undef, undef, undef, undef, undef, undef, undef, undef, undef, undef, undef] := rfl
  have hp : p < w.heap.size := heap_lt h1
  have hq : q < w.heap.size := heap_lt h2
  have hr : r < w.heap.size := heap_lt h3
  have f1 : w.frozen? ⟨p, 0, none⟩ = false := frozen_at h1 0
  have f2 : w.frozen? ⟨q, 0, none⟩ = false := frozen_at h2 0
  have f3 : w.frozen? ⟨r, 0, none⟩ = false := frozen_at h3 0
  have d1 : w.cell? ⟨p, 0, none⟩ = some c1 := by rw [cell_at h1]; rfl
  have d2 : w.cell? ⟨q, 0, none⟩ = some c2 := by rw [cell_at h2]; rfl
  have d3 : w.cell? ⟨r, 0, none⟩ = some c3 := by rw [cell_at h3]; rfl
  unfold flt
  refine callsD_of_wpS Tryd.func11 rfl fun c₀ cs hu => ?_
  apply wpS_seq
  apply wpS_region
  simp [wpOpsS, go_sem, recoverD, hu, Tryd.ntmps11, Exit.thenS, hrep, assert_flt]
  refine wpS_of_wp ?_
  have n1 : p ≠ q := ne_of_type h1 h2 (by decide)
  have n2 : p ≠ r := ne_of_type h1 h3 (by decide)
  have n3 : q ≠ r := ne_of_type h2 h3 (by decide)
  have n4 : q ≠ p := n1.symm
  have n5 : r ≠ p := n2.symm
  have n6 : r ≠ q := n3.symm
  have m1 : p ≠ w.heap.size := by omega
  have m2 : q ≠ w.heap.size := by omega
  have m3 : r ≠ w.heap.size := by omega
  have HH : Hid (w.heap[p]? = some (.cells #[c1] 9 (0, 0)) ∧ w.heap[q]? = some (.cells #[c2] 22 (0, 0)) ∧ w.heap[r]? = some (.cells #[c3] 3 (0, 0))) := ⟨h1, h2, h3⟩
  clear h1 h2 h3 hrep
  go_wp2
  go_region
  obtain ⟨h1, h2, h3⟩ := HH.out
  obtain ⟨w2, hw2⟩ : ∃ w2, ((w.setCell ⟨p, 0, none⟩ (.string ⟨#[]⟩)).setCell ⟨q, 0, none⟩ (.int .i64 e)).setCell ⟨r, 0, none⟩ (.int .i64 a) = w2 := ⟨_, rfl⟩
  have g1 : w2.heap[p]? = some (.cells #[.string ⟨#[]⟩] 9 (0, 0)) := by rw [← hw2, heap_set_other _ _ n5, heap_set_other _ _ n4, heap_set h1]; rfl
  have g2 : w2.heap[q]? = some (.cells #[.int .i64 e] 22 (0, 0)) := by rw [← hw2, heap_set_other _ _ n6, heap_set (by rw [heap_set_other _ _ n1]; exact h2)]; rfl
  have g3 : w2.heap[r]? = some (.cells #[.int .i64 a] 3 (0, 0)) := by rw [← hw2, heap_set (by rw [heap_set_other _ _ n3, heap_set_other _ _ n2]; exact h3)]; rfl
  have g4 : Keep [p, q, r] w w2 := by
    rw [← hw2]
    exact (((Keep.refl _ _).setCell _ _ (Or.inl (by simp))).setCell _ _ (Or.inl (by simp))).setCell _ _ (Or.inl (by simp))
  rw [hw2]
  obtain ⟨w3, hw3⟩ : ∃ w3, (w2.alloc (.cells #[.int .i64 e, .int .i64 a] 33)).drew = w3 := ⟨_, rfl⟩
  have hb : Below w2.heap.size w2 w3 := by rw [← hw3]; exact below_drawn (below_a1 _ _) 1
  rw [hw3]
  have k1 : w3.heap[p]? = some (.cells #[.string ⟨#[]⟩] 9 (0, 0)) := by rw [hb.block _ (heap_lt g1)]; exact g1
  have k2 : w3.heap[q]? = some (.cells #[.int .i64 e] 22 (0, 0)) := by rw [hb.block _ (heap_lt g2)]; exact g2
  have k3 : w3.heap[r]? = some (.cells #[.int .i64 a] 3 (0, 0)) := by rw [hb.block _ (heap_lt g3)]; exact g3
  have k4 : Keep [p, q, r] w w3 := g4.trans (Keep.of_below hb []) (by simp)
  clear hw2 hw3 g1 g2 g3 g4 hb h1 h2 h3 HH n1 n2 n3 n4 n5 n6 m1 m2 m3 d1 d2 d3 f1 f2 f3
  go_wp2
  cases c₀
  simp_all [bodyPostS, results, Tryd.results11]
/-- What Parse answers: of what the lines made, and the names. -/
def ansE (ep : Int × Nat) : Value := .tuple #[.string ⟨#[]⟩, .int .i64 ep.1, .int .i64 (ep.2 : Int)]
def ansY : Except (Int × Nat) PS → Value
  | .error ep => ansE ep
  | .ok st => .tuple #[.string (strOfNums (encV st.ops).1), .int .i64 0, .int .i64 0]
def ansR (X : Except (Int × Nat) PS) (Y : PS → Except (Int × Nat) PS) : Value := match X with
  | .error ep => ansE ep
  | .ok st => ansY (Y st)
/-- The three results as they lie. -/
def Th (b : Nat) (w : World) (x y z : Value) : Prop := w.heap[b]? = some (.cells #[x] 9 (0, 0)) ∧ w.heap[b + 1]? = some (.cells #[y] 22 (0, 0)) ∧ w.heap[b + 1 + 1]? = some (.cells #[z] 3 (0, 0))
theorem Th.later {b : Nat} {w w' : World} {x y z : Value} (h : Th b w x y z) (hb : Below w.heap.size w w') : Th b w' x y z :=
  ⟨by rw [hb.block _ (heap_lt h.1)]; exact h.1, by rw [hb.block _ (heap_lt h.2.1)]; exact h.2.1, by rw [hb.block _ (heap_lt h.2.2)]; exact h.2.2⟩
theorem th_new (w : World) (x y z : Value) : Th w.heap.size (((w.alloc (.cells #[x] 9)).alloc (.cells #[y] 22)).alloc (.cells #[z] 3)) x y z := by
  refine ⟨?_, ?_, ?_⟩
  · rw [Below.heap_alloc _ _ _ (by simp; omega), Below.heap_alloc _ _ _ (by simp)]; exact heap_alloc_new _ _
  · rw [Below.heap_alloc _ _ _ (by simp)]; exact heap_alloc2_new _ _ _
  · have := heap_alloc2_new (w.alloc (.cells #[x] 9)) (.cells #[y] 22) (.cells #[z] 3)
    simpa using this
theorem th_set {b : Nat} {w : World} {x y z : Value} (h : Th b w x y z) (t1 t u v : Value) : Th b ((((w.setCell ⟨b, 0, none⟩ t1).setCell ⟨b, 0, none⟩ t).setCell ⟨b + 1, 0, none⟩ u).setCell ⟨b + 1 + 1, 0, none⟩ v) t u v ∧ Keep [b, b + 1, b + 1 + 1] w ((((w.setCell ⟨b, 0, none⟩ t1).setCell ⟨b, 0, none⟩ t).setCell ⟨b + 1, 0, none⟩ u).setCell ⟨b + 1 + 1, 0, none⟩ v) := by
  obtain ⟨h1, h2, h3⟩ := h
  refine ⟨⟨?_, ?_, ?_⟩, ((((Keep.refl _ _).setCell _ _ (Or.inl (by simp))).setCell _ _ (Or.inl (by simp))).setCell _ _ (Or.inl (by simp))).setCell _ _ (Or.inl (by simp))⟩
  · rw [heap_set_other _ _ (by omega), heap_set_other _ _ (by omega), heap_set (heap_set h1 0 t1)]; rfl
  · rw [heap_set_other _ _ (by omega), heap_set (by rw [heap_set_other _ _ (by omega), heap_set_other _ _ (by omega)]; exact h2)]; rfl
  · rw [heap_set (by rw [heap_set_other _ _ (by omega), heap_set_other _ _ (by omega), heap_set_other _ _ (by omega)]; exact h3)]; rfl
set_option maxRecDepth 100000 in
set_option maxHeartbeats 2000000 in
theorem parse_run {w : World} (s : ByteArray) (X : Except (Int × Nat) PS) (Y : PS → Except (Int × Nat) PS)
    (HRL : Hid (∀ (w0 : World) (Rb : Nat) (w' : World), Below w.heap.size w w0 → RdAt w0 Rb ⟨[], [], 0, []⟩ w' → Calls Tryd.prog 12 #[.pointer (some ⟨Rb, 0, none⟩), .string s] w' fun r w'' => EndR w0 Rb X r w''))
    (HRS : Hid (∀ (st : PS) (w0 : World) (Rb : Nat) (w' : World), X = .ok st → RdAt w0 Rb st w' → Calls Tryd.prog 13 #[.pointer (some ⟨Rb, 0, none⟩)] w' fun r w'' => EndR w0 Rb (Y st) r w''))
    (HEN : Hid (∀ (w' : World) (v : Value) (l : List (Int × Int)), Below w.heap.size w w' → OLst w' v l → Calls Tryd.prog 14 #[v] w' fun e w'' => e = .returned (.tuple #[.string (strOfNums (encV l).1), .int .i64 (encV l).2.1, .int .i64 (encV l).2.2]) ∧ Below w'.heap.size w' w''))
    (HSM : ∀ st st2, X = .ok st → Y st = .ok st2 → st2.ops.length ≤ 1000) :
    Calls Tryd.prog 7 #[.string s] w fun e w' => e = .returned (ansR X Y) ∧ Below w.heap.size w w' := by
  have hmf : ∀ (fn : Fn) (first cap : Array Value) (w : World), (Instr.makeFunc fn first cap).run Tryd.prog w = .ok (.func fn first cap) w := fun _ _ _ _ => rfl
  have hmm := @run_makeMap Tryd.prog
  go_enter_defers Tryd.func7, Tryd.ntmps7
  go_wp2_with fail
  obtain ⟨wz, hwz⟩ : ∃ wz, ((w.alloc (.cells #[.string ⟨#[]⟩] 9)).alloc (.cells #[.int .i64 0] 22)).alloc (.cells #[.int .i64 0] 3) = wz := ⟨_, rfl⟩
  have hth : Th w.heap.size wz (.string ⟨#[]⟩) (.int .i64 0) (.int .i64 0) := by rw [← hwz]; exact th_new _ _ _ _
  have hbz : Below w.heap.size w wz := by rw [← hwz]; exact below_then (below_then (below_a1 _ _) (below_a1 _ _)) (below_a1 _ _)
  have hsz : wz.heap.size = w.heap.size + 1 + 1 + 1 := by rw [← hwz]; simp
  rw [hwz]
  obtain ⟨wy, hwy⟩ : ∃ wy, (wz.alloc (.map #[] 0)).alloc (.cells #[.slice none 0 0, .int .i64 0, .map (some (w.heap.size + 1 + 1 + 1)), .slice none 0 0] 38) = wy := ⟨_, rfl⟩
  rw [hwy]
  have hrd : RdAt wz (w.heap.size + 1 + 1 + 1 + 1) ⟨[], [], 0, []⟩ wy := by
    rw [← hwy]
    refine ⟨⟨.slice none 0 0, .slice none 0 0, w.heap.size + 1 + 1 + 1, 0, .map [], ?_, World.ownsRow_nil _ _ _ _, World.ownsRow_nil _ _ _ _, ?_, labOk_start, by omega, by simp⟩, by omega, below_then (below_a1 _ _) (below_a1 _ _)⟩
    · have := heap_alloc2_new wz (.map #[] 0) (.cells #[.slice none 0 0, .int .i64 0, .map (some (w.heap.size + 1 + 1 + 1)), .slice none 0 0] 38)
      rw [hsz] at this
      exact this
    · have h1 : (wz.alloc (.map #[] 0)).ownsMap Tryd.prog 9 (plainElem Tryd.prog 3) (w.heap.size + 1 + 1 + 1) 0 (.map [] : DataW Unit) := by
        have := World.ownsMap_made wz Tryd.prog 9 (plainElem (H := Unit) Tryd.prog 3)
        rw [hsz] at this
        exact this
      obtain ⟨es, clock, g1, g2⟩ := h1
      exact ⟨es, clock, by rw [Below.heap_alloc _ _ _ (by simp; omega)]; exact g1, g2⟩
  have HZ : Hid (Th w.heap.size wz (.string ⟨#[]⟩) (.int .i64 0) (.int .i64 0) ∧ Below w.heap.size w wz) := ⟨hth, hbz⟩
  have HRD : Hid (RdAt wz (w.heap.size + 1 + 1 + 1 + 1) ⟨[], [], 0, []⟩ wy) := hrd
  clear hth hbz hwz hwy hrd hsz hmm
  refine (HRL.out wz _ wy HZ.out.2 HRD.out).mono ?_
  rintro e w1 hend
  cases X with
  | error ep =>
    obtain ⟨er, pp⟩ := ep
    obtain ⟨rfl, hb1⟩ := hend
    have ht1 := HZ.out.1.later hb1
    refine leaves_cons (f := 11) (args := #[.pointer (some ⟨w.heap.size, 0, none⟩), .pointer (some ⟨w.heap.size + 1, 0, none⟩), .pointer (some ⟨w.heap.size + 1 + 1, 0, none⟩)]) (by simp) (by simp [go_sem]) ?_
    refine (catch_panicking _ _ _ er pp w1 ht1.1 ht1.2.1 ht1.2.2).mono ?_
    rintro e u' w2 ⟨rfl, rfl, g1, g2, g3, g4⟩
    have c1 : w2.cell? ⟨w.heap.size, 0, none⟩ = some (.string ⟨#[]⟩) := by rw [cell_at g1]; rfl
    have c2 : w2.cell? ⟨w.heap.size + 1, 0, none⟩ = some (.int .i64 er) := by rw [cell_at g2]; rfl
    have c3 : w2.cell? ⟨w.heap.size + 1 + 1, 0, none⟩ = some (.int .i64 (pp : Int)) := by rw [cell_at g3]; rfl
    have hbw : Below w.heap.size w w2 := by
      have h1 := below_then HZ.out.2 hb1
      exact h1.trans (g4.below h1.size (by simp; omega))
    simp [Leaves, settle, results, Tryd.results7, go_sem, c1, c2, c3, hbw, ansR, ansE]
  | ok st =>
    obtain ⟨rfl, hrd1⟩ := hend
    have HR1 : Hid (RdAt wz (w.heap.size + 1 + 1 + 1 + 1) st w1) := hrd1
    have HRS2 : Hid (Calls Tryd.prog 13 #[.pointer (some ⟨w.heap.size + 1 + 1 + 1 + 1, 0, none⟩)] w1 fun r w'' => EndR wz (w.heap.size + 1 + 1 + 1 + 1) (Y st) r w'') := HRS.out st wz _ w1 rfl hrd1
    obtain ⟨Z, hZ⟩ : ∃ Z, Y st = Z := ⟨_, rfl⟩
    have HA : Hid (ansR (.ok st) Y = ansY Z) := by rw [Hid, ← hZ]; rfl
    have HLN : Hid (∀ st2, Z = .ok st2 → st2.ops.length ≤ 1000) := fun st2 h2 => HSM st st2 rfl (hZ.trans h2)
    rw [hZ] at HRS2
    clear hrd1 HRL HRS hZ
    go_wp2_with fail
    refine HRS2.out.mono ?_
    rintro e w2 hend
    cases Z with
    | error ep =>
      obtain ⟨er, pp⟩ := ep
      obtain ⟨rfl, hb1⟩ := hend
      have ht1 := HZ.out.1.later hb1
      refine leaves_cons (f := 11) (args := #[.pointer (some ⟨w.heap.size, 0, none⟩), .pointer (some ⟨w.heap.size + 1, 0, none⟩), .pointer (some ⟨w.heap.size + 1 + 1, 0, none⟩)]) (by simp) (by simp [go_sem]) ?_
      refine (catch_panicking _ _ _ er pp w2 ht1.1 ht1.2.1 ht1.2.2).mono ?_
      rintro e u' w3 ⟨rfl, rfl, g1, g2, g3, g4⟩
      have c1 : w3.cell? ⟨w.heap.size, 0, none⟩ = some (.string ⟨#[]⟩) := by rw [cell_at g1]; rfl
      have c2 : w3.cell? ⟨w.heap.size + 1, 0, none⟩ = some (.int .i64 er) := by rw [cell_at g2]; rfl
      have c3 : w3.cell? ⟨w.heap.size + 1 + 1, 0, none⟩ = some (.int .i64 (pp : Int)) := by rw [cell_at g3]; rfl
      have hbw : Below w.heap.size w w3 := by
        have h1 := below_then HZ.out.2 hb1
        exact h1.trans (g4.below h1.size (by simp; omega))
      simp [Leaves, settle, results, Tryd.results7, go_sem, c1, c2, c3, hbw, HA.out, ansY, ansE]
    | ok st2 =>
      obtain ⟨rfl, hrd2⟩ := hend
      obtain ⟨vo, vu, mb, nm, D, k1, k2, _⟩ := hrd2.ex
      have HL2 : Hid (OLst w2 vo st2.ops) := OLst.of_own k2 (by have := HLN.out st2 rfl; omega)
      have r0 : w2.cell? ⟨w.heap.size + 1 + 1 + 1 + 1, 0, none⟩ = some vo := by rw [cell_at k1]; rfl
      have HB2 : Hid (Below wz.heap.size wz w2) := hrd2.bel
      obtain ⟨oa, oc, rfl⟩ := own_slice k2
      have HE2 : Hid (Calls Tryd.prog 14 #[.slice oa st2.ops.length oc] w2 fun e w'' => e = .returned (.tuple #[.string (strOfNums (encV st2.ops).1), .int .i64 (encV st2.ops).2.1, .int .i64 (encV st2.ops).2.2]) ∧ Below w2.heap.size w2 w'') := HEN.out w2 _ _ (below_then HZ.out.2 HB2.out) HL2.out
      have HA2 : Hid (ansR (.ok st) Y = .tuple #[.string (strOfNums (encV st2.ops).1), .int .i64 0, .int .i64 0]) := HA.out
      generalize strOfNums (encV st2.ops).1 = T at *
      generalize (encV st2.ops).2.1 = z1 at *
      generalize (encV st2.ops).2.2 = z2 at *
      clear hrd2 k1 k2 HA HL2 HEN
      go_wp2_with fail
      refine HE2.out.mono ?_
      rintro e w3 ⟨rfl, hb3⟩
      have ht3 := HZ.out.1.later (below_then HB2.out hb3)
      obtain ⟨t1, t2, t3⟩ := ht3
      have c1 : w3.cell? ⟨w.heap.size, 0, none⟩ = some (.string ⟨#[]⟩) := by rw [cell_at t1]; rfl
      have c2 : w3.cell? ⟨w.heap.size + 1, 0, none⟩ = some (.int .i64 0) := by rw [cell_at t2]; rfl
      have c3 : w3.cell? ⟨w.heap.size + 1 + 1, 0, none⟩ = some (.int .i64 0) := by rw [cell_at t3]; rfl
      have f1 : w3.frozen? ⟨w.heap.size, 0, none⟩ = false := frozen_at t1 0
      have f2 : w3.frozen? ⟨w.heap.size + 1, 0, none⟩ = false := frozen_at t2 0
      have f3 : w3.frozen? ⟨w.heap.size + 1 + 1, 0, none⟩ = false := frozen_at t3 0
      have hbw : Below w.heap.size w w3 := below_then HZ.out.2 (below_then HB2.out hb3)
      have HBW : Hid (Below w.heap.size w w3) := hbw
      have HT3 : Hid (Th w.heap.size w3 (.string ⟨#[]⟩) (.int .i64 0) (.int .i64 0)) := ⟨t1, t2, t3⟩
      clear hb3 t1 t2 t3 hbw
      go_wp2_with fail
      obtain ⟨hs1, hs2⟩ := th_set HT3.out (.string T) (.string T) (.int .i64 0) (.int .i64 0)
      refine leaves_cons (f := 11) (args := #[.pointer (some ⟨w.heap.size, 0, none⟩), .pointer (some ⟨w.heap.size + 1, 0, none⟩), .pointer (some ⟨w.heap.size + 1 + 1, 0, none⟩)]) (by simp) (by simp [go_sem]) ?_
      refine (catch_idle _ _ _ _).mono ?_
      rintro e u' w5 ⟨rfl, rfl, hb5⟩
      obtain ⟨g1, g2, g3⟩ := hs1.later hb5
      have c1 : w5.cell? ⟨w.heap.size, 0, none⟩ = some (.string T) := by rw [cell_at g1]; rfl
      have c2 : w5.cell? ⟨w.heap.size + 1, 0, none⟩ = some (.int .i64 0) := by rw [cell_at g2]; rfl
      have c3 : w5.cell? ⟨w.heap.size + 1 + 1, 0, none⟩ = some (.int .i64 0) := by rw [cell_at g3]; rfl
      have hbw : Below w.heap.size w w5 := by
        have h1 := HBW.out.trans (hs2.below HBW.out.size (by simp; omega))
        exact below_then h1 hb5
      clear hs1 hs2 hb5 g1 g2 g3
      simp [Leaves, settle, results, Tryd.results7, go_sem, c1, c2, c3, hbw, HA2.out]
end Go.Proofs.YtbjopdmchmekpaaDoor
