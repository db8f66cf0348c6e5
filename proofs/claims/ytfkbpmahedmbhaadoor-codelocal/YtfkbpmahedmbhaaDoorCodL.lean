/- CodeLocal, walked. -/
import Derived.Test.YtfkbpmahedmbhaaDoorCodT
import Derived.Deep.DeepHandedRow
import Derived.Laws.Concat
import Derived.Deep.Cut
import Derived.Deep.CutRange
import Derived.Deep.CutBlock
import Derived.Deep.DeepCutAuto
namespace Go.Proofs.YtfkbpmahedmbhaaDoor
open Go.ChangeShapes Go.WideShapes Go.ChangeAt Go.RowKit

theorem scells_int : Tryd.prog.cellsOf 3 = 1 := by kernel_rfl
theorem scells_str : Tryd.prog.cellsOf 9 = 1 := by kernel_rfl
theorem scells_spot : Tryd.prog.cellsOf 37 = 4 := by kernel_rfl
theorem slen4 {α : Type} {l : List α} (h : l.length = 4) : ∃ a b c d, l = [a, b, c, d] := by
  match l, h with
  | [a, b, c, d], _ => exact ⟨a, b, c, d, rfl⟩
set_option maxRecDepth 100000 in
theorem spot_arg {H : Type} {enc : TypeId × Value → H} {W : World} {base : Nat} {v : Value} {d : DataW H} {p : List MemPlace} (hw : (d.weights Tryd.prog 37).all (· ≤ reachBytes) = true)
    (hv : Value.okWide Tryd.prog W .any base 37 v) (h : DataW.Trod enc Tryd.prog W 0 (fun _ => true) true 37 v d p) :
    ∃ (s : ByteArray) (a : Int) (ah be : ByteArray), v = .agg #[.string s, .int .i64 a, .string ah, .string be] ∧ s.size ≤ 140737488351232 ∧ (Lit.int .i64 a).wf = true ∧ ah.size ≤ 140737488351232 ∧ be.size ≤ 140737488351232 := by
  obtain ⟨cs, rfl, hsz, _⟩ : ∃ cs, v = .agg cs ∧ cs.size = Tryd.prog.cellsOf 37 ∧ Row.okWide Tryd.prog W .any base 37 cs := by
    simpa [Value.okWide, Tryd.underlying37] using hv
  rw [scells_spot] at hsz
  obtain ⟨fuel, hf⟩ := h
  obtain ⟨xs, m, _, hx, hl, hlen, hfd⟩ := DataW.trod_struct Tryd.underlying37 hf
  have hl4 : cs.toList.length = 4 := by simpa using hsz
  obtain ⟨c0, c1, c2, c3, hcs⟩ := slen4 hl4
  obtain ⟨y0, y1, y2, y3, rfl⟩ := slen4 hlen
  have g0 := hfd 0 _ rfl
  have g1 := hfd 1 _ rfl
  have g2 := hfd 2 _ rfl
  have g3 := hfd 3 _ rfl
  simp [scells_int, scells_str, Value.cells, hcs] at g0 g1 g2 g3
  obtain ⟨s, z0, e0, _⟩ := DataW.trod_string Tryd.underlying9 g0
  obtain ⟨a, z1, e1, wf⟩ := DataW.trod_int Tryd.underlying3 g1
  obtain ⟨ah, z2, e2, _⟩ := DataW.trod_string Tryd.underlying9 g2
  obtain ⟨be, z3, e3, _⟩ := DataW.trod_string Tryd.underlying9 g3
  simp only [List.cons.injEq, and_true] at z0 z1 z2 z3
  subst z0 z1 z2 z3
  have hd : d = .agg [.lit (.string s.data.toList), .lit (.int .i64 a), .lit (.string ah.data.toList), .lit (.string be.data.toList)] := by
    have := congrArg Prod.fst hx
    simpa [e0, e1, e2, e3] using this
  rw [hd] at hw
  simp only [DataW.weights, Tryd.underlying37] at hw
  simp [DataW.weightsEach, DataW.weights, reachBytes] at hw
  have hcs' : cs = #[.string s, .int .i64 a, .string ah, .string be] := by
    apply Array.ext'
    rw [hcs]
  exact ⟨s, a, ah, be, by rw [hcs'], of_decide_eq_true hw.1, wf, of_decide_eq_true hw.2.1, of_decide_eq_true hw.2.2⟩
theorem byt_app (a b : ByteArray) (i : Nat) : byt (a ++ b) i = if i < a.size then byt a i else byt b (i - a.size) := by
  unfold byt
  by_cases h : i < a.size
  · rw [if_pos h]
    have h1 : (a ++ b)[i]? = a[i]? := by
      rw [getElem?_pos (a ++ b) i (by rw [ByteArray.size_append]; omega), getElem?_pos a i h, ByteArray.getElem_append_left h]
    rw [h1]
  · rw [if_neg h]
    by_cases h2 : i - a.size < b.size
    · have h1 : (a ++ b)[i]? = b[i - a.size]? := by
        rw [getElem?_pos (a ++ b) i (by rw [ByteArray.size_append]; omega), getElem?_pos b _ h2, ByteArray.getElem_append_right (by omega)]
      rw [h1]
    · rw [getElem?_neg (a ++ b) i (by rw [ByteArray.size_append]; omega), getElem?_neg b _ h2]
set_option maxHeartbeats 2000000 in
theorem wlocal (s : ByteArray) (a : Int) (ah be : ByteArray) (hs : s.size ≤ 140737488351232) (_wf : (Lit.int .i64 a).wf = true) (hah : ah.size ≤ 140737488351232) (hbe : be.size ≤ 140737488351232) {w : World} (hT : Tab w) :
    Calls Tryd.prog 8 #[.agg #[.string s, .int .i64 a, .string ah, .string be]] w fun e w' => e = .returned (.bool true) ∧ Below w.heap.size w w' := by
  have HA : Hid (∀ w', Below w.heap.size w w' → Calls Tryd.prog 9 #[.string s, .int .i64 a] w' fun e w'' => e = .returned (ansA (atS s a)) ∧ Below w'.heap.size w' w'') := fun w' hb => at_any s (by omega) a (hT.later hb)
  cases ho : atS s a with
  | none =>
    have HB : Hid (∀ w', Below w.heap.size w w' → Calls Tryd.prog 9 #[.string s, .int .i64 a] w' fun e w'' => e = .returned (.tuple #[.agg #[.int .i64 0, .int .i64 0], .int .i64 0, .int .i64 10]) ∧ Below w'.heap.size w' w'') := fun w' hb => by
      have := HA.out w' hb
      rw [ho] at this
      exact this
    clear HA ho hT
    go_enter Tryd.func8, Tryd.ntmps8
    go_wp2_with fail
    refine (HB.out _ (below_a1 _ _)).mono ?_
    rintro e w1 ⟨rfl, hb1⟩
    go_wp2
    go_ret
    exact ⟨rfl, below_then (below_then (below_a1 _ _) hb1) (below_a1 _ _)⟩
  | some o =>
    obtain ⟨c, x⟩ := o
    have ha : 0 ≤ a := by
      unfold atS at ho
      split at ho
      · cases ho
      · omega
    obtain ⟨p, rfl⟩ := Int.eq_ofNat_of_zero_le ha
    have hat : atV (fr s p) (s.size - p) = some (c, x) := by
      unfold atS at ho
      rw [if_neg (by omega), Int.toNat_natCast] at ho
      exact ho
    obtain ⟨h40, _, hn⟩ := at_code hat
    have hw8 : wdC c ≤ 8 := by have := wd_cases c; omega
    obtain ⟨X, hX⟩ : ∃ X, ah ++ s.extract p (p + (1 + wdC c)) ++ be = X := ⟨_, rfl⟩
    have hex : (s.extract p (p + (1 + wdC c))).size = 1 + wdC c := by rw [ByteArray.size_extract]; omega
    have hXz : X.size = ah.size + (1 + wdC c) + be.size := by rw [← hX, ByteArray.size_append, ByteArray.size_append, hex]
    have hat2 : atS X (ah.size : Int) = some (c, x) := by
      unfold atS
      rw [if_neg (by omega), Int.toNat_natCast]
      refine at_local (fr_lt s p) hat (by omega) fun i hi => ?_
      unfold fr
      rw [← hX, byt_app, if_pos (by rw [ByteArray.size_append, hex]; omega), byt_app, if_neg (by omega), show ah.size + i - ah.size = i by omega, byt_at _ _ (by rw [hex]; exact hi), byt_at _ _ (by omega), ByteArray.getElem_extract]
    have HB : Hid (∀ w', Below w.heap.size w w' → Calls Tryd.prog 9 #[.string s, .int .i64 (p : Int)] w' fun e w'' => e = .returned (.tuple #[.agg #[.int .i64 (c : Int), .int .i64 x], .int .i64 ((1 + wdC c : Nat) : Int), .int .i64 0]) ∧ Below w'.heap.size w' w'') := fun w' hb => by
      have := HA.out w' hb
      rw [ho] at this
      exact this
    have HC : Hid (∀ w', Below w.heap.size w w' → Calls Tryd.prog 9 #[.string X, .int .i64 (ah.size : Int)] w' fun e w'' => e = .returned (.tuple #[.agg #[.int .i64 (c : Int), .int .i64 x], .int .i64 ((1 + wdC c : Nat) : Int), .int .i64 0]) ∧ Below w'.heap.size w' w'') := fun w' hb => by
      have := at_any X (by omega) (ah.size : Int) (hT.later hb)
      rw [hat2] at this
      exact this
    have hsl : ∀ w, (Instr.slice 9 (.string s) (some (.int .i64 (p : Int))) (some (.int .i64 ((p : Int) + ((1 + wdC c : Nat) : Int)))) none).run Tryd.prog w = .ok (.string (s.extract p (p + (1 + wdC c)))) w := fun w => by
      rw [run_slice_string w 9 s .i64 .i64 _ _ Tryd.underlying9 (by omega) (by omega) (by omega), Int.toNat_natCast, show ((p : Int) + ((1 + wdC c : Nat) : Int)).toNat = p + (1 + wdC c) by omega]
    have ha1 : ∀ w, (Op.stringOp .add ah (s.extract p (p + (1 + wdC c)))).run Tryd.prog w = .ok (.string (ah ++ s.extract p (p + (1 + wdC c)))) w := fun w => run_string_add_sum (P := Tryd.prog) w _ _ (by rw [hex]; omega)
    have ha2 : ∀ w, (Op.stringOp .add (ah ++ s.extract p (p + (1 + wdC c))) be).run Tryd.prog w = .ok (.string X) w := fun w => by
      have := run_string_add_sum (P := Tryd.prog) w (ah ++ s.extract p (p + (1 + wdC c))) be (by rw [ByteArray.size_append, hex]; omega)
      rw [hX] at this
      exact this
    clear hX hat2 HA ho hT hat hex hXz
    generalize s.extract p (p + (1 + wdC c)) = E1 at *
    generalize ah ++ E1 = E2 at *
    have hn1 : 1 ≤ 1 + wdC c := by omega
    have hn9 : 1 + wdC c ≤ 9 := by omega
    clear hw8 h40
    generalize 1 + wdC c = n at *
    have hwp : wrap64 ((p : Int) + (n : Int)) = (p : Int) + (n : Int) := by unfold wrap64; omega
    have hwi : IntKind.i64.wrap ((p : Int) + (n : Int)) = (p : Int) + (n : Int) := by rw [IntKind.wrap_i64]; omega
    have hwm : wrap64 ((s.size : Int) - (n : Int)) = (s.size : Int) - (n : Int) := by unfold wrap64; omega
    have hlt : (p : Int) ≤ (s.size : Int) - (n : Int) := by omega
    go_enter Tryd.func8, Tryd.ntmps8
    go_wp2_with fail
    refine (HB.out _ (below_a1 _ _)).mono ?_
    rintro e w1 ⟨rfl, hb1⟩
    have hr := row_on (heap_alloc_new w _) hb1
    have c0 : ∀ o, (w1.alloc o).cell? ⟨w.heap.size, 0, none⟩ = some (.string s) := fun o => by rw [cell_at (row_on hr (below_a1 _ _))]; rfl
    have c1 : ∀ o, (w1.alloc o).cell? ⟨w.heap.size, 1, none⟩ = some (.int .i64 (p : Int)) := fun o => by rw [cell_at (row_on hr (below_a1 _ _))]; rfl
    have c2 : ∀ o, (w1.alloc o).cell? ⟨w.heap.size, 2, none⟩ = some (.string ah) := fun o => by rw [cell_at (row_on hr (below_a1 _ _))]; rfl
    have c3 : ∀ o, (w1.alloc o).cell? ⟨w.heap.size, 3, none⟩ = some (.string be) := fun o => by rw [cell_at (row_on hr (below_a1 _ _))]; rfl
    have HL : Hid (Below w.heap.size w w1) := below_then (below_a1 _ _) hb1
    have hr0 := row_on hr (below_a1 w1 (.cells #[.int .i64 (c : Int), .int .i64 x] 23))
    have hr1 := heap_alloc_new w1 (.cells #[.int .i64 (c : Int), .int .i64 x] 23)
    have hb2 := below_then HL.out (below_a1 w1 (.cells #[.int .i64 (c : Int), .int .i64 x] 23))
    have ho1 : w.heap.size ≤ w1.heap.size := HL.out.size
    clear hb1 HB hr
    go_wp2_with fail
    generalize w1.alloc (.cells #[.int .i64 (c : Int), .int .i64 x] 23) = x1 at *
    have c0 : x1.cell? ⟨w.heap.size, 0, none⟩ = some (.string s) := by rw [cell_at hr0]; rfl
    have c1 : x1.cell? ⟨w.heap.size, 1, none⟩ = some (.int .i64 (p : Int)) := by rw [cell_at hr0]; rfl
    have c2 : x1.cell? ⟨w.heap.size, 2, none⟩ = some (.string ah) := by rw [cell_at hr0]; rfl
    have c3 : x1.cell? ⟨w.heap.size, 3, none⟩ = some (.string be) := by rw [cell_at hr0]; rfl
    have HR0 : Hid (x1.heap[w.heap.size]? = some (.cells #[.string s, .int .i64 (p : Int), .string ah, .string be] 37 (0, 0))) := hr0
    have HR1 : Hid (x1.heap[w1.heap.size]? = some (.cells #[.int .i64 (c : Int), .int .i64 x] 23 (0, 0))) := hr1
    have HB2 : Hid (Below w.heap.size w x1) := hb2
    have l0 := heap_lt hr0
    have l1 := heap_lt hr1
    have HCS : Hid (∀ x2, Below x1.heap.size x1 x2 → x2.cell? ⟨w.heap.size, 0, none⟩ = some (.string s) ∧ x2.cell? ⟨w.heap.size, 1, none⟩ = some (.int .i64 (p : Int)) ∧ x2.cell? ⟨w.heap.size, 2, none⟩ = some (.string ah) ∧ x2.cell? ⟨w.heap.size, 3, none⟩ = some (.string be)) := fun x2 hb => by
      have h := row_on HR0.out hb
      exact ⟨by rw [cell_at h]; rfl, by rw [cell_at h]; rfl, by rw [cell_at h]; rfl, by rw [cell_at h]; rfl⟩
    clear hr0 hr1 hb2 HL
    generalize w1.heap.size = Ob at *
    go_cut [6, 7, 8] (fun s6 s7 s8 wx => ∃ Pb, s6 = .pointer (some ⟨Pb, 0, none⟩) ∧ s7 = .int .i64 (n : Int) ∧ s8 = .int .i64 0 ∧ wx.heap[Pb]? = some (.cells #[.int .i64 (c : Int), .int .i64 x] 23 (0, 0)) ∧ wx.heap[Ob]? = some (.cells #[.int .i64 (c : Int), .int .i64 x] 23 (0, 0)) ∧ Below w.heap.size w wx)
    case first =>
      have n1 : w.heap.size ≠ x1.heap.size := by omega
      have n2 : x1.heap.size ≠ w.heap.size := by omega
      go_region_held3 (fun w' => w'.cell? ⟨w.heap.size, 0, none⟩ = some (.string s) ∧ w'.cell? ⟨w.heap.size, 1, none⟩ = some (.int .i64 (p : Int)) ∧ w'.cell? ⟨w.heap.size, 2, none⟩ = some (.string ah) ∧ w'.cell? ⟨w.heap.size, 3, none⟩ = some (.string be)) (first | go_keep | exact hS) (first
        | (go_at_call 9; refine (HC.out _ (by first | exact below_then HB2.out (below_drawn (Below.refl _ _) 1) | exact below_then HB2.out (below_then (below_a1 _ _) (below_drawn (Below.refl _ _) 1)))).mono ?_; rintro e z1 ⟨rfl, hb1⟩; have hS := HCS.out z1 (by first | exact below_then (below_drawn (Below.refl _ _) 1) hb1 | exact below_then (below_then (below_a1 _ _) (below_drawn (Below.refl _ _) 1)) hb1); have hsz := hb1.size; have m3 : w.heap.size ≠ z1.heap.size := (by simp at hsz; omega); have m4 : z1.heap.size ≠ w.heap.size := m3.symm; try (have hr := row_on (w := World.drew (x1.alloc (.cells #[.int .i64 0, .int .i64 0] 23))) (heap_alloc_new _ _) hb1; have q0 := cell_at hr 0; have q1 := cell_at hr 1; have g0 := frozen_at hr 0; have g1 := frozen_at hr 1; simp only [List.getElem?_toArray, List.getElem?_cons_zero, List.getElem?_cons_succ] at q0 q1)))
      · go_wp2_with fail
        go_meet
        have hbx := below_then (below_drawn (Below.refl _ x1) 1) hb1
        exact ⟨_, rfl, rfl, rfl, heap_alloc_new _ _, row_on (row_on HR1.out hbx) (below_a1 _ _), below_then (below_then HB2.out hbx) (below_a1 _ _)⟩
      · go_wp2_with fail
        go_meet
        have hbx := below_then (below_then (below_a1 x1 _) (below_drawn (Below.refl _ _) 1)) hb1
        have hO := row_on HR1.out hbx
        have hne : x1.heap.size ≠ Ob := by omega
        refine ⟨_, rfl, rfl, rfl, heap_set (heap_set hr _ _) _ _, ?_, ?_⟩
        · rw [heap_set_other _ _ hne, heap_set_other _ _ hne]; exact hO
        · have hw1 := HB2.out.size
          exact below_set (below_set (below_then HB2.out hbx) _ _ _ (by omega)) _ _ _ (by omega)
    case rest =>
      obtain ⟨Pb, rfl, rfl, rfl, hP, hO, hB⟩ := hcut
      have d0 : wc.cell? ⟨Pb, 0, none⟩ = some (.int .i64 (c : Int)) := by rw [cell_at hP]; rfl
      have d1 : wc.cell? ⟨Pb, 1, none⟩ = some (.int .i64 x) := by rw [cell_at hP]; rfl
      have d2 : wc.cell? ⟨Ob, 0, none⟩ = some (.int .i64 (c : Int)) := by rw [cell_at hO]; rfl
      have d3 : wc.cell? ⟨Ob, 1, none⟩ = some (.int .i64 x) := by rw [cell_at hO]; rfl
      clear c0 c1 c2 c3 HR0 HR1 HCS HC hP hO
      go_wp2
      go_ret
      exact ⟨rfl, hB⟩
end Go.Proofs.YtfkbpmahedmbhaaDoor
