/- A list is gone through. -/
import Derived.Test.YtadollckekddgaaDoorHiJ
import Derived.Test.YtadollckekddgaaDoorHiF
import Derived.Deep.MidRow
namespace Go.Proofs.YtadollckekddgaaDoor.Hi
open Go.ChangeShapes Go.WideShapes Go.ChangeAt Go.RowKit
set_option linter.unusedVariables false
set_option maxRecDepth 100000

theorem take_any {w : World} {B P k : Nat} {p : Pa} {b : Nat → Nat} {V : Nat → Value} {vt vp : Value} (h : PAt w B P k p b V vt vp) (hB : B ≤ w.heap.size) (hkb : k ≤ 925925926000) (e : Ev) : Calls Tryd.prog 22 #[ptr P, evV e] w (SubQ w B P k (takeD p e)) := by
  by_cases h1 : e.at_ < p.at_
  · exact take_late h hB e h1
  · by_cases h2 : e.kd = 7
    · exact take_open h hB hkb e h1 h2
    · by_cases h3 : e.tx < 0 ∨ (p.txs.length : Int) ≤ e.tx
      · exact take_else h hB e h1 h2 h3
      · exact take_kind h hB hkb e h1 h2 h3
/-- A struct out of anywhere. -/
theorem wpList_load_list {P : Program} {ops : Array Oper} {rest : List Oper} {op : Oper} {a : Act} {w : World} {Q : Exit → Act → World → Prop} (hgd : op.guard = none) (ty : TypeId) (x : Operand) (ho : op.op = .load ty x)
    (y : Addr) (hx : a.eval x = .pointer (some y)) (cs : List Value) (d : TypeDesc) (hc : ∀ j v, cs[j]? = some v → w.cell? (y.add j) = some v)
    (hu : P.underlying ty = some d) (hd : d.isRow = true) (hi : (P.info? ty).map (·.size) = some cs.length)
    (h : wpList P ops Q rest (a.put op.dst (.agg cs.toArray)) w) : wpList P ops Q (op :: rest) a w := by
  have hl : (loadCells y cs.length).run P w = .ok cs.toArray w := run_loadCells_list (P := P) w y cs hc
  have hlv : (loadVar ty y).run P w = .ok (.agg cs.toArray) w := by
    cases hq : P.info? ty with
    | none => simp [hq] at hi
    | some i =>
      have hs : i.size = cs.length := by simpa [hq] using hi
      have hagg : (isAgg ty).run P w = .ok true w := by
        unfold isAgg
        rw [Sem.run_bind, run_underlying hu w]
        cases d <;> simp_all
      simp [loadVar, Sem.run_bind, hagg, sizeOf, typeInfo, hq, hs, hl]
  refine wpList_plain hgd fun K hK => ?_
  unfold Oper.wp execOp
  simp only [ho, hx, Instr.loadAt, Instr.sureAddr, Sem.run_bind, Sem.run_pure, Result.andThen_ok, hlv]
  exact hK _ _ h
theorem hnew_ev {P : Program} {w : World} {cs : Array Value} (hc : cs.size = 19) (h1 : cs.all (·.oneCell') = true) : ∃ w', (storeCells ⟨w.heap.size, 0, none⟩ cs.toList 0).run P (w.alloc (.cells #[.int .i64 0, .int .i64 0, .int .i64 0, .int .i64 0, .int .i64 0, .int .i64 0, .bool false, .int .i64 0, .int .i64 0, .int .i64 0, .int .u64 0, .int .u64 0, .int .u64 0, .int .u64 0, .int .u64 0, .int .u64 0, .int .u64 0, .int .u64 0, .int .i64 0] 39)) = .ok () w' ∧ w'.heap[w.heap.size]? = some (.cells cs 39 (0, 0)) ∧ Below w.heap.size w w' ∧ w.heap.size < w'.heap.size := by
  have := run_storeCells_from (P := P) w.heap.size 39 cs.toList 0 #[.int .i64 0, .int .i64 0, .int .i64 0, .int .i64 0, .int .i64 0, .int .i64 0, .bool false, .int .i64 0, .int .i64 0, .int .i64 0, .int .u64 0, .int .u64 0, .int .u64 0, .int .u64 0, .int .u64 0, .int .u64 0, .int .u64 0, .int .u64 0, .int .i64 0] _ (heap_alloc_new w _) (by simp [hc]) (fun v hv => (Array.all_eq_true_iff_forall_mem.1 h1) v (by simpa using hv))
  refine ⟨_, by simpa using this, ?_, ?_, ?_⟩
  · exact setRow_heap _ _ _ _ _ _ (heap_alloc_new w _)
  · exact below_row (below_a1 _ _) _ (Nat.le_refl _) _
  · rw [setRow_size]; simp
theorem past_new (w : World) : PAt (w.alloc (.cells #[.int .i64 0, .slice none 0 0, .slice none 0 0, .int .i64 0] 54)) w.heap.size w.heap.size 0 pa0 (fun _ => 0) (fun _ => .slice none 0 0) (.slice none 0 0) (.slice none 0 0) :=
  ⟨heap_alloc_new w _, Nat.le_refl _, ⟨rfl, Or.inl ⟨rfl, rfl⟩⟩, ⟨rfl, Or.inl ⟨rfl, rfl⟩⟩, fun x hx => by simp [Value.ownBlock] at hx, fun i hi => by simp [pa0] at hi, fun i hi => by simp [pa0] at hi, fun i hi => by simp [pa0] at hi, fun i j hi => by simp [pa0] at hi, fun i hi => by simp [pa0] at hi, fun i j hi => by simp [pa0] at hi, by simp [pa0]⟩
/-- What read tells. -/
def ReadQ (w : World) (H : List Ev) (a : Addr) (e : Ending) (w' : World) : Prop :=
  (match readD H with
  | some p => ∃ P b V vt vp, e = .returned (.tuple #[ptr P, .nilIface]) ∧ PAt w' w.heap.size P H.length p b V vt vp
  | none => e = .returned (.tuple #[.pointer none, flt (good H) a])) ∧ Below w.heap.size w w'
set_option maxHeartbeats 1600000 in
theorem read_any {w : World} {v : Value} {H : List Ev} {a c : Addr} (h : EvL w v H) (he : ErrAt w a c) : Calls Tryd.prog 10 #[v] w (ReadQ w H a) := by
  obtain ⟨sa, cap, rfl, hm, hcap, hcs, hca, hok, hl⟩ := h
  have HL : Hid (H.length = 0 ∨ ∃ x, sa = some x ∧ x.block < w.heap.size ∧ ∀ i, i < H.length → ∀ j, j < 19 → w.cell? ((x.add (i * 19)).add j) = (evC (ne H i))[j]?) := hl
  have HM : Hid (H.length ≤ 925925926000) := hm
  have HE : Hid (ErrAt w a c) := he
  have H0 := past_new w
  have HB0 : Hid (Below w.heap.size w (w.alloc (.cells #[.int .i64 0, .slice none 0 0, .slice none 0 0, .int .i64 0] 54))) := below_a1 _ _
  clear hl hm hcs hca hok hcap he
  go_enter Tryd.func10, Tryd.ntmps10
  go_wp2_with fail
  go_loopw [11] (fun iv wr => ∃ (j : Nat) (p : Pa) (b : Nat → Nat) (V : Nat → Value) (vt vp : Value), j ≤ H.length ∧ iv = .int .i64 (j : Int) ∧ Hid (readD (H.take j) = some p) ∧ Hid (PAt wr w.heap.size w.heap.size j p b V vt vp) ∧ Hid (Below w.heap.size w wr)) (fun iv _ => H.length - (intOf iv).toNat)
  case atStart => exact ⟨0, pa0, _, _, _, _, Nat.zero_le _, rfl, rfl, H0, HB0.out⟩
  case round =>
    obtain ⟨j, p, b, V, vt, vp, hj, rfl, HR, HP, HB⟩ := hrel
    by_cases hlt : j < H.length
    · have hjd : decide ((j : Int) < (H.length : Int)) = true := by simp; omega
      obtain ⟨x, rfl, hxb, hc⟩ := HL.out.resolve_left (by omega)
      have hcell : ∀ i u, (evC (ne H j))[i]? = some u → wr.cell? ((x.add (j * 19)).add i) = some u := fun i u hu => by
        have hi : i < 19 := (List.getElem?_eq_some_iff.1 hu).1
        rw [HB.out.cell (by rw [add_block, add_block]; exact hxb), hc j hlt i hi]; exact hu
      have HCELL : Hid (∀ i u, (evC (ne H j))[i]? = some u → wr.cell? ((x.add (j * 19)).add i) = some u) := hcell
      have hw1 : Hid (wrap64 ((j : Int) + 1) = (j : Int) + 1) := by
        have := HM.out
        unfold Hid wrap64
        omega
      have HMS : Hid (H.length - (j + 1) < H.length - j) := by rw [Hid]; omega
      obtain ⟨z10, hs10, HE10, HB10, hz10⟩ := hnew_ev (P := Tryd.prog) (w := wr) (evA_size (ne H j)) (evA_one (ne H j))
      have HT : Hid (Calls Tryd.prog 22 #[ptr w.heap.size, evV (ne H j)] z10 (SubQ z10 w.heap.size w.heap.size j (takeD p (ne H j)))) := take_any (HP.out.later HB10) (Nat.le_trans HB.out.size HB10.size) (by have := HM.out; omega) _
      have HSZ : Hid (evC (ne H j) = (evA (ne H j)).toList) := rfl
      have HSS : Hid ((Tryd.prog.info? 39).map (·.size) = some (evA (ne H j)).size) := ev_info _
      have HZ : Hid (Below w.heap.size w z10) := HB.out.trans (HB10.mono HB.out.size)
      have HRS := read_step hlt HR.out
      have HG : Hid (takeD p (ne H j) = none → good H = j ∧ readD H = none) := fun hn => ⟨good_at hlt HR.out hn, read_bad hlt HR.out hn⟩
      have hjl : (j : Int) < (H.length : Int) := by omega
      clear hcell hc H0
      have hsz19 : (evA (ne H j)).size = 19 := evA_size _
      unfold evV ptr SubQ at HT
      rw [HSZ.out] at HCELL
      generalize evA (ne H j) = cs at *
      generalize takeD p (ne H j) = oq at *
      have HRS2 : Hid (readD (H.take (j + 1)) = oq) := HRS
      clear HRS
      go_wp2_with (first | (refine wpList_load_list (by rfl) _ _ (by rfl) (x.add (j * 19)) (by rfl) cs.toList _ HCELL.out Tryd.underlying39 (by rfl) (by simpa using HSS.out) ?_) | (refine wpList_load_row (by rfl) _ _ (by rfl) wr.heap.size (by rfl) 39 cs (0, 0) _ HE10 Tryd.underlying39 (by rfl) HSS.out ?_) | fail)
      refine HT.out.mono ?_
      rintro e w3 ⟨y, rfl, hy, hb3⟩
      have HB3 : Hid (Below w.heap.size w w3) := HZ.out.trans hb3
      cases oq with
      | some q =>
        obtain ⟨rfl, b', V', vt', vp', hp'⟩ := hy
        have HP' : Hid (PAt w3 w.heap.size w.heap.size (j + 1) q b' V' vt' vp') := hp'
        clear hp' hb3 HT HG
        go_wp2_with fail
        go_roundw
        case rel => exact ⟨j + 1, q, b', V', vt', vp', hlt, by rw [hw1.out]; go_num, HRS2, HP', HB3⟩
        case measure => rw [hw1.out]; simpa [intOf] using HMS.out
      | none =>
        obtain ⟨hg1, hg2⟩ := HG.out rfl
        have hev := (HE.out.later HB3.out (Nat.le_refl _)).ev
        obtain rfl : y = false := hy
        clear hb3 HT HG
        unfold snt at hev
        go_wp2_with fail
        go_quiet (fail)
        go_wp2_with fail
        go_ret2
        unfold ReadQ
        rw [hg2]
        refine ⟨?_, ?_⟩
        · rw [hg1]; rfl
        · exact below_drawn HB3.out _
    · obtain rfl : j = H.length := by omega
      have HR2 : Hid (readD H = some p) := by have := HR.out; rw [List.take_length] at this; exact this
      clear HL HR
      go_wp2_with fail
      go_ret2
      unfold ReadQ
      rw [HR2.out]
      exact ⟨⟨_, b, V, vt, vp, rfl, HP.out⟩, HB.out⟩
end Go.Proofs.YtadollckekddgaaDoor.Hi
