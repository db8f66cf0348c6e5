/- The face Final. -/
import Derived.Test.YtadollckekddgaaDoorHiS
namespace Go.Proofs.YtadollckekddgaaDoor.Hi
open Go.ChangeShapes Go.WideShapes Go.ChangeAt Go.RowKit
set_option linter.unusedVariables false
set_option maxRecDepth 100000

/-- Final's answer. -/
def finM (p : Pa) : Int → Int := finalD (p.pub.map (nt p.txs))
def finC (m : Int → Int) (n : Nat) : List Value := (List.range n).map fun (i : Nat) => Value.int .i64 (m i)
theorem finC_len (m : Int → Int) (n : Nat) : (finC m n).length = n := by simp [finC]
theorem finC_mem (m : Int → Int) {n : Nat} (h : n ≤ 1024) (j : Nat) (u : Value) (hu : (finC m n)[j]? = some u) : (memC m)[j]? = some u := by
  have hj : j < n := by have := (List.getElem?_eq_some_iff.1 hu).1; rwa [finC_len] at this
  rw [memC_get m j (by omega), ← hu]
  simp [finC, hj]
theorem final_step (p : Pa) {j : Nat} (h : j < p.pub.length) : finalD ((p.pub.take (j + 1)).map (nt p.txs)) = leaveD (nt p.txs (p.pub.getD j 0)) (finalD ((p.pub.take j).map (nt p.txs))) := by
  have e : p.pub.take (j + 1) = p.pub.take j ++ [p.pub.getD j 0] := by
    rw [List.take_add_one]
    simp [h]
  rw [e, List.map_append]
  unfold finalD
  rw [List.foldl_append]
  rfl
theorem info_i64h : (Tryd.prog.info? 2).map (fun i => (i.zero, i.size, i.bytes)) = some (some (.int .i64 0), 1, 8) := by kernel_rfl
/-- What Final tells. -/
def FinQ (w : World) (H : List Ev) (n : Int) (e : Ending) (w' : World) : Prop :=
  (match readD H with
  | some p => if 0 ≤ n ∧ n ≤ 1024 then ∃ v, e = .returned (.tuple #[v, .int .i64 0]) ∧ w'.ownsRow w.heap.size 2 1 v n.toNat (finC (finM p) n.toNat) else e = .returned (.tuple #[.slice none 0 0, .int .i64 1])
  | none => e = .returned (.tuple #[.slice none 0 0, .int .i64 14])) ∧ Below w.heap.size w w'
theorem finq_ok {w w' : World} {H : List Ev} {n : Int} {e : Ending} {p : Pa} (hr : readD H = some p) (hn : 0 ≤ n ∧ n ≤ 1024) (h : ∃ v, e = .returned (.tuple #[v, .int .i64 0]) ∧ w'.ownsRow w.heap.size 2 1 v n.toNat (finC (finM p) n.toNat)) (hb : Below w.heap.size w w') : FinQ w H n e w' := by
  unfold FinQ; rw [hr]; simp only [hn, and_self, ↓reduceIte]; exact ⟨h, hb⟩
theorem finq_bad {w w' : World} {H : List Ev} {n : Int} {e : Ending} {p : Pa} (hr : readD H = some p) (hn : ¬ (0 ≤ n ∧ n ≤ 1024)) (h : e = .returned (.tuple #[.slice none 0 0, .int .i64 1])) (hb : Below w.heap.size w w') : FinQ w H n e w' := by
  unfold FinQ; rw [hr]; simp only [hn, ↓reduceIte]; exact ⟨h, hb⟩
theorem finq_none {w w' : World} {H : List Ev} {n : Int} {e : Ending} (hr : readD H = none) (h : e = .returned (.tuple #[.slice none 0 0, .int .i64 14])) (hb : Below w.heap.size w w') : FinQ w H n e w' := by
  unfold FinQ; rw [hr]; exact ⟨h, hb⟩
set_option maxHeartbeats 1600000 in
theorem final_any {w : World} {v : Value} {H : List Ev} {a c : Addr} (h : EvL w v H) (he : ErrAt w a c) (hpo : ∀ p, readD H = some p → PaOk p) (n : Int) : Calls Tryd.prog 9 #[v, .int .i64 n] w (FinQ w H n) := by
  obtain ⟨i0, hi0, hz0, hz1, hz2⟩ := info_parts info_i64h
  have HRD : Hid (Calls Tryd.prog 20 #[v, .int .i64 n] w (ForQ w H n a c)) := readFor_any h he n
  have HE1 : Hid (∀ w', Below w.heap.size w w' → Calls Tryd.prog 11 #[flt (good H) a] w' fun e w'' => e = .returned (.int .i64 14) ∧ Below w'.heap.size w' w'') := fun w' hb => errno_fault (he.later hb (Nat.le_refl _)) _
  have HE2 : Hid (∀ w', Below w.heap.size w w' → Calls Tryd.prog 11 #[snt c] w' fun e w'' => e = .returned (.int .i64 1) ∧ Below w'.heap.size w' w'') := fun w' hb => errno_arg (he.later hb (Nat.le_refl _))
  have HM := h.len
  clear h he
  unfold ForQ at HRD
  cases hr : readD H with
  | none =>
    have HF : Hid (∀ e w', e = .returned (.tuple #[.slice none 0 0, .int .i64 14]) → Below w.heap.size w w' → FinQ w H n e w') := fun e w' => finq_none hr
    rw [hr] at HRD
    unfold flt at *
    dsimp only at *
    generalize (Value.agg #[.int .i64 (good H : Int), .iface 127 (.pointer (some a))]) = z at *
    clear hpo hr
    go_enter Tryd.func9, Tryd.ntmps9
    go_wp2_with fail
    refine HRD.out.mono ?_
    rintro e w1 ⟨rfl, hb1⟩
    have HB1 : Hid (Below w.heap.size w w1) := hb1
    clear hb1
    go_wp2_with fail
    refine (HE1.out _ HB1.out).mono ?_
    rintro e w2 ⟨rfl, hb2⟩
    go_wp2_with fail
    go_ret2
    exact HF.out _ _ rfl (HB1.out.trans (hb2.mono HB1.out.size))
  | some p =>
    have HPO : Hid (PaOk p) := hpo p hr
    rw [hr] at HRD
    dsimp only at *
    clear hpo
    by_cases hn : 0 ≤ n ∧ n ≤ 1024
    · have HF : Hid (∀ e w', (∃ v, e = .returned (.tuple #[v, .int .i64 0]) ∧ w'.ownsRow w.heap.size 2 1 v n.toNat (finC (finM p) n.toNat)) → Below w.heap.size w w' → FinQ w H n e w') := fun e w' => finq_ok hr hn
      simp only [hn, and_self, ↓reduceIte] at HRD
      obtain ⟨m, rfl⟩ : ∃ m : Nat, n = (m : Int) := ⟨n.toNat, by omega⟩
      have hm : m ≤ 1024 := by omega
      have HZ := zero_mem
      clear hn hr
      go_enter Tryd.func9, Tryd.ntmps9
      go_wp2_with fail
      refine HRD.out.mono ?_
      rintro e w1 ⟨⟨P, b, V, vt, vp, rfl, hp⟩, hb1⟩
      have HP1 : Hid (PAt w1 w.heap.size P H.length p b V vt vp) := hp
      have HB1 : Hid (Below w.heap.size w w1) := hb1
      have hpn : p.pub.length ≤ 925925926000 := Nat.le_trans hp.bd.2.1 HM
      have hP1 : w1.cell? ⟨P, 2, none⟩ = some vp := by rw [cell_at hp.pa]; simp
      obtain ⟨sa, cap, rfl⟩ := own_slice hp.ps
      unfold ptr
      clear hp hb1 HRD
      have hlP := heap_lt HP1.out.pa
      go_wp2_with fail
      go_loopw [26] (fun iv wr => ∃ j : Nat, j ≤ p.pub.length ∧ iv = .int .i64 (j : Int) ∧ Hid (wr.heap[w1.heap.size]? = some (.cells (memC (finalD ((p.pub.take j).map (nt p.txs)))) 70 (0, 0))) ∧ Hid (Below w1.heap.size w1 wr)) (fun iv _ => p.pub.length - (intOf iv).toNat)
      case atStart => exact ⟨0, Nat.zero_le _, rfl, heap_alloc_new w1 _, below_a1 _ _⟩
      case round =>
        obtain ⟨j, hj, rfl, HC, HB⟩ := hrel
        by_cases hlt : j < p.pub.length
        · have hjd : decide ((j : Int) < (p.pub.length : Int)) = true := by simp; omega
          have HPr := HP1.out.later HB.out
          have hpi : p.pub.getD j 0 < p.txs.length := HPr.pl _ (by rw [List.getD_eq_getElem?_getD]; simp [hlt])
          obtain ⟨g, hsg, hgi⟩ : ∃ g, sa = some ⟨g, 0, none⟩ ∧ wr.cell? ⟨g, j, none⟩ = some (.pointer (some ⟨b (p.pub.getD j 0), 0, none⟩)) := by
            rcases HPr.ps.2 with ⟨_, h0⟩ | ⟨g, cap', cur, hs, _⟩
            · omega
            · have hps := HPr.ps
              rw [hs] at hps
              refine ⟨g, by simp at hs; exact hs.1, own_cells hps j _ ?_⟩
              simp [ptrsOf, hlt, ptr]
          subst hsg
          have HLV : Hid (Calls Tryd.prog 21 #[ptr (b (p.pub.getD j 0)), ptr w1.heap.size] wr fun e w'' => e = .returned (.tuple #[]) ∧ w''.heap[w1.heap.size]? = some (.cells (memC (leaveD (nt p.txs (p.pub.getD j 0)) (finalD ((p.pub.take j).map (nt p.txs))))) 70 (0, 0)) ∧ Keep [w1.heap.size] wr w'') := leave_any (HPr.xat HM HPO.out hpi).1 HC.out
          have HS : Hid (finalD ((p.pub.take (j + 1)).map (nt p.txs)) = leaveD (nt p.txs (p.pub.getD j 0)) (finalD ((p.pub.take j).map (nt p.txs)))) := final_step p hlt
          have hw1 : Hid (wrap64 ((j : Int) + 1) = (j : Int) + 1) := inc_cast hpn (by omega)
          have HMS : Hid (p.pub.length - (j + 1) < p.pub.length - j) := by rw [Hid]; omega
          have hjl : (j : Int) < (p.pub.length : Int) := by omega
          unfold ptr at HLV
          clear HPr hpi
          generalize p.pub.getD j 0 = pi at *
          generalize b pi = X at *
          go_wp2_with fail
          refine HLV.out.mono ?_
          rintro e w3 ⟨rfl, hc3, hk3⟩
          have HC3 : Hid (w3.heap[w1.heap.size]? = some (.cells (memC (finalD ((p.pub.take (j + 1)).map (nt p.txs)))) 70 (0, 0))) := by rw [Hid, HS.out]; exact hc3
          have HB3 : Hid (Below w1.heap.size w1 w3) := HB.out.trans (hk3.below HB.out.size (by simp))
          clear hc3 hk3
          go_wp2_with fail
          go_roundw
          case rel => exact ⟨j + 1, hlt, by first | go_num | (rw [hw1.out]; go_num), HC3, HB3⟩
          case measure => first | (simpa [intOf] using HMS.out) | (rw [hw1.out]; simpa [intOf] using HMS.out)
        · obtain rfl : j = p.pub.length := by omega
          have hc := HC.out
          rw [List.take_length] at hc
          have HC2 : Hid (wr.heap[w1.heap.size]? = some (.cells (memC (finM p)) 70 (0, 0))) := hc
          clear hc
          have HNW : Hid (∀ j u, (finC (finM p) m)[j]? = some u → wr.cell? ((⟨w1.heap.size, 0, none⟩ : Addr).add j) = some u) := fun j u hu => by
            have ha : (⟨w1.heap.size, 0, none⟩ : Addr).add j = ⟨w1.heap.size, j, none⟩ := by unfold Addr.add; split <;> simp_all
            rw [ha, cell_at HC2.out]
            exact finC_mem _ hm j u hu
          have hfl : (finC (finM p) m).length = m * 1 := by rw [finC_len, Nat.mul_one]
          have HON : Hid (∀ u ∈ finC (finM p) m, u.oneCell' = true) := fun u hu => by
            simp only [finC, List.mem_map] at hu
            obtain ⟨i, _, rfl⟩ := hu
            rfl
          have HNIL : Hid (wr.ownsRow w.heap.size 2 1 (.slice none 0 0) 0 []) := ⟨rfl, Or.inl ⟨rfl, rfl⟩⟩
          have hBB : w.heap.size ≤ wr.heap.size := Nat.le_trans HB1.out.size HB.out.size
          have hm0' : (0 : Int) ≤ (m : Int) := by omega
          have hm1' : (m : Int) ≤ 1024 := by omega
          by_cases hm0 : m = 0
          · subst hm0
            go_wp2
            go_ret2
            exact HF.out _ _ ⟨_, rfl, HNIL.out⟩ (HB1.out.trans (HB.out.mono HB1.out.size))
          · have hmp : 0 < m := by omega
            go_wp2_with (at_builtin; refine list_lies_wide _ rfl _ _ 42 rfl w.heap.size 2 i0 _ 1 8 Tryd.underlying42 hi0 hz0 hz1 hz2 rfl (by decide) _ 0 [] rfl HNIL.out ⟨w1.heap.size, 0, none⟩ m 1024 (finC (finM p) m) rfl hfl HNW.out HON.out hmp (by unfold maxLen; omega) (by omega) hBB _ rfl ?_)
            intro g3 cap3 w3 hown3 hgrow3 hat3 hlt3
            have HO3 : Hid (w3.ownsRow w.heap.size 2 1 (.slice (some ⟨g3, 0, none⟩) m cap3) m (finC (finM p) m)) := hown3
            have HB3 : Hid (Below w.heap.size w w3) := (HB1.out.trans (HB.out.mono HB1.out.size)).grown hgrow3 hBB (fun k e => by cases e)
            clear hown3 hgrow3 hat3 hlt3
            go_wp2
            go_ret2
            exact HF.out _ _ ⟨_, rfl, HO3.out⟩ HB3.out
    · have HF : Hid (∀ e w', e = .returned (.tuple #[.slice none 0 0, .int .i64 1]) → Below w.heap.size w w' → FinQ w H n e w') := fun e w' => finq_bad hr hn
      simp only [hn, ↓reduceIte] at HRD
      unfold snt at *
      clear hn hr
      go_enter Tryd.func9, Tryd.ntmps9
      go_wp2_with fail
      refine HRD.out.mono ?_
      rintro e w1 ⟨rfl, hb1⟩
      have HB1 : Hid (Below w.heap.size w w1) := hb1
      clear hb1
      go_wp2_with fail
      refine (HE2.out _ HB1.out).mono ?_
      rintro e w2 ⟨rfl, hb2⟩
      go_wp2_with fail
      go_ret2
      exact HF.out _ _ rfl (HB1.out.trans (hb2.mono HB1.out.size))
end Go.Proofs.YtadollckekddgaaDoor.Hi
