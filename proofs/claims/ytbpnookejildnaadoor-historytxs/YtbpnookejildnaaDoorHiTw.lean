/- The law of transactions. -/
import Derived.Test.YtbpnookejildnaaDoorHiTc
import Derived.Test.YtbpnookejildnaaDoorHiSh
import Derived.Test.YtbpnookejildnaaDoorHiRd
namespace Go.Proofs.YtbpnookejildnaaDoor.Hi
open Go.ChangeShapes Go.WideShapes Go.ChangeAt Go.RowKit
set_option linter.unusedVariables false

theorem run_copy_wide {P : Program} (w : World) (dT sT ty elem : TypeId) (g dLen dCap : Nat) (a : Addr) (sLen sCap : Nat) (cur : Array Value) (t : TypeId) (cs : List Value) (k : Nat)
    (hu : P.underlying dT = some (.slice elem)) (hs : (P.info? elem).map (·.size) = some k)
    (hg : w.heap[g]? = some (.cells cur t (0, 0))) (hn : cs.length = Nat.min sLen dLen * k)
    (hsrc : ∀ j v, cs[j]? = some v → w.cell? (a.add j) = some v) (hfit : cs.length = cur.size) (h1 : ∀ v ∈ cs, v.oneCell' = true) :
    (Builtin.copy_ #[dT, sT] ty #[.slice (some ⟨g, 0, none⟩) dLen dCap, .slice (some a) sLen sCap]).run P w =
      .ok (goInt (Nat.min sLen dLen)) (w.setRow g cs.toArray) := by
  have hl := run_loadCells_list (P := P) w a cs hsrc
  have hst := run_storeCells_at P g 0 t cs 0 cur w hg (by omega) h1
  have hd : (cur.toList.drop (0 + 0 + cs.length)) = [] := by apply List.drop_eq_nil_of_le; simp; omega
  rw [hd] at hst
  cases hq : P.info? elem with
  | none => simp [hq] at hs
  | some i =>
    have hi : i.size = k := by simpa [hq] using hs
    simp only [List.append_nil, Nat.add_zero, List.take_zero, List.nil_append] at hst
    simp [Builtin.copy_, run_underlying hu, Builtin.lenOf, Builtin.firstCells, sizeOf, typeInfo, hq, hi, ← hn, hl, hst]
theorem run_copy_none_wide {P : Program} (w : World) (dT sT ty elem : TypeId) (d a : Option Addr) (dLen dCap sLen sCap : Nat) (hu : P.underlying dT = some (.slice elem)) (hs : ((P.info? elem).map (·.size)).isSome = true) (hn : Nat.min sLen dLen = 0) :
    (Builtin.copy_ #[dT, sT] ty #[.slice d dLen dCap, .slice a sLen sCap]).run P w = .ok (goInt 0) w := by
  cases hq : P.info? elem with
  | none => simp [hq] at hs
  | some i =>
    have hl : ∀ (x : Addr), (loadCells x 0).run P w = .ok #[] w := fun x => by simpa using run_loadCells_list (P := P) w x [] (by simp)
    cases d <;> cases a <;> simp [Builtin.copy_, run_underlying hu, Builtin.lenOf, Builtin.firstCells, sizeOf, typeInfo, hq, hn, storeCells, hl]
theorem make_evs (w : World) (n : Nat) (hn : n ≤ 925925926000) : (Instr.makeSlice 22 (.int .i64 (n : Int)) (.int .i64 (n : Int))).run Tryd.prog w = .ok (.slice (some ⟨w.heap.size, 0, none⟩) n n) (w.alloc (.cells (madeCells (evV ev0).cells (n * 19)) 35)) := by
  obtain ⟨i0, hi, hz0, hz1, hz2⟩ := info_parts info_ev
  have hm := run_make (P := Tryd.prog) w 22 35 i0 _ Tryd.underlying22 hi hz0 .i64 .i64 (n : Int) (n : Int) (by omega) (by omega) (by rw [hz2]; omega) (by omega)
  rw [hz1, Int.toNat_natCast] at hm
  exact hm
theorem add_add (x : Addr) (i j : Nat) : (x.add i).add j = x.add (i + j) := by
  by_cases hi : i = 0
  · subst hi; rw [add_zero', Nat.zero_add]
  · by_cases hj : j = 0
    · subst hj; rw [add_zero']; rfl
    · rw [add_pos' x i (by omega), add_pos' _ j (by omega), add_pos' x (i + j) (by omega)]
      simp [Nat.add_assoc]
theorem copy_evs {w : World} {sa : Option Addr} {cap : Nat} {H : List Ev} (h : EvL w (.slice sa H.length cap) H) (ty : TypeId) : ∃ w', (Builtin.copy_ #[22, 22] ty #[.slice (some ⟨w.heap.size, 0, none⟩) H.length H.length, .slice sa H.length cap]).run Tryd.prog (w.alloc (.cells (madeCells (evV ev0).cells (H.length * 19)) 35)) = .ok (goInt H.length) w' ∧ EvL w' (.slice (some ⟨w.heap.size, 0, none⟩) H.length H.length) H ∧ Below w.heap.size w w' := by
  obtain ⟨i0, hi, hz0, hz1, hz2⟩ := info_parts info_ev
  have h2 := h.later (below_a1 w (.cells (madeCells (evV ev0).cells (H.length * 19)) 35)) (Nat.le_refl _)
  have hlen := h.len
  obtain ⟨a, c, e, _, _, _, hnil, hok, hc⟩ := h2
  injection e with e1 _ e3
  subst e1
  subst e3
  rcases hc with h0 | ⟨x, hx, hxl, hc⟩
  · have := run_copy_none_wide (P := Tryd.prog) (w.alloc (.cells (madeCells (evV ev0).cells (H.length * 19)) 35)) 22 22 ty 35 (some ⟨w.heap.size, 0, none⟩) sa H.length H.length H.length cap Tryd.underlying22 (by rw [hi]; rfl) (by rw [h0]; rfl)
    refine ⟨_, by rw [this, h0]; rfl, ⟨some ⟨w.heap.size, 0, none⟩, H.length, rfl, hlen, Nat.le_refl _, by omega, (fun h => by cases h), hok, Or.inl h0⟩, below_a1 _ _⟩
  · subst hx
    have hsrc : ∀ (j : Nat) (u : Value), (evsC H)[j]? = some u → (w.alloc (.cells (madeCells (evV ev0).cells (H.length * 19)) 35)).cell? (x.add j) = some u := fun j u hu => by
      have hj : j < H.length * 19 := by have := (List.getElem?_eq_some_iff.1 hu).1; rwa [evsC_len] at this
      have e : j = j / 19 * 19 + j % 19 := by omega
      have h1 : j / 19 < H.length := by omega
      have h2 : j % 19 < 19 := by omega
      rw [e, ← add_add, hc _ h1 _ h2, ← evsC_get H _ _ h1 h2, ← e]
      exact hu
    have hmin : H.length.min H.length = H.length := Nat.min_self _
    have hcp := run_copy_wide (P := Tryd.prog) (w.alloc (.cells (madeCells (evV ev0).cells (H.length * 19)) 35)) 22 22 ty 35 w.heap.size H.length H.length x H.length cap _ 35 (evsC H) 19 Tryd.underlying22 (by rw [hi]; simp [hz1]) (heap_alloc_new _ _) (by rw [evsC_len, hmin]) hsrc (by rw [evsC_len, size_madeCells]) (evsC_one H)
    rw [hmin] at hcp
    refine ⟨_, hcp, ?_, below_row (below_a1 _ _) _ (Nat.le_refl _) _⟩
    refine own_evl (base := w.heap.size) ⟨evsC_len _, Or.inr ⟨w.heap.size, H.length, _, rfl, Nat.le_refl _, setRow_heap _ _ _ _ _ _ (heap_alloc_new _ _), Nat.le_refl _, by unfold maxLen; omega, by rw [List.size_toArray, evsC_len], by rw [List.toList_toArray]; exact List.take_of_length_le (by rw [evsC_len]; exact Nat.le_refl _)⟩⟩ hok hlen

/-- What Txs tells of both, as it must be the same. -/
theorem t6_six {x y : Tr} (h : Six x y) : t6 x = t6 y := by
  obtain ⟨h1, h2, h3, h4, h5, h6⟩ := h
  unfold t6
  rw [h1, h2, h3, h4, h5, h6]
def nTx (H : List Ev) : Nat := if allMay H = true then cntD H H.length 7 (-1) else 0
def lTx (H : List Ev) : List Tr := if allMay H = true then txsD H (cntD H H.length 7 (-1)) else []
def TxW (w : World) (H : List Ev) (z k : Int) (e : Ending) (w' : World) : Prop := ∃ u l, e = .returned (.tuple #[u, .int .i64 z, .int .i64 k]) ∧ w'.ownsRow w.heap.size 57 6 u (nTx H) (t6s l) ∧ l.length = nTx H ∧ (∀ i, i < nTx H → t6 (nt l i) = t6 (nt (lTx H) i)) ∧ Below w.heap.size w w'
def eTx (H : List Ev) : Int × Int := if allMay H = true then (0, 0) else (14, (good H : Int))
theorem nTx_le {H : List Ev} (hl : H.length ≤ 925925926000) : nTx H ≤ 925925926000 := by
  unfold nTx
  split
  · exact Nat.le_trans (cnt_le _ _ _ _) hl
  · omega
theorem txs_q {w : World} {v : Value} {H : List Ev} {a c : Addr} (h : EvL w v H) (he : ErrAt w a c) (hy : TyAt w) : Calls Tryd.prog 8 #[v] w (TxW w H (eTx H).1 (eTx H).2) := by
  refine (txs_any h he (fun _ w' hb => place_fault (hy.later hb (Nat.le_refl _)) _ _)).mono ?_
  rintro e w' ⟨hq, hb⟩
  unfold TxW nTx lTx eTx
  cases hr : readD H with
  | none =>
    rw [hr] at hq
    have ha := allMay_none hr
    rw [ha]
    dsimp only at hq
    exact ⟨_, [], hq, by simpa [t6s] using own_nil w' w.heap.size 57 6, rfl, (fun i hi => by simp at hi), hb⟩
  | some p =>
    rw [hr] at hq
    have ha := allMay_some hr
    have R := (read_some hr).1
    rw [ha]
    dsimp only at hq
    obtain ⟨u, he, ho⟩ := hq
    refine ⟨u, p.txs, he, ?_, ?_, fun i hi => ?_, hb⟩
    · rw [if_pos rfl, ← R.n]; exact ho
    · rw [if_pos rfl, R.n]
    · rw [if_pos rfl] at hi ⊢
      exact t6_six (R.six h.len (by rw [R.n]; exact hi))
theorem rtxs_q {w : World} {v : Value} {H : List Ev} (h : EvL w v H) : Calls Tryd.prog 9 #[v] w (TxW w H (eTx H).1 (eTx H).2) := by
  refine (rtxs_any h).mono ?_
  rintro e w' ⟨hq, hb⟩
  unfold TxW nTx lTx eTx
  rcases hq with ⟨hall, u, rfl, ho⟩ | ⟨i, hi, hk, hno, rfl⟩
  · have ha := allMay_yes hall
    rw [ha]
    refine ⟨u, _, rfl, ho, txsD_len _ _, fun _ _ => rfl, hb⟩
  · have ha := allMay_no hi hno
    rw [ha]
    have hg : good H = i := by
      cases hr : readD H with
      | some p => rw [allMay_some hr] at ha; cases ha
      | none =>
        obtain ⟨g1, g2, g3⟩ := read_no hr
        rcases Nat.lt_trichotomy (good H) i with h1 | h1 | h1
        · have := hk _ h1; rw [g2] at this; cases this
        · exact h1
        · have := g3 _ h1; rw [hno] at this; cases this
    rw [hg]
    exact ⟨_, [], rfl, by simpa [t6s] using own_nil w' w.heap.size 57 6, rfl, (fun i hi => by simp at hi), hb⟩
theorem evl_at {w : World} {sa : Option Addr} {n cap : Nat} {H : List Ev} (h : EvL w (.slice sa n cap) H) {i : Nat} (hi : i < H.length) : ∃ x, sa = some x ∧ ∀ j, j < 19 → w.cell? ((x.add (i * 19)).add j) = (evC (ne H i))[j]? := by
  obtain ⟨a, c, e, _, _, _, _, _, hc⟩ := h
  injection e with e1 _ _
  rcases hc with h0 | ⟨x, hx, _, hc⟩
  · omega
  · exact ⟨x, e1.trans hx, hc i hi⟩
theorem wpQuiet_load {P : Program} {ops : Array Oper} {C : World → Prop} {Q : Act → Prop} {a : Act} {o : Oper} {rest : List Oper} (ty : TypeId) (x : Operand) (ho : o.op = .load ty x) (y : Addr) (hx : a.eval x = .pointer (some y)) (v : Value)
    (hl : ∀ w, C w → (loadVar ty y).run P w = .ok v w) (hw : Region.wanted o (yielded ops a.tmps) = true) (h : wpQuiet P ops C Q rest (a.put o.dst v)) : wpQuiet P ops C Q (o :: rest) a := by
  unfold wpQuiet
  rw [if_pos hw]
  refine ⟨v, fun w hC => ?_, h⟩
  unfold Oper.quietAt execOp
  simp only [ho, hx, Instr.loadAt, Instr.sureAddr, Sem.run_bind, Sem.run_pure, Result.andThen_ok, hl w hC]
  exact ⟨rfl, rfl⟩
theorem load_ev {w : World} {x : Addr} {e : Ev} (hc : ∀ j u, (evC e)[j]? = some u → w.cell? (x.add j) = some u) : (loadVar 35 x).run Tryd.prog w = .ok (.agg (evA e)) w := by
  obtain ⟨i0, hi, hz0, hz1, hz2⟩ := info_parts info_ev
  have hl : (loadCells x (evC e).length).run Tryd.prog w = .ok (evC e).toArray w := run_loadCells_list (P := Tryd.prog) w x (evC e) hc
  have hagg : (isAgg 35).run Tryd.prog w = .ok true w := by
    unfold isAgg
    rw [Sem.run_bind, run_underlying Tryd.underlying35 w]
    rfl
  rw [evC_len] at hl
  simp [loadVar, Sem.run_bind, hagg, sizeOf, typeInfo, hi, hz1, hl]
  rfl
set_option maxRecDepth 1000000 in
set_option maxHeartbeats 8000000 in
theorem txs_walk {w : World} {v : Value} {H : List Ev} {a c : Addr} (h : EvL w v H) (he : ErrAt w a c) (hy : TyAt w) : Calls Tryd.prog 3 #[v] w fun e w' => e = .returned (.bool true) ∧ Below w.heap.size w w' := by
  obtain ⟨sa, cap, rfl⟩ : ∃ a c, v = .slice a H.length c := by obtain ⟨a, c, e, _⟩ := h; exact ⟨a, c, e⟩
  have HSH : Hid (Calls Tryd.prog 7 #[] w fun e w' => e = .returned (.bool true) ∧ Below w.heap.size w w') := shown_any he
  have HEV : Hid (∀ w', Below w.heap.size w w' → EvL w' (.slice sa H.length cap) H) := fun w' hb => h.later hb (Nat.le_refl _)
  have HTX : Hid (∀ w' u, Below w.heap.size w w' → EvL w' u H → Calls Tryd.prog 8 #[u] w' (TxW w' H (eTx H).1 (eTx H).2)) := fun w' u hb hu => txs_q hu (he.later hb (Nat.le_refl _)) (hy.later hb (Nat.le_refl _))
  have HRX : Hid (∀ w', Below w.heap.size w w' → Calls Tryd.prog 9 #[.slice sa H.length cap] w' (TxW w' H (eTx H).1 (eTx H).2)) := fun w' hb => rtxs_q (h.later hb (Nat.le_refl _))
  have HNN : Hid (H.length ≤ 925925926000) := h.len
  have HNT : Hid (nTx H ≤ 925925926000) := nTx_le h.len
  unfold TxW at HTX HRX
  generalize (eTx H).1 = z at *
  generalize (eTx H).2 = k at *
  generalize nTx H = nx at *
  generalize lTx H = lx at *
  clear h he hy
  go_enter Tryd.func3, Tryd.ntmps3
  go_wp2_with fail
  refine HSH.out.mono ?_
  rintro e x1 ⟨rfl, hb1⟩
  have HB1 : Hid (Below w.heap.size w x1) := hb1
  have hmk := make_evs x1 H.length HNN.out
  obtain ⟨x2, hcp, hev2, hb2⟩ := copy_evs (HEV.out x1 hb1) 3
  have HE2 : Hid (EvL x2 (.slice (some ⟨x1.heap.size, 0, none⟩) H.length H.length) H) := hev2
  have HB2 : Hid (Below w.heap.size w x2) := below_then hb1 hb2
  have hgi : goInt H.length = .int .i64 (H.length : Int) := rfl
  rw [hgi] at hcp
  obtain ⟨Z, hZ⟩ : ∃ Z, madeCells (evV ev0).cells (H.length * 19) = Z := ⟨_, rfl⟩
  rw [hZ] at hmk hcp
  clear hb1 hev2 hb2 hgi hZ
  go_wp2_with fail
  refine (HTX.out _ _ HB2.out HE2.out).mono ?_
  rintro e x3 ⟨va, la, rfl, ho3, hl3, hs3, hb3⟩
  have HO3 : Hid (x3.ownsRow x2.heap.size 57 6 va nx (t6s la)) := ho3
  have HL3 : Hid (la.length = nx ∧ ∀ i, i < nx → t6 (nt la i) = t6 (nt lx i)) := ⟨hl3, hs3⟩
  have HB3 : Hid (Below w.heap.size w x3) := below_then HB2.out hb3
  have HE3 : Hid (EvL x3 (.slice (some ⟨x1.heap.size, 0, none⟩) H.length H.length) H) := HE2.out.later hb3 (Nat.le_refl _)
  clear ho3 hl3 hs3 hb3
  go_wp2_with fail
  refine (HRX.out _ HB3.out).mono ?_
  rintro e x4 ⟨vb, lb, rfl, ho4, hl4, hs4, hb4⟩
  have HO4 : Hid (x4.ownsRow x3.heap.size 57 6 vb nx (t6s lb)) := ho4
  have HL4 : Hid (lb.length = nx ∧ ∀ i, i < nx → t6 (nt la i) = t6 (nt lb i)) := ⟨hl4, fun i hi => (HL3.out.2 i hi).trans (hs4 i hi).symm⟩
  have HA4 : Hid (x4.ownsRow x2.heap.size 57 6 va nx (t6s la)) := own_keep HO3.out (Keep.of_below hb4 []) (by simp)
  have HB4 : Hid (Below w.heap.size w x4) := below_then HB3.out hb4
  have HE4 : Hid (EvL x4 (.slice (some ⟨x1.heap.size, 0, none⟩) H.length H.length) H) := HE3.out.later hb4 (Nat.le_refl _)
  obtain ⟨aa, ac, rfl⟩ := own_slice HO3.out
  obtain ⟨ba, bc, rfl⟩ := own_slice HO4.out
  clear ho4 hl4 hs4 hb4
  go_wp2_with fail
  refine (txs_same HA4.out HO4.out HL3.out.1 HL4.out.1 HNT.out HL4.out.2).mono ?_
  rintro e x5 ⟨rfl, hb5⟩
  have HB5 : Hid (Below w.heap.size w x5) := below_then HB4.out hb5
  have HE5 : Hid (EvL x5 (.slice (some ⟨x1.heap.size, 0, none⟩) H.length H.length) H) := HE4.out.later hb5 (Nat.le_refl _)
  clear hb5 hcp hmk
  go_wp2_with fail
  go_loopw [12] (fun iv wr => ∃ i : Nat, i ≤ H.length ∧ iv = .int .i64 (i : Int) ∧ Hid (Below x5.heap.size x5 wr)) (fun iv _ => H.length - (intOf iv).toNat)
  case atStart => exact ⟨0, Nat.zero_le _, rfl, Below.refl _ _⟩
  case round =>
    obtain ⟨i, hi, rfl, HZ⟩ := hrel
    by_cases hlt : i < H.length
    · have hd : decide ((i : Int) < (H.length : Int)) = true := by simp; omega
      have hin : (i : Int) < (H.length : Int) := by omega
      have hw : Hid (wrap64 ((i : Int) + 1) = (i : Int) + 1) := hw_inc i H.length HNN.out hi
      have HMS : Hid (H.length - (i + 1) < H.length - i) := by rw [Hid]; omega
      have HI1 : Hid (i + 1 ≤ H.length) := hlt
      obtain ⟨xa, hxa, hca⟩ := evl_at (HE5.out.later HZ.out (Nat.le_refl _)) hlt
      obtain ⟨xb, hxb, hcb⟩ := evl_at (HEV.out _ (below_then HB5.out HZ.out)) hlt
      have hq := neq_ev (ne H i)
      injection hxa with hxa
      subst hxa
      subst hxb
      have r1 : ∀ n, (loadVar 35 ⟨x1.heap.size, i * 19, none⟩).run Tryd.prog (wr.drewN n) = .ok (.agg (evA (ne H i))) (wr.drewN n) := fun n => load_ev fun j u hu => by
        have := hca j (by have := (List.getElem?_eq_some_iff.1 hu).1; rwa [evC_len] at this)
        rw [add_add, addg, Nat.zero_add] at this
        rw [addg]
        exact this.trans hu
      have r2 : ∀ n, (loadVar 35 (xb.add (i * 19))).run Tryd.prog (wr.drewN n) = .ok (.agg (evA (ne H i))) (wr.drewN n) := fun n => load_ev fun j u hu => by
        have := hcb j (by have := (List.getElem?_eq_some_iff.1 hu).1; rwa [evC_len] at this)
        exact this.trans hu
      generalize evA (ne H i) = cs at *
      have R1 : Hid (∀ w, (∃ n, w = wr.drewN n) → (loadVar 35 ⟨x1.heap.size, i * 19, none⟩).run Tryd.prog w = .ok (.agg cs) w) := fun w ⟨n, hn⟩ => by rw [hn]; exact r1 n
      have R2 : Hid (∀ w, (∃ n, w = wr.drewN n) → (loadVar 35 (xb.add (i * 19))).run Tryd.prog w = .ok (.agg cs) w) := fun w ⟨n, hn⟩ => by rw [hn]; exact r2 n
      clear hca hcb hlt hi r1 r2
      go_wp2_with fail
      refine wp_region_quiet_lit (by kernel_rfl) (by kernel_rfl) ?_
      iterate 3 (quiet_step (fail))
      refine wpQuiet_load _ _ rfl _ rfl _ R1.out rfl ?_
      iterate 3 (quiet_step (fail))
      refine wpQuiet_load _ _ rfl _ rfl _ R2.out rfl ?_
      quiet_step (fail)
      refine wpQuiet_nil ?_
      intro _ hw'
      obtain ⟨nq, hw''⟩ := hw'
      subst hw''
      go_wp2_with fail
      go_roundw
      case rel => exact ⟨i + 1, HI1.out, by first | (rw [hw.out]; go_num) | go_num, below_drawn HZ.out _⟩
      case measure => first | (rw [hw.out]; simpa [intOf] using HMS.out) | (simpa [intOf] using HMS.out)
    · obtain rfl : i = H.length := by omega
      have hd : decide ((H.length : Int) < (H.length : Int)) = false := by simp
      have hzz : (z == z) = true := by simp
      have hkk : (k == k) = true := by simp
      clear hi hlt
      go_wp2_with fail
      go_ret
      exact ⟨rfl, below_then HB5.out HZ.out⟩
theorem rt_row : (Tryd.prog.cutTypes.find? (·.1 == "internal/reflectlite.rtype")).map (·.2) = some 131 := by kernel_rfl
theorem one_row : ((List.range Tryd.prog.types.size).filter fun t => Tryd.prog.rowNamed t [101, 114, 114, 111, 114]) = [60] := by kernel_rfl
theorem handle_error : typeHandle Tryd.prog 60 = .pointer (some ⟨3, 60, none⟩) := by kernel_rfl
theorem ty_of {W : World} (h : handlesMet Tryd.prog [("errors.errorType", Rows.laid_errors_errorType)] W) : TyAt W := by
  obtain ⟨name, u, ty, e1, e2, e3, e4, e5⟩ := h _ (List.mem_singleton.2 rfl)
  have en : name = [101, 114, 114, 111, 114] := (Option.some.inj e1).symm
  subst en
  obtain rfl := Option.some.inj (rt_row.symm.trans e2)
  have hm : ty ∈ (List.range Tryd.prog.types.size).filter fun t => Tryd.prog.rowNamed t [101, 114, 114, 111, 114] := List.mem_filter.2 ⟨List.mem_range.2 e3, e4⟩
  rw [one_row] at hm
  obtain rfl := List.mem_singleton.1 hm
  rw [handle_error] at e5
  simpa [TyAt] using World.var?_cell (by kernel_rfl) e5 0
end Go.Proofs.YtbpnookejildnaaDoor.Hi
