/- The law TxlogBig, walked. -/
import Derived.Test.YtfpnpkpjkcmoaaaLogB
import Derived.Test.YtfpnpkpjkcmoaaaSigE
namespace Go.Proofs.Ytfpnpkpjkcmoaaa
open Go.ChangeShapes Go.WideShapes Go.ChangeAt Go.RowKit

/-- A table of the cells from a on, i of them. -/
structure Fill (s : Tb) (m : Nat) (a : Int) (i : Nat) : Prop where
  inv : Inv s
  m : s.m = m
  R : s.R.map (·.c) = (List.range i).map (fun (j : Nat) => a + (j : Int))
theorem Fill.len {s : Tb} {m i : Nat} {a : Int} (h : Fill s m a i) : s.R.length = i := by
  have := congrArg List.length h.R
  simpa using this
theorem at_none_map {R : List Wr} {c : Int} (h : c ∉ R.map (·.c)) : at? R c = none := at_none_of (fun i hi e => h (by
  rw [← e]
  exact List.mem_map_of_mem (List.getElem_mem hi)))
theorem Fill.next {s : Tb} {m i : Nat} {a : Int} (h : Fill s m a i) (hi : i < m) (h24 : m ≤ 24) (h0 : 0 ≤ a) (h9 : a ≤ 900) (v : Int) : Fill (put s (a + i) v) m a (i + 1) ∧ writeE s (a + i) = 0 := by
  have hr : right (a + i) = true := by simp [right]; omega
  have hn : at? s.R (a + i) = none := at_none_map (by
    rw [h.R]
    simp only [List.mem_map, List.mem_range, not_exists, not_and]
    intro j hj
    omega)
  obtain ⟨e1, e2⟩ := put_new v hr hn (by rw [h.len, h.m]; exact hi)
  refine ⟨⟨put_inv h.inv _ _, (put_keeps _ _ _).1.trans h.m, ?_⟩, by simp [writeE, e2]⟩
  rw [e1, List.range_succ]
  simp [h.R]
theorem Fill.more {s : Tb} {m : Nat} {a : Int} (h : Fill s m a m) (c v : Int) (hc0 : 0 ≤ c) (hc1 : c ≤ 1023) (hout : ¬ (a ≤ c ∧ c < a + m)) : writeE s c = 5 ∧ put s c v = s := by
  have hr : right c = true := by simp [right]; omega
  have hn : at? s.R c = none := at_none_map (by
    rw [h.R]
    simp only [List.mem_map, List.mem_range, not_exists, not_and]
    intro j hj
    omega)
  obtain ⟨e1, e2⟩ := put_full v hr hn (by rw [h.len, h.m]; exact Nat.le_refl _)
  exact ⟨by simp [writeE, e2], e1⟩
theorem Fill.first {s : Tb} {m : Nat} {a : Int} (h : Fill s m a m) (h1 : 1 ≤ m) (h0 : 0 ≤ a) (h9 : a ≤ 900) (v : Int) : writeE s a = 0 ∧ Fill (put s a v) m a m ∧ getY (put s a v) a = true ∧ getV (put s a v) a = v := by
  obtain ⟨m, rfl⟩ : ∃ k, m = k + 1 := ⟨m - 1, by omega⟩
  have hr : right a = true := by simp [right]; omega
  have hlen := h.len
  have hR := h.R
  have hi := h.inv
  have hm := h.m
  cases hs : s.R with
  | nil => rw [hs] at hlen; simp at hlen
  | cons x rest =>
    rw [hs, List.range_succ_eq_map] at hR
    simp only [List.map_cons, List.cons.injEq] at hR
    have hx : x.c = a := by simpa using hR.1
    have ha : at? s.R a = some 0 := by rw [hs]; simp [at?, List.findIdx?_cons, hx]
    obtain ⟨e1, e2⟩ := put_old v hr ha
    have eR : (put s a v).R = ⟨a, v⟩ :: rest := by rw [e1, hs]; rfl
    refine ⟨by simp [writeE, e2], ⟨put_inv hi _ _, (put_keeps _ _ _).1.trans hm, ?_⟩, ?_, ?_⟩
    · rw [eR, List.range_succ_eq_map]
      simp only [List.map_cons, List.cons.injEq]
      exact ⟨by simp, hR.2⟩
    · simp [getY, eR, at?, List.findIdx?_cons]
    · simp [getV, eR, at?, List.findIdx?_cons]
theorem Fill.out {s : Tb} {m : Nat} {a : Int} (h : Fill s m a m) (c : Int) (hout : ¬ (a ≤ c ∧ c < a + m)) : getY s c = false := by
  have hn : at? s.R c = none := at_none_map (by
    rw [h.R]
    simp only [List.mem_map, List.mem_range, not_exists, not_and]
    intro j hj
    omega)
  simp [getY, hn]
theorem Fill.sig {s t : Tb} {m m' i : Nat} {a : Int} (h : Fill s m a i) (h' : Fill t m' a i) : wrS s = wrS t := by unfold wrS; rw [h.R, h'.R]
theorem Fill.nil {m : Nat} (h1 : 1 ≤ m) (h24 : m ≤ 24) (a : Int) : Fill (empty m) m a 0 := ⟨empty_inv h1 h24, rfl, rfl⟩

/-- One log alone, above what was there. -/
structure LOne (w0 w : World) (L B : Nat) (s : Tb) (r : List Nat) : Prop where
  log : LogAt w L B s r
  lL : w0.heap.size ≤ L
  lB : w0.heap.size ≤ B
  bel : Below w0.heap.size w0 w
theorem LOne.later {w0 w w' : World} {L B : Nat} {s : Tb} {r : List Nat} (h : LOne w0 w L B s r) (hb : Below w.heap.size w w') : LOne w0 w' L B s r := ⟨h.log.below hb, h.lL, h.lB, below_then h.bel hb⟩
theorem LOne.write {w0 w w' : World} {L B : Nat} {s s' : Tb} {r : List Nat} (h : LOne w0 w L B s r) (ha : LogAt w' L B s' r) (k : Keep [B] w w') : LOne w0 w' L B s' r :=
  ⟨ha, h.lL, h.lB, h.bel.trans (k.below h.bel.size (fun b hb => by simp at hb; rw [hb]; exact h.lB))⟩

set_option maxRecDepth 100000 in
theorem lbig_no (w : World) (m a c v : Int) (h : ¬ (1 ≤ m ∧ m ≤ 24)) :
    Calls Try.prog 5 #[.agg #[.int .i64 m, .int .i64 a, .int .i64 c, .int .i64 v]] w fun e w' => e = .returned (.bool true) ∧ Below w.heap.size w w' := by
  have HN : Hid (∀ w : World, Calls Try.prog 9 #[.int .i64 m] w fun e w' => e = .returned (.tuple #[.pointer none, .int .i64 1]) ∧ w' = w) := fun w => lnew_no w m h
  by_cases h1 : m < 1
  · clear h
    go_enter Try.func5, Try.ntmps5
    go_wp2_with fail
    refine (HN.out _).mono ?_
    rintro e w1 ⟨rfl, rfl⟩
    go_wp2
    go_ret
    exact ⟨rfl, below_a1 _ _⟩
  · have h2 : 24 < m := by omega
    have hd : decide (m < 1) = false := by simp; omega
    clear h
    go_enter Try.func5, Try.ntmps5
    go_wp2_with fail
    refine (HN.out _).mono ?_
    rintro e w1 ⟨rfl, rfl⟩
    go_wp2
    go_ret
    exact ⟨rfl, below_a1 _ _⟩

set_option maxRecDepth 100000 in
set_option maxHeartbeats 3200000 in
theorem lbig_yes (w : World) (m : Nat) (h1 : 1 ≤ m) (h24 : m ≤ 24) (a c v : Int) :
    Calls Try.prog 5 #[.agg #[.int .i64 (m : Int), .int .i64 a, .int .i64 c, .int .i64 v]] w fun e w' => e = .returned (.bool true) ∧ Below w.heap.size w w' := by
  have HN : Hid (∀ w : World, Calls Try.prog 9 #[.int .i64 (m : Int)] w fun e w' => ∃ L B, e = .returned (.tuple #[.pointer (some ⟨L, 0, none⟩), .int .i64 0]) ∧ w.heap.size ≤ L ∧ w.heap.size ≤ B ∧ LogAt w' L B (empty m) Sg.nought ∧ Below w.heap.size w w') := fun w => lnew_yes w m h1 h24
  by_cases ha0 : a < 0
  · go_enter Try.func5, Try.ntmps5
    go_wp2_with fail
    refine (HN.out _).mono ?_
    rintro e w1 ⟨L, B, rfl, hL, hB, ht, hb1⟩
    have HB1 : Hid (Below w.heap.size w w1) := below_then (below_a1 _ _) hb1
    clear hL hB ht hb1
    go_wp2
    go_ret
    exact ⟨rfl, HB1.out⟩
  have d0 : decide (a < 0) = false := by simp; omega
  by_cases ha9 : 900 < a
  · go_enter Try.func5, Try.ntmps5
    go_wp2_with fail
    refine (HN.out _).mono ?_
    rintro e w1 ⟨L, B, rfl, hL, hB, ht, hb1⟩
    have HB1 : Hid (Below w.heap.size w w1) := below_then (below_a1 _ _) hb1
    clear hL hB ht hb1
    go_wp2
    go_ret
    exact ⟨rfl, HB1.out⟩
  have d9 : decide (900 < a) = false := by simp; omega
  have HM : Hid (1 ≤ m ∧ m ≤ 24 ∧ 0 ≤ a ∧ a ≤ 900) := ⟨h1, h24, by omega, by omega⟩
  go_enter Try.func5, Try.ntmps5
  go_wp2_with fail
  refine (HN.out _).mono ?_
  rintro e w1 ⟨L, B, rfl, hL, hB, ht, hb1⟩
  have HW1 : Hid (LOne w w1 L B (empty m) Sg.nought) := ⟨ht, by simp at hL; omega, by simp at hB; omega, below_then (below_a1 _ _) hb1⟩
  clear hL hB ht hb1
  go_wp2
  go_loopw [9] (fun iv wr => ∃ i : Nat, i ≤ m ∧ iv = .int .i64 i ∧ ∃ s, LOne w wr L B s Sg.nought ∧ Fill s m a i) (fun iv _ => m - (intOf iv).toNat)
  case atStart => exact ⟨0, Nat.zero_le _, rfl, _, HW1.out, Fill.nil HM.out.1 HM.out.2.1 a⟩
  case round =>
    obtain ⟨i, hi, rfl, s, hone, hfill⟩ := hrel
    have HW : Hid (LOne w wr L B s Sg.nought) := hone
    have HF : Hid (Fill s m a i) := hfill
    clear hone hfill HW1
    by_cases hlt : i < m
    · have hd : decide ((i : Int) < (m : Int)) = true := by simp; omega
      have HPU : Hid (Calls Try.prog 13 #[.pointer (some ⟨L, 0, none⟩), .int .i64 (a + (i : Int)), .int .i64 (i : Int)] wr fun e w' => e = .returned (.int .i64 0) ∧ LogAt w' L B (put s (a + (i : Int)) (i : Int)) Sg.nought ∧ Keep [B] wr w') := by
        have := write_any HW.out.log (a + (i : Int)) (i : Int)
        rw [(HF.out.next hlt h24 ha0 ha9 (i : Int)).2] at this
        exact this
      go_wp2_with fail
      refine HPU.out.mono ?_
      rintro e w3 ⟨rfl, ht, hk⟩
      have HW3 : Hid (LOne w w3 L B (put s (a + (i : Int)) (i : Int)) Sg.nought ∧ Fill (put s (a + (i : Int)) (i : Int)) m a (i + 1)) := ⟨HW.out.write ht hk, (HF.out.next hlt h24 ha0 ha9 (i : Int)).1⟩
      clear ht hk
      go_wp2
      go_roundw
      case rel => exact ⟨i + 1, by omega, by go_num, _, HW3.out⟩
      case measure => simp [intOf]; omega
    · obtain rfl : i = m := by omega
      have hd : decide ((i : Int) < (i : Int)) = false := by simp
      clear hlt hi
      obtain ⟨y0, hy0⟩ : ∃ y0, y0 = wr := ⟨_, rfl⟩
      rw [← hy0] at HW ⊢
      clear hy0
      have ks : (Sg.sc (wrS s)).size = 8 := by rw [Sg.sc_size]; exact (wrS_ok s).1
      have os := Sg.sc_one (wrS s)
      have q1 : ∀ w : World, (binOp .eql 44 (.agg (Sg.sc (wrS s))) (.agg (Sg.sc (wrS s)))).run Try.prog w = .ok (.bool true) w := fun w => by rw [Sg.eql_sig _ _ (wrS_ok s).1 (wrS_ok s).1 w]; simp
      have HSG : Hid (Calls Try.prog 16 #[.pointer (some ⟨L, 0, none⟩)] y0 fun e w' => e = .returned (.agg (Sg.sc (wrS s))) ∧ Below y0.heap.size y0 w') := sig_any HW.out.log
      have HSP : Hid (∀ w' t, LogAt w' L B t Sg.nought → Fill t i a i → Calls Try.prog 16 #[.pointer (some ⟨L, 0, none⟩)] w' fun e w'' => e = .returned (.agg (Sg.sc (wrS s))) ∧ Below w'.heap.size w' w'') := fun w' t hl hf => by rw [HF.out.sig hf]; exact sig_any hl
      obtain ⟨cs, hcs⟩ : ∃ cs, cs = Sg.sc (wrS s) := ⟨_, rfl⟩
      rw [← hcs] at ks os q1 HSG HSP
      clear hcs
      have pa := Sg.pack8 cs ks
      have sa := fun (w : World) (old : Array Value) (ho : old.size = 8) => Sg.store_1_0 (P := Try.prog) w 44 old cs ho ks os
      go_wp2_with fail
      refine HSG.out.mono ?_
      rintro e y1 ⟨rfl, hb1⟩
      have HW1 : Hid (LOne w (y1.alloc (.cells cs 44)) L B s Sg.nought) := HW.out.later (below_alloc hb1 _)
      have RA1 : Hid ((y1.alloc (.cells cs 44)).heap[y1.heap.size]? = some (.cells cs 44 (0, 0))) := heap_alloc_new _ _
      have HBZ : Hid (y0.heap.size ≤ y1.heap.size) := hb1.size
      clear hb1
      by_cases hc0 : c < 0
      · go_wp2
        go_ret
        exact ⟨rfl, HW1.out.bel⟩
      have dc0 : decide (c < 0) = false := by simp; omega
      by_cases hc1 : 1023 < c
      · go_wp2
        go_ret
        exact ⟨rfl, HW1.out.bel⟩
      have dc1 : decide (1023 < c) = false := by simp; omega
      by_cases hin : a ≤ c ∧ c < a + i
      · obtain ⟨hin1, hin2⟩ := hin
        have dc2 : decide (a ≤ c) = true := by simp; omega
        have dc3 : decide (c < a + (i : Int)) = true := by simp; omega
        go_wp2
        go_ret
        exact ⟨rfl, HW1.out.bel⟩
      have HOUT : Hid (¬ (a ≤ c ∧ c < a + i)) := hin
      have HP1 : Hid (∀ w', LogAt w' L B s Sg.nought → Calls Try.prog 13 #[.pointer (some ⟨L, 0, none⟩), .int .i64 c, .int .i64 v] w' fun e w'' => e = .returned (.int .i64 5) ∧ LogAt w'' L B s Sg.nought ∧ Keep [B] w' w'') := fun w' hl => by
        have := write_any hl c v
        rw [(HF.out.more c v (by omega) (by omega) hin).1, (HF.out.more c v (by omega) (by omega) hin).2] at this
        exact this
      have HF2 : Hid (Fill (put s a v) i a i ∧ getY (put s a v) a = true ∧ getV (put s a v) a = v ∧ getY (put s a v) c = false) := ⟨(HF.out.first h1 ha0 ha9 v).2.1, (HF.out.first h1 ha0 ha9 v).2.2.1, (HF.out.first h1 ha0 ha9 v).2.2.2, (HF.out.first h1 ha0 ha9 v).2.1.out c hin⟩
      have HP2 : Hid (∀ w', LogAt w' L B s Sg.nought → Calls Try.prog 13 #[.pointer (some ⟨L, 0, none⟩), .int .i64 a, .int .i64 v] w' fun e w'' => e = .returned (.int .i64 0) ∧ LogAt w'' L B (put s a v) Sg.nought ∧ Keep [B] w' w'') := fun w' hl => by
        have := write_any hl a v
        rw [(HF.out.first h1 ha0 ha9 v).1] at this
        exact this
      have HO1 : Hid (∀ w', LogAt w' L B (put s a v) Sg.nought → Calls Try.prog 19 #[.pointer (some ⟨L, 0, none⟩), .int .i64 c] w' fun e w'' => ∃ x, e = .returned (.tuple #[.int .i64 x, .bool false]) ∧ Below w'.heap.size w' w'') := fun w' hl => (own_any hl c).mono (by
        rintro e w'' ⟨rfl, hb⟩
        exact ⟨_, by rw [HF2.out.2.2.2], hb⟩)
      have HO2 : Hid (∀ w', LogAt w' L B (put s a v) Sg.nought → Calls Try.prog 19 #[.pointer (some ⟨L, 0, none⟩), .int .i64 a] w' fun e w'' => e = .returned (.tuple #[.int .i64 v, .bool true]) ∧ Below w'.heap.size w' w'') := fun w' hl => (own_any hl a).mono (by
        rintro e w'' ⟨rfl, hb⟩
        exact ⟨by rw [HF2.out.2.1, HF2.out.2.2.1], hb⟩)
      have HLW : Hid (∀ w', LogAt w' L B (put s a v) Sg.nought → Calls Try.prog 15 #[.pointer (some ⟨L, 0, none⟩)] w' fun e w'' => ∃ p q, e = .returned (.slice p i q) ∧ Below w'.heap.size w' w'') := fun w' hl => (writes_any hl).mono (by
        rintro e w'' ⟨x, rfl, ho, hb⟩
        obtain ⟨p, q, hx⟩ := own_slice ho
        refine ⟨p, q, ?_, hb⟩
        rw [hx, HF2.out.1.len])
      have HSQ : Hid (∀ w', LogAt w' L B (put s a v) Sg.nought → Calls Try.prog 16 #[.pointer (some ⟨L, 0, none⟩)] w' fun e w'' => e = .returned (.agg cs) ∧ Below w'.heap.size w' w'') := fun w' hl => HSP.out w' _ hl HF2.out.1
      have dc4 : (decide (a ≤ c) && decide (c < a + (i : Int))) = false := by
        by_cases e : a ≤ c
        · have : ¬ c < a + (i : Int) := fun e2 => hin ⟨e, e2⟩
          simp [this]
        · simp [e]
      have HNB : Hid (y1.heap.size ≠ B) := by
        have hlt := heap_lt HW.out.log.tab
        have := HBZ.out
        rw [Hid]
        omega
      generalize put s a v = s2 at *
      clear hin HSP HSG HF2 HF HW
      by_cases hac : a ≤ c
      · have hci : ¬ c < a + (i : Int) := fun e => HOUT.out ⟨hac, e⟩
        have dc5 : decide (a ≤ c) = true := by simp; omega
        have dc6 : decide (c < a + (i : Int)) = false := by simp; omega
        go_wp2_with fail
        refine (HP1.out _ HW1.out.log).mono ?_
        rintro e y2 ⟨rfl, ht2, hk2⟩
        have HW2 : Hid (LOne w y2 L B s Sg.nought) := HW1.out.write ht2 hk2
        have RA2 : Hid (y2.heap[y1.heap.size]? = some (.cells cs 44 (0, 0))) := by rw [Hid, hk2.block _ (heap_lt RA1.out) (by have := HNB.out; simpa using this)]; exact RA1.out
        clear ht2 hk2
        go_wp2_with fail
        refine (HP2.out _ HW2.out.log).mono ?_
        rintro e y3 ⟨rfl, ht3, hk3⟩
        have HW3 : Hid (LOne w y3 L B s2 Sg.nought) := HW2.out.write ht3 hk3
        have RA3 : Hid (y3.heap[y1.heap.size]? = some (.cells cs 44 (0, 0))) := by rw [Hid, hk3.block _ (heap_lt RA2.out) (by have := HNB.out; simpa using this)]; exact RA2.out
        clear ht3 hk3
        go_wp2_with fail
        refine (HO1.out _ HW3.out.log).mono ?_
        rintro e y4 ⟨x4, rfl, hb4⟩
        have HW4 : Hid (LOne w y4 L B s2 Sg.nought) := HW3.out.later hb4
        have RA4 : Hid (y4.heap[y1.heap.size]? = some (.cells cs 44 (0, 0))) := Sg.row_later RA3.out hb4
        clear hb4
        go_wp2_with fail
        refine (HO2.out _ HW4.out.log).mono ?_
        rintro e y5 ⟨rfl, hb5⟩
        have HW5 : Hid (LOne w y5 L B s2 Sg.nought) := HW4.out.later hb5
        have RA5 : Hid (y5.heap[y1.heap.size]? = some (.cells cs 44 (0, 0))) := Sg.row_later RA4.out hb5
        clear hb5
        go_wp2_with fail
        refine (HLW.out _ HW5.out.log).mono ?_
        rintro e y6 ⟨p6, q6, rfl, hb6⟩
        have HW6 : Hid (LOne w y6 L B s2 Sg.nought) := HW5.out.later hb6
        have RA6 : Hid (y6.heap[y1.heap.size]? = some (.cells cs 44 (0, 0))) := Sg.row_later RA5.out hb6
        clear hb6
        go_wp2_with fail
        refine (HSQ.out _ HW6.out.log).mono ?_
        rintro e y7 ⟨rfl, hb7⟩
        have HW7 : Hid (LOne w (y7.alloc (.cells cs 44)) L B s2 Sg.nought) := HW6.out.later (below_alloc hb7 _)
        have RA7 : Hid ((y7.alloc (.cells cs 44)).heap[y1.heap.size]? = some (.cells cs 44 (0, 0))) := Sg.row_later (Sg.row_later RA6.out hb7) (below_a1 _ _)
        have RB7 : Hid ((y7.alloc (.cells cs 44)).heap[y7.heap.size]? = some (.cells cs 44 (0, 0))) := heap_alloc_new _ _
        clear hb7
        have l1 := Sg.row_cells RA7.out ks
        have l2 := Sg.row_cells RB7.out ks
        go_wp2
        go_ret
        exact ⟨by simp, HW7.out.bel⟩
      · have dc5 : decide (a ≤ c) = false := by simp; omega
        go_wp2_with fail
        refine (HP1.out _ HW1.out.log).mono ?_
        rintro e y2 ⟨rfl, ht2, hk2⟩
        have HW2 : Hid (LOne w y2 L B s Sg.nought) := HW1.out.write ht2 hk2
        have RA2 : Hid (y2.heap[y1.heap.size]? = some (.cells cs 44 (0, 0))) := by rw [Hid, hk2.block _ (heap_lt RA1.out) (by have := HNB.out; simpa using this)]; exact RA1.out
        clear ht2 hk2
        go_wp2_with fail
        refine (HP2.out _ HW2.out.log).mono ?_
        rintro e y3 ⟨rfl, ht3, hk3⟩
        have HW3 : Hid (LOne w y3 L B s2 Sg.nought) := HW2.out.write ht3 hk3
        have RA3 : Hid (y3.heap[y1.heap.size]? = some (.cells cs 44 (0, 0))) := by rw [Hid, hk3.block _ (heap_lt RA2.out) (by have := HNB.out; simpa using this)]; exact RA2.out
        clear ht3 hk3
        go_wp2_with fail
        refine (HO1.out _ HW3.out.log).mono ?_
        rintro e y4 ⟨x4, rfl, hb4⟩
        have HW4 : Hid (LOne w y4 L B s2 Sg.nought) := HW3.out.later hb4
        have RA4 : Hid (y4.heap[y1.heap.size]? = some (.cells cs 44 (0, 0))) := Sg.row_later RA3.out hb4
        clear hb4
        go_wp2_with fail
        refine (HO2.out _ HW4.out.log).mono ?_
        rintro e y5 ⟨rfl, hb5⟩
        have HW5 : Hid (LOne w y5 L B s2 Sg.nought) := HW4.out.later hb5
        have RA5 : Hid (y5.heap[y1.heap.size]? = some (.cells cs 44 (0, 0))) := Sg.row_later RA4.out hb5
        clear hb5
        go_wp2_with fail
        refine (HLW.out _ HW5.out.log).mono ?_
        rintro e y6 ⟨p6, q6, rfl, hb6⟩
        have HW6 : Hid (LOne w y6 L B s2 Sg.nought) := HW5.out.later hb6
        have RA6 : Hid (y6.heap[y1.heap.size]? = some (.cells cs 44 (0, 0))) := Sg.row_later RA5.out hb6
        clear hb6
        go_wp2_with fail
        refine (HSQ.out _ HW6.out.log).mono ?_
        rintro e y7 ⟨rfl, hb7⟩
        have HW7 : Hid (LOne w (y7.alloc (.cells cs 44)) L B s2 Sg.nought) := HW6.out.later (below_alloc hb7 _)
        have RA7 : Hid ((y7.alloc (.cells cs 44)).heap[y1.heap.size]? = some (.cells cs 44 (0, 0))) := Sg.row_later (Sg.row_later RA6.out hb7) (below_a1 _ _)
        have RB7 : Hid ((y7.alloc (.cells cs 44)).heap[y7.heap.size]? = some (.cells cs 44 (0, 0))) := heap_alloc_new _ _
        clear hb7
        have l1 := Sg.row_cells RA7.out ks
        have l2 := Sg.row_cells RB7.out ks
        go_wp2
        go_ret
        exact ⟨by simp, HW7.out.bel⟩
end Go.Proofs.Ytfpnpkpjkcmoaaa
