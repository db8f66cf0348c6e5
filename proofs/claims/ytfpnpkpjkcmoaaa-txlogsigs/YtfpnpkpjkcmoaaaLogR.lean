/- The law TxlogSigs, walked. -/
import Derived.Test.YtfpnpkpjkcmoaaaLogL
namespace Go.Proofs.Ytfpnpkpjkcmoaaa
open Go.ChangeShapes Go.WideShapes Go.ChangeAt Go.RowKit

/-- Two logs of the program beside each other, above what was there; nothing is written in the second. -/
structure LTwo (w0 w : World) (L B L2 B2 m : Nat) (s : Tb) (r r2 : List Nat) : Prop where
  a : LogAt w L B s r
  b : LogAt w L2 B2 (empty m) r2
  nL : L ≠ L2
  nB : B ≠ B2
  lL : w0.heap.size ≤ L
  lB : w0.heap.size ≤ B
  lL2 : w0.heap.size ≤ L2
  lB2 : w0.heap.size ≤ B2
  bel : Below w0.heap.size w0 w
theorem LTwo.nLB2 {w0 w : World} {L B L2 B2 m : Nat} {s : Tb} {r r2 : List Nat} (h : LTwo w0 w L B L2 B2 m s r r2) : L ≠ B2 := ne_of_type h.a.log h.b.tab (by decide)
theorem LTwo.nL2B {w0 w : World} {L B L2 B2 m : Nat} {s : Tb} {r r2 : List Nat} (h : LTwo w0 w L B L2 B2 m s r r2) : L2 ≠ B := ne_of_type h.b.log h.a.tab (by decide)
theorem LTwo.below {w0 w w' : World} {L B L2 B2 m : Nat} {s : Tb} {r r2 : List Nat} (h : LTwo w0 w L B L2 B2 m s r r2) (hb : Below w.heap.size w w') : LTwo w0 w' L B L2 B2 m s r r2 :=
  ⟨h.a.below hb, h.b.below hb, h.nL, h.nB, h.lL, h.lB, h.lL2, h.lB2, below_then h.bel hb⟩
theorem LTwo.write {w0 w w' : World} {L B L2 B2 m : Nat} {s s' : Tb} {r r2 : List Nat} (h : LTwo w0 w L B L2 B2 m s r r2) (ha : LogAt w' L B s' r) (k : Keep [B] w w') : LTwo w0 w' L B L2 B2 m s' r r2 :=
  ⟨ha, h.b.keep k (by have := h.nL2B; simp [this]) (by have := h.nB; simp; exact fun e => this e.symm), h.nL, h.nB, h.lL, h.lB, h.lL2, h.lB2, h.bel.trans (k.below h.bel.size (fun b hb => by simp at hb; rw [hb]; exact h.lB))⟩
theorem LTwo.read {w0 w w' : World} {L B L2 B2 m : Nat} {s : Tb} {r r2 r' : List Nat} (h : LTwo w0 w L B L2 B2 m s r r2) (ha : LogAt w' L B s r') (k : Keep [L] w w') : LTwo w0 w' L B L2 B2 m s r' r2 :=
  ⟨ha, h.b.keep k (by have := h.nL; simp; exact fun e => this e.symm) (by have := h.nLB2; simp; exact fun e => this e.symm), h.nL, h.nB, h.lL, h.lB, h.lL2, h.lB2, h.bel.trans (k.below h.bel.size (fun b hb => by simp at hb; rw [hb]; exact h.lL))⟩
theorem LTwo.read2 {w0 w w' : World} {L B L2 B2 m : Nat} {s : Tb} {r r2 r' : List Nat} (h : LTwo w0 w L B L2 B2 m s r r2) (hb : LogAt w' L2 B2 (empty m) r') (k : Keep [L2] w w') : LTwo w0 w' L B L2 B2 m s r r' :=
  ⟨h.a.keep k (by have := h.nL; simp [this]) (by have := h.nL2B; simp; exact fun e => this e.symm), hb, h.nL, h.nB, h.lL, h.lB, h.lL2, h.lB2, h.bel.trans (k.below h.bel.size (fun b hb => by simp at hb; rw [hb]; exact h.lL2))⟩

set_option maxRecDepth 100000 in
theorem lsigs_no (w : World) (m : Int) (va vb : Option Addr) (n n1 vcap vcap1 : Nat) (h : ¬ (1 ≤ m ∧ m ≤ 24)) :
    Calls Try.prog 4 #[.int .i64 m, .slice va n vcap, .slice vb n1 vcap1] w fun e w' => e = .returned (.bool true) ∧ Below w.heap.size w w' := by
  have HN : Hid (∀ w : World, Calls Try.prog 9 #[.int .i64 m] w fun e w' => e = .returned (.tuple #[.pointer none, .int .i64 1]) ∧ w' = w) := fun w => lnew_no w m h
  clear h
  go_enter Try.func4, Try.ntmps4
  go_wp2_with fail
  refine (HN.out _).mono ?_
  rintro e w1 ⟨rfl, rfl⟩
  go_wp2_with fail
  refine (HN.out _).mono ?_
  rintro e w2 ⟨rfl, rfl⟩
  go_wp2
  go_ret
  exact ⟨rfl, Below.refl _ _⟩

set_option maxRecDepth 100000 in
set_option maxHeartbeats 3200000 in
theorem lsigs_yes (w : World) (m : Nat) (h1 : 1 ≤ m) (h24 : m ≤ 24) (u : Value) (nu : Nat) (fu : Nat → Nat → Int) (hu : CLst w u 2 nu fu) (v : Value) (n : Nat) (f : Nat → Nat → Int) (hv : CLst w v 1 n f) :
    Calls Try.prog 4 #[.int .i64 (m : Int), u, v] w fun e w' => e = .returned (.bool true) ∧ Below w.heap.size w w' := by
  obtain ⟨i0, hinf, hz0, hz1, hz2⟩ := info_parts info_int
  have HN : Hid (∀ w : World, Calls Try.prog 9 #[.int .i64 (m : Int)] w fun e w' => ∃ L B, e = .returned (.tuple #[.pointer (some ⟨L, 0, none⟩), .int .i64 0]) ∧ w.heap.size ≤ L ∧ w.heap.size ≤ B ∧ LogAt w' L B (empty m) Sg.nought ∧ Below w.heap.size w w') := fun w => lnew_yes w m h1 h24
  obtain ⟨ua, ucap, rfl, hbigu, hlu⟩ := hu
  obtain ⟨va, vcap, rfl, hbig, hl⟩ := hv
  have HCU : Hid (∀ i, i < nu → ∃ x, ua = some x ∧ x.block < w.heap.size ∧ ∀ j, j < 2 → w.cell? ((x.add (i * 2)).add j) = some (.int .i64 (fu i j))) := by
    intro i hi
    rcases hlu with h0 | ⟨x, hx, hxb, hcc⟩
    · exact absurd hi (by omega)
    · exact ⟨x, hx, hxb, hcc i hi⟩
  have HC : Hid (∀ i, i < n → ∃ x, va = some x ∧ x.block < w.heap.size ∧ ∀ j, j < 1 → w.cell? ((x.add (i * 1)).add j) = some (.int .i64 (f i j))) := by
    intro i hi
    rcases hl with h0 | ⟨x, hx, hxb, hcc⟩
    · exact absurd hi (by omega)
    · exact ⟨x, hx, hxb, hcc i hi⟩
  clear hl hlu h1 h24
  go_enter Try.func4, Try.ntmps4
  go_wp2_with fail
  refine (HN.out _).mono ?_
  rintro e w1 ⟨L, B, rfl, hL, hB, ht, hb1⟩
  have HW1 : Hid (w.heap.size ≤ L ∧ w.heap.size ≤ B ∧ LogAt w1 L B (empty m) Sg.nought ∧ Below w.heap.size w w1) := ⟨hL, hB, ht, hb1⟩
  clear hL hB ht hb1
  go_wp2_with fail
  refine (HN.out _).mono ?_
  rintro e w2 ⟨L2, B2, rfl, hL2, hB2, ht2, hb2⟩
  have HW2 : Hid (LTwo w w2 L B L2 B2 m (empty m) Sg.nought Sg.nought) :=
    ⟨HW1.out.2.2.1.below hb2, ht2, by have := heap_lt HW1.out.2.2.1.log; omega, by have := heap_lt HW1.out.2.2.1.tab; omega, HW1.out.1, HW1.out.2.1, Nat.le_trans HW1.out.2.2.2.size hL2, Nat.le_trans HW1.out.2.2.2.size hB2, below_then HW1.out.2.2.2 hb2⟩
  clear hL2 hB2 ht2 hb2 HW1
  go_wp2
  go_loopw [11] (fun iv wr => ∃ i : Nat, i ≤ max nu n ∧ iv = .int .i64 i ∧ ∃ s r, LTwo w wr L B L2 B2 m s r r) (fun iv _ => max nu n - (intOf iv).toNat)
  case atStart => exact ⟨0, Nat.zero_le _, rfl, _, _, HW2.out⟩
  case round =>
    obtain ⟨i, hi, rfl, s, r, htwo⟩ := hrel
    have HW : Hid (LTwo w wr L B L2 B2 m s r r) := htwo
    clear htwo
    by_cases hw : i < nu
    · obtain ⟨x, rfl, hxb, hrow⟩ := HCU.out i hw
      obtain ⟨d0, d1⟩ := CLst.two (w := wr) i (fun j hj => cell_later HW.out.bel (by rw [add_block, add_block]; exact hxb) (hrow j hj))
      clear hrow
      have hd : decide ((i : Int) < (nu : Int)) = true := by simp; omega
      have hx1 : (i : Int) < (nu : Int) := by omega
      have HPU : Hid (Calls Try.prog 13 #[.pointer (some ⟨L, 0, none⟩), .int .i64 (fu i 0), .int .i64 (fu i 1)] wr.drew fun e w' => e = .returned (.int .i64 (writeE s (fu i 0))) ∧ LogAt w' L B (put s (fu i 0) (fu i 1)) r ∧ Keep [B] wr.drew w') := write_any (w := wr.drew) (HW.out.a.below (below_drawn (Below.refl _ _) 1)) _ _
      generalize fu i 0 = z0 at *
      generalize fu i 1 = z1 at *
      by_cases hr : i < n
      · obtain ⟨x1, rfl, hxb1, hrow1⟩ := HC.out i hr
        have HRW : Hid (∀ w' : World, Below w.heap.size w w' → w'.cell? (x1.add i) = some (.int .i64 (f i 0))) := fun w' hb => CLst.lone i (fun j hj => cell_later hb (by rw [add_block, add_block]; exact hxb1) (hrow1 j hj))
        clear hrow1
        have hdr : decide ((i : Int) < (n : Int)) = true := by simp; omega
        have hxr : (i : Int) < (n : Int) := by omega
        go_wp2
        go_region_with ((go_at_call 13; refine HPU.out.mono ?_; rintro e w3 ⟨rfl, ht, hk⟩))
        all_goals
          have HW3 : Hid (LTwo w w3 L B L2 B2 m (put s z0 z1) r r) := HW.out.write ht (((Keep.refl [B] wr).drewN 1).trans hk (fun b hb => Or.inl hb))
          clear ht hk
          have e0 := HRW.out w3 HW3.out.bel
          have HR1 : Hid (Calls Try.prog 14 #[.pointer (some ⟨L, 0, none⟩), .int .i64 (f i 0)] w3 fun e w' => e = .returned (.tuple #[]) ∧ LogAt w' L B (put s z0 z1) (readR r (f i 0)) ∧ Keep [L] w3 w') := read_any HW3.out.a (f i 0)
          go_wp2_with fail
          refine HR1.out.mono ?_
          rintro e w5 ⟨rfl, ht5, hk5⟩
          have HW5 : Hid (LTwo w w5 L B L2 B2 m (put s z0 z1) (readR r (f i 0)) r) := HW3.out.read ht5 hk5
          have e1 := HRW.out w5 HW5.out.bel
          have HR2 : Hid (Calls Try.prog 14 #[.pointer (some ⟨L2, 0, none⟩), .int .i64 (f i 0)] w5 fun e w' => e = .returned (.tuple #[]) ∧ LogAt w' L2 B2 (empty m) (readR r (f i 0)) ∧ Keep [L2] w5 w') := read_any HW5.out.b (f i 0)
          clear ht5 hk5 e0
          go_wp2_with fail
          refine HR2.out.mono ?_
          rintro e w6 ⟨rfl, ht6, hk6⟩
          have HW6 : Hid (LTwo w w6 L B L2 B2 m (put s z0 z1) (readR r (f i 0)) (readR r (f i 0))) := HW5.out.read2 ht6 hk6
          clear ht6 hk6 e1
          go_wp2
          go_roundw
          case rel => exact ⟨i + 1, by omega, by go_num, _, _, HW6.out⟩
          case measure => simp [intOf]; omega
      · have hdr : decide ((i : Int) < (n : Int)) = false := by simp; omega
        go_wp2
        go_region_with ((go_at_call 13; refine HPU.out.mono ?_; rintro e w3 ⟨rfl, ht, hk⟩))
        all_goals
          have HW3 : Hid (LTwo w w3 L B L2 B2 m (put s z0 z1) r r) := HW.out.write ht (((Keep.refl [B] wr).drewN 1).trans hk (fun b hb => Or.inl hb))
          clear ht hk
          go_wp2
          go_roundw
          case rel => exact ⟨i + 1, by omega, by go_num, _, _, HW3.out⟩
          case measure => simp [intOf]; omega
    · have hdw : decide ((i : Int) < (nu : Int)) = false := by simp; omega
      by_cases hr : i < n
      · obtain ⟨x1, rfl, hxb1, hrow1⟩ := HC.out i hr
        have HRW : Hid (∀ w' : World, Below w.heap.size w w' → w'.cell? (x1.add i) = some (.int .i64 (f i 0))) := fun w' hb => CLst.lone i (fun j hj => cell_later hb (by rw [add_block, add_block]; exact hxb1) (hrow1 j hj))
        clear hrow1
        have hdr : decide ((i : Int) < (n : Int)) = true := by simp; omega
        have hxr : (i : Int) < (n : Int) := by omega
        have e0 := HRW.out wr HW.out.bel
        have HR1 : Hid (Calls Try.prog 14 #[.pointer (some ⟨L, 0, none⟩), .int .i64 (f i 0)] wr fun e w' => e = .returned (.tuple #[]) ∧ LogAt w' L B s (readR r (f i 0)) ∧ Keep [L] wr w') := read_any HW.out.a (f i 0)
        go_wp2_with fail
        refine HR1.out.mono ?_
        rintro e w5 ⟨rfl, ht5, hk5⟩
        have HW5 : Hid (LTwo w w5 L B L2 B2 m s (readR r (f i 0)) r) := HW.out.read ht5 hk5
        have e1 := HRW.out w5 HW5.out.bel
        have HR2 : Hid (Calls Try.prog 14 #[.pointer (some ⟨L2, 0, none⟩), .int .i64 (f i 0)] w5 fun e w' => e = .returned (.tuple #[]) ∧ LogAt w' L2 B2 (empty m) (readR r (f i 0)) ∧ Keep [L2] w5 w') := read_any HW5.out.b (f i 0)
        clear ht5 hk5 e0
        go_wp2_with fail
        refine HR2.out.mono ?_
        rintro e w6 ⟨rfl, ht6, hk6⟩
        have HW6 : Hid (LTwo w w6 L B L2 B2 m s (readR r (f i 0)) (readR r (f i 0))) := HW5.out.read2 ht6 hk6
        clear ht6 hk6 e1
        go_wp2
        go_roundw
        case rel => exact ⟨i + 1, by omega, by go_num, _, _, HW6.out⟩
        case measure => simp [intOf]; omega
      · have hl24 : s.R.length ≤ 24 := Nat.le_trans HW.out.a.inv.len HW.out.a.inv.m24
        obtain ⟨y0, hy0⟩ : ∃ y0, y0 = wr := ⟨_, rfl⟩
        rw [← hy0] at HW ⊢
        clear hy0
        have hdw : decide ((i : Int) < (nu : Int)) = false := by simp; omega
        have hdr : decide ((i : Int) < (n : Int)) = false := by simp; omega
        have HG : Hid (∀ q, q < s.R.length → (rowsC s.R)[q * 2]? = some (.int .i64 (s.R.getD q noWr).c) ∧ (rowsC s.R)[q * 2 + 1]? = some (.int .i64 (s.R.getD q noWr).v)) := fun q hq => rowsC_get s.R q hq
        have HT : Hid (∀ i, i < s.R.length → tC ((s.R.map (·.c)).take (i + 1)) = tC ((s.R.map (·.c)).take i) ++ [.int .i64 (s.R.getD i noWr).c]) := fun i hi => tC_take s.R i hi
        have HO : Hid (∀ w b v, World.ownsRow w b 3 1 v s.R.length (tC ((s.R.map (·.c)).take s.R.length)) → Calls Try.prog 17 #[v] w fun e w'' => e = .returned (.agg (Sg.sc (wrS s))) ∧ Below w.heap.size w w'') := fun w b v ho => by
          have e : (s.R.map (·.c)).length = s.R.length := by simp
          rw [List.take_of_length_le (by omega), ← e] at ho
          exact Sg.of_any w v _ (own_list ho (by omega))
        have HSA : Hid (∀ w', Below y0.heap.size y0 w' → Calls Try.prog 16 #[.pointer (some ⟨L, 0, none⟩)] w' fun e w'' => e = .returned (.agg (Sg.sc (wrS s))) ∧ Below w'.heap.size w' w'') := fun w' hb => sig_any (HW.out.a.below hb)
        have HSB : Hid (∀ w', Below y0.heap.size y0 w' → Calls Try.prog 16 #[.pointer (some ⟨L2, 0, none⟩)] w' fun e w'' => e = .returned (.agg (Sg.sc Sg.nought)) ∧ Below w'.heap.size w' w'') := fun w' hb => sig_any (HW.out.b.below hb)
        have HRA : Hid (∀ w', Below y0.heap.size y0 w' → Calls Try.prog 18 #[.pointer (some ⟨L, 0, none⟩)] w' fun e w'' => e = .returned (.agg (Sg.sc r)) ∧ Below w'.heap.size w' w'') := fun w' hb => reads_any (HW.out.a.below hb)
        have HRB : Hid (∀ w', Below y0.heap.size y0 w' → Calls Try.prog 18 #[.pointer (some ⟨L2, 0, none⟩)] w' fun e w'' => e = .returned (.agg (Sg.sc r)) ∧ Below w'.heap.size w' w'') := fun w' hb => reads_any (HW.out.b.below hb)
        have HBEL : Hid (∀ w', Below y0.heap.size y0 w' → Below w.heap.size w w') := fun w' hb => below_then HW.out.bel hb
        have ka : (Sg.sc (wrS s)).size = 8 := by rw [Sg.sc_size]; exact (wrS_ok s).1
        have kr : (Sg.sc r).size = 8 := by rw [Sg.sc_size]; exact HW.out.a.ok.1
        have kn : (Sg.sc Sg.nought).size = 8 := rfl
        have oa := Sg.sc_one (wrS s)
        have ob := Sg.sc_one r
        have oc := Sg.sc_one Sg.nought
        have q1 : ∀ w : World, (binOp .eql 44 (.agg (Sg.sc (wrS s))) (.agg (Sg.sc (wrS s)))).run Try.prog w = .ok (.bool true) w := fun w => by rw [Sg.eql_sig _ _ (wrS_ok s).1 (wrS_ok s).1 w]; simp
        have q2 : ∀ w : World, (binOp .eql 44 (.agg (Sg.sc r)) (.agg (Sg.sc r))).run Try.prog w = .ok (.bool true) w := fun w => by rw [Sg.eql_sig _ _ HW.out.a.ok.1 HW.out.a.ok.1 w]; simp
        have q3 : ∀ w : World, (binOp .eql 44 (.agg (Sg.sc Sg.nought)) (.agg #[.int .u64 0, .int .u64 0, .int .u64 0, .int .u64 0, .int .u64 0, .int .u64 0, .int .u64 0, .int .u64 0])).run Try.prog w = .ok (.bool true) w := fun w => Sg.eql_sig Sg.nought Sg.nought rfl rfl w
        go_wp2_with fail
        refine (writes_any HW.out.a).mono ?_
        rintro e y1 ⟨v1, rfl, ho1, hb1⟩
        have HB1 : Hid (Below y0.heap.size y0 y1) := hb1
        have HO1 : Hid (y1.ownsRow y0.heap.size 39 2 v1 s.R.length (rowsC s.R)) := ho1
        obtain ⟨a1, c1, rfl⟩ := own_slice ho1
        clear ho1 hb1 HW HW2
        generalize Sg.sc (wrS s) = ca at *
        generalize Sg.sc r = cr at *
        generalize Sg.sc Sg.nought = cn at *
        generalize rowsC s.R = xs at *
        generalize s.R.length = nR at *
        go_wp2
        go_loopw [13, 14] (fun ov iv wr => ∃ j : Nat, j ≤ nR ∧ iv = .int .i64 j ∧ wr.ownsRow y1.heap.size 3 1 ov j (tC ((s.R.map (·.c)).take j)) ∧ Below y1.heap.size y1 wr) (fun _ iv _ => nR - (intOf iv).toNat)
        case atStart => exact ⟨0, Nat.zero_le _, rfl, by simpa [tC] using World.ownsRow_nil _ _ _ _, Below.refl _ _⟩
        case round =>
          obtain ⟨q, hq, rfl, how, hb⟩ := hrel
          have HO2 : Hid (wr.ownsRow y1.heap.size 3 1 u13 q (tC ((s.R.map (·.c)).take q))) := how
          have HB : Hid (Below y1.heap.size y1 wr) := hb
          obtain ⟨av, cv, rfl⟩ := own_slice how
          clear how hb
          by_cases hlt : q < nR
          · have hd : decide ((q : Int) < (nR : Int)) = true := by simp; omega
            obtain ⟨g, cap, hform, hg1, hg2⟩ := HO1.out.form (by omega)
            obtain ⟨rfl, _, rfl⟩ : a1 = some ⟨g, 0, none⟩ ∧ nR = nR ∧ c1 = cap := by simpa using hform
            clear hform
            obtain ⟨k1, k2⟩ := HG.out q hlt
            have d0 : wr.cell? ⟨g, q * 2, none⟩ = some (.int .i64 (s.R.getD q noWr).c) := cell_later HB.out hg2 (own_cells HO1.out _ _ k1)
            have HNX : Hid (tC ((s.R.map (·.c)).take (q + 1)) = tC ((s.R.map (·.c)).take q) ++ [.int .i64 (s.R.getD q noWr).c]) := HT.out q hlt
            clear k1 k2
            generalize (s.R.getD q noWr).c = zc at *
            generalize tC ((s.R.map (·.c)).take q) = ys at *
            have hsz := HB.out.size
            go_wp2_with (at_builtin; refine wpList_append_lies _ rfl _ _ 36 rfl y1.heap.size 3 i0 _ 1 8 Try.underlying36 hinf hz0 hz1 hz2 rfl (by decide) _ _ _ rfl (HO2.out.alloc _) ⟨wr.heap.size, 0, none⟩ 1 1 [.int .i64 zc] rfl rfl ?c1 ?c2 (by decide) ?c3 ?c4 ?c5 _ rfl ?_)
            case c2 => simp [Value.oneCell']
            case c3 => unfold maxLen; omega
            case c4 => omega
            case c5 => first | omega | (simp; omega)
            intro gg cap' w3 hown1 hgrow hat _
            have HO3 : Hid (w3.ownsRow y1.heap.size 3 1 (.slice (some ⟨gg, 0, none⟩) (q + 1) cap') (q + 1) (tC ((s.R.map (·.c)).take (q + 1)))) := by
              rw [Hid, HNX.out]; exact hown1
            have HB3 : Hid (Below y1.heap.size y1 w3) := (below_alloc HB.out _).grown hgrow (by simp; omega) (fun b hb => (own_block HO2.out b hb).1)
            clear hown1 hgrow hat d0
            go_wp2
            go_roundw
            case rel => exact ⟨q + 1, by omega, by go_num, HO3.out, HB3.out⟩
            case measure => simp [intOf]; omega
          · obtain rfl : q = nR := by omega
            obtain ⟨y2, hy2⟩ : ∃ y2, y2 = wr := ⟨_, rfl⟩
            rw [← hy2] at HO2 HB ⊢
            clear hy2 hlt hq HG HT HO1
            have HB2 : Hid (Below y0.heap.size y0 y2) := below_then HB1.out HB.out
            clear HB HB1
            have pa := Sg.pack8 ca ka
            have pr := Sg.pack8 cr kr
            have pn := Sg.pack8 cn kn
            have sa := fun (w : World) (old : Array Value) (ho : old.size = 8) => Sg.store_1_0 (P := Try.prog) w 44 old ca ho ka oa
            have sr := fun (w : World) (old : Array Value) (ho : old.size = 8) => Sg.store_1_0 (P := Try.prog) w 44 old cr ho kr ob
            have sn := fun (w : World) (old : Array Value) (ho : old.size = 8) => Sg.store_1_0 (P := Try.prog) w 44 old cn ho kn oc
            go_wp2_with fail
            refine (HSA.out _ HB2.out).mono ?_
            rintro e y3 ⟨rfl, hb3⟩
            have HB3 : Hid (Below y0.heap.size y0 (y3.alloc (.cells ca 44))) := below_alloc (below_then HB2.out hb3) _
            have HO3 : Hid ((y3.alloc (.cells ca 44)).ownsRow y1.heap.size 3 1 (.slice av q cv) q (tC ((s.R.map (·.c)).take q))) := own_kept HO2.out (below_alloc hb3 _)
            have RA3 : Hid ((y3.alloc (.cells ca 44)).heap[y3.heap.size]? = some (.cells ca 44 (0, 0))) := heap_alloc_new _ _
            clear hb3 HO2 HB2
            go_wp2_with fail
            refine (HO.out _ _ _ HO3.out).mono ?_
            rintro e y4 ⟨rfl, hb4⟩
            have HB4 : Hid (Below y0.heap.size y0 (y4.alloc (.cells ca 44))) := below_alloc (below_then HB3.out hb4) _
            have RA4 : Hid ((y4.alloc (.cells ca 44)).heap[y3.heap.size]? = some (.cells ca 44 (0, 0))) := Sg.row_later (Sg.row_later RA3.out hb4) (below_a1 _ _)
            have RB4 : Hid ((y4.alloc (.cells ca 44)).heap[y4.heap.size]? = some (.cells ca 44 (0, 0))) := heap_alloc_new _ _
            clear hb4 HO3 HB3 RA3
            go_wp2_with fail
            refine (HRA.out _ HB4.out).mono ?_
            rintro e y5 ⟨rfl, hb5⟩
            have HB5 : Hid (Below y0.heap.size y0 (y5.alloc (.cells cr 44))) := below_alloc (below_then HB4.out hb5) _
            have RA5 : Hid ((y5.alloc (.cells cr 44)).heap[y3.heap.size]? = some (.cells ca 44 (0, 0))) := Sg.row_later (Sg.row_later RA4.out hb5) (below_a1 _ _)
            have RB5 : Hid ((y5.alloc (.cells cr 44)).heap[y4.heap.size]? = some (.cells ca 44 (0, 0))) := Sg.row_later (Sg.row_later RB4.out hb5) (below_a1 _ _)
            have RC5 : Hid ((y5.alloc (.cells cr 44)).heap[y5.heap.size]? = some (.cells cr 44 (0, 0))) := heap_alloc_new _ _
            clear hb5 HB4 RA4 RB4
            go_wp2_with fail
            refine (HRB.out _ HB5.out).mono ?_
            rintro e y6 ⟨rfl, hb6⟩
            have HB6 : Hid (Below y0.heap.size y0 (y6.alloc (.cells cr 44))) := below_alloc (below_then HB5.out hb6) _
            have RA6 : Hid ((y6.alloc (.cells cr 44)).heap[y3.heap.size]? = some (.cells ca 44 (0, 0))) := Sg.row_later (Sg.row_later RA5.out hb6) (below_a1 _ _)
            have RB6 : Hid ((y6.alloc (.cells cr 44)).heap[y4.heap.size]? = some (.cells ca 44 (0, 0))) := Sg.row_later (Sg.row_later RB5.out hb6) (below_a1 _ _)
            have RC6 : Hid ((y6.alloc (.cells cr 44)).heap[y5.heap.size]? = some (.cells cr 44 (0, 0))) := Sg.row_later (Sg.row_later RC5.out hb6) (below_a1 _ _)
            have RD6 : Hid ((y6.alloc (.cells cr 44)).heap[y6.heap.size]? = some (.cells cr 44 (0, 0))) := heap_alloc_new _ _
            clear hb6 HB5 RA5 RB5 RC5
            go_wp2_with fail
            refine (HSB.out _ HB6.out).mono ?_
            rintro e y7 ⟨rfl, hb7⟩
            have HB7 : Hid (Below y0.heap.size y0 (y7.alloc (.cells cn 44))) := below_alloc (below_then HB6.out hb7) _
            have RA7 : Hid ((y7.alloc (.cells cn 44)).heap[y3.heap.size]? = some (.cells ca 44 (0, 0))) := Sg.row_later (Sg.row_later RA6.out hb7) (below_a1 _ _)
            have RB7 : Hid ((y7.alloc (.cells cn 44)).heap[y4.heap.size]? = some (.cells ca 44 (0, 0))) := Sg.row_later (Sg.row_later RB6.out hb7) (below_a1 _ _)
            have RC7 : Hid ((y7.alloc (.cells cn 44)).heap[y5.heap.size]? = some (.cells cr 44 (0, 0))) := Sg.row_later (Sg.row_later RC6.out hb7) (below_a1 _ _)
            have RD7 : Hid ((y7.alloc (.cells cn 44)).heap[y6.heap.size]? = some (.cells cr 44 (0, 0))) := Sg.row_later (Sg.row_later RD6.out hb7) (below_a1 _ _)
            have RE7 : Hid ((y7.alloc (.cells cn 44)).heap[y7.heap.size]? = some (.cells cn 44 (0, 0))) := heap_alloc_new _ _
            clear hb7 HB6 RA6 RB6 RC6 RD6
            have l1 := Sg.row_cells RA7.out ka
            have l2 := Sg.row_cells RB7.out ka
            have l3 := Sg.row_cells RC7.out kr
            have l4 := Sg.row_cells RD7.out kr
            have l5 := Sg.row_cells RE7.out kn
            go_wp2
            go_ret
            exact ⟨rfl, HBEL.out _ HB7.out⟩
end Go.Proofs.Ytfpnpkpjkcmoaaa
