/- The program's Read, Reads, Sig, Clear. -/
import Derived.Test.YtfpnpkpjkcmoaaaLogA
namespace Go.Proofs.Ytfpnpkpjkcmoaaa
open Go.ChangeShapes Go.WideShapes Go.ChangeAt Go.RowKit

theorem read_no (w : World) (L : Nat) (c : Int) (h : right c = false) : Calls Try.prog 14 #[.pointer (some ⟨L, 0, none⟩), .int .i64 c] w fun e w' => e = .returned (.tuple #[]) ∧ w' = w := by
  by_cases h0 : c < 0
  · go_enter Try.func14, Try.ntmps14
    go_wp2
    refine bodyPost_ret (results_none rfl _ _ _) rfl ?_
    exact ⟨rfl, rfl⟩
  · have h1 : 1024 ≤ c := by simp [right] at h; omega
    have hd0 : decide (c < 0) = false := by simp; omega
    go_enter Try.func14, Try.ntmps14
    go_wp2
    refine bodyPost_ret (results_none rfl _ _ _) rfl ?_
    exact ⟨rfl, rfl⟩
set_option maxRecDepth 10000 in
theorem read_any {w : World} {L B : Nat} {s : Tb} {r : List Nat} (h : LogAt w L B s r) (c : Int) : Calls Try.prog 14 #[.pointer (some ⟨L, 0, none⟩), .int .i64 c] w fun e w' => e = .returned (.tuple #[]) ∧ LogAt w' L B s (readR r c) ∧ Keep [L] w w' := by
  cases hr : right c with
  | false =>
    refine (read_no w L c hr).mono ?_
    rintro e w' ⟨rfl, rfl⟩
    exact ⟨rfl, by simp [readR, hr]; exact h, Keep.refl _ _⟩
  | true =>
    have hd0 : decide (c < 0) = false := by simp [right] at hr; simp; omega
    have hd1 : decide (1024 ≤ c) = false := by simp [right] at hr; simp; omega
    have HR : Hid (readR r c = Sg.put r (Sg.sigN c)) := by simp [Hid, readR, hr]
    have HO : Hid (Sg.Ok (Sg.put r (Sg.sigN c))) := Sg.ok_put h.ok _ (Sg.sigN_lt c)
    have HW : Hid (∀ w : World, Calls Try.prog 32 #[.agg (Sg.sc r), .int .i64 c] w fun e w' => e = .returned (.agg (Sg.sc (Sg.put r (Sg.sigN c)))) ∧ Below w.heap.size w w') := fun w => Sg.with_any r h.ok c w
    have HL : Hid (LogAt w L B s r) := h
    have hz : (Sg.sc r).size = 8 := by rw [Sg.sc_size]; exact h.ok.1
    have hz' : (Sg.sc (Sg.put r (Sg.sigN c))).size = 8 := by rw [Sg.sc_size]; exact HO.out.1
    rw [HR.out]
    generalize Sg.put r (Sg.sigN c) = r' at *
    have hl0 := h.row _ rfl hz
    clear h hr
    generalize hcs : Sg.sc r = cs at *
    have hpk := Sg.pack8 cs hz
    clear hcs
    go_enter Try.func14, Try.ntmps14
    go_wp2_with fail
    refine (HW.out _).mono ?_
    rintro e w1 ⟨rfl, hb1⟩
    have HL1 : Hid (LogAt w1 L B s r) := HL.out.below hb1
    have HB1 : Hid (Below w.heap.size w w1) := hb1
    have hst := HL1.out.store (P := Try.prog) r' HO.out
    clear hb1 hl0
    go_wp2
    go_end0
    exact ⟨rfl, HL1.out.reads r' HO.out, ((Keep.of_below HB1.out [L]).setRow _ _ (by simp))⟩
set_option maxRecDepth 10000 in
theorem reads_any {w : World} {L B : Nat} {s : Tb} {r : List Nat} (h : LogAt w L B s r) : Calls Try.prog 18 #[.pointer (some ⟨L, 0, none⟩)] w fun e w' => e = .returned (Sg.sv r) ∧ Below w.heap.size w w' := by
  have hz : (Sg.sc r).size = 8 := by rw [Sg.sc_size]; exact h.ok.1
  have hl0 := h.row _ rfl hz
  have h1 := Sg.sc_one r
  have hlt := heap_lt h.log
  clear h
  unfold Sg.sv
  generalize Sg.sc r = cs at *
  have hpk := Sg.pack8 cs hz
  go_enter Try.func18, Try.ntmps18
  have hst := fun (old : Array Value) (ho : old.size = 8) => Sg.store_1_0 (P := Try.prog) w 44 old cs ho hz h1
  go_wp2
  exact Sg.ret_sig rfl rfl (heap_alloc_new w _) hz rfl ⟨rfl, below_a1 _ _⟩
theorem eight (r : List Nat) (h : r.length = 8) : ∃ a b c d e f g k, r = [a, b, c, d, e, f, g, k] := by
  match r, h with
  | [a, b, c, d, e, f, g, k], _ => exact ⟨a, b, c, d, e, f, g, k, rfl⟩
theorem logC_none (B : Nat) (r : List Nat) (h : r.length = 8) : ((((((((logC B r).setIfInBounds 1 (.int .u64 0)).setIfInBounds 2 (.int .u64 0)).setIfInBounds 3 (.int .u64 0)).setIfInBounds 4 (.int .u64 0)).setIfInBounds 5 (.int .u64 0)).setIfInBounds 6 (.int .u64 0)).setIfInBounds 7 (.int .u64 0)).setIfInBounds 8 (.int .u64 0) = logC B Sg.nought := by
  obtain ⟨a, b, c, d, e, f, g, k, rfl⟩ := eight r h
  simp [logC, Sg.sc, Sg.nought]
theorem lclear_any {w : World} {L B : Nat} {s : Tb} {r : List Nat} (h : LogAt w L B s r) : Calls Try.prog 20 #[.pointer (some ⟨L, 0, none⟩)] w fun e w' => e = .returned (.tuple #[]) ∧ LogAt w' L B (empty s.m) Sg.nought ∧ Keep [L, B] w w' := by
  have HP : Hid (Calls Try.prog 35 #[.pointer (some ⟨B, 0, none⟩)] w fun e w' => e = .returned (.tuple #[]) ∧ TabAt w' B (empty s.m) ∧ Keep [B] w w') := clear_any h.tab h.inv
  have HL : Hid (∀ w', TabAt w' B (empty s.m) → Keep [B] w w' → LogAt w' L B (empty s.m) r) := fun w' ht hk => h.tabs ht hk (empty_inv h.inv.m1 h.inv.m24)
  have h0 := h.ptr
  have hz : (Sg.sc r).size = 8 := by rw [Sg.sc_size]; exact h.ok.1
  clear h
  go_enter Try.func20, Try.ntmps20
  go_wp2_with fail
  refine HP.out.mono ?_
  rintro e w1 ⟨rfl, ht, hk⟩
  have HL1 : Hid (LogAt w1 L B (empty s.m) r) := HL.out w1 ht hk
  have HK : Hid (Keep [B] w w1) := hk
  have hl0 := HL1.out.row _ rfl hz
  have f1 := frozen_at HL1.out.log 1
  have f2 := frozen_at HL1.out.log 2
  have f3 := frozen_at HL1.out.log 3
  have f4 := frozen_at HL1.out.log 4
  have f5 := frozen_at HL1.out.log 5
  have f6 := frozen_at HL1.out.log 6
  have f7 := frozen_at HL1.out.log 7
  have f8 := frozen_at HL1.out.log 8
  clear ht hk h0
  generalize Sg.sc r = cs at *
  have HZ : Hid (cs.size = 8) := hz
  go_wp2
  go_end0
  refine ⟨rfl, ⟨?_, ?_, HL1.out.inv, Sg.ok_nought⟩, ?_⟩
  · rw [heap_set (heap_set (heap_set (heap_set (heap_set (heap_set (heap_set (heap_set HL1.out.log 1 _) 2 _) 3 _) 4 _) 5 _) 6 _) 7 _) 8 _, logC_none _ _ HL1.out.ok.1]
  · have hne := HL1.out.ne
    unfold TabAt
    rw [heap_set_other _ _ hne, heap_set_other _ _ hne, heap_set_other _ _ hne, heap_set_other _ _ hne, heap_set_other _ _ hne, heap_set_other _ _ hne, heap_set_other _ _ hne, heap_set_other _ _ hne]
    exact HL1.out.tab
  · exact ((((((((HK.out.mono (G := [L, B]) (by simp)).setCell _ _ (by simp)).setCell _ _ (by simp)).setCell _ _ (by simp)).setCell _ _ (by simp)).setCell _ _ (by simp)).setCell _ _ (by simp)).setCell _ _ (by simp)).setCell _ _ (by simp)
/-- Two blocks of signatures, above what was there. -/
structure Sw (w0 wr : World) (R S : Nat) (cs : Array Value) : Prop where
  res : wr.heap[R]? = some (.cells (Sg.sc Sg.nought) 44 (0, 0))
  sig : wr.heap[S]? = some (.cells cs 44 (0, 0))
  ne : R ≠ S
  bR : w0.heap.size ≤ R
  bS : w0.heap.size ≤ S
  bel : Below w0.heap.size w0 wr
theorem Sw.later {w0 wr w' : World} {R S : Nat} {cs : Array Value} (h : Sw w0 wr R S cs) (hb : Below wr.heap.size wr w') : Sw w0 w' R S cs :=
  ⟨Sg.row_later h.res hb, Sg.row_later h.sig hb, h.ne, h.bR, h.bS, below_then h.bel hb⟩
theorem Sw.set {w0 wr : World} {R S : Nat} {cs : Array Value} (h : Sw w0 wr R S cs) (cs' : Array Value) : Sw w0 (wr.setRow S cs') R S cs' :=
  ⟨by rw [setRow_other _ _ _ _ h.ne]; exact h.res, setRow_heap _ _ _ _ _ _ h.sig, h.ne, h.bR, h.bS, Sg.below_setRow h.bel _ h.bS _⟩
set_option maxRecDepth 10000 in
theorem sig_any {w : World} {L B : Nat} {s : Tb} {r : List Nat} (h : LogAt w L B s r) : Calls Try.prog 16 #[.pointer (some ⟨L, 0, none⟩)] w fun e w' => e = .returned (Sg.sv (wrS s)) ∧ Below w.heap.size w w' := by
  have HO : Hid (∀ w : World, Calls Try.prog 17 #[.slice none 0 0] w fun e w' => e = .returned (.agg #[.int .u64 0, .int .u64 0, .int .u64 0, .int .u64 0, .int .u64 0, .int .u64 0, .int .u64 0, .int .u64 0]) ∧ Below w.heap.size w w') := fun w => Sg.of_any w _ [] ⟨none, 0, rfl, by simp, Or.inl rfl⟩
  have HL : Hid (∀ w', Below w.heap.size w w' → Calls Try.prog 15 #[.pointer (some ⟨L, 0, none⟩)] w' fun e w'' => ∃ v, e = .returned v ∧ w''.ownsRow w'.heap.size 39 2 v s.R.length (rowsC s.R) ∧ Below w'.heap.size w' w'') := fun w' hb => writes_any (h.below hb)
  have hl : s.R.length ≤ 24 := Nat.le_trans h.inv.len h.inv.m24
  have HG : Hid (∀ q, q < s.R.length → (rowsC s.R)[q * 2]? = some (.int .i64 (s.R.getD q noWr).c) ∧ (rowsC s.R)[q * 2 + 1]? = some (.int .i64 (s.R.getD q noWr).v)) := fun q hq => rowsC_get s.R q hq
  have hln : (s.R.map (·.c)).length = s.R.length := by simp
  have HS : Hid (∀ (i : Nat) (w : World), i < s.R.length → Calls Try.prog 32 #[.agg (Sg.sc (Sg.ofTo (s.R.map (·.c)) i)), .int .i64 (s.R.getD i noWr).c] w fun e w' => e = .returned (.agg (Sg.sc (Sg.ofTo (s.R.map (·.c)) (i + 1)))) ∧ Below w.heap.size w w') := by
    intro i w hi
    have e : (s.R.getD i noWr).c = (s.R.map (·.c)).getD i 0 := by simp [hi]
    rw [Sg.ofTo_succ _ i (by omega), e]
    exact Sg.with_any _ (Sg.ok_ofTo _ i) _ w
  have HE : Hid (Sg.sc (Sg.ofTo (s.R.map (·.c)) s.R.length) = Sg.sc (wrS s)) := by rw [Hid, ← hln, Sg.ofTo_all]; rfl
  have HZ : Hid (∀ i, (Sg.sc (Sg.ofTo (s.R.map (·.c)) i)).size = 8 ∧ (Sg.sc (Sg.ofTo (s.R.map (·.c)) i)).all (·.oneCell') = true) := fun i => ⟨by rw [Sg.sc_size]; exact (Sg.ok_ofTo _ i).1, Sg.sc_one _⟩
  have H0 : Hid (Sg.sc (Sg.ofTo (s.R.map (·.c)) 0) = Sg.sc Sg.nought) := rfl
  clear h hln
  unfold Sg.sv
  generalize Sg.sc (wrS s) = zz at *
  generalize (fun i => Sg.sc (Sg.ofTo (s.R.map (·.c)) i)) = G at *
  generalize rowsC s.R = xs at *
  generalize s.R.length = n at *
  go_enter Try.func16, Try.ntmps16
  go_wp2_with fail
  refine (HO.out _).mono ?_
  rintro e w1 ⟨rfl, hb1⟩
  have HB1 : Hid (Below (w.heap.size + 1) (w.alloc (.cells (Sg.sc Sg.nought) 44)) w1) := by
    have e : (w.alloc (.cells (Sg.sc Sg.nought) 44)).heap.size = w.heap.size + 1 := by simp
    rw [Hid, ← e]; exact hb1
  have HA1 : Hid (Below w.heap.size w w1) := below_then (below_a1 _ _) hb1
  clear hb1
  go_wp2_with fail
  refine (HL.out _ (below_alloc HA1.out _)).mono ?_
  rintro e w2 ⟨v2, rfl, ho2, hb2⟩
  have HW2 : Hid (Sw w w2 w.heap.size w1.heap.size (Sg.sc Sg.nought)) := by
    refine Sw.later (wr := w1.alloc (.cells (Sg.sc Sg.nought) 44)) ⟨?_, heap_alloc_new _ _, ?_, Nat.le_refl _, HA1.out.size, below_alloc HA1.out _⟩ hb2
    · rw [Below.heap_alloc _ _ _ (by have := HB1.out.size; simp at this; omega), HB1.out.block _ (by omega)]; exact heap_alloc_new _ _
    · have := HB1.out.size; simp at this; omega
  have HO2 : Hid (w2.ownsRow (w1.heap.size + 1) 39 2 v2 n xs) := by rw [Hid]; simpa using ho2
  obtain ⟨va, vc, rfl⟩ := own_slice ho2
  clear ho2 hb2 HB1 HA1
  generalize w1.heap.size = S at *
  generalize hR : w.heap.size = R at *
  go_wp2
  go_loopw [10] (fun iv wr => ∃ i : Nat, i ≤ n ∧ iv = .int .i64 i ∧ Sw w wr R S (Sg.sc (Sg.ofTo (s.R.map (·.c)) i)) ∧ wr.ownsRow (S + 1) 39 2 (.slice va n vc) n xs) (fun iv _ => n - (intOf iv).toNat)
  case atStart => exact ⟨0, Nat.zero_le _, rfl, HW2.out, HO2.out⟩
  case round =>
    obtain ⟨i, hi, rfl, hsw, hbel⟩ := hrel
    have HW : Hid (Sw w wr R S (Sg.sc (Sg.ofTo (s.R.map (·.c)) i))) := hsw
    have HB : Hid (wr.ownsRow (S + 1) 39 2 (.slice va n vc) n xs) := hbel
    obtain ⟨hz, h1⟩ := HZ.out i
    clear hsw hbel
    by_cases hlt : i < n
    · have hd : decide ((i : Int) < (n : Int)) = true := by simp; omega
      obtain ⟨g, cap, hform, hg1, hg2⟩ := HB.out.form (by omega)
      obtain ⟨rfl, _, rfl⟩ : va = some ⟨g, 0, none⟩ ∧ n = n ∧ vc = cap := by simpa using hform
      clear hform
      obtain ⟨k1, k2⟩ := HG.out i hlt
      have d0 : wr.cell? ⟨g, i * 2, none⟩ = some (.int .i64 (s.R.getD i noWr).c) := own_cells HB.out _ _ k1
      have d1 : wr.cell? ⟨g, i * 2 + 1, none⟩ = some (.int .i64 (s.R.getD i noWr).v) := own_cells HB.out _ _ k2
      have HC : Hid (∀ w : World, Calls Try.prog 32 #[.agg (Sg.sc (Sg.ofTo (s.R.map (·.c)) i)), .int .i64 (s.R.getD i noWr).c] w fun e w' => e = .returned (.agg (Sg.sc (Sg.ofTo (s.R.map (·.c)) (i + 1)))) ∧ Below w.heap.size w w') := fun w => HS.out i w hlt
      obtain ⟨hz', h1'⟩ := HZ.out (i + 1)
      clear k1 k2
      generalize (s.R.getD i noWr).c = zc at *
      generalize (s.R.getD i noWr).v = zv at *
      generalize hcj : Sg.sc (Sg.ofTo (s.R.map (·.c)) (i + 1)) = cj at *
      have HCJ : Hid (Sg.sc (Sg.ofTo (s.R.map (·.c)) (i + 1)) = cj) := hcj
      clear hcj
      generalize Sg.sc (Sg.ofTo (s.R.map (·.c)) i) = cs at *
      have hpk := Sg.pack8 cs hz
      have hS : S < wr.heap.size := heap_lt HW.out.sig
      have hSn : S ≠ wr.heap.size := by omega
      have hl0 := Sg.row_cells HW.out.sig hz
      go_wp2_with fail
      refine (HC.out _).mono ?_
      rintro e w3 ⟨rfl, hb3⟩
      have HW3 : Hid (Sw w w3 R S cs) := (HW.out.later (below_a1 _ _)).later hb3
      have HB3 : Hid (w3.ownsRow (S + 1) 39 2 (.slice (some ⟨g, 0, none⟩) n vc) n xs) := own_keep HB.out (Keep.of_below (below_then (below_a1 _ _) hb3) []) (fun _ _ => by simp)
      clear hb3 hl0 d0 d1
      have hst := Sg.store_row (P := Try.prog) HW3.out.sig hz hz' h1'
      go_wp2
      go_roundw
      case rel =>
        exact ⟨i + 1, by omega, by go_num, by rw [HCJ.out]; exact HW3.out.set _, own_keep HB3.out ((Keep.refl [S] _).setRow _ _ (by simp)) (fun b hb hm => by
          have := (own_block HB3.out b hb).1
          simp at hm
          omega)⟩
      case measure => simp [intOf]; omega
    · obtain rfl : i = n := by omega
      rw [HE.out] at hz h1 HW
      have hpo := Sg.pack8 zz hz
      have hl3 := Sg.row_cells HW.out.sig hz
      have hst := Sg.store_row (P := Try.prog) HW.out.res rfl hz h1
      go_wp2
      exact Sg.ret_sig rfl rfl (setRow_heap _ _ _ _ _ _ HW.out.res) hz rfl ⟨rfl, hR ▸ Sg.below_setRow HW.out.bel _ HW.out.bR _⟩
end Go.Proofs.Ytfpnpkpjkcmoaaa
