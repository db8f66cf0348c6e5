/- The program's Order, over a contract of the library's stable sort. -/
import Derived.Test.YtadollckekddgaaDoorHiIn
import Derived.Test.YtadollckekddgaaDoorHiIc
import Derived.Test.YtadollckekddgaaDoorHiL
namespace Go.Proofs.YtadollckekddgaaDoor.Hi
open Go.ChangeShapes Go.WideShapes Go.ChangeAt Go.RowKit
set_option linter.unusedVariables false

def ordL (f : Nat → Nat) (n : Nat) : List Int := (List.range n).map fun i => (f i : Int)
theorem ordL_len (f : Nat → Nat) (n : Nat) : (ordL f n).length = n := by simp [ordL]
theorem fC_list (f : Nat → Nat) (n : Nat) : (fC f n).toList = iC (ordL f n) := by
  unfold fC iC ordL
  simp
theorem made_ints (n : Nat) : madeCells (Value.cells (.int .i64 0)) n = fC (fun _ => 0) n := by
  unfold madeCells fC
  simp [Value.cells]
  apply Array.ext_getElem?
  intro i
  by_cases h : i < n
  · simp [h, Nat.mod_one]
  · simp [h]
theorem make_ints (w : World) (n : Nat) (hn : n ≤ 925925926000) : (Instr.makeSlice 28 (.int .i64 (n : Int)) (.int .i64 (n : Int))).run Tryd.prog w = .ok (.slice (some ⟨w.heap.size, 0, none⟩) n n) (w.alloc (.cells (fC (fun _ => 0) n) 3)) := by
  obtain ⟨i0, hi, hz0, hz1, hz2⟩ := info_parts info_int23
  have hm := run_make (P := Tryd.prog) w 28 3 i0 _ Tryd.underlying28 hi hz0 .i64 .i64 (n : Int) (n : Int) (by omega) (by omega) (by rw [hz2]; omega) (by omega)
  rw [hz1, Int.toNat_natCast, Nat.mul_one, made_ints] at hm
  exact hm
theorem own_row {w : World} {g n : Nat} {f : Nat → Nat} {B : Nat} (h : w.heap[g]? = some (.cells (fC f n) 3 (0, 0))) (hB : B ≤ g) (hn : n ≤ 925925926000) : w.ownsRow B 3 1 (.slice (some ⟨g, 0, none⟩) n n) n (iC (ordL f n)) := by
  refine ⟨by rw [iC_len, ordL_len, Nat.mul_one], Or.inr ⟨g, n, _, rfl, hB, h, Nat.le_refl _, by unfold maxLen; omega, by rw [fC_size, Nat.mul_one], ?_⟩⟩
  rw [fC_list, Nat.mul_one, List.take_of_length_le (by rw [iC_len, ordL_len]; exact Nat.le_refl _)]
/-- What the library's stable sort does to a row of so many. -/
def StQ (n : Nat) : Prop := ∀ (w : World) (g : Nat) (cv : Value) (ky : Nat → Int), CmpOk w g n cv ky → SAt w w g n id →
  Calls Tryd.prog 13 #[.slice (some ⟨g, 0, none⟩) n n, .func (.func 14) #[] #[cv]] w fun e w' => e = .returned (.tuple #[]) ∧ ∃ f', SAt w w' g n f' ∧ PermOn id f' 0 n ∧ Srt ky f' 0 n
def kyD (p : Pa) (i : Nat) : Int := 2 * plA (nt p.txs i) + plB (nt p.txs i)
theorem kyD_lt (p : Pa) (i j : Nat) : aheadD (nt p.txs i) (nt p.txs j) = true ↔ kyD p i < kyD p j := by
  unfold aheadD kyD plB
  simp only [Bool.or_eq_true, Bool.and_eq_true, decide_eq_true_eq]
  split <;> split <;> omega
/-- What Order tells. -/
def OrdrQ (w : World) (H : List Ev) (e : Ending) (w' : World) : Prop :=
  (match readD H with
  | some p => ∃ v f, e = .returned (.tuple #[v, .int .i64 0]) ∧ w'.ownsRow w.heap.size 3 1 v p.txs.length (iC (ordL f p.txs.length)) ∧ PermOn id f 0 p.txs.length ∧ Srt (kyD p) f 0 p.txs.length
  | none => e = .returned (.tuple #[.slice none 0 0, .int .i64 14])) ∧ Below w.heap.size w w'
theorem order_any {w : World} {v : Value} {H : List Ev} {a c : Addr} (h : EvL w v H) (he : ErrAt w a c) (hst : ∀ p, readD H = some p → StQ p.txs.length) : Calls Tryd.prog 6 #[v] w (OrdrQ w H) := by
  have HRD : Hid (Calls Tryd.prog 10 #[v] w (ReadQ w H a)) := read_any h he
  have HER : Hid (∀ w', Below w.heap.size w w' → Calls Tryd.prog 11 #[flt (good H) a] w' fun e w'' => e = .returned (.int .i64 14) ∧ Below w'.heap.size w' w'') := fun w' hb => errno_fault (he.later hb (Nat.le_refl _)) _
  have HST : Hid (∀ p, readD H = some p → StQ p.txs.length) := hst
  unfold OrdrQ
  have HM : Hid (H.length ≤ 925925926000) := h.len
  clear h he hst
  unfold ReadQ at HRD
  cases hr : readD H with
  | none =>
    rw [hr] at HRD
    clear HST
    dsimp only at *
    unfold flt at HRD HER
    generalize (good H : Int) = gd at *
    generalize (Value.agg #[.int .i64 gd, .iface 127 (.pointer (some a))]) = z at *
    go_enter Tryd.func6, Tryd.ntmps6
    go_wp2_with fail
    refine HRD.out.mono ?_
    rintro e w1 ⟨rfl, hb1⟩
    have HB1 : Hid (Below w.heap.size w w1) := hb1
    clear hb1
    go_wp2_with fail
    refine (HER.out _ (below_alloc HB1.out _)).mono ?_
    rintro e w2 ⟨rfl, hb2⟩
    go_wp2_with fail
    go_ret2
    exact ⟨rfl, below_then (below_alloc HB1.out _) hb2⟩
  | some p =>
    rw [hr] at HRD
    have HSP : Hid (StQ p.txs.length) := HST.out p hr
    clear HST
    dsimp only at *
    go_enter Tryd.func6, Tryd.ntmps6
    go_wp2_with fail
    refine HRD.out.mono ?_
    rintro e w1 ⟨⟨P, b, V, vt, vp, rfl, hp⟩, hb1⟩
    have HP1 : Hid (PAt w1 w.heap.size P H.length p b V vt vp) := hp
    have HB1 : Hid (Below w.heap.size w w1) := hb1
    have hpn : p.txs.length ≤ 925925926000 := Nat.le_trans hp.bd.1 HM.out
    have hP0 : w1.cell? ⟨P, 1, none⟩ = some vt := by rw [cell_at hp.pa]; simp
    have hPl : P < w1.heap.size := heap_lt hp.pa
    have hP1 : ∀ o, (w1.alloc o).cell? ⟨P, 1, none⟩ = some vt := fun o => by rw [cell_old hPl]; exact hP0
    obtain ⟨sa, cap, rfl⟩ := own_slice hp.ts
    have HNE0 : p.txs.length = p.txs.length := rfl
    generalize hn : p.txs.length = n at *
    have HNE : Hid (p.txs.length = n) := hn
    clear HNE0 hn
    have hmk : ∀ o, (Instr.makeSlice 28 (.int .i64 (n : Int)) (.int .i64 (n : Int))).run Tryd.prog (w1.alloc o) = .ok (.slice (some ⟨w1.heap.size + 1, 0, none⟩) n n) ((w1.alloc o).alloc (.cells (fC (fun _ => 0) n) 3)) := fun o => by have := make_ints (w1.alloc o) n hpn; simpa using this
    unfold ptr
    clear hp hb1 HRD hP0
    go_wp2_with fail
    obtain ⟨x3, hx3⟩ : ∃ x3, (w1.alloc (.cells #[.pointer (some ⟨P, 0, none⟩)] 45)).alloc (.cells (fC (fun _ => 0) n) 3) = x3 := ⟨_, rfl⟩
    have HG0 : Hid (x3.heap[w1.heap.size + 1]? = some (.cells (fC (fun _ => 0) n) 3 (0, 0))) := by rw [← hx3, Hid]; have := heap_alloc_new (w1.alloc (.cells #[.pointer (some ⟨P, 0, none⟩)] 45)) (.cells (fC (fun _ => 0) n) 3); simpa using this
    have HPV : Hid (x3.cell? ⟨w1.heap.size, 0, none⟩ = some (ptr P)) := by rw [← hx3, Hid, cell_old (by simp), cell_at (heap_alloc_new _ _)]; rfl
    have HBx : Hid (Below w1.heap.size w1 x3) := by rw [← hx3]; exact below_alloc (below_a1 _ _) _
    have HGN : Hid (w1.heap.size + 1 < x3.heap.size) := heap_lt HG0.out
    rw [hx3]
    generalize hg : w1.heap.size + 1 = g at *
    clear hx3 hmk hP1
    go_wp2_with fail
    go_loopw [7, 25] (fun _ iv wr => ∃ j : Nat, j ≤ n ∧ iv = .int .i64 (j : Int) ∧ Hid (wr.heap[g]? = some (.cells (fC (fun i => if i < j then i else 0) n) 3 (0, 0))) ∧ Hid (Keep [g] x3 wr)) (fun _ iv _ => n - (intOf iv).toNat)
    case atStart => exact ⟨0, Nat.zero_le _, rfl, by rw [show (fun i : Nat => if i < 0 then i else 0) = fun _ => 0 from by funext i; simp]; exact HG0.out, Keep.refl _ _⟩
    case round =>
      obtain ⟨j, hj, rfl, HG, HK⟩ := hrel
      by_cases hlt : j < n
      · have hjz : (j : Int) < (n : Int) := by omega
        have hjd : decide ((j : Int) < (n : Int)) = true := by simp; omega
        have hw1 : Hid (wrap64 ((j : Int) + 1) = (j : Int) + 1) := hw_inc j n hpn hj
        have HMS : Hid (n - (j + 1) < n - j) := by rw [Hid]; omega
        have c1 : wr.cell? ⟨g, j, none⟩ = some (.int .i64 0) := by
          rw [cell_at HG.out, fC_get _ hlt]; simp
        have c2 : wr.frozen? ⟨g, j, none⟩ = false := frozen_at HG.out j
        have HGS : Hid ((wr.setCell ⟨g, j, none⟩ (.int .i64 (j : Int))).heap[g]? = some (.cells (fC (fun i => if i < j + 1 then i else 0) n) 3 (0, 0))) := by
          rw [Hid, heap_set HG.out, fC_set _ j hlt]
          congr 3
          funext i
          unfold upF
          by_cases e : i = j
          · subst e; simp
          · rw [if_neg e]
            dsimp only
            by_cases h : i < j
            · rw [if_pos h, if_pos (by omega)]
            · rw [if_neg h, if_neg (by omega)]
        have HKS : Hid (Keep [g] x3 (wr.setCell ⟨g, j, none⟩ (.int .i64 (j : Int)))) := HK.out.setCell _ _ (Or.inl (by simp))
        have HJ : Hid (j + 1 ≤ n) := hlt
        clear hj
        go_wp2_with fail
        try (go_region; go_wp2_with fail)
        go_roundw
        case rel => exact ⟨j + 1, HJ.out, by first | rw [hw1.out]; go_num | go_num, HGS, HKS⟩
        case measure => first | (rw [hw1.out]; simpa [intOf] using HMS.out) | (simpa [intOf] using HMS.out)
      · obtain rfl : j = n := by omega
        have hjz : ¬ (j : Int) < (j : Int) := by omega
        have hjd : decide ((j : Int) < (j : Int)) = false := by simp
        have HFJ : Hid ((fun i : Nat => if i < j then i else 0) = fun i => if i < j then i else 0) := rfl
        have HGI : Hid (wr.heap[g]? = some (.cells (fC id j) 3 (0, 0))) := by
          rw [Hid, HG.out]
          congr 2
          unfold fC
          congr 1
          apply List.map_congr_left
          intro i hi
          have := List.mem_range.1 hi
          simp [this]
        have HB3 : Hid (Below w1.heap.size w1 wr) := HBx.out.trans (HK.out.below HBx.out.size (by simp; omega))
        have HSA : Hid (SAt wr wr g j id) := ⟨HGI.out, Keep.refl _ _, fun k hk => hk⟩
        have HPVr : Hid (wr.cell? ⟨w1.heap.size, 0, none⟩ = some (ptr P)) := by
          rw [Hid]; unfold World.cell?; rw [HK.out.block w1.heap.size (by have := HGN.out; omega) (by simp; omega)]; exact HPV.out
        have HPr : Hid (PAt wr w.heap.size P H.length p b V (.slice sa j cap) vp) := HP1.out.later HB3.out
        have hgg : w1.heap.size < g := by omega
        have HCM : Hid (CmpOk wr g j (.pointer (some ⟨w1.heap.size, 0, none⟩)) (kyD p)) := by
          refine ⟨fun i k => cmpT (nt p.txs i) (nt p.txs k), fun i k _ _ => ?_, fun w' hk i k hi hk' => ?_⟩
          · rw [← kyD_lt, ← cmpT_lt]; simp
          · have hb : Below w1.heap.size w1 w' := HB3.out.trans (hk.below HB3.out.size (by simp; omega))
            have hpl : w1.heap.size < w'.heap.size := by have := HGN.out; have := HB3.out.size; have := heap_lt HGI.out; have := hk.size; omega
            refine clo_any (HP1.out.later hb) hpl ?_ (by rw [HNE.out]; exact hi) (by rw [HNE.out]; exact hk')
            unfold World.cell?
            rw [hk.block w1.heap.size (by have := heap_lt HGI.out; omega) (by simp; omega)]
            exact HPVr.out
        have HCS := HSP.out wr g _ _ HCM.out HSA.out
        have hlw : w1.heap.size < wr.heap.size := by have := HB3.out.size; have := HGN.out; have := HK.out.size; omega
        clear HCM HSA HPr HG HK
        go_wp2_with fail
        refine HCS.mono ?_
        rintro e w5 ⟨rfl, f', hs5, hp5, hq5⟩
        have HK5 : Hid (Below w1.heap.size w1 w5) := HB3.out.trans (hs5.keep.below HB3.out.size (by simp; omega))
        have HO5 : Hid (w5.ownsRow w.heap.size 3 1 (.slice (some ⟨g, 0, none⟩) j j) j (iC (ordL f' j))) := own_row hs5.row (by have := HB1.out.size; omega) hpn
        have HP5 : Hid (PermOn id f' 0 j ∧ Srt (kyD p) f' 0 j) := ⟨hp5, hq5⟩
        clear hs5 hp5 hq5
        go_wp2_with fail
        go_ret2
        exact ⟨⟨_, f', rfl, by rw [HNE.out]; exact HO5.out, by rw [HNE.out]; exact HP5.out.1, by rw [HNE.out]; exact HP5.out.2⟩, HB1.out.trans (HK5.out.mono HB1.out.size)⟩
end Go.Proofs.YtadollckekddgaaDoor.Hi
