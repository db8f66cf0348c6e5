/- The program's find: a key is looked up in cells. -/
import Derived.Test.YtbajgbknjmbimabDiV
import Derived.Test.YtbajgbknjmbimabDiK
import Derived.Test.YtbajgbknjmbimabCoR
namespace Go.Proofs.Ytbajgbknjmbimab.Di
open Go.ChangeShapes Go.WideShapes Go.ChangeAt Go.RowKit
attribute [local go_sem ↓] Go.wp_at_zero Go.wp_at_succ

/-- The look's variable, as it lies. -/
structure FiM (w wr : World) (S : Nat) (s : Se) : Prop where
  bel : Below w.heap.size w wr
  se : SeAt wr S 0 51 #[] #[] s
  low : w.heap.size ≤ S
theorem FiM.go {w wr w' : World} {S : Nat} {s s' : Se} (h : FiM w wr S s) (hs : SeAt w' S 0 51 #[] #[] s') (hk : Keep [S] wr w') : FiM w w' S s' := ⟨h.bel.trans (hk.below h.bel.size (by simpa using h.low)), hs, h.low⟩
theorem new_se {w : World} {s : Se} {z : Array Value} (hz : z.size = 7) : ∃ w', (storeCells ⟨w.heap.size, 0, none⟩ (seC s).toList 0).run Try.prog (w.alloc (.cells z 51)) = .ok () w' ∧ FiM w w' w.heap.size s := by
  have h1 : (seC s).all (·.oneCell') = true := by simp [seC, Value.oneCell']
  have := run_storeCells_from (P := Try.prog) w.heap.size 51 (seC s).toList 0 z (w.alloc (.cells z 51)) (heap_alloc_new _ _) (by simp [hz, seC]) (fun v hv => (Array.all_eq_true_iff_forall_mem.1 h1) v (by simpa using hv))
  refine ⟨(w.alloc (.cells z 51)).setRow w.heap.size (seC s), by simpa using this, below_row (below_a1 _ _) _ (Nat.le_refl _) _, ⟨rfl, ?_⟩, Nat.le_refl _⟩
  rw [setRow_heap _ _ _ _ _ _ (heap_alloc_new w _)]
  simp
theorem lo_cell {s : Se} (h : Lo s) : 0 ≤ cellS s ∧ cellS s < 3 * s.most + 1 := by
  have h1 := h.ok.ls h.l
  have h2 := h.ok.st
  unfold cellS
  split <;> omega
def gS (s : Se) (m : Bool) : Nat := if m = true then (2 * s.left - s.asked + 2).toNat + 1 else 0
theorem gs_less {s : Se} (h : Lo s) (v : Int) : gS (goS s v).1 (goS s v).2.2 < gS s true := by
  unfold gS
  cases hg : (goS s v).2.2 with
  | true =>
    have := lo_less h v hg
    simp
    omega
  | false => simp
theorem ask_most (s : Se) : (askS s).1.most = s.most := by unfold askS; split <;> rfl
theorem go_most (s : Se) (v : Int) : (goS s v).1.most = s.most := by
  unfold goS
  split
  · split
    · rfl
    · split
      · split
        · rfl
        · split
          · exact (free_keeps s).2.1
          · rw [ask_most]; exact (free_keeps s).2.1
      · split
        · rfl
        · rw [ask_most]; rfl
  · rfl
set_option maxRecDepth 10000 in
theorem find_any {w : World} {key n : Int} {vc : Value} {C : List Int} (hc : Nl w vc C) (hn : 0 ≤ n ∧ n ≤ 16) (hC : (C.length : Int) = 3 * n + 1) : Calls Try.prog 21 #[.int .i64 key, .int .i64 n, vc] w fun e w' => e = .returned (.int .i64 (lookV C key n).1) ∧ Below w.heap.size w w' := by
  have HFO : Hid (∀ w : World, Calls Try.prog 18 #[.int .i64 key, .int .i64 n] w fun e w' => e = .returned (.agg (seC (mkS key n))) ∧ Below w.heap.size w w') := fun w => for_any w key n hn
  have HS : Hid (∀ (w : World) (S : Nat) (s : Se) (v : Int), SeAt w S 0 51 #[] #[] s → OkS s → Calls Try.prog 28 #[.pointer (some ⟨S, 0, none⟩), .int .i64 v] w fun e w' => e = .returned (.tuple #[.int .i64 (goS s v).2.1, .bool (goS s v).2.2]) ∧ SeAt w' S 0 51 #[] #[] (goS s v).1 ∧ Keep [S] w w') := fun w S s v h ok => snext_any h ok v
  obtain ⟨ca, cap, rfl⟩ := nl_slice hc
  obtain ⟨_, hcl, hcc⟩ := nl_cells hc
  have HCC : Hid (∀ i, i < C.length → ∃ x, ca = some x ∧ x.block < w.heap.size ∧ w.cell? (x.add i) = some (.int .i64 (nth C i))) := hcc
  have HN : Hid (0 ≤ n ∧ n ≤ 16) := hn
  have HCL : Hid ((C.length : Int) = 3 * n + 1) := hC
  obtain ⟨r, hr⟩ : ∃ r, (lookV C key n).1 = r := ⟨_, rfl⟩
  have HR : Hid ((lookV C key n).1 = r) := hr
  rw [hr]
  clear hc hcc hn hC hr
  go_enter Try.func21, Try.ntmps21
  go_wp2_with fail
  refine (HFO.out _).mono ?_
  rintro e w1 ⟨rfl, hb1⟩
  obtain ⟨w2, hs2, hf2⟩ := new_se (w := w1) (s := mkS key n) (z := #[.int .i64 0, .int .i64 0, .int .i64 0, .int .i64 0, .int .i64 0, .int .i64 0, .int .i64 0]) rfl
  have HF2 : Hid (FiM w w2 w1.heap.size (mkS key n) ∧ OkS (mkS key n)) := ⟨⟨below_then hb1 hf2.bel, hf2.se, hb1.size⟩, ok_mkS HN.out⟩
  have hz : (seC (mkS key n)).size = 7 := rfl
  have HLF : Hid (comes C (goS (mkS key n) 0).1 = lookV C key n ∧ ((goS (mkS key n) 0).2.2 = true → Lo (goS (mkS key n) 0).1 ∧ (goS (mkS key n) 0).2.1 = cellS (goS (mkS key n) 0).1) ∧ ((goS (mkS key n) 0).2.2 = false → (goS (mkS key n) 0).1.left = 0)) := lo_first HN.out 0
  generalize hcs : seC (mkS key n) = cs at *
  clear hb1 hf2 hcs HFO
  go_wp2_with fail
  refine (HS.out _ _ _ _ HF2.out.1.se HF2.out.2).mono ?_
  rintro e w3 ⟨rfl, hs3, hk3⟩
  have HF3 : Hid (FiM w w3 w1.heap.size (goS (mkS key n) 0).1 ∧ OkS (goS (mkS key n) 0).1) := ⟨HF2.out.1.go hs3 hk3, (ok_goS HF2.out.2 0).1⟩
  have HLR : Hid ((comes C (goS (mkS key n) 0).1).1 = r) := by rw [HLF.out.1]; exact HR.out
  clear hs3 hk3 HF2 hs2 hz
  have HMO : Hid ((goS (mkS key n) 0).1.most = n) := go_most _ _
  generalize hgo : goS (mkS key n) 0 = g at *
  obtain ⟨s1, c1, m1⟩ := g
  simp only at HF3 HLR HLF HMO ⊢
  generalize w1.heap.size = S at *
  clear hgo
  go_wp2_with fail
  go_loopg [8, 9] (gS s1 m1) (fun gh cv mv wr => ∃ (s : Se) (c : Int) (m : Bool), gS s m = gh ∧ s.most = n ∧ cv = .int .i64 c ∧ mv = .bool m ∧ FiM w wr S s ∧ OkS s ∧ (comes C s).1 = r ∧ (m = true → Lo s ∧ c = cellS s) ∧ (m = false → s.left = 0))
  case atStart => exact ⟨s1, c1, m1, rfl, HMO.out, rfl, rfl, HF3.out.1, HF3.out.2, HLR.out, HLF.out.2⟩
  case round =>
    obtain ⟨s, c, m, rfl, hmo, rfl, rfl, hfm, hok, hco, hlo, hle⟩ := hrel
    have HFM : Hid (FiM w wr S s ∧ OkS s ∧ (comes C s).1 = r) := ⟨hfm, hok, hco⟩
    cases m with
    | false =>
      have h0 := hle rfl
      have c6 : wr.cell? ⟨S, 6, none⟩ = some (.int .i64 r) := by
        have h1 := hfm.se.cell.2.2.2.2.2.2
        have h2 : (comes C s).1 = s.found := by unfold comes; rw [if_neg (by omega)]
        rw [← hco, h2]
        exact h1
      clear hfm hok hco hlo hle h0
      go_wp2_with fail
      go_ret
      exact ⟨rfl, HFM.out.1.bel⟩
    | true =>
      obtain ⟨hl, rfl⟩ := hlo rfl
      have HLO : Hid (Lo s) := hl
      obtain ⟨j, hj⟩ : ∃ j : Nat, cellS s = (j : Int) := ⟨(cellS s).toNat, by have := lo_cell hl; omega⟩
      have hjC : j < C.length := by have h1 := lo_cell hl; have h2 := HCL.out; omega
      obtain ⟨x, rfl, hxb, hxc⟩ := HCC.out j hjC
      have x1 : wr.cell? (x.add j) = some (.int .i64 (nth C j)) := cell_later hfm.bel (by rw [add_block]; exact hxb) hxc
      have HJ : Hid (nth C j = nth C (cellS s).toNat) := by rw [hj]; exact rfl
      rw [hj]
      generalize hv : nth C j = v at *
      have HST := lo_step (C := C) HLO.out v HJ.out
      have HLE : Hid (gS (goS s v).1 (goS s v).2.2 < gS s true) := gs_less HLO.out v
      have HMO2 : Hid ((goS s v).1.most = n) := by rw [go_most]; exact hmo
      have HSTH : Hid ((comes C (goS s v).1 = comes C s) ∧ ((goS s v).2.2 = true → Lo (goS s v).1 ∧ (goS s v).2.1 = cellS (goS s v).1) ∧ ((goS s v).2.2 = false → (goS s v).1.left = 0)) := HST
      clear hfm hok hco hlo hle hl hj hxb hxc hv HST HJ hmo
      go_wp2_with fail
      refine (HS.out _ _ _ _ HFM.out.1.se HFM.out.2.1).mono ?_
      rintro e w4 ⟨rfl, hs4, hk4⟩
      have HF4 : Hid (FiM w w4 S (goS s v).1 ∧ OkS (goS s v).1 ∧ (comes C (goS s v).1).1 = r) := ⟨HFM.out.1.go hs4 hk4, (ok_goS HFM.out.2.1 v).1, by rw [HSTH.out.1]; exact HFM.out.2.2⟩
      clear hs4 hk4 x1
      go_wp2_with fail
      go_roundg (gS (goS s v).1 (goS s v).2.2)
      case rel => exact ⟨_, _, _, rfl, HMO2.out, rfl, rfl, HF4.out.1, HF4.out.2.1, HF4.out.2.2, HSTH.out.2⟩
      case measure => exact HLE.out
end Go.Proofs.Ytbajgbknjmbimab.Di
