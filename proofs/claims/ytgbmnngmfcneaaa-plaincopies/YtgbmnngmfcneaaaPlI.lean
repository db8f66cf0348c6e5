/- A collection's do: the program's. -/
import Derived.Test.YtgbmnngmfcneaaaPlH
namespace Go.Proofs.Ytgbmnngmfcneaaa.Pl
open Go.ChangeShapes Go.WideShapes Go.ChangeAt Go.RowKit
attribute [local go_sem ↓] Go.wp_at_zero Go.wp_at_succ

theorem Did3.no {w w' : World} {B g o : Nat} {L : List Value} {c : Co} {v p : Value} (h : ColAt w B g o L c v p) (hb : Below w.heap.size w w') (x : Int × Int × Int) : Did3 w B g o L v p (x, c) (.returned (.tuple #[.int .i64 x.1, .int .i64 x.2.1, .int .i64 x.2.2])) w' :=
  ⟨rfl, v, p, by rw [h.L2]; exact h.later hb, Keep.of_below hb _, Fr.refl _ _, Fr.refl _ _⟩
theorem enter_all (j : Nat) (hj : j < 15) (args : Array Value) (w : World) : (callFunc (nthT j).2.2.2 args).run Try.prog w = .ok (.enter (nthT j).2.2.2 args) w := by
  match j, hj with
  | 0, _ => rfl
  | 1, _ => rfl
  | 2, _ => rfl
  | 3, _ => rfl
  | 4, _ => rfl
  | 5, _ => rfl
  | 6, _ => rfl
  | 7, _ => rfl
  | 8, _ => rfl
  | 9, _ => rfl
  | 10, _ => rfl
  | 11, _ => rfl
  | 12, _ => rfl
  | 13, _ => rfl
  | 14, _ => rfl
theorem do_any {w : World} {B g o : Nat} {L : List Value} {c : Co} {v p va : Value} {a : List Int} (call : Int) (h : ColAt w B g o L c v p) (ha : Nl w va a) (hB : B ≤ w.heap.size) (hd : a.length ≠ 0 → ∀ x n cp, va = .slice (some x) n cp → v.ownBlock ≠ some x.block) : Calls Try.prog 30 #[.pointer (some ⟨g, o, none⟩), .int .i64 call, va] w (Did3 w B g o L v p (actV c call a)) := by
  have HK : Hid (∀ w : World, Calls Try.prog 45 #[] w fun e w' => ∃ g, e = .returned (.slice (some ⟨g, 0, none⟩) 15 15) ∧ Below w.heap.size w w' ∧ w'.heap[g]? = some (.cells tabC.toArray 94 (0, 0))) := fun w => known_any w
  obtain ⟨a2, c2, rfl⟩ := nl_slice ha
  have HH : Hid (∀ (w' : World) (j : Nat), Below w.heap.size w w' → j < 15 → (nthT j).1 = c.kd → (nthT j).2.1 = call → (nthT j).2.2.1 = (a.length : Int) → arV c.kd call = (a.length : Int) ∧ Calls Try.prog (nthT j).2.2.2 #[.pointer (some ⟨g, o, none⟩), .slice a2 a.length c2] w' (Did w' B g o L v p (doV c call a))) := fun w' j hb hj h1 h2 h3 => hit_any call (h.later hb) (ha.later hb (Nat.le_refl _)) (Nat.le_trans hB hb.size) hd j hj h1 h2 h3
  have H : Hid (ColAt w B g o L c v p) := h
  have hgl := heap_lt h.hg
  have h0 := h.cells.1
  have hal : a.length ≤ 17592186044416 := (nl_cells ha).2.1
  clear h ha hd hB
  go_enter Try.func30, Try.ntmps30
  go_wp2_with fail
  refine (HK.out _).mono ?_
  rintro e w1 ⟨gt, rfl, hb1, hgt⟩
  have HB1 : Hid (Below w.heap.size w w1) := hb1
  have HT : Hid (∀ (wr : World) (j : Nat), Below w1.heap.size w1 wr → j < 15 → wr.cell? ⟨gt, j * 4, none⟩ = some (.int .i64 (nthT j).1) ∧ wr.cell? ⟨gt, j * 4 + 1, none⟩ = some (.int .i64 (nthT j).2.1) ∧ wr.cell? ⟨gt, j * 4 + 2, none⟩ = some (.int .i64 (nthT j).2.2.1) ∧ wr.cell? ⟨gt, j * 4 + 3, none⟩ = some (.func (.func (nthT j).2.2.2) #[] #[])) := fun wr j hb hj => tab_cells (by rw [hb.block _ (heap_lt hgt)]; exact hgt) j hj
  have h01 : w1.cell? ⟨g, o, none⟩ = some (.int .i64 c.kd) := cell_later hb1 (a := ⟨g, o, none⟩) hgl h0
  have hgl1 : g < w1.heap.size := Nat.lt_of_lt_of_le hgl hb1.size
  clear hb1 hgt h0 HK hgl
  go_wp2_with fail
  go_loopw [15] (fun iv wr => ∃ j : Nat, j ≤ 15 ∧ iv = .int .i64 (j : Int) ∧ Hid (∀ i, i < j → ¬ ((nthT i).1 = c.kd ∧ (nthT i).2.1 = call ∧ (nthT i).2.2.1 = (a.length : Int))) ∧ Below w1.heap.size w1 wr) (fun iv _ => 15 - (intOf iv).toNat)
  case atStart => exact ⟨0, by omega, rfl, fun i hi => by omega, Below.refl _ _⟩
  case round =>
    obtain ⟨j, hj, rfl, HN, hbel⟩ := hrel
    have HB : Hid (Below w1.heap.size w1 wr) := hbel
    by_cases hlt : j < 15
    · obtain ⟨t0, t1, t2, t3⟩ := HT.out wr j hbel hlt
      have k0 : wr.cell? ⟨g, o, none⟩ = some (.int .i64 c.kd) := cell_later hbel (a := ⟨g, o, none⟩) hgl1 h01
      have HHj : Hid ((nthT j).1 = c.kd → (nthT j).2.1 = call → (nthT j).2.2.1 = (a.length : Int) → ∀ w' : World, Below w.heap.size w w' → arV c.kd call = (a.length : Int) ∧ Calls Try.prog (nthT j).2.2.2 #[.pointer (some ⟨g, o, none⟩), .slice a2 a.length c2] w' (Did w' B g o L v p (doV c call a))) := fun h1 h2 h3 w' hb => HH.out w' j hb hlt h1 h2 h3
      have hen : ∀ args w, (callFunc (nthT j).2.2.2 args).run Try.prog w = .ok (.enter (nthT j).2.2.2 args) w := fun args w => enter_all j hlt args w
      have HX0 : Hid (¬ ((nthT j).1 = c.kd ∧ (nthT j).2.1 = call ∧ (nthT j).2.2.1 = (a.length : Int)) → ∀ i, i < j + 1 → ¬ ((nthT i).1 = c.kd ∧ (nthT i).2.1 = call ∧ (nthT i).2.2.1 = (a.length : Int))) := fun hn i hi => by
        by_cases e : i = j
        · rw [e]; exact hn
        · exact HN.out i (by omega)
      have hjd : decide ((j : Int) < 15) = true := by simp; omega
      have hw : wrap64 ((j : Int) + 1) = (j : Int) + 1 := by unfold wrap64; omega
      have HM : Hid (15 - (j + 1) < 15 - j) := by unfold Hid; omega
      obtain ⟨tk, htk⟩ : ∃ x, (nthT j).1 = x := ⟨_, rfl⟩
      obtain ⟨tc, htc⟩ : ∃ x, (nthT j).2.1 = x := ⟨_, rfl⟩
      obtain ⟨ta, hta⟩ : ∃ x, (nthT j).2.2.1 = x := ⟨_, rfl⟩
      obtain ⟨tf, htf⟩ : ∃ x, (nthT j).2.2.2 = x := ⟨_, rfl⟩
      rw [htk] at t0 HHj HX0
      rw [htc] at t1 HHj HX0
      rw [hta] at t2 HHj HX0
      rw [htf] at t3 HHj hen
      have hl4 : gt < wr.heap.size := World.block_lt_of_cell? _ _ t0
      have hl5 : g < wr.heap.size := World.block_lt_of_cell? _ _ k0
      clear htk htc hta htf HT HH hbel HN h01
      by_cases e1 : tk = c.kd
      · have e1' : (tk == c.kd) = true := by simpa using e1
        by_cases e2 : tc = call
        · have e2' : (tc == call) = true := by simpa using e2
          by_cases e3 : ta = (a.length : Int)
          · have e3' : (ta == (a.length : Int)) = true := by simpa using e3
            have HG := HHj.out e1 e2 e3
            have HGH : Hid (∀ w' : World, Below w.heap.size w w' → arV c.kd call = (a.length : Int) ∧ Calls Try.prog tf #[.pointer (some ⟨g, o, none⟩), .slice a2 a.length c2] w' (Did w' B g o L v p (doV c call a))) := HG
            clear HG e1 e2 e3 HHj HX0
            go_wp2_with fail
            go_quiet (fail)
            go_wp2_with fail
            obtain ⟨wz, hwz⟩ : ∃ wz, wz = (wr.alloc (.cells #[.int .i64 tk, .int .i64 tc, .int .i64 ta, .func (.func tf) #[] #[]] 94)).drewN nq := ⟨_, rfl⟩
            rw [← hwz]
            have hbz : Below w.heap.size w wz := by
              rw [hwz]
              exact HB1.out.trans ((HB.out.trans ((below_drawn (below_a1 _ _) _).mono HB.out.size)).mono HB1.out.size)
            obtain ⟨har, hcl⟩ := HGH.out wz hbz
            have HA : Hid (actV c call a = (((doV c call a).1.1, (doV c call a).1.2, 0), (doV c call a).2)) := by rw [Hid, actV, if_pos har]
            have HZ : Hid (Below w.heap.size w wz) := hbz
            clear hwz hbz har HGH
            refine hcl.mono ?_
            rintro e w2 ⟨rfl, hd2⟩
            have HD : Hid (∃ v' p', ColAt w2 B g o ((L.set (o + 2) v').set (o + 3) p') (doV c call a).2 v' p' ∧ Keep (g :: (v.ownBlock.toList ++ p.ownBlock.toList)) wz w2 ∧ Fr wz v v' ∧ Fr wz p p') := hd2
            clear hd2 hcl
            go_wp2_with fail
            go_ret3
            obtain ⟨v', p', hc', hn', hf1, hf2⟩ := HD.out
            rw [HA.out]
            exact ⟨rfl, v', p', hc', (Keep.of_below HZ.out _).trans hn' (fun b hb => Or.inl hb), Fr.later HZ.out.size hf1, Fr.later HZ.out.size hf2⟩
          · have e3' : (ta == (a.length : Int)) = false := by simpa using e3
            have HX := HX0.out (fun h => e3 h.2.2)
            have HX : Hid _ := HX
            clear e1 e2 e3 HX0 HHj
            go_wp2_with fail
            go_quiet (fail)
            go_wp2_with fail
            go_roundw
            case rel => exact ⟨j + 1, hlt, by go_num, HX.out, HB.out.trans (((below_drawn (below_a1 _ _) _)).mono HB.out.size)⟩
            case measure => simpa [intOf] using HM.out
        · have e2' : (tc == call) = false := by simpa using e2
          have HX := HX0.out (fun h => e2 h.2.1)
          have HX : Hid _ := HX
          clear e1 e2 HX0 HHj
          go_wp2_with fail
          go_quiet (fail)
          go_wp2_with fail
          go_roundw
          case rel => exact ⟨j + 1, hlt, by go_num, HX.out, HB.out.trans (((below_drawn (below_a1 _ _) _)).mono HB.out.size)⟩
          case measure => simpa [intOf] using HM.out
      · have e1' : (tk == c.kd) = false := by simpa using e1
        have HX := HX0.out (fun h => e1 h.1)
        have HX : Hid _ := HX
        clear e1 HX0 HHj
        go_wp2_with fail
        go_quiet (fail)
        go_wp2_with fail
        go_roundw
        case rel => exact ⟨j + 1, hlt, by go_num, HX.out, HB.out.trans (((below_drawn (below_a1 _ _) _)).mono HB.out.size)⟩
        case measure => simpa [intOf] using HM.out
    · obtain rfl : j = 15 := by omega
      have hne : arV c.kd call ≠ (a.length : Int) := no_hit HN.out
      have HA : Hid (actV c call a = ((0, 0, 1), c)) := by rw [Hid, actV, if_neg hne]
      clear HT HH HN hne
      go_wp2_with fail
      go_ret3
      rw [HA.out]
      exact Did3.no H.out (HB1.out.trans (HB.out.mono HB1.out.size)) (0, 0, 1)
end Go.Proofs.Ytgbmnngmfcneaaa.Pl
