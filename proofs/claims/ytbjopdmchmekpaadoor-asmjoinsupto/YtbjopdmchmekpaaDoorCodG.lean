/- The program's Encode. -/
import Derived.Test.YtbjopdmchmekpaaDoorCodF
import Derived.Lib.AppendStr
namespace Go.Proofs.YtbjopdmchmekpaaDoor
open Go.ChangeShapes Go.WideShapes Go.ChangeAt Go.RowKit

theorem info_u8 : (Tryd.prog.info? 5).map (fun i => (i.zero, i.size, i.bytes)) = some (some (.int .u8 0), 1, 1) := by kernel_rfl
/-- 'string(b)' of a row that the call owns. -/
theorem conv_own (w : World) (base : Nat) (v : Value) (n : Nat) (xs : List Int) (hown : w.ownsRow base 5 1 v n (xs.map (Value.int .u8))) :
    (convert 61 9 v).run Tryd.prog w = .ok (.string (strOfNums xs)) w := by
  obtain ⟨hl, h⟩ := hown
  have hl' : xs.length = n := by simpa using hl
  rcases h with ⟨rfl, rfl⟩ | ⟨g, cap, cur, rfl, _, hb, hn, _, hc, ht⟩
  · have : xs = [] := List.length_eq_zero_iff.1 hl'
    subst this
    rw [run_convert_bytes_nil w 61 5 Tryd.underlying61 Tryd.underlying5 0 0 9 Tryd.underlying9]
    rfl
  · refine run_convert_bytes_arg _ 61 5 Tryd.underlying61 Tryd.underlying5 g 0 n cap xs hl' (fun i hi => ?_) 9 Tryd.underlying9
    have hi' : i < xs.length := by omega
    have e1 : (cur.toList.take (n * 1))[i]? = some (Value.int .u8 (xs.getD i 0)) := by
      rw [ht]
      simp [List.getElem?_eq_getElem hi', List.getD]
    rw [List.getElem?_take] at e1
    split at e1
    · simp only [World.cell?, hb, Nat.zero_add]
      simpa using e1
    · cases e1
theorem strCells_nums (l : List Int) (h : ∀ x ∈ l, 0 ≤ x ∧ x < 256) : Lib.strCells (strOfNums l) = l.map (Value.int .u8) := by
  unfold Lib.strCells
  rw [strOfNums_data, List.map_map]
  apply List.map_congr_left
  intro x hx
  have := h x hx
  simp only [Function.comp, UInt8.toNat_ofNat']
  congr 1
  omega
theorem enc_step (l : List (Int × Int)) (i : Nat) (h : i < l.length) (bs : List Int) : encG (l.drop i) i bs = encG ((l.getD i (0, 0)) :: l.drop (i + 1)) i bs := by
  congr 1
  rw [List.drop_eq_getElem_cons h]
  simp [List.getD, h]
theorem bs_bd {bs : List Int} {c : Int} {x : Int} (h : ∀ y ∈ bs, 0 ≤ y ∧ y < 256) (ho : okI c x) : ∀ y ∈ bs ++ bytesI c.toNat x, 0 ≤ y ∧ y < 256 := fun y hy => by
  rcases List.mem_append.1 hy with hy | hy
  · exact h y hy
  · obtain ⟨h1, h2, _, _⟩ := ho
    exact bytesI_bd (by omega) x y hy
set_option maxRecDepth 100000 in
theorem enc_any {w : World} {v : Value} {l : List (Int × Int)} (hT : Tab w) (hv : OLst w v l) : Calls Tryd.prog 14 #[v] w fun e w' => e = .returned (.tuple #[.string (strOfNums (encV l).1), .int .i64 (encV l).2.1, .int .i64 (encV l).2.2]) ∧ Below w.heap.size w w' := by
  obtain ⟨a, cap, rfl, hlen, hl⟩ := hv
  obtain ⟨i0, hi, hz0, hz1, hz2⟩ := info_parts info_u8
  have HL : Hid (l.length = 0 ∨ ∃ x, a = some x ∧ x.block < w.heap.size ∧ ∀ i, i < l.length → w.cell? (x.add (i * 2)) = some (.int .i64 (l.getD i (0, 0)).1) ∧ w.cell? ⟨(x.add (i * 2)).block, (x.add (i * 2)).off + 1, none⟩ = some (.int .i64 (l.getD i (0, 0)).2)) := hl
  have HT : Hid (Tab w) := hT
  clear hl hT
  go_enter Tryd.func14, Tryd.ntmps14
  go_wp2
  go_loopw [5, 12] (fun v i wr => ∃ (j : Nat) (bs : List Int), j ≤ l.length ∧ i = .int .i64 (j : Int) ∧ bs.length ≤ 512 ∧ (∀ y ∈ bs, 0 ≤ y ∧ y < 256) ∧ encV l = encG (l.drop j) j bs ∧ wr.ownsRow w.heap.size 5 1 v bs.length (bs.map (Value.int .u8)) ∧ Below w.heap.size w wr) (fun _ i _ => l.length - (intOf i).toNat)
  case atStart => exact ⟨0, [], by omega, rfl, by simp, by simp, rfl, World.ownsRow_nil _ _ _ _, Below.refl _ _⟩
  case round =>
    obtain ⟨j, bs, hj, rfl, hbs, hbd, henc, hown, hbel⟩ := hrel
    have HE : Hid (encV l = encG (l.drop j) j bs) := henc
    have HO : Hid (wr.ownsRow w.heap.size 5 1 u5 bs.length (bs.map (Value.int .u8))) := hown
    have HB : Hid (Below w.heap.size w wr) := hbel
    have HD : Hid (∀ y ∈ bs, 0 ≤ y ∧ y < 256) := hbd
    obtain ⟨va, vc, rfl⟩ := own_slice hown
    clear henc hown hbel hbd
    by_cases hlt : j < l.length
    · have hjd : decide ((j : Int) < (l.length : Int)) = true := by simp; omega
      obtain ⟨x, rfl, hxb, hxc⟩ := HL.out.resolve_left (by omega)
      obtain ⟨x1, x2⟩ := hxc j hlt
      have z1 : wr.cell? (x.add (j * 2)) = some (.int .i64 (l.getD j (0, 0)).1) := cell_later HB.out (by rw [add_block]; exact hxb) x1
      have z2 : wr.cell? ⟨(x.add (j * 2)).block, (x.add (j * 2)).off + 1, none⟩ = some (.int .i64 (l.getD j (0, 0)).2) := cell_later (a := ⟨(x.add (j * 2)).block, (x.add (j * 2)).off + 1, none⟩) HB.out (show (x.add (j * 2)).block < _ by rw [add_block]; exact hxb) x2
      have HS : Hid (encV l = encG ((l.getD j (0, 0)) :: l.drop (j + 1)) j bs) := by rw [Hid, HE.out, enc_step l j hlt]
      obtain ⟨b, e0, hlay, hcs⟩ := layop_any (l.getD j (0, 0)).1 (l.getD j (0, 0)).2 ((HT.out.later HB.out).later (below_a1 wr (.cells #[.int .i64 (l.getD j (0, 0)).1, .int .i64 (l.getD j (0, 0)).2] 53)))
      obtain ⟨c, hc⟩ : ∃ c, (l.getD j (0, 0)).1 = c := ⟨_, rfl⟩
      obtain ⟨y, hy⟩ : ∃ y, (l.getD j (0, 0)).2 = y := ⟨_, rfl⟩
      have hcy : l.getD j (0, 0) = (c, y) := by rw [← hc, ← hy]
      rw [hc] at z1 hlay hcs
      rw [hy] at z2 hlay hcs
      have HY : Hid (Calls Tryd.prog 29 #[.agg #[.int .i64 c, .int .i64 y]] (wr.alloc (.cells #[.int .i64 c, .int .i64 y] 53)) (fun r w' => r = .returned (.tuple #[.string b, .int .i64 e0]) ∧ Below (wr.alloc (.cells #[.int .i64 c, .int .i64 y] 53)).heap.size (wr.alloc (.cells #[.int .i64 c, .int .i64 y] 53)) w')) := hlay
      have HCY : Hid (l.getD j (0, 0) = (c, y)) := hcy
      clear hlay hc hy hcy hxc x1 x2 HE
      rcases hcs with ⟨q1, rfl, rfl⟩ | ⟨q1, q2, rfl, rfl⟩ | ⟨q1, rfl, hb⟩
      · have HF : Hid (encV l = ([], 10, (j : Int))) := by
          rw [Hid, HS.out, HCY.out]; unfold encG; rw [if_pos q1]
        clear q1 HS hi hz0 hz1 hz2
        generalize bs.length = B at *
        generalize l.length = L at *
        go_wp2_with fail
        refine HY.out.mono ?_
        rintro e w1 ⟨rfl, hb1⟩
        go_wp2
        go_ret3
        rw [HF.out]
        exact ⟨rfl, below_then (below_then HB.out (below_a1 _ _)) hb1⟩
      · have HF : Hid (encV l = ([], 12, (j : Int))) := by
          rw [Hid, HS.out, HCY.out]; unfold encG; rw [if_neg (Classical.not_not.2 q1), if_pos q2]
        clear q1 q2 HS hi hz0 hz1 hz2
        generalize bs.length = B at *
        generalize l.length = L at *
        go_wp2_with fail
        refine HY.out.mono ?_
        rintro e w1 ⟨rfl, hb1⟩
        go_wp2
        go_ret3
        rw [HF.out]
        exact ⟨rfl, below_then (below_then HB.out (below_a1 _ _)) hb1⟩
      · have hbz : b.size = 1 + wdC c.toNat := by rw [hb, strOfNums_size, bytesI_len]
        have HBZ : Hid (Lib.strCells b = (bytesI c.toNat y).map (Value.int .u8)) := by
          rw [Hid, hb]; exact strCells_nums _ (fun z hz => bytesI_bd (by obtain ⟨p1, p2, _, _⟩ := q1; omega) _ z hz)
        have hw8 : wdC c.toNat ≤ 8 := by have := wd_cases c.toNat; omega
        have HQ : Hid (okI c y) := q1
        have HS2 : Hid (encV l = if 512 < bs.length + (1 + wdC c.toNat) then ([], 2, (j : Int)) else encG (l.drop (j + 1)) (j + 1) (bs ++ bytesI c.toNat y)) := by
          rw [Hid, HS.out, HCY.out]
          obtain ⟨p1, p2, p3, p4⟩ := q1
          conv => lhs; unfold encG
          rw [if_neg (by omega), if_neg (by omega)]
        have HLB : Hid ((bs ++ bytesI c.toNat y).length = bs.length + (1 + wdC c.toNat)) := by rw [Hid, List.length_append, bytesI_len]
        have HMP : Hid ((bs ++ bytesI c.toNat y).map (Value.int .u8) = bs.map (Value.int .u8) ++ (bytesI c.toNat y).map (Value.int .u8)) := List.map_append
        have HBB : Hid (∀ z ∈ bs ++ bytesI c.toNat y, 0 ≤ z ∧ z < 256) := bs_bd HD.out q1
        have hws : wrap64 ((bs.length : Int) + (b.size : Int)) = (bs.length : Int) + (b.size : Int) := by unfold wrap64; omega
        clear hb q1 HS
        by_cases hful : 512 < bs.length + (1 + wdC c.toNat)
        · have HF : Hid (encV l = ([], 2, (j : Int))) := by rw [Hid, HS2.out, if_pos hful]
          have hsd : decide ((512 : Int) < (bs.length : Int) + (b.size : Int)) = true := by simp; omega
          clear HS2 hi hz0 hz1 hz2 HBZ
          generalize bs.length = B at *
          generalize l.length = L at *
          go_wp2_with fail
          refine HY.out.mono ?_
          rintro e w1 ⟨rfl, hb1⟩
          go_wp2
          go_ret3
          rw [HF.out]
          exact ⟨rfl, below_then (below_then HB.out (below_a1 _ _)) hb1⟩
        · have HF : Hid (encV l = encG (l.drop (j + 1)) (j + 1) (bs ++ bytesI c.toNat y)) := by rw [Hid, HS2.out, if_neg hful]
          have hsd : decide ((512 : Int) < (bs.length : Int) + (b.size : Int)) = false := by simp; omega
          clear HS2
          generalize 1 + wdC c.toNat = n at *
          generalize bs ++ bytesI c.toNat y = bs' at *
          generalize bs.length = B at *
          generalize l.length = L at *
          go_wp2_with fail
          refine HY.out.mono ?_
          rintro e w1 ⟨rfl, hb1⟩
          have HB1 : Hid (Below w.heap.size w w1) := below_then (below_then HB.out (below_a1 _ _)) hb1
          have HO1 : Hid (w1.ownsRow w.heap.size 5 1 (.slice va B vc) B (bs.map (Value.int .u8))) := own_keep HO.out (Keep.of_below (below_then (below_a1 _ _) hb1) []) (by simp)
          have hsz1 : w.heap.size ≤ w1.heap.size := HB1.out.size
          clear hb1 HB HO
          go_wp2_with (at_builtin; refine Lib.wpList_append_own_string _ rfl _ _ 61 9 rfl w.heap.size 5 i0 Tryd.underlying61 Tryd.underlying9 hi hz0 hz1 hz2 _ _ _ rfl HO1.out b rfl ?c1 ?c2 ?c3 ?_)
          case c1 => unfold maxLen; omega
          case c2 => omega
          case c3 => omega
          intro v' w2 hown' hgrow _
          have HO2 : Hid (w2.ownsRow w.heap.size 5 1 v' bs'.length (bs'.map (Value.int .u8))) := by
            rw [Hid, HLB.out, HMP.out, ← HBZ.out]; exact hown'
          have HB2 : Hid (Below w.heap.size w w2) := HB1.out.grown hgrow hsz1 (fun b hb => by have := own_block HO1.out b hb; omega)
          clear hown' hgrow
          go_wp2
          go_roundw
          case rel => exact ⟨j + 1, bs', by omega, by go_num, by rw [HLB.out]; omega, HBB.out, HF.out, HO2.out, HB2.out⟩
          case measure => simp [intOf]; omega
    · obtain rfl : j = l.length := by omega
      have HF : Hid (encV l = (bs, 0, 0)) := by rw [Hid, HE.out, List.drop_length]; rfl
      have hcv := conv_own _ _ _ _ _ HO.out
      clear HE hi hz0 hz1 hz2
      generalize bs.length = B at *
      generalize l.length = L at *
      go_wp2
      go_ret3
      rw [HF.out]
      exact ⟨rfl, HB.out⟩
end Go.Proofs.YtbjopdmchmekpaaDoor
