/- CodeOwns, walked. -/
import Derived.Test.YtfkbpmahedmbhabDoorCodD
import Derived.Test.YtfkbpmahedmbhabDoorCodG
import Derived.Test.YtfkbpmahedmbhabDoorAppW
import Derived.Deep.CutBlock
import Derived.Deep.DeepCutAuto
import Derived.Deep.LoopGhost
namespace Go.Proofs.YtfkbpmahedmbhabDoor
open Go.ChangeShapes Go.WideShapes Go.ChangeAt Go.RowKit

theorem OLst.keep {w w' : World} {F : List Nat} {v : Value} {l : List (Int × Int)} (h : OLst w v l) (hk : Keep F w w') (hF : ∀ a n c, v = .slice (some a) n c → a.block ∉ F) : OLst w' v l := by
  obtain ⟨a, cap, hv, hm, hl⟩ := h
  refine ⟨a, cap, hv, hm, ?_⟩
  rcases hl with h0 | ⟨x, hx, hxb, hc⟩
  · exact Or.inl h0
  · have hb := hk.block x.block hxb (hF x _ _ (by rw [hv, hx]))
    have hcell : ∀ (y : Addr), y.block = x.block → w'.cell? y = w.cell? y := fun y hy => by
      unfold World.cell?
      rw [hy, hb]
    exact Or.inr ⟨x, hx, Nat.lt_of_lt_of_le hxb hk.size, fun i hi => ⟨by rw [hcell _ (add_block _ _)]; exact (hc i hi).1, by rw [hcell ⟨(x.add (i * 2)).block, (x.add (i * 2)).off + 1, none⟩ (show (x.add (i * 2)).block = x.block from add_block _ _)]; exact (hc i hi).2⟩⟩
theorem take_snoc (l : List (Int × Int)) (j : Nat) (h : j < l.length) : opsC (l.take (j + 1)) = opsC (l.take j) ++ [.int .i64 (l.getD j (0, 0)).1, .int .i64 (l.getD j (0, 0)).2] := by
  rw [List.take_succ_eq_append_getElem h, opsC_snoc]
  simp [List.getD, h]
theorem meas_lt (n j : Nat) (h : j < n) (hw : wrap64 ((j : Int) + 1) = ((j + 1 : Nat) : Int)) : n - (intOf (Value.int .i64 (wrap64 ((j : Int) + 1)))).toNat < n - (intOf (Value.int .i64 (j : Int))).toNat := by
  rw [hw]
  simp [intOf]
  omega
theorem wr_dl (n j : Nat) (h : n ≤ 512) (hj : j < n) : wrap64 ((j : Int) + 1) = ((j + 1 : Nat) : Int) := by unfold wrap64; omega
set_option maxHeartbeats 2000000 in
theorem wowns {w : World} (v : Value) (l : List (Int × Int)) (hv : OLst w v l) (s : ByteArray) (hs : s.size ≤ maxLen) (hT : Tab w) :
    Calls Tryd.prog 4 #[v, .string s] w fun e w' => e = .returned (.bool true) ∧ Below w.heap.size w w' := by
  have hs' : s.size ≤ 9223372036854775807 := by unfold maxLen at hs; omega
  have HV : Hid (OLst w v l) := hv
  have HT : Hid (Tab w) := hT
  have HL : Hid ((decV s).1.length ≤ 512) := decV_len s
  obtain ⟨i0, hi, hz0, hz1, hz2⟩ := info_parts info_op
  obtain ⟨a, cap, rfl, hlen, hl⟩ := hv
  have HROW : Hid (l.length = 0 ∨ ∃ x, a = some x ∧ x.block < w.heap.size ∧ ∀ i, i < l.length → w.cell? (x.add (i * 2)) = some (.int .i64 (l.getD i (0, 0)).1) ∧ w.cell? ⟨(x.add (i * 2)).block, (x.add (i * 2)).off + 1, none⟩ = some (.int .i64 (l.getD i (0, 0)).2)) := hl
  clear hl hT hs
  go_enter Tryd.func4, Tryd.ntmps4
  go_upto_block 0 with fail
  go_cut [5] (fun hv wx => wx.ownsRow w.heap.size 27 2 hv l.length (opsC l) ∧ Below w.heap.size w wx)
  case first =>
    go_wp2_with fail
    go_loopw [5, 6] (fun hv iv wr => ∃ j : Nat, j ≤ l.length ∧ iv = .int .i64 (j : Int) ∧ wr.ownsRow w.heap.size 27 2 hv j (opsC (l.take j)) ∧ Below w.heap.size w wr) (fun _ iv _ => l.length - (intOf iv).toNat)
    case atStart => exact ⟨0, by omega, rfl, World.ownsRow_nil _ _ _ _, Below.refl _ _⟩
    case round =>
      obtain ⟨j, hj, rfl, hown, hbel⟩ := hrel
      have HO : Hid (wr.ownsRow w.heap.size 27 2 u5 j (opsC (l.take j))) := hown
      have HB : Hid (Below w.heap.size w wr) := hbel
      have hsz : w.heap.size ≤ wr.heap.size := hbel.size
      clear hown hbel
      by_cases hlt : j < l.length
      · have hjd : decide ((j : Int) < (l.length : Int)) = true := by simp; omega
        obtain ⟨x, rfl, hxb, hxc⟩ := HROW.out.resolve_left (by omega)
        obtain ⟨x1, x2⟩ := hxc j hlt
        have z1 : wr.cell? (x.add (j * 2)) = some (.int .i64 (l.getD j (0, 0)).1) := cell_later HB.out (by rw [add_block]; exact hxb) x1
        have z2 : wr.cell? ⟨(x.add (j * 2)).block, (x.add (j * 2)).off + 1, none⟩ = some (.int .i64 (l.getD j (0, 0)).2) := cell_later (a := ⟨(x.add (j * 2)).block, (x.add (j * 2)).off + 1, none⟩) HB.out (show (x.add (j * 2)).block < _ by rw [add_block]; exact hxb) x2
        have HSN : Hid (opsC (l.take (j + 1)) = opsC (l.take j) ++ [.int .i64 (l.getD j (0, 0)).1, .int .i64 (l.getD j (0, 0)).2]) := take_snoc l j hlt
        generalize (l.getD j (0, 0)).1 = c at *
        generalize (l.getD j (0, 0)).2 = y at *
        obtain ⟨va, vc, rfl⟩ := own_slice HO.out
        clear hxc x1 x2 HROW
        go_wp2_with (at_builtin; refine list_lies_wide _ rfl _ _ 22 rfl w.heap.size 27 i0 _ 2 16 Tryd.underlying22 hi hz0 hz1 hz2 rfl (by decide) _ _ _ rfl (HO.out.alloc _) ⟨wr.heap.size, 0, none⟩ 1 1 [.int .i64 c, .int .i64 y] rfl rfl ?c1 ?c2 ?c3 ?c4 ?c5 ?c6 _ rfl ?_)
        case c1 => exact World.news_of_block (cs := #[.int .i64 c, .int .i64 y]) (t := 27) (fr := (0, 0)) (heap_alloc_new _ _)
        case c2 => intro u hu; simp at hu; rcases hu with rfl | rfl <;> rfl
        case c3 => decide
        case c4 => unfold maxLen; omega
        case c5 => omega
        case c6 => simp; omega
        intro g cp w2 hown' hgrow _ _
        have HO2 : Hid (w2.ownsRow w.heap.size 27 2 (.slice (some ⟨g, 0, none⟩) (j + 1) cp) (j + 1) (opsC (l.take (j + 1)))) := by rw [Hid, HSN.out]; exact hown'
        have HB2 : Hid (Below w.heap.size w w2) := (below_alloc HB.out _).grown hgrow (by simp; omega) (fun b hb => by have := own_block HO.out b hb; omega)
        clear hown' hgrow
        go_wp2
        go_roundw
        case rel => exact ⟨j + 1, by omega, by go_num, HO2.out, HB2.out⟩
        case measure => simp [intOf]; omega
      · obtain rfl : j = l.length := by omega
        have HO2 : Hid (wr.ownsRow w.heap.size 27 2 u5 l.length (opsC l)) := by
          have := HO.out
          rw [List.take_length] at this
          exact this
        clear HO
        go_wp2_with fail
        go_meet
        exact ⟨HO2.out, HB.out⟩
  case rest =>
    obtain ⟨hoH, hbH⟩ := hcut
    have HOH : Hid (wc.ownsRow w.heap.size 27 2 u5 l.length (opsC l)) := hoH
    have HBH : Hid (Below w.heap.size w wc) := hbH
    have HH : Hid (∀ w', Below wc.heap.size wc w' → OLst w' u5 l) := fun w' hb => (OLst.of_own HOH.out hlen).later hb (Nat.le_refl _)
    have HVV : Hid (∀ w', Below w.heap.size w w' → OLst w' (.slice a l.length cap) l) := fun w' hb => HV.out.later hb (Nat.le_refl _)
    have HEN : Hid (∀ w' u, Below w.heap.size w w' → OLst w' u l → Calls Tryd.prog 7 #[u] w' fun e w'' => e = .returned (.tuple #[.string (strOfNums (encV l).1), .int .i64 (encV l).2.1, .int .i64 (encV l).2.2]) ∧ Below w'.heap.size w' w'') := fun w' u hb ho => enc_any (HT.out.later hb) ho
    have HDE : Hid (∀ w', Below w.heap.size w w' → Calls Tryd.prog 5 #[.string s] w' fun e w'' => ∃ v, e = .returned (.tuple #[v, .int .i64 (decV s).2.1, .int .i64 (decV s).2.2]) ∧ w''.ownsRow w'.heap.size 27 2 v (decV s).1.length (opsC (decV s).1) ∧ Below w'.heap.size w' w'') := fun w' hb => dec_any s hs' (HT.out.later hb)
    have HRD : Hid (∀ w', Calls Tryd.prog 9 #[.string s] w' fun e w'' => ∃ v, e = .returned (.tuple #[v, .int .i64 (decV s).2.1, .int .i64 (decV s).2.2]) ∧ w''.ownsRow w'.heap.size 27 2 v (decV s).1.length (opsC (decV s).1) ∧ Below w'.heap.size w' w'') := fun w' => rdec_any s hs' (w := w')
    have HSA : Hid (∀ w' u1 u2 l, OLst w' u1 l → OLst w' u2 l → Calls Tryd.prog 8 #[u1, u2] w' fun e w'' => e = .returned (.bool true) ∧ Below w'.heap.size w' w'') := fun w' u1 u2 l h1 h2 => by
      have := same_any h1 h2
      simpa using this
    generalize strOfNums (encV l).1 = eb at *
    generalize (encV l).2.1 = en1 at *
    generalize (encV l).2.2 = en2 at *
    generalize (decV s).1 = dl at *
    generalize (decV s).2.1 = de1 at *
    generalize (decV s).2.2 = de2 at *
    obtain ⟨ha, hc, rfl⟩ := own_slice hoH
    clear hoH hbH HROW hi hz0 hz1 hz2 HT hs'
    go_wp2_with fail
    refine (HEN.out _ _ HBH.out (HVV.out _ HBH.out)).mono ?_
    rintro e w1 ⟨rfl, hb1⟩
    go_wp2_with fail
    refine (HSA.out _ _ _ l (HVV.out _ (below_then HBH.out hb1)) (HH.out _ hb1)).mono ?_
    rintro e w2 ⟨rfl, hb2⟩
    have HB2 : Hid (Below wc.heap.size wc w2) := below_then hb1 hb2
    clear hb1 hb2
    go_wp2_with fail
    refine (HDE.out _ (below_then HBH.out HB2.out)).mono ?_
    rintro e w3 ⟨vx, rfl, hox, hb3⟩
    have HOX : Hid (w3.ownsRow w2.heap.size 27 2 vx dl.length (opsC dl)) := hox
    obtain ⟨xa, xc, rfl⟩ := own_slice hox
    clear hox
    go_wp2_with fail
    refine (HDE.out _ (below_then (below_then HBH.out HB2.out) hb3)).mono ?_
    rintro e w4 ⟨vy, rfl, hoy, hb4⟩
    have HOX4 : Hid (w4.ownsRow w2.heap.size 27 2 (.slice xa dl.length xc) dl.length (opsC dl)) := own_keep HOX.out (Keep.of_below hb4 []) (by simp)
    have HOY : Hid (w4.ownsRow w3.heap.size 27 2 vy dl.length (opsC dl)) := hoy
    obtain ⟨ya, yc, rfl⟩ := own_slice hoy
    have HB4 : Hid (Below w2.heap.size w2 w4) := below_then hb3 hb4
    have HX3 : Hid (∀ g, (Value.slice xa dl.length xc).ownBlock = some g → w2.heap.size ≤ g ∧ g < w3.heap.size) := fun g hg => own_block HOX.out g hg
    clear hoy hb3 hb4 HOX
    go_wp2_with fail
    refine (HSA.out _ _ _ dl (OLst.of_own HOX4.out (by have := HL.out; omega)) (OLst.of_own HOY.out (by have := HL.out; omega))).mono ?_
    rintro e w5 ⟨rfl, hb5⟩
    have HOX5 : Hid (w5.ownsRow w2.heap.size 27 2 (.slice xa dl.length xc) dl.length (opsC dl)) := own_keep HOX4.out (Keep.of_below hb5 []) (by simp)
    have HOY5 : Hid (w5.ownsRow w3.heap.size 27 2 (.slice ya dl.length yc) dl.length (opsC dl)) := own_keep HOY.out (Keep.of_below hb5 []) (by simp)
    have HB5 : Hid (Below wc.heap.size wc w5) := below_then HB2.out (below_then HB4.out hb5)
    have hc2 : wc.heap.size ≤ w2.heap.size := HB2.out.size
    have hw0 : w.heap.size ≤ wc.heap.size := HBH.out.size
    clear hb5 HOX4 HOY HB4 HB2
    go_upto_block 2 with fail
    go_cut [18] (fun _ wx => OLst wx (.slice ha l.length hc) l ∧ OLst wx (.slice ya dl.length yc) dl ∧ Below w.heap.size w wx)
    case first =>
      go_wp2_with fail
      go_loopw [18] (fun iv wr => ∃ (j : Nat) (xs : List Value), j ≤ dl.length ∧ iv = .int .i64 (j : Int) ∧ wr.ownsRow w2.heap.size 27 2 (.slice xa dl.length xc) dl.length xs ∧ ∃ F : List Nat, Keep F w5 wr ∧ ∀ b ∈ F, (Value.slice xa dl.length xc).ownBlock = some b) (fun iv _ => dl.length - (intOf iv).toNat)
      case atStart => exact ⟨0, _, by omega, rfl, HOX5.out, [], Keep.refl _ _, by simp⟩
      case round =>
        obtain ⟨j, xs, hj, rfl, hown, F, hK, hF⟩ := hrel
        have HO : Hid (wr.ownsRow w2.heap.size 27 2 (.slice xa dl.length xc) dl.length xs) := hown
        have HK : Hid (Keep F w5 wr) := hK
        have HFF : Hid (∀ b ∈ F, (Value.slice xa dl.length xc).ownBlock = some b) := hF
        clear hK hF
        by_cases hlt : j < dl.length
        · have hjd : decide ((j : Int) < (dl.length : Int)) = true := by simp; omega
          rcases hown.2 with ⟨_, h0⟩ | ⟨g, cp, cur, hsl, hg, hgb, _⟩
          · omega
          · obtain ⟨rfl, _, rfl⟩ : xa = some ⟨g, 0, none⟩ ∧ dl.length = dl.length ∧ xc = cp := by simpa using hsl
            obtain ⟨⟨u, hu⟩, hfz⟩ := own_some hown (j * 2) (by omega)
            obtain ⟨xs', hown'⟩ := own_setCell hown (j * 2) (.int .i64 99)
            have HO2 : Hid ((wr.setCell ⟨g, j * 2, none⟩ (.int .i64 99)).ownsRow w2.heap.size 27 2 (.slice (some ⟨g, 0, none⟩) dl.length xc) dl.length xs') := hown'
            have HK2 : Hid (Keep (g :: F) w5 (wr.setCell ⟨g, j * 2, none⟩ (.int .i64 99))) := (HK.out.mono (fun b hb => by simp [hb])).setCell _ _ (Or.inl (by simp))
            clear hown hown' hsl hgb
            have hwj := wr_dl dl.length j HL.out hlt
            go_wp2_with fail
            go_roundw
            case rel => exact ⟨j + 1, xs', Nat.succ_le_of_lt hlt, by rw [hwj], HO2.out, g :: F, HK2.out, fun b hb => by rcases List.mem_cons.1 hb with rfl | hb <;> first | rfl | exact HFF.out b hb⟩
            case measure => exact meas_lt dl.length j hlt hwj
        · clear hown
          go_wp2_with fail
          go_meet
          have hn5 : ∀ b ∈ F, w2.heap.size ≤ b ∧ b < w3.heap.size := fun b hb => HX3.out b (HFF.out b hb)
          refine ⟨((HH.out _ HB5.out)).keep HK.out fun a n c e => ?_, (OLst.of_own HOY5.out (by have := HL.out; omega)).keep HK.out fun a n c e => ?_, ?_⟩
          · intro hm
            have := hn5 _ hm
            injection e with e1 _ _
            have := own_block HOH.out a.block (by rw [e1]; rfl)
            omega
          · intro hm
            have := hn5 _ hm
            injection e with e1 _ _
            have := own_block HOY5.out a.block (by rw [e1]; rfl)
            omega
          · refine below_then HBH.out ?_
            have hk := HK.out
            have h5 := HB5.out
            exact ((Keep.of_below h5 []).trans hk (fun b hb => Or.inr (by have := hn5 b hb; omega))).below (Nat.le_refl _) (by simp)
    case rest =>
      obtain ⟨hH, hY, hB⟩ := hcut
      clear HOX5 HOY5 HB5 HX3
      go_wp2_with fail
      refine (HRD.out _).mono ?_
      rintro e w6 ⟨vz, rfl, hoz, hb6⟩
      have HZ : Hid (OLst w6 vz dl) := OLst.of_own hoz (by have := HL.out; omega)
      obtain ⟨za, zc, rfl⟩ := own_slice hoz
      clear hoz
      go_wp2_with fail
      refine (HSA.out _ _ _ dl (hY.later hb6 (Nat.le_refl _)) HZ.out).mono ?_
      rintro e w7 ⟨rfl, hb7⟩
      go_wp2_with fail
      refine (HEN.out _ _ (below_then (below_then hB hb6) hb7) (hH.later (below_then hb6 hb7) (Nat.le_refl _))).mono ?_
      rintro e w8 ⟨rfl, hb8⟩
      go_wp2
      go_ret
      exact ⟨rfl, below_then (below_then (below_then hB hb6) hb7) hb8⟩
end Go.Proofs.YtfkbpmahedmbhabDoor
