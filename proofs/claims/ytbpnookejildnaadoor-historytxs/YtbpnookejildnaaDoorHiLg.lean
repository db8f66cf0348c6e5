/- The document's Legal. -/
import Derived.Test.YtbpnookejildnaaDoorHiBe
import Derived.Test.YtbpnookejildnaaDoorHiMx
namespace Go.Proofs.YtbpnookejildnaaDoor.Hi
open Go.ChangeShapes Go.WideShapes Go.ChangeAt Go.RowKit
set_option linter.unusedVariables false
set_option maxRecDepth 100000

def posD (o : List Int) (t : Int) : Nat := o.findIdx (fun x => decide (x = t))
theorem pos_lt {o : List Int} {t : Int} {p : Nat} (hp : p < o.length) (h : ni o p = t) : posD o t < o.length := by
  unfold posD
  rw [List.findIdx_lt_length]
  exact ⟨ni o p, ni_mem hp, by simpa using h⟩
theorem pos_is {o : List Int} {t : Int} (h : posD o t < o.length) : ni o (posD o t) = t := by
  have := List.findIdx_getElem (p := fun x => decide (x = t)) (xs := o) (w := h)
  have e : ni o (posD o t) = o[posD o t] := by simp [ni, h]
  rw [e]
  exact of_decide_eq_true this
theorem pos_no {o : List Int} {t : Int} {k : Nat} (hk : k < posD o t) (hl : k < o.length) : ni o k ≠ t := by
  have := List.not_of_lt_findIdx (p := fun x => decide (x = t)) (xs := o) hk
  have e : ni o k = o[k] := by simp [ni, hl]
  rw [e]
  simpa using this
/-- What a read must have found. -/
def rdD (H : List Ev) (L : List Tr) (o : List Int) (i : Nat) : Int :=
  match valD H (ne H i).tx (ne H i).cl i with
  | some z => z
  | none => befD H L o (ne H i).cl (posD o (ne H i).tx)
inductive RLegQ (H : List Ev) (o : List Int) : Ending → Prop
  | bad : allMay H = false → RLegQ H o (.returned (.tuple #[.bool false, .int .i64 14]))
  | arg : allMay H = true → okOrd (cntD H H.length 7 (-1)) o = false → RLegQ H o (.returned (.tuple #[.bool false, .int .i64 1]))
  | no (i : Nat) : allMay H = true → okOrd (cntD H H.length 7 (-1)) o = true → i < H.length → (ne H i).kd = 2 → (ne H i).vl ≠ rdD H (txsD H (cntD H H.length 7 (-1))) o i → RLegQ H o (.returned (.tuple #[.bool false, .int .i64 0]))
  | yes : allMay H = true → okOrd (cntD H H.length 7 (-1)) o = true → (∀ i, i < H.length → (ne H i).kd = 2 → (ne H i).vl = rdD H (txsD H (cntD H H.length 7 (-1))) o i) → RLegQ H o (.returned (.tuple #[.bool true, .int .i64 0]))
set_option maxHeartbeats 1600000 in
theorem rlegal_any {w : World} {v vo : Value} {H : List Ev} {o : List Int} (h : EvL w v H) (ho : IL w vo o) : Calls Tryd.prog 17 #[v, vo] w fun e w' => RLegQ H o e ∧ Below w.heap.size w w' := by
  have HIO : Hid (IL w vo o) := ho
  have HEV : Hid (EvL w v H) := h
  have HTX : Hid (Calls Tryd.prog 9 #[v] w (RTxsQ w H)) := rtxs_any h
  have HTK : Hid (∀ (wx : World) (m : Nat), m ≤ 925925926000 → Below w.heap.size w wx → Calls Tryd.prog 34 #[vo, .int .i64 (m : Int)] wx fun e w' => e = .returned (.bool (okOrd m o)) ∧ w' = wx) := fun wx m hm hb => takes_any (ho.later hb (Nat.le_refl _)) hm
  have HNM : Hid (cntD H H.length 7 (-1) ≤ 925925926000) := Nat.le_trans (cnt_le _ _ _ _) h.len
  obtain ⟨a, cap, rfl, hl0, hcap, hcs, hca, hl⟩ := ho
  have HLO : Hid (o.length = 0 ∨ ∃ x, a = some x ∧ x.block < w.heap.size ∧ ∀ i, i < o.length → w.cell? (x.add i) = some (.int .i64 (ni o i))) := hl
  have HOM : Hid (o.length ≤ 17592186044416) := hl0
  clear h hl hl0 hcap hcs hca
  unfold RTxsQ at HTX
  go_enter Tryd.func17, Tryd.ntmps17
  go_wp2_with fail
  refine HTX.out.mono ?_
  rintro e w1 ⟨hy, hb1⟩
  have HB1 : Hid (Below w.heap.size w w1) := hb1
  rcases hy with ⟨hall, lv, rfl, hown⟩ | ⟨i, hi, _, hno, rfl⟩
  case inr =>
    have HAM : Hid (allMay H = false) := allMay_no hi hno
    clear hb1 hi hno HTX HTK
    go_wp2_with fail
    go_ret2
    exact ⟨.bad HAM.out, HB1.out⟩
  have HAM : Hid (allMay H = true) := allMay_yes hall
  have HTXN : Hid (∀ i, i < H.length → (ne H i).kd = 2 → ∃ n : Nat, (ne H i).tx = (n : Int) ∧ n < cntD H H.length 7 (-1)) := fun i hi hk => by
    obtain ⟨n, h1, h2⟩ := may_tx (hall i hi) (by rw [hk]; decide)
    exact ⟨n, h1, Nat.lt_of_lt_of_le h2 (cnt_mono H 7 (-1) (Nat.le_of_lt hi))⟩
  have HOWN : Hid (w1.ownsRow w.heap.size 57 6 lv (cntD H H.length 7 (-1)) (t6s (txsD H (cntD H H.length 7 (-1))))) := hown
  have HLN : Hid ((txsD H (cntD H H.length 7 (-1))).length = cntD H H.length 7 (-1)) := txsD_len _ _
  obtain ⟨la, lc, rfl⟩ := own_slice hown
  clear hb1 hall hown HTX
  have HNE : Hid (cntD H H.length 7 (-1) = cntD H H.length 7 (-1)) := rfl
  generalize hN : cntD H H.length 7 (-1) = N at *
  have HN : Hid (cntD H H.length 7 (-1) = N) := hN
  clear hN HNE
  go_wp2_with fail
  refine (HTK.out _ _ HNM.out HB1.out).mono ?_
  rintro e w2 ⟨rfl, rfl⟩
  cases hok : okOrd N o with
  | false =>
    have HOK : Hid (okOrd N o = false) := hok
    clear hok
    go_wp2_with fail
    go_ret2
    exact ⟨.arg HAM.out (by rw [HN.out]; exact HOK.out), HB1.out⟩
  | true =>
    have HOK : Hid (okOrd N o = true) := hok
    have HOL : Hid (o.length = N) := ((okOrd_takes N o).1 hok).1
    clear hok HTK
    have HBX : Hid (o.length ≤ 925925926000) := by rw [Hid, HOL.out]; exact HNM.out
    have HBX : Hid (o.length ≤ 925925926000) := by rw [Hid, HOL.out]; exact HNM.out
    have HPN : Hid (∀ i, i < o.length → ∃ q : Nat, ni o i = (q : Int) ∧ q < N) := fun i hi => ok_at HOK.out hi
    have HPO : Hid (∀ n : Nat, n < N → posD o (n : Int) < o.length ∧ ni o (posD o (n : Int)) = (n : Int)) := fun n hn => by
      obtain ⟨p, h1, h2⟩ := ok_pos HOK.out hn
      have := pos_lt h1 h2
      exact ⟨this, pos_is this⟩
    have HNO : Hid (∀ i, i < H.length → (ne H i).kd = 2 → (ne H i).vl ≠ rdD H (txsD H N) o i → RLegQ H o (.returned (.tuple #[.bool false, .int .i64 0]))) := fun i h1 h2 h3 => .no i HAM.out (by rw [HN.out]; exact HOK.out) h1 h2 (by rw [HN.out]; exact h3)
    have HYES : Hid ((∀ i, i < H.length → (ne H i).kd = 2 → (ne H i).vl = rdD H (txsD H N) o i) → RLegQ H o (.returned (.tuple #[.bool true, .int .i64 0]))) := fun h1 => .yes HAM.out (by rw [HN.out]; exact HOK.out) (by rw [HN.out]; exact h1)
    have HVA : Hid (∀ wx i, i ≤ H.length → Below w2.heap.size w2 wx → ∀ tx cell, Calls Tryd.prog 36 #[v, .int .i64 (i : Int), .int .i64 tx, .int .i64 cell] wx fun e w' => e = .returned (.tuple #[.int .i64 ((valD H tx cell i).getD 0), .bool (valD H tx cell i).isSome]) ∧ w' = wx) := fun wx i hi hb tx cell => value_any (HEV.out.later (HB1.out.trans (hb.mono HB1.out.size)) (Nat.le_refl _)) hi tx cell
    have HBE : Hid (∀ wx m, m ≤ o.length → Below w2.heap.size w2 wx → ∀ cell, Calls Tryd.prog 37 #[v, .slice la N lc, .slice a o.length cap, .int .i64 (m : Int), .int .i64 cell] wx fun e w' => e = .returned (.int .i64 (befD H (txsD H N) o cell m)) ∧ w' = wx) := fun wx m hm hb cell =>
      before_any (HEV.out.later (HB1.out.trans (hb.mono HB1.out.size)) (Nat.le_refl _)) (own_keep HOWN.out (F := []) ⟨hb.os, hb.tape, hb.output, hb.size, fun b h1 _ => hb.block b h1⟩ (fun b _ hm => by simp at hm)) HLN.out (HIO.out.later (HB1.out.trans (hb.mono HB1.out.size)) (Nat.le_refl _)) hm (Nat.le_trans hm HBX.out) (fun i hi => HPN.out i (by omega)) cell
    have HHL : Hid (H.length ≤ 925925926000) := HEV.out.len
    obtain ⟨ea, ecap, rfl, _, _, _, _, _, hel⟩ := HEV.out
    have HEL : Hid (H.length = 0 ∨ ∃ x, ea = some x ∧ x.block < w.heap.size ∧ ∀ i, i < H.length → ∀ j, j < 19 → w.cell? ((x.add (i * 19)).add j) = (evC (ne H i))[j]?) := hel
    clear hel HIO HEV
    go_wp2_with fail
    go_loopw [10] (fun iv wr => ∃ i : Nat, i ≤ H.length ∧ iv = .int .i64 (i : Int) ∧ Hid (∀ i', i' < i → (ne H i').kd = 2 → (ne H i').vl = rdD H (txsD H N) o i') ∧ Hid (Below w2.heap.size w2 wr)) (fun iv _ => H.length - (intOf iv).toNat)
    case atStart => exact ⟨0, Nat.zero_le _, rfl, fun i hi => by omega, Below.refl _ _⟩
    case round =>
      obtain ⟨i, hi, rfl, HI, HB⟩ := hrel
      by_cases hlt : i < H.length
      · have hid : decide ((i : Int) < (H.length : Int)) = true := by simp; omega
        have hwi : Hid (wrap64 ((i : Int) + 1) = (i : Int) + 1) := inc_cast HHL.out (Nat.le_of_lt hlt)
        have HMI : Hid (H.length - (i + 1) < H.length - i) := by rw [Hid]; omega
        have HIL : Hid (i < H.length) := hlt
        have hil : (i : Int) < (H.length : Int) := by omega
        obtain ⟨x, rfl, hxb, hc⟩ := HEL.out.resolve_left (by omega)
        have HBW : Hid (Below w.heap.size w wr) := HB1.out.trans (HB.out.mono HB1.out.size)
        have hcx := cell_of HBW.out hxb hc hlt
        obtain ⟨h3, h2⟩ := evl_kt hcx
        have h4 : wr.cell? ⟨(x.add (i * 19)).block, (x.add (i * 19)).off + 4, none⟩ = some (.int .i64 (ne H i).cl) := by rw [(evl_cells hcx).2 4 (by decide) (by decide)]; rfl
        have h5 : wr.cell? ⟨(x.add (i * 19)).block, (x.add (i * 19)).off + 5, none⟩ = some (.int .i64 (ne H i).vl) := by rw [(evl_cells hcx).2 5 (by decide) (by decide)]; rfl
        have HNX : Hid (((ne H i).kd = 2 → (ne H i).vl = rdD H (txsD H N) o i) → ∀ i', i' < i + 1 → (ne H i').kd = 2 → (ne H i').vl = rdD H (txsD H N) o i') := fun hh i' hi' => by
          by_cases e : i' = i
          · subst e; exact hh
          · exact HI.out i' (by omega)
        by_cases hk : (ne H i).kd = 2
        case neg =>
          have hd : ((ne H i).kd != 2) = true := by simpa using hk
          have HX : Hid (∀ i', i' < i + 1 → (ne H i').kd = 2 → (ne H i').vl = rdD H (txsD H N) o i') := HNX.out (fun h => absurd h hk)
          clear hcx hc hk hlt hi HNX
          go_wp2_with fail
          go_roundw
          case rel => exact ⟨i + 1, HIL.out, by first | (rw [hwi.out]; go_num) | go_num, HX, HB.out⟩
          case measure => first | (rw [hwi.out]; simpa [intOf] using HMI.out) | (simpa [intOf] using HMI.out)
        have hd : ((ne H i).kd != 2) = false := by simpa using hk
        obtain ⟨n, htx, hnN⟩ := HTXN.out i hlt hk
        obtain ⟨hpl, hpe⟩ := HPO.out n hnN
        have HPL : Hid (posD o (n : Int) < o.length ∧ ni o (posD o (n : Int)) = (n : Int)) := ⟨hpl, hpe⟩
        have HRD : Hid (rdD H (txsD H N) o i = match valD H (n : Int) (ne H i).cl i with | some z => z | none => befD H (txsD H N) o (ne H i).cl (posD o (n : Int))) := by rw [Hid]; unfold rdD; rw [htx]
        have HY : Hid ((ne H i).vl = rdD H (txsD H N) o i → ∀ i', i' < i + 1 → (ne H i').kd = 2 → (ne H i').vl = rdD H (txsD H N) o i') := fun hh => HNX.out (fun _ => hh)
        have HNN : Hid ((ne H i).vl ≠ rdD H (txsD H N) o i → RLegQ H o (.returned (.tuple #[.bool false, .int .i64 0]))) := HNO.out i hlt hk
        rw [htx] at h2
        have HHC : Hid (∀ wx, Below w2.heap.size w2 wx → wx.cell? ⟨(x.add (i * 19)).block, (x.add (i * 19)).off + 2, none⟩ = some (.int .i64 (n : Int)) ∧ wx.cell? ⟨(x.add (i * 19)).block, (x.add (i * 19)).off + 4, none⟩ = some (.int .i64 (ne H i).cl) ∧ wx.cell? ⟨(x.add (i * 19)).block, (x.add (i * 19)).off + 5, none⟩ = some (.int .i64 (ne H i).vl)) := fun wx hb => by
          have hbw : Below w.heap.size w wx := HB1.out.trans (hb.mono HB1.out.size)
          have hcx := cell_of hbw hxb hc hlt
          exact ⟨by rw [← htx]; exact (evl_kt hcx).2, by rw [(evl_cells hcx).2 4 (by decide) (by decide)]; rfl, by rw [(evl_cells hcx).2 5 (by decide) (by decide)]; rfl⟩
        have HVI := HVA.out wr i (Nat.le_of_lt hlt)
        have HVL : Hid (∀ wx, Below w2.heap.size w2 wx → Calls Tryd.prog 36 #[.slice (some x) H.length ecap, .int .i64 (i : Int), .int .i64 (n : Int), .int .i64 (ne H i).cl] wx fun e w' => e = .returned (.tuple #[.int .i64 ((valD H (n : Int) (ne H i).cl i).getD 0), .bool (valD H (n : Int) (ne H i).cl i).isSome]) ∧ w' = wx) := fun wx hb => HVA.out wx i (Nat.le_of_lt hlt) hb _ _
        clear HVI hcx hc hk hlt hi HNX htx HNO
        generalize rdD H (txsD H N) o i = rd at *
        generalize (ne H i).kd = kj at *
        generalize hcl : (ne H i).cl = cl at *
        clear hcl
        generalize hvl : (ne H i).vl = vl at *
        clear hvl
        go_wp2_with fail
        go_quiet ((go_at_call 36; refine Calls.quiet_of_same (HVL.out _ (below_drawn HB.out _))))
        obtain ⟨wz, hwz⟩ : ∃ wz, wz = wr.drewN nq := ⟨_, rfl⟩
        rw [← hwz]
        have HBZ : Hid (Below w2.heap.size w2 wz) := by rw [hwz]; exact below_drawn HB.out _
        obtain ⟨y2, y4, y5⟩ := HHC.out _ HBZ.out
        clear hwz h2 h3 h4 h5
        generalize valD H (n : Int) cl i = ov at *
        cases ov with
        | some z =>
          have HE : Hid (rd = z) := HRD.out
          simp only [Option.isSome_some, Option.getD_some]
          clear HRD
          by_cases hz : vl = z
          case pos =>
            have hdz : (vl != z) = false := by simpa using hz
            have HX : Hid (∀ i', i' < i + 1 → (ne H i').kd = 2 → (ne H i').vl = rdD H (txsD H N) o i') := HY.out (by rw [HE.out]; exact hz)
            clear hz
            go_wp2_with fail
            go_roundw
            case rel => exact ⟨i + 1, HIL.out, by first | (rw [hwi.out]; go_num) | go_num, HX, HBZ.out⟩
            case measure => first | (rw [hwi.out]; simpa [intOf] using HMI.out) | (simpa [intOf] using HMI.out)
          case neg =>
            have hdz : (vl != z) = true := by simpa using hz
            have HX : Hid (RLegQ H o (.returned (.tuple #[.bool false, .int .i64 0]))) := HNN.out (by rw [HE.out]; exact hz)
            clear hz
            go_wp2_with fail
            go_ret2
            exact ⟨HX.out, HB1.out.trans (Below.mono HBZ.out HB1.out.size)⟩
        | none =>
          have HE : Hid (rd = befD H (txsD H N) o cl (posD o (n : Int))) := HRD.out
          simp only [Option.isSome_none, Option.getD_none]
          clear HRD
          have HPX : Hid (∀ k, k < posD o (n : Int) → ni o k ≠ (n : Int)) := fun k hk => pos_no hk (by have := HPL.out.1; omega)
          go_wp2_with fail
          go_loopw [13] (fun pv wr => ∃ p : Nat, p ≤ posD o (n : Int) ∧ pv = .int .i64 (p : Int) ∧ Hid (Below w2.heap.size w2 wr)) (fun pv _ => posD o (n : Int) - (intOf pv).toNat)
          case atStart => exact ⟨0, Nat.zero_le _, rfl, HBZ.out⟩
          case round =>
            obtain ⟨p, hp, rfl, HBP⟩ := hrel
            have hpo : p < o.length := by have := HPL.out.1; omega
            obtain ⟨xo, rfl, hxob, hoc⟩ := HLO.out.resolve_left (by omega)
            have co : wr.cell? (xo.add p) = some (.int .i64 (ni o p)) := by rw [(HB1.out.trans (HBP.out.mono HB1.out.size)).cell (by rw [add_block]; exact hxob), hoc p hpo]
            obtain ⟨z2, z4, z5⟩ := HHC.out _ HBP.out
            have hpl' : (p : Int) < (o.length : Int) := by omega
            have hwp : Hid (wrap64 ((p : Int) + 1) = (p : Int) + 1) := inc_cast HBX.out (Nat.le_of_lt hpo)
            clear hoc hpo
            by_cases hlt : p < posD o (n : Int)
            · have hne := HPX.out p hlt
              have hdn : (ni o p != (n : Int)) = true := by simpa using hne
              have HPLT : Hid (p < posD o (n : Int)) := hlt
              have HMP : Hid (posD o (n : Int) - (p + 1) < posD o (n : Int) - p) := by rw [Hid]; omega
              clear hne hlt hp
              generalize ni o p = np at *
              go_wp2_with fail
              go_quiet (fail)
              go_wp2_with fail
              go_roundw
              case rel => exact ⟨p + 1, HPLT.out, by first | (rw [hwp.out]; go_num) | go_num, below_drawn HBP.out _⟩
              case measure => first | (rw [hwp.out]; simpa [intOf] using HMP.out) | (simpa [intOf] using HMP.out)
            · obtain rfl : p = posD o (n : Int) := by omega
              have hdn : (ni o (posD o (n : Int)) != (n : Int)) = false := by rw [HPL.out.2]; simp
              clear hlt hp
              go_wp2_with fail
              go_quiet (fail)
              obtain ⟨wy, hwy⟩ : ∃ wy, wy = wr.drewN nq := ⟨_, rfl⟩
              rw [← hwy]
              have HBY : Hid (Below w2.heap.size w2 wy) := by rw [hwy]; exact below_drawn HBP.out _
              obtain ⟨v2, v4, v5⟩ := HHC.out _ HBY.out
              clear hwy z2 z4 z5 co
              go_wp2_with fail
              refine (HBE.out _ _ (Nat.le_of_lt HPL.out.1) HBY.out cl).mono ?_
              rintro e wq ⟨rfl, rfl⟩
              generalize befD H (txsD H N) o cl (posD o (n : Int)) = bv at *
              by_cases hz : vl = bv
              case pos =>
                have hdz : (vl != bv) = false := by simpa using hz
                have HX : Hid (∀ i', i' < i + 1 → (ne H i').kd = 2 → (ne H i').vl = rdD H (txsD H N) o i') := HY.out (by rw [HE.out]; exact hz)
                clear hz
                go_wp2_with fail
                go_roundw
                case rel => exact ⟨i + 1, HIL.out, by first | (rw [hwi.out]; go_num) | go_num, HX, HBY.out⟩
                case measure => first | (rw [hwi.out]; simpa [intOf] using HMI.out) | (simpa [intOf] using HMI.out)
              case neg =>
                have hdz : (vl != bv) = true := by simpa using hz
                have HX : Hid (RLegQ H o (.returned (.tuple #[.bool false, .int .i64 0]))) := HNN.out (by rw [HE.out]; exact hz)
                clear hz
                go_wp2_with fail
                go_ret2
                exact ⟨HX.out, HB1.out.trans (Below.mono HBY.out HB1.out.size)⟩
      · obtain rfl : i = H.length := by omega
        go_wp2_with fail
        go_ret2
        exact ⟨HYES.out HI.out, HB1.out.trans (HB.out.mono HB1.out.size)⟩
end Go.Proofs.YtbpnookejildnaaDoor.Hi
